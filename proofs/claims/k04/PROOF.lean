import PyProof.Rows.All
import Wide.All
import OpenK.AllK
import Wide.FinOn
import HandS.ForMost
import HandS.ForExc
import HandS.ExcInit
import HandS.ExcField
import HandS.ExcIs
import HandS.ExcValue
import HandS.HotCalls
import HandS.MakeKwOnly
import HandS.IsInst
import HandS.Conv
import HandS.Wide
import HandS.Codes
import KE.KExcIs
import HandS.Strs
import HandS.SetTxt0
import HandS.SetFor
import PyProof.StrWalks
import PyProof.WalksMore
import PyProof.SetRoads
import PyProof.Rows.SortShellAny
import HandS.AnyAll
import HandS.Comp
import HandS.Walk
import HandS.Zip
import HandS.Star
import HandS.Flow
import HandS.DictComp
import KE.GoesMore
import HandS.Text
import HandS.List
import PyProof.AutoSeq1
import PyProof.StrBlock2
import HandS.WordsDict
import HandS.Words
import PySem.Challenge.RW_nevermiss_k04_far_texts
set_option Elab.async false
set_option linter.all false
set_option maxRecDepth 100000
set_option maxHeartbeats 4000000
/-! An own exception class called with keywords: its own __init__ sees them. -/
namespace Own
open PySem PySem.Calls PySem.HandSPX
section
variable {prog : Program} {wo : World} {Ar : Around} {hp : Heap} {gs : Array GenState} {dr : Drawn} {tk : Nat} {os : OsState} {kw : List (Str × Value)}
variable {nm qn : Str} {Cl Ns : Addr} {bases tail full : List Value} {slots : List Str} {subs : List Value} {abst : Bool} {coll : Option Bool} {dict : Option Addr} {s0 s1 s2 s3 s5 : Option Value} {hd : Bool} {Base new ini : String}
local macro_rules | `(tactic| walk_at "stp") => `(tactic| first | with_reducible refine wpAny_loadPart_at (by assumption) ?_ | with_reducible refine wpAny_madeBy_exc (by assumption) ?_ | wp_step)
/-- what stands of the class at Cl -/
abbrev Has (hp : Heap) (nm qn : Str) (Cl Ns : Addr) (bases tail : List Value) (hd : Bool) (slots : List Str) (subs : List Value) (abst : Bool) (coll : Option Bool) (dict : Option Addr) (s0 s1 s2 s3 s5 : Option Value) (new : String) : Prop :=
  hp.get? Cl = some (excClassObj nm qn Cl Ns bases tail hd slots subs abst coll dict s0 s1 s2 s3 s5 new)
theorem inTail (F : ExcBaseFacts Base new ini full) (same : ∀ T : String, tail.contains (.type T) = full.contains (.type T)) : (Value.ref Cl :: tail).contains (.type Base) = true := by
  rw [List.contains_cons, same, F.hasB]
  exact Bool.or_true _
theorem seen {Q : Unit → Shared → Prop} {E : Value → Shared → Prop} (F : ExcBaseFacts Base new ini full) (same : ∀ T : String, tail.contains (.type T) = full.contains (.type T)) (h : Has hp nm qn Cl Ns bases tail hd slots subs abst coll dict s0 s1 s2 s3 s5 new)
    (k : Q () ⟨hp, gs, dr, tk, os⟩) : wpAny (model prog wo) Ar (checkBuiltinCall new ⟨[.ref Cl], kw⟩) Q E ⟨hp, gs, dr, tk, os⟩ := by
  have within := inTail (Cl := Cl) F same
  have ns := F.noStar
  unfold checkBuiltinCall
  simp only [F.newKind, F.newSplit, F.newRow]
  repeat (first | (refine wpAny_isSubtype_exc h ?_; rw [within]) | refine wpAny_staticBase_exc h ?_ | refine wpAny_madeBy_exc h ?_ | refine wpAny_loadPart_at h ?_ | simp only [Bool.false_eq_true, bne_self_eq_false, if_false] | wp_step)
  exact k
theorem bare {R : Result → Shared → Prop} (F : ExcBaseFacts Base new ini full) (same : ∀ T : String, tail.contains (.type T) = full.contains (.type T)) (h : Has hp nm qn Cl Ns bases tail hd slots subs abst coll dict s0 s1 s2 s3 s5 new)
    (k : R (.ok (.ret (.ref (hp.objs.size + 1)))) ⟨(hp.push (W.kdv_tup [])).push (excO Cl hp.objs.size), gs, dr, tk, os⟩) : codeAny (model prog wo) Ar (.builtin new ⟨[.ref Cl], kw⟩) R ⟨hp, gs, dr, tk, os⟩ := by
  have i1 := inTail (Cl := Cl) F same
  have i2 : (Value.ref Cl :: tail).contains (.type "AttributeError") = false := by rw [List.contains_cons, same, F.noAttr] <;> rfl
  have i3 : (Value.ref Cl :: tail).contains (.type "NameError") = false := by rw [List.contains_cons, same, F.noName] <;> rfl
  have en := F.ends
  apply codeAny_builtinAt F.entry
  unfold Builtin.«BaseException.__new__»
  apply wpAt_bind
  apply wpAt_bind
  apply wpAt_stack
  intro top below
  apply wpAt_of_wpAny
  wp_walk
  apply wpAt_of_wpAny
  rw [F.owner]
  repeat (first | with_reducible refine wpAny_madeHere_exc F.canon h ?_ | (with_reducible refine wpAny_isSubtype_exc h ?_; first | rw [i1] | rw [i2] | rw [i3]) | walk_at "stp")
  show R _ _
  rw [Heap.size_push]
  exact k
theorem called {Q : Fin → Shared → Prop} {E : Value → Shared → Prop} {fi : Addr} (F : ExcBaseFacts Base new ini full) (same : ∀ T : String, tail.contains (.type T) = full.contains (.type T)) (h : Has hp nm qn Cl Ns bases tail hd slots subs abst coll dict s0 s1 s2 s3 s5 new)
    (find : W.Looks (model prog wo) hp (typeLookup (.ref Cl) "__init__") (some (.ref fi))) (bound : ∀ me, W.Looks (model prog wo) hp (bindSpecial (.ref fi) me) (.ref fi, [me]))
    (run : codeAny (model prog wo) Ar (.call (.ref fi) ⟨[.ref (hp.objs.size + 1)], kw⟩) (fun r s' => match r with
      | .error e => E e s'
      | .ok (.ret u) => u = .none ∧ Q (.done (.ret (.ref (hp.objs.size + 1)))) s'
      | .ok _ => False) ⟨(hp.push (W.kdv_tup [])).push (excO Cl hp.objs.size), gs, dr, tk, os⟩) :
    wpAny (model prog wo) Ar (Builtin.«type.__call__» ⟨[.ref Cl], kw⟩) Q E ⟨hp, gs, dr, tk, os⟩ := by
  repeat walk_at "stp"
  apply codeAny_call_builtin_code (Code.quiet_builtin _ F.quiet) (seen F same h _)
  apply bare F same h
  show wpAny _ _ _ _ _ _
  have stay : ∀ b o, hp.get? b = some o → ((hp.push (W.kdv_tup [])).push (excO Cl hp.objs.size)).get? b = some o := fun b o e => Heap.get?_push_of_some _ (Heap.get?_push_of_some _ e)
  have cls := stay _ _ h
  have obj : ((hp.push (W.kdv_tup [])).push (excO Cl hp.objs.size)).get? (hp.objs.size + 1) = some (excO Cl hp.objs.size) := by heap_get
  have self : (Value.ref Cl :: tail).contains (.ref Cl) = true := by simp
  have find' := find.keeps stay
  have bound' := (bound (.ref (hp.objs.size + 1))).keeps stay
  unfold isInstance
  repeat (first | with_reducible refine wpAny_loadPart_at obj ?_ | (with_reducible refine wpAny_isSubtype_exc cls ?_; rw [self]) | wp_step)
  apply find'.at
  apply wpAny_holding
  apply wpAny_bind
  apply bound'.at
  apply wpAny_bind
  apply wpAny_call
  refine codeAny_mono run fun r s' q => ?_
  match r, q with
  | .error _, q => exact q
  | .ok (.ret u), ⟨e, q⟩ =>
    subst e
    first
      | exact wpAny_pure (wpAny_pure q)
      | (wp_walk; exact q)
theorem made {R : Result → Shared → Prop} {fi : Addr} (F : ExcBaseFacts Base new ini full) (same : ∀ T : String, tail.contains (.type T) = full.contains (.type T)) (h : Has hp nm qn Cl Ns bases tail hd slots subs abst coll dict s0 s1 s2 s3 s5 new)
    (find : W.Looks (model prog wo) hp (typeLookup (.ref Cl) "__init__") (some (.ref fi))) (bound : ∀ me, W.Looks (model prog wo) hp (bindSpecial (.ref fi) me) (.ref fi, [me]))
    (run : codeAny (model prog wo) (Ar.under (.builtin "type.__call__" ⟨[.ref Cl], kw⟩)) (.call (.ref fi) ⟨[.ref (hp.objs.size + 1)], kw⟩) (W.InitBack (hp.objs.size + 1) R) ⟨(hp.push (W.kdv_tup [])).push (excO Cl hp.objs.size), gs, dr, tk, os⟩) :
    codeAny (model prog wo) Ar (.call (.ref Cl) ⟨[], kw⟩) R ⟨hp, gs, dr, tk, os⟩ := by
  have t1 := tc_lookup
  have t2 := tc_bind (.ref Cl)
  have ty : (⟨hp, gs, dr, tk, os⟩ : Shared).TypeIs (.ref Cl) "type" := ⟨_, h, rfl⟩
  apply codeAny_of_tree
  show wpAny _ _ (callAny (.ref Cl) _) _ _ _
  repeat (any_goals (first | assumption | walk_at "stp"))
  refine ⟨rfl, codeAny_call_builtin_at (Code.quiet_builtin _ (by decide +kernel)) entry_typeCall (wpAny_check_type_call_sub h (called F same h find bound (codeAny_mono run ?_)))⟩
  intro r s' q
  cases r with
  | error _ => exact q
  | ok f => cases f <;> exact q
end
end Own

namespace L2
open PySem PySem.Spec PyProof.Rows
/-! ### exceptions as tracked objects -/
/-- an exception of the class at C stands at a, d its own dict's place -/
def xob (a C : Addr) (d : Option Addr) : HO := .ext fun h => ∃ (oe : Obj) (vs : Array Value), h.get? a = some oe ∧ Zc (.ref C) d oe ∧ oe.data = .fields vs
theorem xob_ok {P : Program} {w : World} {H : Hp} {h : Heap} {a C : Addr} {d : Option Addr} {oe : Obj} {vs : Array Value} (e : h.get? a = some oe) (z : Zc (.ref C) d oe) (hd : oe.data = .fields vs) : ObjOk P w H h a (xob a C d) :=
  ⟨⟨oe, vs, e, z, hd⟩, ⟨_, e⟩, fun _ _ ⟨o, vs, e, z, q⟩ k => ⟨o, vs, k _ e, z, q⟩⟩
theorem xob_at {P : Program} {w : World} {H : Hp} {h : Heap} {a C : Addr} {d : Option Addr} (hok : HOk P w H h) (he : H a = some (xob a C d)) : ∃ (oe : Obj) (vs : Array Value), h.get? a = some oe ∧ Zc (.ref C) d oe ∧ oe.data = .fields vs :=
  (show ObjOk P w H h a (.ext fun h => ∃ (oe : Obj) (vs : Array Value), h.get? a = some oe ∧ Zc (.ref C) d oe ∧ oe.data = .fields vs) from hok a _ he).1
/-- it is an instance in the library's sense; what its dict holds -/
theorem xob_inst {P : Program} {w : World} {H : Hp} {h : Heap} {a C dd : Addr} {fs : List (Str × V)} (hok : HOk P w H h) (he : H a = some (xob a C (some dd))) (hd : H dd = some (.xd fs)) :
    ∃ (oe od : Obj), PySem.W.InstAt h a oe C (some od) ∧ ∀ (f : Str) (v : V), fs.lookup f = some v → ∃ u, PySem.W.lookIn f od = some (some u) ∧ RelV v u := by
  obtain ⟨oe, vs, at_, hz, dat⟩ := xob_at hok he
  obtain ⟨mA, nsp, rel⟩ := show ObjOk P w H h dd (.xd fs) from hok dd _ hd
  obtain ⟨od, atd, look⟩ := lookIn_ns nsp
  refine ⟨oe, od, ⟨at_, hz.1, by simp only [PySem.W.notCls, dat], by rw [hz.2]; exact atd⟩, fun f v e => ?_⟩
  obtain ⟨u, hu, ru⟩ := RelO.some_of (v := v) (o := mA f) (e ▸ rel f)
  exact ⟨u, (look f).trans (congrArg some hu), ru⟩
theorem xob_inst0 {P : Program} {w : World} {H : Hp} {h : Heap} {a C : Addr} (hok : HOk P w H h) (he : H a = some (xob a C none)) : ∃ oe : Obj, PySem.W.InstAt h a oe C none := by
  obtain ⟨oe, vs, at_, hz, dat⟩ := xob_at hok he
  exact ⟨oe, at_, hz.1, by simp only [PySem.W.notCls, dat], by rw [hz.2]; exact True.intro⟩
/-- the kinds that may be told anew -/
def Loose : HO → Prop
  | .ext _ => True
  | .xd _ => True
  | _ => False
theorem Loose.no {o : HO} (h : Loose o) : (∀ x, o ≠ .own x) ∧ (∀ xs, o ≠ .tup xs) ∧ (∀ b u, o ≠ .frz b u) ∧ (∀ ps, o ≠ .tbl ps) := by
  cases o <;> first | exact h.elim | exact ⟨(fun _ z => nomatch z), (fun _ z => nomatch z), (fun _ _ z => nomatch z), (fun _ z => nomatch z)⟩
section
variable {X : Cx} {pins : List (Addr × Obj)} {σ : St} {H : Hp} {s : Shared} {a : Addr} {o o' : HO}
theorem Inv.retell (I : Inv X pins σ H s) (e : H a = some o) (l : Loose o) (ok : ObjOk X.prog X.w (upd H a o') s.heap a o') : Inv X pins σ (upd H a o') s := by
  obtain ⟨nw, nt, nf, nb⟩ := l.no
  have ne : ∀ {b u}, H b = some u → o ≠ u → b ≠ a := fun {b u} q d z => by rw [z, e] at q; exact d (Option.some.inj q)
  have na : ∀ {b}, H b = none → b ≠ a := fun {b} q z => by rw [z, e] at q; cases q
  have U : Un X.fs [] H (upd H a o') s.heap s.heap := {
    keep := fun b o q _ _ _ => q
    slot := fun b o q _ _ _ => ⟨o.slots, q⟩
    free := fun b o q n _ => by rw [upd_ne (na n)]; exact n
    there := fun b o q _ => ⟨o, q⟩
    tups := fun b xs q => by rw [upd_ne (ne q (nt xs))]; exact q
    frzs := fun b o v q => by rw [upd_ne (ne q (nf o v))]; exact q
    tbls := fun b ps q => ⟨#[], by rw [upd_ne (ne q (nb ps)), q]; simp⟩ }
  exact I.un (t' := s.toks) U fun b u q => by
    by_cases hb : b = a
    · subst hb
      rw [upd_same] at q
      cases q
      exact ok
    · rw [upd_ne hb] at q
      exact (I.hok b u q).stay (fun c v _ z => z) (fun c hc => by rw [upd_ne (ne hc (nw b))]; exact hc) fun c xs hc => by rw [upd_ne (ne hc (nt xs))]; exact hc
/-- an object that was made behind the entry, not tracked as yet, is tracked -/
theorem Inv.track (I : Inv X pins σ H s) (na : H a = none) (n0 : X.s_0.heap.get? a = none) (nL : a ≠ X.env.locals) (nC : ∀ x c, X.env.cells.lookup x = some c → c ≠ a) (nP : ∀ p ∈ X.pn ++ pins, p.1 ≠ a)
    (new : ObjOk X.prog X.w (upd H a o) s.heap a o) : Inv X pins σ (upd H a o) s where
  ok := I.ok
  os := I.os
  bare := I.bare
  loc := I.loc
  cell := I.cell
  len := I.len
  free := (upd_ne nL.symm).trans I.free
  freeC := fun x c e => (upd_ne (nC x c e)).trans (I.freeC x c e)
  pin := fun p hp => let ⟨p1, p2, r⟩ := I.pin p hp; ⟨p1, (upd_ne (nP p hp)).trans p2, r⟩
  base := {
    keep := I.base.keep
    slot := I.base.slot
    there := I.base.there
    free := fun b ob e n hx => (upd_ne fun z => by rw [z, n0] at e; cases e).trans (I.base.free b ob e n hx)
    tups := fun b xs q => (upd_ne (ne_of_none (I.base.tups b xs q) na)).trans (I.base.tups b xs q)
    frzs := fun b ob u q => (upd_ne (ne_of_none (I.base.frzs b ob u q) na)).trans (I.base.frzs b ob u q)
    tbls := fun b ps q => let ⟨m, y⟩ := I.base.tbls b ps q; ⟨m, (upd_ne (ne_of_none y na)).trans y⟩ }
  hok := fun b u e => by
    by_cases hb : b = a
    · cases hb
      rw [upd_same] at e
      cases e
      exact new
    · rw [upd_ne hb] at e
      exact (I.hok b u e).stay (fun c v _ z => z) (fun c hc => (upd_ne (ne_of_none hc na)).trans hc) fun c xs hc => (upd_ne (ne_of_none hc na)).trans hc
end
/-! ### e.f, isinstance(e, c), e such an exception -/
def tXfT (K : PySem.W.Frag) (f : Str) (te : TE) : TE := fun σ H Q => te σ H fun x H1 => ∃ (a C dd : Addr) (fs : List (Str × V)) (v : V), x = .ref a ∧ XfC K C ∧ PySem.W.findIn K (.ref C) f = some none ∧ H1 a = some (xob a C (some dd)) ∧ H1 dd = some (.xd fs) ∧ fs.lookup f = some v ∧ Q v H1
theorem pe_xfT {X : Cx} {e : Expr} {te : TE} {pos : Pos} {n : Str} (he : PE X e te) (hb : attributeBase e n X.env (eval e X.env) = eval e X.env := by rfl) : PE X (.Attribute e n pos) (tXfT X.K n te) where
  run := fun pins s σ H Q I h => attr_of hb (thn (he.run pins s σ H _ I h) fun u s1 ⟨x, H1, I1, rx, a, C, dd, fs, v, ex, T, no, ea, ed, lk, q⟩ => by
    cases ex
    cases rx
    obtain ⟨oe, od, J, look⟩ := xob_inst I1.hok ea ed
    obtain ⟨u, hu, ru⟩ := look n v lk
    exact HandSPX.exc_get I1.kIn J T.ga T.gg T.exC (PySem.W.findObj_own T.hdC no rfl hu) (handed_of ru) ⟨v, H1, I1.tok _, ru, q⟩)
/-- an exception's dict: none, or told -/
def OdAt (H : Hp) (d : Option Addr) : Prop := d = none ∨ ∃ dd fs, d = some dd ∧ H dd = some (.xd fs)
def rIsT (K : PySem.W.Frag) : List V → Hp → VK → Prop := fun xs H Q => ∃ (a C : Addr) (d : Option Addr) (c : V) (cv : Value) (b : Bool), xs = [.ref a, c] ∧ H a = some (xob a C d) ∧ OdAt H d ∧ ExcC K C ∧ (∀ u, RelV c u → u = cv) ∧ PySem.W.kitOne K (.ref C) cv = some b ∧ Q (.bl b) H
theorem call_isT {X : Cx} : CallR X (.builtin "isinstance") (rIsT X.K) := fun pins s σ H xs us Q I r ⟨a, D, d, c, cv, b, ex, ea, hd, C, hcv, e, q⟩ => by
  cases ex
  obtain ⟨u, v, rfl, ru, rv⟩ := vals2 r
  cases ru
  cases hcv v rv
  have some_cls : (PySem.W.clsIn X.K D).isSome = true := by
    obtain ⟨cd, h1, _⟩ := PySem.W.any_some C.hd
    rw [h1]; rfl
  have inst : ∃ oe od, PySem.W.InstAt s.heap a oe D od := by
    rcases hd with rfl | ⟨dd, fs, rfl, hdd⟩
    · obtain ⟨oe, J⟩ := xob_inst0 I.hok ea
      exact ⟨oe, _, J⟩
    · obtain ⟨oe, od, J, _⟩ := xob_inst I.hok ea hdd
      exact ⟨oe, _, J⟩
  obtain ⟨oe, od, J⟩ := inst
  exact PySem.W.kia_one (PySem.W.kitx_exc some_cls C.hg C.hk C.hs C.ha C.hn C.ht C.hm) I.kIn J e (fun z => nomatch z) fun tk => ⟨.bl b, H, I.kept (t' := tk) fun _ _ z => z, rfl, q⟩

/-! ### defs that may be called where an exception is handled -/
abbrev RoomW := L2H.RoomH
theorem roomW {k : Nat} {A : Around} (r : Room k A) : RoomW k A := L2H.roomH_of r
structure FnW (P : Program) (w : World) (K : PySem.W.Frag) (mg : Str → Option Value) (base : Heap) (CX : CXT) (k : Nat) (f : Addr) (fd : FuncData) (ps : List Str) (sp : Sp) : Prop where
  arity : ∀ vs H Q E, sp vs H Q E → vs.length = ps.length
  go : ∀ (A : Around) (outer : List Env) (s : Shared) (H : Hp) (args : Args) (us : List Value) (vs : List V) (Q : VK) (E : XK), RoomW k A → Env0 P w K mg base A outer s H → BindsTo s fd args (ps.zip us) → Vals vs us → sp vs H Q E → codeAny (model P w) A (.call (.ref f) args) (CR CX outer P w H s Q E) s
theorem FnW.ok {P : Program} {w : World} {K : PySem.W.Frag} {mg : Str → Option Value} {base : Heap} {CX : CXT} {k : Nat} {f : Addr} {fd : FuncData} {ps : List Str} {sp : Sp} (F : FnW P w K mg base CX k f fd ps sp) : FnOk P w K mg base CX k f fd ps sp :=
  ⟨F.arity, fun A outer s H args us vs Q E hr => F.go A outer s H args us vs Q E (roomW hr)⟩
/-- the context of such a def's body: nothing is said of what is handled -/
abbrev Cx.warm (X : Cx) (A : Around) (xe : Value → Shared → Prop) : Cx := { X with A := A, calm := false, xe := xe }
theorem Inv.warm {X : Cx} {pins : List (Addr × Obj)} {σ : St} {H : Hp} {s : Shared} {A : Around} {xe : Value → Shared → Prop} (I : Inv X pins σ H s) (hA : A.frames = some X.stack) : Inv (X.warm A xe) pins σ H s where
  ok := { I.ok with hd := fun z => (Bool.false_ne_true z).elim, frames := hA }
  os := I.os
  bare := I.bare
  base := I.base
  loc := I.loc
  cell := I.cell
  free := I.free
  freeC := I.freeC
  pin := I.pin
  hok := I.hok
  len := I.len
/-- the body's context -/
abbrev cxW (CX : CXT) (P : Program) (w : World) (K : PySem.W.Frag) (mg : Str → Option Value) (base : Heap) (N : List Str) (qual : Str) (scope : Scope) (f : Addr) (cd : Value) (A : Around) (outer : List Env) (s : Shared) (H : Hp) (E : XK) : Cx :=
  { cxOf CX P w K mg base N qual scope f cd A outer s H E with calm := false }
theorem Fun.okW {P : Program} {w : World} {K : PySem.W.Frag} {mg : Str → Option Value} {base : Heap} {x qual : Str} {st : Stmt} {f : Addr} {fd : FuncData} {N ps : List Str} {k : Nat} {sp : Sp} (F : Fun K x qual st f fd) (S : FnScope N ps (defScope st)) (hps : ∀ vs H Q E, sp vs H Q E → vs.length = ps.length)
    (body : ∀ (cdv : Value) (A : Around) (outer : List Env) (s : Shared) (H : Hp) (vs : List V) (Q : VK) (E : XK), RoomW k (A.deeper (envOfC qual (defScope st) s.heap.objs.size f cdv)) → sp vs H Q E →
      ∃ t, PSs (cxW CX0 P w K mg base N qual (defScope st) f cdv A outer s H E).nox (defBody st) t ∧ t { nx := fun _ H' => Q .non H', rt := Q } (start N vs) H) : FnW P w K mg base CX0 (k + 1) f fd ps sp := by
  obtain ⟨_, _, kV, doc, pm, an, cdv, ct, _, rfl, here, code⟩ := F.ex
  refine ⟨hps, fun A outer s H args us vs Q E room e0 bind r h => ?_⟩
  have KX : K.In s.heap := e0.mod.kin.keeps fun _ _ e => (e0.bs _ _ e).1
  have many := hps _ _ _ _ h
  refine Att.call_fn KX (e0.mod.nolimit.keeps fun _ _ e => (e0.bs _ _ e).1) here code room.depth bind ?_ (fun s1 ic => ?_) S.co S.gen S.kind
  · refine List.all_eq_true.mpr fun y hy => ?_
    rcases S.par y.1 (List.of_mem_zip (show (y.1, y.2) ∈ ps.zip us from hy)).1 with z | z <;> simp [z]
  · obtain ⟨t, ht, q⟩ := body cdv A outer s H vs Q E (room.deeper _) h
    have e1 : Env0 P w K mg base { A with handled := none } outer s H := ⟨e0.frames, e0.mod, e0.bs, e0.bsz, e0.funs, e0.frf, e0.hok, e0.bare⟩
    have I0 := inv_start (CX := CX0) (P := P) (w := w) (mg := mg) (base := base) (f := f) (cd := cdv) (A := { A with handled := none }) (E := E) S rfl e1 many r ic
    have I : Inv (cxW CX0 P w K mg base N qual (defScope st) f cdv A outer s H E) [] (start N vs) H s1 := I0.warm (A := A.deeper (envOfC qual (defScope st) s.heap.objs.size f cdv)) (Around.frames_deeper e0.frames)
    refine wpAny_mono (ht.nox.run [] s1 _ H _ I q) (fun fl s2 hs => ?_) fun _ _ z => z
    cases fl with
    | ret u =>
      obtain ⟨v, _, H', J, rv, q'⟩ := hs
      exact ⟨v, H', J.os, J.bare, J.base, J.hok, rv, q'⟩
    | next =>
      obtain ⟨_, H', J, q'⟩ := hs
      exact ⟨.non, H', J.os, J.bare, J.base, J.hok, rfl, q'⟩
    | brk => exact hs.elim fun _ z => z.elim fun _ z => z.2.elim
    | cont => exact hs.elim fun _ z => z.elim fun _ z => z.2.elim
/-- f(e, ..) of such a def -/
theorem pe_callW {X : Cx} {CX : CXT} {k : Nat} {f : Addr} {fd : FuncData} {ps : List Str} {sp : Sp} {E : XK} {x : Str} {q pos : Pos} {e : Expr} {es : List Expr} {t : TA}
    (F : FnW X.prog X.w X.K X.mg X.base CX k f fd ps sp) (room : RoomW k X.A) (gl : Gl X x) (is : X.mg x = some (.ref f)) (kp : PySem.W.keepIn X.K (.ref f) = true) (bind : Binds X.K fd ps []) (pass : Passes CX X E) (args : PA X (e :: es) t)
    (nodebug : (x == ("__debug__" : Str)) = false := by decide) (first : starEach (e :: es) X.env = (false, eval e X.env) :: starEach es X.env := by rfl) (nostar : (backTo pos (starEach es X.env)).any (·.1) = false := by rfl) :
    PE X (.Call (.Name x q) (e :: es) [] pos) (fun σ H Q => t σ H fun vs H1 => sp vs H1 Q E) where
  run := fun pins s σ H Q I h => wpAny_Call_Name_kw (ld_glob I gl is (PySem.W.callWith_K (h₀ := X.base) I.ok.mod.kin kp (thn (args.run pos pins s σ H _ I h) fun us s1 ⟨vs, H1, I1, r, y⟩ => ⟨I1.kIn, by
    have n : us.length = ps.length := r.length.symm.trans (F.arity _ _ _ _ y)
    have b := bind s1 us I1.kIn (by simpa using n)
    simp only [List.append_nil] at b
    refine wpAny_call (codeAny_mono (F.go X.A X.stack s1 H1 ⟨us, []⟩ us vs Q E room I1.env0 b r y) fun res s2 z => ?_)
    match res, z with
    | .error er, z => exact pass pins σ H1 s1 er s2 I1 z
    | .ok (.ret _), z => exact I1.after z⟩) first nostar) nodebug)

/-! ### try: body, except M as n: suite, where every exception of the body is an own one that M names -/
section
variable {X : Cx} {pins : List (Addr × Obj)} {σ : St} {H : Hp} {s : Shared}
/-- the suite's context, the exception tracked, not pinned -/
theorem Inv.inSuite (I : Inv X pins σ H s) (a : Addr) : Inv (X.suite a (X.pn ++ pins)) [] σ H s where
  ok := I.ok.suite a _
  os := I.os
  bare := I.bare
  base := I.base
  loc := I.loc
  cell := I.cell
  free := I.free
  freeC := I.freeC
  pin := fun p hp => I.pin p ((List.append_nil (X.pn ++ pins)) ▸ hp)
  hok := I.hok
  len := I.len
theorem Inv.outSuite {a : Addr} (I : Inv (X.suite a (X.pn ++ pins)) [] σ H s) (ok : X.Ok) : Inv X pins σ H s where
  ok := ok
  os := I.os
  bare := I.bare
  base := I.base
  loc := I.loc
  cell := I.cell
  free := I.free
  freeC := I.freeC
  pin := fun p hp => I.pin p ((List.append_nil (X.pn ++ pins)).symm ▸ hp)
  hok := I.hok
  len := I.len
end
/-- the ends of a suite: slot i is emptied -/
def Ends.less (D : Ends) (i : Nat) : Ends := { nx := fun σ H => D.nx (σ.set i none) H, rt := D.rt, bk := fun σ H => D.bk (σ.set i none) H, ct := fun σ H => D.ct (σ.set i none) H }
/-- what is wished of an exception of the body -/
def wAsT (K : PySem.W.Frag) (c : Value) (i : Nat) (ts : TS) (D : Ends) : WX := fun cls d σ H => PySem.W.exmOne K cls c = some true ∧ ∃ C : Addr, cls = .ref C ∧ ∀ a, H a = none → ts (D.less i) (σ.set i (some (.ref a))) (upd H a (xob a C d))
section
variable {X : Cx} {x n : Str} {c : Value} {i : Nat} {body suite : List Stmt} {b0 : Stmt} {p1 p2 p3 : Pos} {tb : WX → TS} {ts : TS}
/-- what came behind the state I is none of its things -/
theorem newcomer {pins : List (Addr × Obj)} {σ : St} {H : Hp} {s : Shared} {a : Addr} (I : Inv X pins σ H s) (alone : X.ex = []) (no : s.heap.get? a = none) :
    X.s_0.heap.get? a = none ∧ a ≠ X.env.locals ∧ (∀ x c, X.env.cells.lookup x = some c → c ≠ a) ∧ ∀ p ∈ X.pn ++ pins, p.1 ≠ a := by
  have some_not : ∀ {b : Addr} {o : Obj}, s.heap.get? b = some o → b ≠ a := fun {b o} e z => by rw [z, no] at e; cases e
  refine ⟨Option.eq_none_iff_forall_ne_some.mpr fun o e => ?_, ?_, fun x c e => ?_, fun p hp => some_not (I.pin p hp).1⟩
  · obtain ⟨o', z⟩ := I.base.there a o e (by simp [alone])
    exact some_not z rfl
  · obtain ⟨m, ⟨o, _, _, e, _⟩, _⟩ := I.loc
    exact (some_not e).symm
  · obtain ⟨v, o, e', _⟩ := I.cell x c e
    exact some_not e'
/-- an exception has come to the try: its suite runs -/
theorem caught {pins : List (Addr × Obj)} {D : Ends} {u : Value} {s : Shared} {xe : Value → Shared → Prop} (alone : X.ex = []) (top : X.stack = X.env :: X.outer) (frame : X.env.frame = some X.env.locals) (nodup : X.N.Nodup) (slot : X.N[i]? = some n) (loc : X.env.kindOf n = some .local) (names : Names X x c) (ok : X.Ok)
    (run : ∀ (a : Addr) (pn : List (Addr × Obj)), PSs (X.suite a pn) (b0 :: suite) ts) (fly : XE (X.tr (X.pn ++ pins) xe) (wAsT X.K c i ts D) u s) :
    wpAny (model X.prog X.w) X.A (noteFrame u X.env) (fun _ s2 => wpAny (model X.prog X.w) X.A (setFlight u none) (fun _ s3 => wpAny (model X.prog X.w) X.A (handleBy u X.env [.ExceptHandler (some (.Name x p1)) (some n) (b0 :: suite) p2]) (SP X pins D) X.xe s3) X.xe s2) X.xe s := by
  obtain ⟨a, ground, sI, _, σ1, H1, cls, d, rfl, Jt, stays, slots, sky, free, os, gens, named, C, rfl, wish⟩ := fly
  have J : Inv X pins σ1 H1 sI := Jt.ofTry ok
  refine Sky.land Zc.steady (ok.frames.trans (congrArg some top)) frame (top ▸ sky) fun h3 f3 up3 => ?_
  obtain ⟨o3, v3, g3, z3, d3⟩ := f3.there
  have notFrame : a ∉ frs X.stack := fun hm => by
    obtain ⟨_, o, e, other⟩ := f3.2.2.1.mem (top ▸ hm)
    exact other v3 (Option.some.inj (e.symm.trans g3) ▸ d3)
  have absent : sI.heap.get? a = none := Option.eq_none_iff_forall_ne_some.mpr fun o e => by
    have z := stays a o e notFrame
    rw [f3.2.1] at z
    cases z
  obtain ⟨n0, nL, nC, nP⟩ := newcomer J alone absent
  have J3 : Inv X pins σ1 H1 { s with heap := h3 } := J.landed stays f3.1 (slots.trans up3) os gens
  have clause : ∀ {Q : Value → Shared → Prop} {E : Value → Shared → Prop}, Q c { s with heap := h3 } → wpAny (model X.prog X.w) (X.A.mark (some (.ref a))) (eval (.Name x p1) X.env) Q E { s with heap := h3 } := fun {Q E} q => by
    rcases names with ⟨gl, dbg, is | ⟨no, boot, other⟩⟩
    · exact ld_glob (J3.inSuite a) gl is q dbg
    · exact ld_blt (J3.inSuite a) gl no boot q other dbg
  have cls3 : PySem.W.Looks (model X.prog X.w) h3 (typeOf (.ref a)) (.ref C) := fun _ _ _ _ keep q => wpAny_typeOf_ref (keep _ _ g3) (z3.1.symm ▸ q)
  refine wpAny_handleBy_cons (codeAny_handlers_test (clause ((PySem.W.exm_one (M := model X.prog X.w) J3.kIn cls3 named).here ?_))) (fun z => nomatch z)
  refine codeAny_handlers_suite_as (HandSPX.lands_againZ f3 fun h4 f4 up4 => ?_)
  obtain ⟨o4, v4, g4, z4, d4⟩ := f4.there
  have J4 : Inv X pins σ1 H1 { s with heap := h4 } := J.landed stays f4.1 ((slots.trans up3).trans up4) os gens
  have J5 := (J4.track free n0 nL nC nP (xob_ok g4 z4 d4)).inSuite a
  refine store_ok (X := X.suite a (X.pn ++ pins)) (v := .ref a) J5 nodup slot (.inl loc) rfl (fun s5 S5 => ?_) (.inr loc)
  have leave : ∀ {σ6 : St} {H6 : Hp} {s6 : Shared} {Q : Shared → Prop}, Inv (X.suite a (X.pn ++ pins)) [] σ6 H6 s6 → (∀ s7, Inv X pins (σ6.set i none) H6 s7 → Q s7) → wpAny (model X.prog X.w) X.A (do bindName X.env n .none; unbindBehindTheSuite X.env n p2) (fun _ s7 => Q s7) X.xe s6 :=
    fun S6 q => gone_ok (S6.outSuite ok) nodup slot loc q
  refine wpAny_mono ((run a (X.pn ++ pins)).run [] s5 _ _ _ S5 (wish a free)) (fun fl s6 q => ?_) fun _ _ z => z.elim
  match fl, q with
  | .next, ⟨_, _, S6, q⟩ => exact leave S6 fun _ J7 => ⟨_, _, J7, q⟩
  | .brk, ⟨_, _, S6, q⟩ => exact leave S6 fun _ J7 => ⟨_, _, J7, q⟩
  | .cont, ⟨_, _, S6, q⟩ => exact leave S6 fun _ J7 => ⟨_, _, J7, q⟩
  | .ret _, ⟨_, _, _, S6, r, q⟩ => exact leave S6 fun _ J7 => ⟨_, _, _, J7, r, q⟩
theorem ps_try_asT (alone : X.ex = []) (top : X.stack = X.env :: X.outer) (frame : X.env.frame = some X.env.locals) (nodup : X.N.Nodup) (slot : X.N[i]? = some n) (loc : X.env.kindOf n = some .local) (names : Names X x c)
    (try_ : ∀ (W : WX) (pn : List (Addr × Obj)) (xe : Value → Shared → Prop), Takes (X.tr pn xe) W → PSs (X.tr pn xe) body (tb W)) (run : ∀ (a : Addr) (pn : List (Addr × Obj)), PSs (X.suite a pn) (b0 :: suite) ts) :
    PS X (.Try body [.ExceptHandler (some (.Name x p1)) (some n) (b0 :: suite) p2] [] [] p3) (fun D σ H => tb (wAsT X.K c i ts D) D σ H) where
  run := fun pins s σ H D I h => by
    have ok := I.ok
    refine wpAny_Try_except (wpAny_mono ((try_ (wAsT X.K c i ts D) (X.pn ++ pins) _ fun u s' y => caught alone top frame nodup slot loc names ok run y).run [] s σ H D (I.toTry _) h) (fun fl s1 q => ?_) fun _ _ z => z)
    match fl, q with
    | .next, ⟨_, _, J, q⟩ => exact wpAny_execs_nil ⟨_, _, J.ofTry ok, q⟩
    | .brk, ⟨_, _, J, q⟩ => exact ⟨_, _, J.ofTry ok, q⟩
    | .cont, ⟨_, _, J, q⟩ => exact ⟨_, _, J.ofTry ok, q⟩
    | .ret _, ⟨_, _, _, J, r, q⟩ => exact ⟨_, _, _, J.ofTry ok, r, q⟩
end
end L2

namespace L2
open PySem PySem.Spec PyProof.Rows
/-! ### an own exception made as a value -/
/-- C(k = v, ..), C's own __init__ keeping sp -/
def tXMk (C : Addr) (n : Nat) (sp : Sp) (gV : List V → List V → List V) (tk : TA) : TE := fun σ H Q => tk σ H fun zs H1 => zs.length = n ∧ ∀ a, H1 a = none → sp (gV [.ref a] zs) (upd H1 a (exo a C none))
  (fun v H2 => v = .non ∧ ∃ (d : Addr) (fs : List (Str × V)), H2 a = some (exo a C (some d)) ∧ H2 d = some (exd d fs) ∧ d ≠ a ∧ Q (.ref a) (upd (upd H2 d (.xd fs)) a (xob a C (some d)))) (fun _ _ _ => False)
section
variable {X : Cx} {CX : CXT} {k : Nat} {C fI : Addr} {fd : FuncData} {ps ks : List Str} {sp : Sp} {x : Str} {p pos : Pos} {kws : List Keyword} {tk : TA} {g : List Value → List Value → List Value} {gV : List V → List V → List V}
/-- behind __init__ the exception stands as a made one -/
theorem Inv.finished {pins : List (Addr × Obj)} {σ : St} {H : Hp} {s : Shared} {a d : Addr} {fs : List (Str × V)} (I : Inv X pins σ H s) (ea : H a = some (exo a C (some d))) (ed : H d = some (exd d fs)) (ne : d ≠ a) : Inv X pins σ (upd (upd H d (.xd fs)) a (xob a C (some d))) s := by
  have J : Inv X pins σ (upd H d (.xd fs)) s := I.retell ed True.intro (exd_at I.hok ed)
  have ea' : (upd H d (.xd fs)) a = some (exo a C (some d)) := (upd_ne ne.symm).trans ea
  obtain ⟨t, at_⟩ := exo_at J.hok ea'
  exact J.retell ea' True.intro (xob_ok at_ ⟨rfl, rfl⟩ rfl)
theorem pe_xmk (T : OexC X.K C) (ini : PySem.W.findIn X.K (.ref C) "__init__" = some (some (.ref fI))) (fn : PySem.W.typeIn X.K (.ref fI) = some (.type "function"))
    (fnok : FnOk X.prog X.w X.K X.mg X.base CX k fI fd ps sp) (room : Room (k + 1) X.A) (bind : KBn X.K fd ps 1 ks g gV) (pass : Passes CX X (fun _ _ _ => False)) (gl : Gl X x) (is : X.mg x = some (.ref C)) (vals : PK X kws tk)
    (named : (backToKw pos (keywordEach kws X.env)).all (·.1.isSome) = true := by rfl) (names : (backToKw pos (keywordEach kws X.env)).filterMap (·.1) = ks := by rfl) (nodebug : (x == ("__debug__" : Str)) = false := by decide)
    (plain : ((backTo pos (starEach [] X.env)).any (·.1) || (backToKw pos (keywordEach kws X.env)).any (·.1.isNone)) = false := by rfl) : PE X (.Call (.Name x p) [] kws pos) (tXMk C ks.length sp gV tk) where
  run := fun pins s σ H Q I h => by
    obtain ⟨_, _, _, _, bm, _, _, _, _, _, _, _, _, _, _, cls, mro⟩ := T.cls
    refine wpAny_Call_Name_kw (ld_glob I gl is (PySem.W.callWith_KW0 (h₀ := X.base) I.ok.mod.kin T.kC named (thn (vals.run pos pins s σ H _ I h) fun ws s1 ⟨zs, H1, I1, rz, hz, q1⟩ => ⟨I1.kIn, ?_⟩) plain) nodebug)
    obtain ⟨hp, gs, dr, tks, os⟩ := s1
    have new : H1 (hp.objs.size + 1) = none := I1.hok.fresh (Nat.le_succ _)
    have I2 : Inv X pins σ (upd H1 (hp.objs.size + 1) (exo (hp.objs.size + 1) C none)) ⟨(hp.push (PySem.W.kdv_tup [])).push (PySem.HandSPX.excO C hp.objs.size), gs, dr, tks, os⟩ :=
      I1.laid (t' := tks) (o := exo (hp.objs.size + 1) C none) (fun _ _ e => Heap.get?_push_of_some _ (Heap.get?_push_of_some _ e)) (Nat.le_succ _) (exo_ok (by heap_get))
    have q2 := q1 _ new
    rw [names]
    show wpAny _ _ (call (.ref C) [] (ks.zip ws)) _ _ _
    refine wpAny_call (Own.made (kw := ks.zip ws) PySem.F.excBase_ValueError (fun Y => PySem.HandSPX.refsVE_contains Y bm mro) (I1.kIn _ _ cls) (PySem.W.looks_findIn I1.kIn ini) (fun me => PySem.W.bind_fn I1.kIn me fn)
      (codeAny_mono (fnok.run _ X.stack _ _ ⟨[.ref (hp.objs.size + 1)], ks.zip ws⟩ (g [.ref (hp.objs.size + 1)] ws) _ _ (fun _ _ _ => False) (room.make C [] (ks.zip ws)) (I2.env0.make C [] (ks.zip ws))
        (bind.to _ [.ref (hp.objs.size + 1)] ws I2.kIn rfl (rz.length.symm.trans hz)) (bind.rel (show Vals [V.ref (hp.objs.size + 1)] [Value.ref (hp.objs.size + 1)] from .cons rfl .nil) rz) q2) fun r s2 y => ?_))
    match r, y with
    | .error er, y => exact pass pins σ _ _ er s2 I2 y
    | .ok (.ret u), y =>
      obtain ⟨_, H3, I3, rv, rfl, d, fs, ea, ed, ne, q3⟩ := I2.after y
      exact ⟨rv, .ref (hp.objs.size + 1), _, I3.finished ea ed ne, rfl, q3⟩
/-- C(), C without own __init__, as a value; raised -/
theorem pe_xmk0 {full : List Value} {Base new ini : String} (F : ExcBaseFacts Base new ini full) (own : PySem.W.excIn X.K C full new = true) (is : X.mg x = some (.ref C)) (kp : PySem.W.keepIn X.K (.ref C) = true) (gl : Gl X x) (nodebug : (x == ("__debug__" : Str)) = false := by decide) :
    PE X (.Call (.Name x p) [] [] pos) (fun _ H Q => ∀ a, H a = none → Q (.ref a) (upd H a (xob a C none))) where
  run := fun pins s σ H Q I h => wpAny_Call_Name_kw (ld_glob I gl is (PySem.W.callWith_K0 I.kIn kp (by
    obtain ⟨_, _, _, _, _, _, _, _, _, _, _, _, _, _, _, _, _, cls, ns, no, tl⟩ := exc_obj I.kIn own
    refine wpAny_call_exc_subT F tl cls ns no (fun h' a m => ?_) (Nat.zero_le _)
    have free := I.hok.gone m.new
    obtain ⟨_, at_, _⟩ := m.there
    exact ⟨.ref a, _, I.laidN m.keeps m.new free (xob_ok at_ ⟨rfl, rfl⟩ rfl), rfl, h a free⟩)) nodebug)
theorem pmk_own0 {full : List Value} {Base new ini : String} (F : ExcBaseFacts Base new ini full) (own : PySem.W.excIn X.K C full new = true) (is : X.mg x = some (.ref C)) (kp : PySem.W.keepIn X.K (.ref C) = true) (r : Raises X (.ref C)) (gl : Gl X x) (nodebug : (x == ("__debug__" : Str)) = false := by decide) :
    PMk X (.Call (.Name x p) [] [] pos) (fun _ H Q => Q (.ref C) none H) := fun pins s σ H Q I h => wpAny_Call_Name_kw (ld_glob I gl is (PySem.W.callWith_K0 I.kIn kp (by
    obtain ⟨_, _, _, _, _, _, _, _, _, _, _, _, _, _, _, _, _, cls, ns, no, tl⟩ := exc_obj I.kIn own
    exact wpAny_call_exc_subT F tl cls ns no (fun h' e m => mk_of I m r h (I.hok.gone m.new)) (Nat.zero_le _))) nodebug)
end
end L2

namespace Kx
open PySem L2
def top (i : Nat) : Stmt := PySem.Challenge.pw_nevermiss_k04_far_texts.main.body.getD i (.Pass ⟨0, 0, 0, 0⟩)
abbrev s__law_pen : Stmt := top 32
abbrev s__law_draw : Stmt := top 33
abbrev s__law_pick : Stmt := top 34
/-- a def of the text, as it stands behind the top -/
structure DefT (K : PySem.W.Frag) (mg : Str → Option Value) (name qual : Str) (st : Stmt) (ps : List Str) (f : Addr) (fd : FuncData) : Prop where
  g : mg name = some (.ref f)
  F : Fun K name qual st f fd
  b : Binds K fd ps []
/-! ### the pen -/
/-- all but what stands at p is as it was -/
def SameBut (p : Addr) (H H' : Hp) : Prop := ∀ b o, H b = some o → b ≠ p → H' b = some o
theorem SameBut.refl (p : Addr) (H : Hp) : SameBut p H H := fun _ _ h _ => h
theorem SameBut.trans {p : Addr} {H H1 H2 : Hp} (a : SameBut p H H1) (b : SameBut p H1 H2) : SameBut p H H2 := fun c o h n => b c o (a c o h n) n
theorem SameBut.of {p : Addr} {H H' : Hp} (a : Same H H') : SameBut p H H' := fun c o h _ => a c o h
theorem Same.upd {H : Hp} {p : Addr} {o : HO} (h : H p = none) : Same H (upd H p o) := fun b u e => by rw [upd_ne (ne_of_none e h)]; exact e
theorem SameBut.upd {H : Hp} {p : Addr} {o : HO} : SameBut p H (upd H p o) := fun b u e n => by rw [upd_ne n]; exact e
theorem SameBut.new {H : Hp} {p q : Addr} {o : HO} (h : H q = none) : SameBut p H (L2.upd H q o) := .of (Same.upd h)
abbrev kCells : Key := Sum.inr "cells"
abbrev kAt : Key := Sum.inr "at"
abbrev kLeft : Key := Sum.inr "left"
def penKvs (c : Addr) (a l : Int) : List (Key × V) := [(kCells, .ref c), (kAt, .int a), (kLeft, .int l)]
theorem n_ca : ¬ (kCells = kAt) := by decide +kernel
theorem n_cl : ¬ (kCells = kLeft) := by decide +kernel
theorem n_al : ¬ (kAt = kLeft) := by decide +kernel
theorem pen_cells (c : Addr) (a l : Int) : valV (penKvs c a l) kCells = some (.ref c) := valV_pos rfl
theorem pen_at (c : Addr) (a l : Int) : valV (penKvs c a l) kAt = some (.int a) := by
  unfold penKvs
  rw [valV_neg n_ca]
  exact valV_pos rfl
theorem pen_left (c : Addr) (a l : Int) : valV (penKvs c a l) kLeft = some (.int l) := by
  unfold penKvs
  rw [valV_neg n_cl, valV_neg n_al]
  exact valV_pos rfl
theorem put_at (c : Addr) (a l x : Int) : putK (penKvs c a l) kAt (.int x) = penKvs c x l := by
  have h : ((penKvs c a l).any fun kv => decide (kv.1 = kAt)) = true := by
    rw [valV_any, pen_at]; rfl
  unfold putK
  rw [if_pos h]
  show [if kCells = kAt then (kCells, V.int x) else (kCells, V.ref c), if kAt = kAt then (kAt, V.int x) else (kAt, V.int a), if kLeft = kAt then (kLeft, V.int x) else (kLeft, V.int l)] = _
  rw [if_neg n_ca, if_pos rfl, if_neg (Ne.symm n_al)]
  rfl
theorem put_left (c : Addr) (a l x : Int) : putK (penKvs c a l) kLeft (.int x) = penKvs c a x := by
  have h : ((penKvs c a l).any fun kv => decide (kv.1 = kLeft)) = true := by
    rw [valV_any, pen_left]; rfl
  unfold putK
  rw [if_pos h]
  show [if kCells = kLeft then (kCells, V.int x) else (kCells, V.ref c), if kAt = kLeft then (kAt, V.int x) else (kAt, V.int a), if kLeft = kLeft then (kLeft, V.int x) else (kLeft, V.int l)] = _
  rw [if_neg n_cl, if_neg n_al, if_pos rfl]
  rfl
/-- a pen at p: n bounds the places that were read -/
def PenAt (H : Hp) (p c : Addr) (n : Nat) : Prop := ∃ (ns : List Int) (a l : Int), H p = some (.dK (penKvs c a l)) ∧ H c = some (.lst (ns.map V.int)) ∧ ns.length ≤ 63 ∧ 0 ≤ a ∧ a ≤ n
theorem PenAt.ne {H : Hp} {p c : Addr} {n : Nat} (h : PenAt H p c n) {b : Addr} {xs : List V} (e : H b = some (.lst xs)) : b ≠ p := by
  obtain ⟨ns, a, l, h1, _⟩ := h
  exact ne_of e h1 (by intro z; cases z)
theorem PenAt.keep {H H' : Hp} {p c : Addr} {n : Nat} (h : PenAt H p c n) (s : Same H H') : PenAt H' p c n := by
  obtain ⟨ns, a, l, h1, h2, r⟩ := h
  exact ⟨ns, a, l, s _ _ h1, s _ _ h2, r⟩
/-- a store elsewhere -/
theorem PenAt.put {H : Hp} {p c : Addr} {n : Nat} (h : PenAt H p c n) {d : Addr} {o : HO} (np : d ≠ p) (nc : d ≠ c) : PenAt (upd H d o) p c n := by
  obtain ⟨ns, a, l, h1, h2, r⟩ := h
  exact ⟨ns, a, l, by rw [upd_ne (Ne.symm np)]; exact h1, by rw [upd_ne (Ne.symm nc)]; exact h2, r⟩
theorem PenAt.apart {H : Hp} {p c : Addr} {n : Nat} (h : PenAt H p c n) {d : Addr} (e : H d = none) : d ≠ p ∧ d ≠ c := by
  obtain ⟨ns, a, l, h1, h2, r⟩ := h
  exact ⟨fun z => (by rw [z, h1] at e; cases e), fun z => (by rw [z, h2] at e; cases e)⟩
theorem PenAt.mono {H : Hp} {p c : Addr} {n m : Nat} (h : PenAt H p c n) (s : n ≤ m) : PenAt H p c m := by
  obtain ⟨ns, a, l, h1, h2, h3, h4, h5⟩ := h
  exact ⟨ns, a, l, h1, h2, h3, h4, by omega⟩
def spPen (K : PySem.W.Frag) : Sp := fun vs H Q _ => ∃ (s : Addr) (ns : List Int), vs = [.ref s] ∧ SqL K H s (ns.map V.int) ∧ ns.length ≤ 63 ∧ ∀ p c H', H p = none → Same H H' → PenAt H' p c 0 → Q (.ref p) H'
def spDraw : Sp := fun vs H Q _ => ∃ (p c : Addr) (many : Int) (n : Nat), vs = [.ref p, .int many] ∧ PenAt H p c n ∧ n ≤ 1000000 ∧ 0 < many ∧ many < 1073741824 ∧
  ∀ (r : Int) H', 0 ≤ r → r < many → PenAt H' p c (n + 1) → SameBut p H H' → Q (.int r) H'
def spPick : Sp := fun vs H Q _ => ∃ (p c q : Addr) (xs : List V) (n : Nat), vs = [.ref p, .ref q] ∧ PenAt H p c n ∧ n ≤ 1000000 ∧ H q = some (.lst xs) ∧ 0 < xs.length ∧ xs.length ≤ 1000000 ∧
  ∀ (v : V) (i : Nat) H', xs[i]? = some v → PenAt H' p c (n + 1) → SameBut p H H' → Q v H'
structure TxtP (K : PySem.W.Frag) (mg : Str → Option Value) (f1 f2 f3 : Addr) (d1 d2 d3 : FuncData) : Prop where
  D__law_pen : DefT K mg "_law_pen" "_law_pen" s__law_pen ["script"] f1 d1
  D__law_draw : DefT K mg "_law_draw" "_law_draw" s__law_draw ["pen", "many"] f2 d2
  D__law_pick : DefT K mg "_law_pick" "_law_pick" s__law_pick ["pen", "items"] f3 d3
  n_list : mg "list" = none
  n_int : mg "int" = none
  n_len : mg "len" = none
local macro_rules | `(tactic| walk_at "g") => `(tactic| first | refine ⟨_, _, rfl, rfl, ?_⟩ | refine ⟨_, rfl, ?_⟩ | refine ⟨rfl, ?_⟩)
theorem cut63 (ns : List Int) : ∃ ms : List Int, cutV (ns.map V.int) none (some 63) = ms.map V.int ∧ ms.length ≤ ns.length := by
  refine ⟨(ns.drop (HT.sIx (ns.map V.int).length 0 none)).take (HT.sIx (ns.map V.int).length (ns.map V.int).length (some 63) - HT.sIx (ns.map V.int).length 0 none), ?_, ?_⟩
  · unfold cutV
    rw [List.map_take, List.map_drop]
  · rw [List.length_take, List.length_drop]; omega
section
variable {P : Program} {w : World} {K : PySem.W.Frag} {mg : Str → Option Value} {base : Heap} {f1 f2 f3 : Addr} {d1 d2 d3 : FuncData}
theorem sc_pen : FnScope ["script"] ["script"] (defScope s__law_pen) := ⟨rfl, rfl, rfl, by decide +kernel, rfl, by decide +kernel, by decide +kernel⟩
theorem ok_pen (T : TxtP K mg f1 f2 f3 d1 d2 d3) : FnOk P w K mg base CX0 1 f1 d1 ["script"] (spPen K) := by
  have sc := sc_pen
  refine T.D__law_pen.F.ok sc (fun vs H Q E h => ?_) (fun cdv A outer s H vs Q E hr h => ?_)
  · obtain ⟨_, _, rfl, _⟩ := h; rfl
  · obtain ⟨a, ns, rfl, hs, hl, k⟩ := h
    have hu := hu_of hr
    refine ⟨_, (pss_one (ps_ret (pe_disp (pps_cons pe_str (pe_callTy call_list_of (by rfl) T.n_list (by decide +kernel) (pa_cons (pe_slice sl_list (pv 0) po_none (po_some pe_int)) pa_nil)) (pps_cons pe_str pe_int (pps_cons pe_str pe_int pps_nil))) (by rfl) (by rfl) (fun z => by cases z) (by decide)))), ?_⟩
    intro p hp
    have s1 : Same H (upd H p (.dK [])) := Same.upd hp
    obtain ⟨ms, em, lm⟩ := cut63 ns
    refine ⟨_, rfl, _, rfl, a, _, rfl, s1.seq hs, fun q hq => ?_⟩
    rw [em]
    refine ⟨q, ms.map V.int, rfl, .inl (SqL.of upd_same), fun l hl2 => ?_⟩
    have npq : p ≠ q := ne_of_none upd_same hq
    have npl : p ≠ l := ne_of_none (by rw [upd_ne npq]; exact upd_same) hl2
    refine ⟨by rw [upd_ne npl, upd_ne npq, upd_same], penKvs l 0 0, rfl, (by show 3 ≤ 15; decide), ?_⟩
    refine k p l _ hp (fun b o e => ?_) ⟨ms, 0, 0, ?_, ?_, by omega, by omega, by omega⟩
    · have e1 : upd H p (.dK []) b = some o := s1 b o e
      have e2 : upd (upd H p (.dK [])) q (.lst (ms.map V.int)) b = some o := Same.upd hq b o e1
      rw [upd_ne (ne_of_none e hp)]
      exact Same.upd hl2 b o e2
    · rw [upd_same]
      rfl
    · rw [upd_ne npl.symm, upd_same]
theorem dg_left {H : Hp} {p c : Addr} {a l : Int} (h : H p = some (.dK (penKvs c a l))) : DGet H p (.str "left") (some (.int l)) := by
  have q := DGet.k (k := kLeft) h
  rw [pen_left] at q
  exact q
theorem dg_at {H : Hp} {p c : Addr} {a l : Int} (h : H p = some (.dK (penKvs c a l))) : DGet H p (.str "at") (some (.int a)) := by
  have q := DGet.k (k := kAt) h
  rw [pen_at] at q
  exact q
theorem dg_cells {H : Hp} {p c : Addr} {a l : Int} (h : H p = some (.dK (penKvs c a l))) : DGet H p (.str "cells") (some (.ref c)) := by
  have q := DGet.k (k := kCells) h
  rw [pen_cells] at q
  exact q
theorem dp_left {H : Hp} {p c : Addr} {a l x : Int} (h : H p = some (.dK (penKvs c a l))) : DPut H p (.str "left") (.int x) (upd H p (.dK (penKvs c a x))) := by
  have q := DPut.k (k := kLeft) (v := .int x) h (by show 3 < sizeLine; decide)
  rw [put_left] at q
  exact q
theorem dp_at {H : Hp} {p c : Addr} {a l x : Int} (h : H p = some (.dK (penKvs c a l))) : DPut H p (.str "at") (.int x) (upd H p (.dK (penKvs c x l))) := by
  have q := DPut.k (k := kAt) (v := .int x) h (by show 3 < sizeLine; decide)
  rw [put_at] at q
  exact q
theorem dpInts (K : PySem.W.Frag) (H : Hp) : ∀ ns : List Int, DpAll K H (ns.map V.int) (ns.map PyData.int)
  | [] => .nil
  | n :: ns => .cons (.int n) (dpInts K H ns)
/-- data of a small depth -/
def Sh (n : Nat) (d : PyData) : Prop := d.canLay0 = true ∧ d.depth ≤ n
theorem Sh.int {n : Nat} (i : Int) : Sh n (.int i) := ⟨by simp [PyData.canLay0], by rw [PyData.depth]; omega⟩
theorem Sh.bl {n : Nat} (b : Bool) : Sh n (.bool b) := ⟨by simp [PyData.canLay0], by rw [PyData.depth]; omega⟩
theorem Sh.str {n : Nat} {x : Str} (h : PyData.strOk x = true) : Sh n (.str x) := ⟨by simp [PyData.canLay0, h], by rw [PyData.depth]; omega⟩
theorem Sh.all {n : Nat} : ∀ {xs : List PyData}, (∀ x ∈ xs, Sh n x) → PyData.canLayAll0 xs = true ∧ PyData.depthAll xs ≤ n
  | [], _ => ⟨by simp [PyData.canLayAll0], by rw [PyData.depthAll]; omega⟩
  | x :: xs, h => by
    obtain ⟨a, b⟩ := Sh.all (xs := xs) fun y hy => h y (List.mem_cons_of_mem _ hy)
    obtain ⟨c, d⟩ := h x List.mem_cons_self
    refine ⟨by rw [PyData.canLayAll0, c, a]; rfl, ?_⟩
    rw [PyData.depthAll]
    exact Nat.max_le.mpr ⟨d, b⟩
theorem Sh.list {n : Nat} {xs : List PyData} (h : ∀ x ∈ xs, Sh n x) : Sh (n + 1) (.list xs) := by
  obtain ⟨a, b⟩ := Sh.all h
  exact ⟨by rw [PyData.canLay0]; exact a, by rw [PyData.depth]; omega⟩
theorem Sh.tup {n : Nat} {xs : List PyData} (h : ∀ x ∈ xs, Sh n x) : Sh (n + 1) (.tuple xs) := by
  obtain ⟨a, b⟩ := Sh.all h
  exact ⟨by rw [PyData.canLay0]; exact a, by rw [PyData.depth]; omega⟩
theorem Sh.ok {n : Nat} {d : PyData} (h : Sh n d) (hn : n ≤ 64) : SeqAt.shaped d = true := by
  unfold SeqAt.shaped
  rw [h.1, decide_eq_true (Nat.le_trans h.2 hn)]
  rfl
theorem Sh.refl {n : Nat} {d : PyData} (h : Sh n d) : PyData.eqv d d = true := PySem.SeqAt.eqv_refl d h.1
theorem ifT {c A B : Prop} [Decidable c] (h : c) (a : A) : if decide c = true then A else B := by rw [if_pos (decide_eq_true h)]; exact a
theorem ifF {c A B : Prop} [Decidable c] (h : ¬ c) (b : B) : if decide c = true then A else B := by rw [if_neg (by simpa using h)]; exact b
theorem ifTn {c A B : Prop} [Decidable c] (h : ¬ c) (a : A) : if (!decide c) = true then A else B := by rw [if_pos (by simpa using h)]; exact a
theorem ifFn {c A B : Prop} [Decidable c] (h : c) (b : B) : if (!decide c) = true then A else B := by rw [if_neg (by simpa using h)]; exact b
theorem shInts (ns : List Int) : SeqAt.shaped (.list (ns.map PyData.int)) = true := (Sh.list (n := 0) fun x hx => by
  obtain ⟨i, _, rfl⟩ := List.mem_map.mp hx
  exact Sh.int i).ok (by decide)
theorem eqv_ints_nil (ns : List Int) : PyData.eqv (.list (ns.map PyData.int)) (.list []) = decide (ns = []) := by
  cases ns with
  | nil => rw [List.map_nil, PyData.eqv, PyData.eqvAll]; rfl
  | cons a r => rw [List.map_cons, PyData.eqv, PyData.eqvAll]; rfl
theorem sc_draw : FnScope ["pen", "many", "digit", "at", "cell", "mixed"] ["pen", "many"] (defScope s__law_draw) := ⟨rfl, rfl, rfl, by decide +kernel, rfl, by decide +kernel, by decide +kernel⟩
theorem ok_draw (T : TxtP K mg f1 f2 f3 d1 d2 d3) : FnOk P w K mg base CX0 1 f2 d2 ["pen", "many"] spDraw := by
  have sc := sc_draw
  refine T.D__law_draw.F.ok sc (fun vs H Q E h => ?_) (fun cdv A outer s H vs Q E hr h => ?_)
  · obtain ⟨_, _, _, _, rfl, _⟩ := h; rfl
  · obtain ⟨p, c, many, n, rfl, ⟨ns, a, l, h1, h2, h3, h4, h5⟩, hn, m0, m1, k⟩ := h
    have hu := hu_of hr
    have ncp : c ≠ p := ne_of h2 h1 (by intro z; cases z)
    refine ⟨_, (pss_cons (ps_if (pt_cmpR op_ge (pe_dget hu (pv 0) pe_str (fun _ _ => rfl)) (pv 1) (nomark _)) (pss_cons (ps_set (i := 2) sc.nd rfl (Or.inl rfl) (pe_op op_mod (pe_callTy call_int1 (by rfl) T.n_int (by decide +kernel) (pa_cons (pe_dget hu (pv 0) pe_str (fun _ _ => rfl)) pa_nil)) (pv 1)))
      (pss_cons (ps_dput hu (pv 0) pe_str (pe_op op_fdiv (pe_dget hu (pv 0) pe_str (fun _ _ => rfl)) (pv 1)) rfl)
      (pss_one (ps_ret (pv 2)))))
        pss_nil)
      (pss_cons (ps_set (i := 3) sc.nd rfl (Or.inl rfl) (pe_dget hu (pv 0) pe_str (fun _ _ => rfl)))
      (pss_cons (ps_dput hu (pv 0) pe_str (pe_op op_add (pv 3) pe_int) rfl)
      (pss_cons (ps_set (i := 4) sc.nd rfl (Or.inl rfl) (pe_op op_add (pe_op op_mul pe_int (pv 3)) pe_int))
      (C8.pss_cut (ps_if (pt_cmpR (op_neD hr.units) (pe_dget hu (pv 0) pe_str (fun _ _ => rfl)) (pe_lst pa_nil) (nomark _)) (pss_one (ps_set (i := 4) sc.nd rfl (Or.inl rfl) (pe_ix ix_list (pe_dget hu (pv 0) pe_str (fun _ _ => rfl)) (pe_op op_mod (pe_callTy call_int1 (by rfl) T.n_int (by decide +kernel) (pa_cons (pv 3) pa_nil)) (pe_callB call_len (by rfl) T.n_len (by decide +kernel) (pa_cons (pe_dget hu (pv 0) pe_str (fun _ _ => rfl)) pa_nil))) (fun _ _ => rfl))))
        pss_nil)
      (pss_cons (ps_if (PW.pt (pw_and (pt_cmpR op_lt (pv 3) (pe_callB call_len (by rfl) T.n_len (by decide +kernel) (pa_cons (pe_dget hu (pv 0) pe_str (fun _ _ => rfl)) pa_nil)) (nomark _)) (pw_and1 (pt_cmpR op_ge (pv 4) (pe_op op_pow pe_int pe_int) (nomark _))))) (pss_cons (ps_dput hu (pv 0) pe_str (pe_op op_fdiv (pe_op op_sub (pv 4) (pe_op op_pow pe_int pe_int)) (pv 1)) rfl)
      (pss_one (ps_ret (pe_op op_mod (pe_callTy call_int1 (by rfl) T.n_int (by decide +kernel) (pa_cons (pe_op op_sub (pv 4) (pe_op op_pow pe_int pe_int)) pa_nil)) (pv 1)))))
        pss_nil)
      (pss_cons (ps_set (i := 5) sc.nd rfl (Or.inl rfl) (pe_op op_add (pe_op op_add (pe_op op_add (pe_op op_mul (pe_op op_mod (pe_callTy call_int1 (by rfl) T.n_int (by decide +kernel) (pa_cons (pv 4) pa_nil)) pe_int) pe_int) (pe_op op_mul (pe_op op_mul pe_int (pv 3)) (pv 3))) (pe_op op_mul pe_int (pv 3))) pe_int))
      (pss_cons (ps_set (i := 5) sc.nd rfl (Or.inl rfl) (pe_op op_mod (pe_callTy call_int1 (by rfl) T.n_int (by decide +kernel) (pa_cons (pv 5) pa_nil)) pe_int))
      (pss_cons (ps_set (i := 5) sc.nd rfl (Or.inl rfl) (pe_op op_mod (pe_callTy call_int1 (by rfl) T.n_int (by decide +kernel) (pa_cons (pe_op op_mul (pv 5) (pe_op op_add (pv 5) pe_int)) pa_nil)) pe_int))
      (pss_one (ps_ret (pe_op op_mod (pe_callTy call_int1 (by rfl) T.n_int (by decide +kernel) (pa_cons (pe_op op_fdiv (pe_op op_mod (pe_callTy call_int1 (by rfl) T.n_int (by decide +kernel) (pa_cons (pe_op op_mul (pv 5) (pv 5)) pa_nil)) pe_int) pe_int) pa_nil)) (pv 1))))))))))))), ?_⟩
    refine ⟨_, rfl, p, .int l, rfl, dg_left h1, _, rfl, _, _, rfl, rfl, _, rfl, ?_⟩
    by_cases c1 : many ≤ l
    · refine ifT c1 ?_
      refine ⟨_, rfl, p, .int l, rfl, dg_left h1, .inl ⟨_, rfl, _, rfl, _, _, rfl, rfl, m0, ?_⟩⟩
      refine ⟨_, rfl, p, .int l, rfl, dg_left h1, _, rfl, _, _, rfl, rfl, ⟨m0, m1⟩, _, rfl, p, _, rfl, dp_left h1, ?_⟩
      refine ⟨_, rfl, ?_⟩
      refine k _ _ (Int.emod_nonneg _ (by omega)) (Int.emod_lt_of_pos _ m0) ⟨ns, a, _, upd_same, by rw [upd_ne ncp]; exact h2, h3, h4, by omega⟩ .upd
    · refine ifF c1 ?_
      refine ⟨_, rfl, p, .int a, rfl, dg_at h1, ?_⟩
      refine ⟨_, rfl, _, _, rfl, rfl, _, rfl, p, _, rfl, dp_at h1, ?_⟩
      have g1 : upd H p (.dK (penKvs c (a + 1) l)) p = some (.dK (penKvs c (a + 1) l)) := upd_same
      have g2 : upd H p (.dK (penKvs c (a + 1) l)) c = some (.lst (ns.map V.int)) := by rw [upd_ne ncp]; exact h2
      have g3 : SameBut p H (upd H p (.dK (penKvs c (a + 1) l))) := .upd
      generalize upd H p (.dK (penKvs c (a + 1) l)) = H1 at g1 g2 g3 ⊢
      refine ⟨_, rfl, _, _, rfl, rfl, .inl ⟨by decide, by decide⟩, _, _, rfl, rfl, ?_⟩
      -- if pen['cells'] != []
      refine ⟨fun σ' H' => ∃ cell : Int, σ' = [some (.ref p), some (.int many), none, some (.int a), some (.int cell), none] ∧ Same H1 H', ?_, ?_⟩
      · refine ⟨_, rfl, p, .ref c, rfl, dg_cells g1, (by decide), fun lz hz => ?_⟩
        refine ⟨.list (ns.map PyData.int), .list [], .lst (SqL.of (Same.upd hz _ _ g2)) (dpInts _ _ _), .lst (SqL.of upd_same) .nil, shInts ns, shInts [], _, rfl, ?_⟩
        rw [eqv_ints_nil]
        by_cases c2 : ns = []
        · refine ifFn c2 ?_
          exact ⟨_, rfl, Same.upd hz⟩
        · refine ifTn c2 ?_
          have hpos : 0 < ns.length := List.length_pos_iff.mpr c2
          have hsu := Same.upd (o := .lst ([] : List V)) hz
          have e2 := hsu _ _ g2
          have e1 := hsu _ _ g1
          have hm0 : 0 ≤ a % (ns.length : Int) := Int.emod_nonneg _ (by omega)
          have hm1 : a % (ns.length : Int) < ns.length := Int.emod_lt_of_pos _ (by omega)
          obtain ⟨x, hx⟩ : ∃ x, ns[(a % (ns.length : Int)).toNat]? = some x := ⟨_, List.getElem?_eq_getElem (by omega)⟩
          refine ⟨_, rfl, p, .ref c, rfl, dg_cells e1, _, rfl, .inl ⟨_, rfl, ?_⟩⟩
          refine ⟨_, rfl, p, .ref c, rfl, dg_cells e1, .ref c, ns.length, rfl, .inl ⟨_, SqL.of e2, by rw [List.length_map]⟩, _, _, rfl, rfl, by omega, ?_⟩
          refine ⟨c, ns.map V.int, _, .int x, rfl, rfl, SqL.of e2, ?_, ?_⟩
          · have q := atI_nat (xs := ns.map V.int) (j := (a % (ns.length : Int)).toNat) (v := .int x) (by rw [List.getElem?_map, hx]; rfl)
            rw [Int.toNat_of_nonneg hm0] at q
            exact q
          · exact ⟨x, rfl, hsu⟩
      · rintro σ' H' ⟨cell, rfl, s1⟩
        have e1 := s1 _ _ g1
        have e2 := s1 _ _ g2
        refine ⟨_, rfl, _, rfl, p, .ref c, rfl, dg_cells e1, .ref c, ns.length, rfl, .inl ⟨_, SqL.of e2, by rw [List.length_map]⟩, _, _, rfl, rfl, _, rfl, ?_⟩
        have P18 : CPow 10 18 := ⟨by decide, by decide, by decide⟩
        have fin : ∀ (r : Int) (H2 : Hp) (l2 : Int), 0 ≤ r → r < many → H2 = upd H' p (.dK (penKvs c (a + 1) l2)) ∨ H2 = H' → Q (.int r) H2 := by
          intro r H2 l2 r0 r1 e
          have g3' : SameBut p H H' := g3.trans (.of s1)
          rcases e with rfl | rfl
          · exact k r _ r0 r1 ⟨ns, a + 1, l2, upd_same, by rw [upd_ne ncp]; exact e2, h3, by omega, by omega⟩ (g3'.trans .upd)
          · exact k r _ r0 r1 ⟨ns, a + 1, l, e1, e2, h3, by omega, by omega⟩ g3'
        have last : (tSeq (tAsg (tOp (rI0 fun i j => .int (i + j)) (tOp (rI0 fun i j => .int (i + j)) (tOp (rI0 fun i j => .int (i + j)) (tOp (rI CMul fun i j => .int (i * j)) (tOp (rI (fun _ j => 0 < j) fun i j => .int (i % j)) (tCB (fun xs H Q => (∃ i, xs = [V.int i] ∧ Q (.int i) H) ∨ ∃ k, xs = [V.bl k] ∧ Q (.int (if k then 1 else 0)) H) (tCons (tVar 4) tNil)) (tC (.int 2147483587))) (tC (.int 48271))) (tOp (rI CMul fun i j => .int (i * j)) (tOp (rI CMul fun i j => .int (i * j)) (tC (.int 40014)) (tVar 3)) (tVar 3))) (tOp (rI CMul fun i j => .int (i * j)) (tC (.int 59)) (tVar 3))) (tC (.int 17))) (gName 5))
            (tSeq (tAsg (tOp (rI (fun _ j => 0 < j) fun i j => .int (i % j)) (tCB (fun xs H Q => (∃ i, xs = [V.int i] ∧ Q (.int i) H) ∨ ∃ k, xs = [V.bl k] ∧ Q (.int (if k then 1 else 0)) H) (tCons (tVar 5) tNil)) (tC (.int 2147483629))) (gName 5))
            (tSeq (tAsg (tOp (rI (fun _ j => 0 < j) fun i j => .int (i % j)) (tCB (fun xs H Q => (∃ i, xs = [V.int i] ∧ Q (.int i) H) ∨ ∃ k, xs = [V.bl k] ∧ Q (.int (if k then 1 else 0)) H) (tCons (tOp (rI CMul fun i j => .int (i * j)) (tVar 5) (tOp (rI0 fun i j => .int (i + j)) (tVar 5) (tC (.int 69621)))) tNil)) (tC (.int 2147483549))) (gName 5))
            (tRet (tOp (rI (fun _ j => 0 < j) fun i j => .int (i % j)) (tCB (fun xs H Q => (∃ i, xs = [V.int i] ∧ Q (.int i) H) ∨ ∃ k, xs = [V.bl k] ∧ Q (.int (if k then 1 else 0)) H) (tCons (tOp (rI CDiv fun i j => .int (i / j)) (tOp (rI (fun _ j => 0 < j) fun i j => .int (i % j)) (tCB (fun xs H Q => (∃ i, xs = [V.int i] ∧ Q (.int i) H) ∨ ∃ k, xs = [V.bl k] ∧ Q (.int (if k then 1 else 0)) H) (tCons (tOp (rI CMul fun i j => .int (i * j)) (tVar 5) (tVar 5)) tNil)) (tC (.int 2147483579))) (tC (.int 32))) tNil)) (tVar 1))))))
            { nx := fun _ H' => Q .non H', rt := Q } [some (.ref p), some (.int many), none, some (.int a), some (.int cell), none] H' := by
          refine ⟨_, rfl, .inl ⟨_, rfl, _, _, rfl, rfl, (show (0 : Int) < 2147483587 by decide), _, _, rfl, rfl, .inr ⟨by decide, by decide⟩, _, rfl, _, _, rfl, rfl, .inl ⟨by decide, by decide⟩, _, rfl, _, _, rfl, rfl, .inr ⟨by omega, by omega⟩, _, _, rfl, rfl, _, rfl, _, _, rfl, rfl, .inl ⟨by decide, by decide⟩, _, _, rfl, rfl, _, _, rfl, rfl, ?_⟩⟩
          refine ⟨_, rfl, .inl ⟨_, rfl, _, _, rfl, rfl, (show (0 : Int) < 2147483629 by decide), ?_⟩⟩
          have x0 := Int.emod_nonneg (cell % 2147483587 * 48271 + 40014 * a * a + 59 * a + 17) (show (2147483629 : Int) ≠ 0 by decide)
          have x1 := Int.emod_lt_of_pos (cell % 2147483587 * 48271 + 40014 * a * a + 59 * a + 17) (show (0 : Int) < 2147483629 by decide)
          generalize (cell % 2147483587 * 48271 + 40014 * a * a + 59 * a + 17) % 2147483629 = x at x0 x1 ⊢
          refine ⟨_, rfl, _, rfl, _, _, rfl, rfl, _, _, rfl, rfl, .inl ⟨by omega, by omega⟩, .inl ⟨_, rfl, _, _, rfl, rfl, (show (0 : Int) < 2147483549 by decide), ?_⟩⟩
          have y0 := Int.emod_nonneg (x * (x + 69621)) (show (2147483549 : Int) ≠ 0 by decide)
          have y1 := Int.emod_lt_of_pos (x * (x + 69621)) (show (0 : Int) < 2147483549 by decide)
          generalize (x * (x + 69621)) % 2147483549 = y at y0 y1 ⊢
          refine ⟨_, rfl, _, rfl, _, _, rfl, rfl, .inl ⟨by omega, by omega⟩, .inl ⟨_, rfl, _, _, rfl, rfl, (show (0 : Int) < 2147483579 by decide), _, _, rfl, rfl, ⟨by decide, by decide⟩, .inl ⟨_, rfl, _, rfl, _, _, rfl, rfl, m0, ?_⟩⟩⟩
          exact fin _ _ l (Int.emod_nonneg _ (by omega)) (Int.emod_lt_of_pos _ m0) (.inr rfl)
        by_cases c3 : a < ns.length
        · refine ifT c3 ?_
          refine ⟨_, rfl, _, _, rfl, rfl, P18, _, _, rfl, rfl, _, rfl, ?_⟩
          by_cases c4 : (10 : Int) ^ (18 : Int).toNat ≤ cell
          · refine ifT c4 ?_
            refine ⟨_, rfl, _, _, rfl, rfl, P18, _, _, rfl, rfl, _, rfl, _, _, rfl, rfl, ⟨m0, m1⟩, _, rfl, p, _, rfl, dp_left e1, ?_⟩
            refine ⟨_, rfl, _, _, rfl, rfl, P18, _, _, rfl, rfl, .inl ⟨_, rfl, _, rfl, _, _, rfl, rfl, m0, ?_⟩⟩
            exact fin _ _ _ (Int.emod_nonneg _ (by omega)) (Int.emod_lt_of_pos _ m0) (.inl rfl)
          · refine ifF c4 ?_
            exact last
        · refine ifF c3 ?_
          exact last
theorem sc_pick : FnScope ["pen", "items"] ["pen", "items"] (defScope s__law_pick) := ⟨rfl, rfl, rfl, by decide +kernel, rfl, by decide +kernel, by decide +kernel⟩
theorem ok_pick (T : TxtP K mg f1 f2 f3 d1 d2 d3) : FnOk P w K mg base CX0 2 f3 d3 ["pen", "items"] spPick := by
  have sc := sc_pick
  have G__law_draw : FnOk P w K mg base CX0 1 f2 d2 ["pen", "many"] spDraw := ok_draw T
  refine T.D__law_pick.F.ok sc (fun vs H Q E h => ?_) (fun cdv A outer s H vs Q E hr h => ?_)
  · obtain ⟨_, _, _, _, _, rfl, _⟩ := h; rfl
  · obtain ⟨p, c, q, xs, n, rfl, hp, hn, hq, x0, x1, k⟩ := h
    refine ⟨_, (pss_one (ps_ret (pe_ix ix_list (pv 1) (pe_call G__law_draw (hr.mono (by decide)) rfl T.D__law_draw.g T.D__law_draw.F.kp T.D__law_draw.b .nil pass0 (pa_cons (pv 0) (pa_cons (pe_callB call_len (by rfl) T.n_len (by decide +kernel) (pa_cons (pv 1) pa_nil)) pa_nil))) (fun _ _ => rfl)))), ?_⟩
    refine ⟨_, rfl, _, rfl, _, rfl, .ref q, xs.length, rfl, .inl ⟨_, SqL.of hq, rfl⟩, p, c, _, n, rfl, hp, hn, by omega, by omega, fun r H' r0 r1 hp' sb => ?_⟩
    obtain ⟨x, hx⟩ : ∃ x, xs[r.toNat]? = some x := ⟨_, List.getElem?_eq_getElem (by omega)⟩
    refine ⟨q, xs, r, x, rfl, rfl, SqL.of (sb _ _ hq (hp.ne hq)), ?_, k x _ H' hx hp' sb⟩
    have z := atI_nat hx
    rw [Int.toNat_of_nonneg r0] at z
    exact z
end
end Kx

namespace Own
open PySem L2 PyProof.Rows PySem.Froz
/-! ### sets of texts, as they grow -/
/-- the table stands in its order, and is told -/
def Tidy (w : World) (D : SD) : Prop := Ris D.2.2.place.toList ∧ (w.params.followText "set-order" = true ∨ D.2.2.led = true)
theorem tidy_tail {w : World} {ep : Nat} {es : Array (Int × Value)} {t : SetTable} {b : Bool} (h : Tidy w (es, ep, t)) : Tidy w (tailTx ep es t b) := by
  unfold tailTx
  split
  · exact ⟨relayAll_ris t es _, h.2.imp id fun z => (relayAll_led t es _).trans z⟩
  · exact h
theorem tidy_add {w : World} {k : Int} {v : Value} {D : SD} (h : Tidy w D) : Tidy w (addTx k v D) := by
  refine tidy_tail ?_
  have r := layNew_ris D.2.2 D.1 k v h.1
  have l := layNew_led D.2.2 D.1 k v
  split
  · exact ⟨r, h.2.imp id fun z => l.trans z⟩
  · exact ⟨r, h.2.imp id fun z => l.trans z⟩
/-- the set at a holds the texts l, each once -/
def SetS (P : Program) (w : World) (h : Heap) (a : Addr) (l : List Str) : Prop := ∃ D : SD, h.get? a = some (sObj "set" D) ∧ Tidy w D ∧ TxOk P w D l ∧ l.Nodup
section
variable {P : Program} {w : World} {A : Around} {E : Value → Shared → Prop} {s : Shared} {a : Addr} {l : List Str} {k : Str} {u : Tok}
theorem SetS.at {h h' : Heap} (R : SetS P w h a l) (e : ∀ o, h.get? a = some o → h'.get? a = some o) : SetS P w h' a l := by
  obtain ⟨D, q, r⟩ := R
  exact ⟨D, e _ q, r⟩
/-- a text that is there already -/
theorem stay_s {D : SD} {Q : Bool → Shared → Prop} (ho : s.heap.get? a = some (sObj "set" D)) (F : TxOk P w D l) (hb : l.length < scanBound) (hk : k ∈ l) (q : Q false s) : wpAny (model P w) A (setAddHashed a (.str k u) (hashStr w k)) Q E s := by
  obtain ⟨es, ep, t⟩ := D
  have sz : es.size < scanBound := by rw [show es.size = l.length from F.sz]; exact hb
  unfold setAddHashed setAddHashedIn
  refine wpAny_holding (wpAny_bind (wpAny_setState_of ho rfl F.fit ?_))
  dsimp only
  rw [byScan_of (knd := strKind P w) rfl sz F.el]
  simp only [↓reduceIte]
  unfold setAddByScan
  refine wpAny_bind (wpAny_bind (wpAny_rule (wpAny_bind (wpAny_setScan_of (knd := strKind P w) (k := k) (is_str k u) ho rfl F.fit F.el ?_))))
  obtain ⟨e, he, hq⟩ := (F.mem k).mp hk
  cases c : List.findIdx? (fun e => (strKind P w).is k e.2) es.toList with
  | some j => exact wpAny_pure (wpAny_pure q)
  | none =>
    have z := List.findIdx?_eq_none_iff.mp c e he
    rw [hq] at z
    cases z
/-- one more text -/
theorem put_s {Q : Bool → Shared → Prop} (R : SetS P w s.heap a l) (hb : l.length + 1 < scanBound) (q : ∀ h' l' b, Heap.SameBut a s.heap h' → SetS P w h' a l' → (∀ x, x ∈ l' ↔ x ∈ l ∨ x = k) → l'.length ≤ l.length + 1 → Q b { s with heap := h' }) :
    wpAny (model P w) A (setAddHashed a (.str k u) (hashStr w k)) Q E s := by
  obtain ⟨D, ho, td, F, nd⟩ := R
  by_cases c : k ∈ l
  · exact stay_s ho F (by omega) c (q s.heap l false (.refl _ _) ⟨D, ho, td, F, nd⟩ (fun x => ⟨.inl, fun z => z.elim id fun e => e ▸ c⟩) (by omega))
  · refine add_x ho F c hb (q _ (k :: l) true (Heap.SameBut.update _ _ _) ⟨_, get_upd _ ho rfl, tidy_add td, add_ok u F, List.nodup_cons.mpr ⟨c, nd⟩⟩ (fun x => ?_) (Nat.le_refl _))
    rw [List.mem_cons]
    exact Or.comm
/-- set.update's loop over a walk of texts -/
theorem fill_s {I : Addr} {fp wr : List Addr} {n : Nat} {St : Nat → Heap → Prop} {Pv : Nat → Value → Prop} {R : Result → Shared → Prop} (W : Walks P w A.in1 I fp wr n Pv St) (ha : a ∉ fp) (xs : List Str) (hn : n = xs.length) (hb : n + 1 < scanBound) (hv : ∀ i v, Pv i v → ∃ x t, xs[i]? = some x ∧ v = .str x t)
    (fin : ∀ (h' : Heap) tk l', (∀ b o, b ≠ a → b ∉ wr → s.heap.get? b = some o → h'.get? b = some o) → SetS P w h' a l' → (∀ x, x ∈ l' ↔ x ∈ xs) → l'.length ≤ xs.length → R (.ok (.ret .none)) { s with heap := h', toks := tk }) :
    ∀ (m i : Nat) (h1 : Heap) (tk : Nat), i + m = n → St i h1 → (∀ b o, b ≠ a → b ∉ wr → s.heap.get? b = some o → h1.get? b = some o) → (∃ l, SetS P w h1 a l ∧ (∀ x, x ∈ l ↔ x ∈ xs.take i) ∧ l.length ≤ i) →
      codeAny (model P w) A (.builtin "set.update.loop" ⟨[.ref a, .ref I], []⟩) R { s with heap := h1, toks := tk } := by
  have hw : a ∉ wr := fun z => ha (W.sub _ z)
  intro m
  induction m with
  | zero =>
    intro i h1 tk e st k1 ⟨l, hs, hm, hl⟩
    have e' : i = n := e
    subst e'
    refine codeAny_builtin F.entry_set_update_loop ?_
    rw [Around.under_plainId F.plain_set_update_loop _]
    refine wpAny_bind (W.done { s with heap := h1, toks := tk } _ _ st fun h2 t2 k2 => wpAny_pure (fin h2 t2 l (fun b o b1 b2 e => k2 b o b2 (k1 b o b1 b2 e)) (hs.at fun o e => k2 a o hw e) (fun x => ?_) (by omega)))
    rw [hm x, List.take_of_length_le (by omega)]
  | succ m ih =>
    intro i h1 tk e st k1 ⟨l, hs, hm, hl⟩
    refine codeAny_builtin F.entry_set_update_loop ?_
    rw [Around.under_plainId F.plain_set_update_loop _]
    refine wpAny_bind (W.item i { s with heap := h1, toks := tk } _ _ (by omega) st fun v h2 t2 hp st2 k2 => ?_)
    obtain ⟨x, t, hx, rfl⟩ := hv i v hp
    refine wpAny_bind (m := holding _ (setAdd a _)) (wpAny_holding ?_)
    unfold setAdd
    refine wpAny_holding (wpAny_bind ((strKind P w).pyHash (k := x) (is_str x t) ?_))
    refine put_s (s := { s with heap := h2, toks := t2 + 1 }) (hs.at fun o e => k2 a o hw e) (by omega) fun h3 l3 b sb hs3 hm3 hl3 => ?_
    have k3 : ∀ b o, b ≠ a → h2.get? b = some o → h3.get? b = some o := fun b o q z => (sb.2 b q).trans z
    refine wpAny_pure ⟨plainId_quiet F.plain_set_update_loop _, ih (i + 1) h3 _ (by omega) (W.frame _ _ _ st2 fun b hbf o z => k3 b o (fun q => ha (q ▸ hbf)) z) (fun b o b1 b2 z => k3 b o b1 (k2 b o b2 (k1 b o b1 b2 z))) ⟨l3, hs3, fun y => ?_, by omega⟩⟩
    rw [hm3 y, hm y, List.take_add_one, hx]
    simp
end
end Own

namespace Own
open PySem L2 PyProof.Rows PySem.Froz
/-- the set that has just been made -/
def newSetO (w : World) : Obj := { cls := .type "set", dict := none, data := .set #[] 0 (.fresh 0 0 (!w.params.followText "set-order")) }
theorem new_s (P : Program) (w : World) {h : Heap} {a : Addr} (e : h.get? a = some (newSetO w)) : SetS P w h a [] := by
  refine ⟨(#[], 0, .fresh 0 0 (!w.params.followText "set-order")), e, ⟨List.Pairwise.nil, ?_⟩, .nil (by rfl), List.nodup_nil⟩
  show _ ∨ (!w.params.followText "set-order") = true
  cases w.params.followText "set-order"
  · exact .inr rfl
  · exact .inl rfl
/-- what can be walked, and gives the texts xs: x of the type T -/
structure Gives (P : Program) (w : World) (E : Value → Shared → Prop) (s : Shared) (x : Value) (T : String) (xs : List Str) : Prop where
  ty : ∀ s1 : Shared, (∀ b o, s.heap.get? b = some o → s1.heap.get? b = some o) → s1.TypeIs x T
  no1 : isSubtype (.type T) (.type "set") = pure false
  no2 : isSubtype (.type T) (.type "frozenset") = pure false
  no3 : (Value.type T == Value.type "dict") = false
  it : ∀ (A : Around) (s1 : Shared) (Q : Value → Shared → Prop), A.handled = none → (∀ b o, s.heap.get? b = some o → s1.heap.get? b = some o) →
    (∀ (o : Obj) (fp : List Addr) (St : Nat → Heap → Prop) (Pv : Nat → Value → Prop), (∀ B : Around, B.handled = none → Walks P w B s1.heap.objs.size fp [s1.heap.objs.size] xs.length Pv St) →
      (∀ b ∈ fp, b = s1.heap.objs.size ∨ ∃ o, s.heap.get? b = some o) → (∀ i v, Pv i v → ∃ y t, xs[i]? = some y ∧ v = .str y t) → St 0 (s1.heap.push o) → Q (.ref s1.heap.objs.size) { s1 with heap := s1.heap.push o }) →
    wpAny (model P w) A (pyIter x) Q E s1
section
variable {P : Program} {w : World} {A : Around} {E : Value → Shared → Prop} {s : Shared} {x : Value} {T : String} {xs : List Str}
theorem upd_fr {a : Addr} {s1 : Shared} {Q : Unit → Shared → Prop} (g : Gives P w E s x T xs) (hh : A.handled = none) (k : ∀ b o, s.heap.get? b = some o → s1.heap.get? b = some o) (na : s.heap.get? a = none) (S : SetS P w s1.heap a []) (hb : xs.length + 1 < scanBound)
    (q : ∀ (h' : Heap) tk l, (∀ b o, b ≠ a → s1.heap.get? b = some o → h'.get? b = some o) → SetS P w h' a l → (∀ y, y ∈ l ↔ y ∈ xs) → l.length ≤ xs.length → Q () { s1 with heap := h', toks := tk }) :
    wpAny (model P w) A (Builtin.Frozenset.updateFrom "set.__init__" a x) Q E s1 := by
  have ty := g.ty s1 k
  unfold Builtin.Frozenset.updateFrom
  refine wpAny_bind (m := Builtin.Frozenset.isAnySet x) ?_
  · unfold Builtin.Frozenset.isAnySet orM
    refine wpAny_bind (wpAny_isInstance ty g.no1 ?_)
    refine wpAny_isInstance ty g.no2 ?_
    dsimp only
    simp only [Bool.false_eq_true, ↓reduceIte]
    refine wpAny_bind (wpAny_typeOf ty ?_)
    rw [g.no3]
    simp only [Bool.false_eq_true, ↓reduceIte]
    refine wpAny_bind (g.it A s1 _ hh k fun o fp St Pv W hfp hv st => ?_)
    have ha : a < s1.heap.objs.size := by
      obtain ⟨D, e, _⟩ := S
      exact Heap.lt_size e
    have hf : a ∉ fp := fun z => by
      rcases hfp a z with e | ⟨o, e⟩
      · exact Nat.ne_of_lt ha e
      · rw [na] at e; cases e
    refine wpAny_bind (wpAny_runValue ?_)
    refine fill_s (s := { s1 with heap := s1.heap.push o }) (W A.in1 hh) hf xs rfl hb hv (fun h' tk l kk hs hm hl => ?_) xs.length 0 (s1.heap.push o) s1.toks (by omega) st (fun b o' _ _ e => e) ⟨[], S.at fun o' e => Heap.get?_push_of_some _ e, fun y => by simp, Nat.le_refl _⟩
    refine wpAny_pure (q h' tk l (fun b u hb' e => kk b u hb' (fun z => ?_) (Heap.get?_push_of_some _ e)) hs hm hl)
    exact Nat.ne_of_lt (Heap.lt_size e) (List.mem_singleton.mp z)
theorem call_setG (g : Gives P w E s x T xs) (hh : A.handled = none) (hb : xs.length + 1 < scanBound) {Q : Value → Shared → Prop}
    (q : ∀ (h' : Heap) tk l, (∀ b o, s.heap.get? b = some o → h'.get? b = some o) → SetS P w h' s.heap.objs.size l → (∀ y, y ∈ l ↔ y ∈ xs) → l.length ≤ xs.length → Q (.ref s.heap.objs.size) { s with heap := h', toks := tk }) :
    wpAny (model P w) A (call (.type "set") [x]) Q E s := by
  obtain ⟨c, tl, hmro⟩ := F.called_set.mro
  have k1 := F.called_set.made
  have k2 := F.called_set.sub
  have k3 := F.called_set.notType
  have k4 := F.called_set.canCreate
  have k5 := F.typeCall_set_1 x
  refine wpAny_call (codeAny_of_tree ?_)
  show wpAny _ _ (callAny (.type "set") _) _ _ _
  refine wpAny_pure ⟨Code.quiet_builtin _ (by decide +kernel), codeAny_builtin F.entry_type_call ?_⟩
  rw [Around.under_plain (weight_type_call_type "set" [x] []) rfl]
  repeat (any_goals (first | assumption | wp_step))
  have na : s.heap.get? s.heap.objs.size = none := by
    cases e : s.heap.get? s.heap.objs.size with
    | none => rfl
    | some o => exact absurd (Heap.lt_size e) (Nat.lt_irrefl _)
  have hp : ∀ b o, s.heap.get? b = some o → (s.heap.push (newSetO w)).get? b = some o := fun b o e => Heap.get?_push_of_some _ e
  have hn : (s.heap.push (newSetO w)).get? s.heap.objs.size = some (newSetO w) := Heap.get?_push_size _ rfl
  refine codeAny_mono (code_set_led1 x (E := E) (Q₁ := fun obj z => obj = .ref s.heap.objs.size ∧ z = { s with heap := s.heap.push (newSetO w) }) ⟨rfl, rfl⟩) fun r z hr => ?_
  cases r with
  | error e => exact hr
  | ok fl =>
    cases fl with
    | ret obj =>
      obtain ⟨rfl, rfl⟩ := hr
      have hT : Shared.TypeIs { s with heap := s.heap.push (newSetO w) } (.ref s.heap.objs.size) "set" := ⟨_, hn, rfl⟩
      have k6 := F.called_set.init.lookup
      have k7 := F.called_set.init.bind (.ref s.heap.objs.size)
      repeat (any_goals (first | assumption | wp_step))
      refine codeAny_mono (codeAny_call_builtin (R := wants (fun r z => r = .none ∧ ∃ h' tk l, z = { s with heap := h', toks := tk } ∧ (∀ b o, s.heap.get? b = some o → h'.get? b = some o) ∧ SetS P w h' s.heap.objs.size l ∧ (∀ y, y ∈ l ↔ y ∈ xs) ∧ l.length ≤ xs.length) E)
        F.called_set.init.plain F.entry_set_init (check_set_init_1 hT ?_)) fun r2 z2 hr2 => ?_
      · unfold Builtin.«set.__init__» noKeywords
        generalize hU : @Builtin.Frozenset.updateFrom = U
        wp_walk
        subst hU
        refine upd_fr (E := E) (s1 := { s with heap := s.heap.push (newSetO w) }) g hh hp na (new_s P w hn) hb fun h' tk l kk hs hm hl => ?_
        exact wpAny_pure ⟨rfl, h', tk, l, rfl, fun b o e => kk b o (Nat.ne_of_lt (Heap.lt_size e)) (hp b o e), hs, hm, hl⟩
      · cases r2 with
        | error e => exact hr2
        | ok fl2 =>
          cases fl2 with
          | ret r =>
            obtain ⟨rfl, h', tk, l, rfl, kk, hs, hm, hl⟩ := hr2
            repeat (any_goals (first | assumption | wp_step))
            exact q h' tk l kk hs hm hl
          | _ => exact hr2.elim
    | _ => exact hr.elim
end
end Own

namespace Own
open PySem PySem.Spec L2 PyProof.Rows PySem.Froz
section
variable {P : Program} {w : World} {A : Around} {E : Value → Shared → Prop} {s : Shared} {xs : List Str}
/-- a list of texts -/
theorem gives_list {l : Addr} {us : List Value} (hl : s.heap.IsList l us.toArray) (hu : StrsAre us xs) : Gives P w E s (.ref l) "list" xs where
  ty := fun s1 k => by
    obtain ⟨o, e, r⟩ := hl
    exact ⟨o, k l o e, r.1⟩
  no1 := F.sub_list_set
  no2 := F.sub_list_frozenset
  no3 := by decide
  it := fun A s1 Q hh k q => by
    have hl1 : s1.heap.IsList l us.toArray := by
      obtain ⟨o, e, r⟩ := hl
      exact ⟨o, k l o e, r⟩
    have hb : l < s1.heap.objs.size := by
      obtain ⟨o, e, _⟩ := hl1
      exact Heap.lt_size e
    have hz : us.toArray.size = xs.length := by rw [List.size_toArray]; exact hu.length
    refine wpAny_pyIter_list hl1 (q _ [s1.heap.objs.size, l] (fun i h => h.IsListIter s1.heap.objs.size l i ∧ h.IsList l us.toArray) (fun i v => us.toArray[i]? = some v) (fun B hB => ?_) (fun b hb => ?_) (fun i v e => ?_) ⟨⟨_, Heap.get?_push_size _ rfl, rfl, rfl⟩, hl1.push _⟩)
    · rw [← hz]
      exact Walks.list hB _ l (Nat.ne_of_lt hb) us.toArray
    · rcases List.mem_cons.mp hb with z | z
      · exact .inl z
      · rw [List.mem_singleton.mp z]
        obtain ⟨o, e, _⟩ := hl
        exact .inr ⟨o, e⟩
    · obtain ⟨y, t, z, e2⟩ := hu.item i v (by rw [← e]; simp)
      exact ⟨y, t, e2, z⟩
/-- a tuple of texts -/
theorem gives_tup {l : Addr} {us : List Value} (hl : s.heap.IsTuple l us.toArray) (hu : StrsAre us xs) : Gives P w E s (.ref l) "tuple" xs where
  ty := fun s1 k => by
    obtain ⟨o, e, r⟩ := hl
    exact ⟨o, k l o e, r.1⟩
  no1 := F.sub_tuple_set
  no2 := F.sub_tuple_frozenset
  no3 := by decide
  it := fun A s1 Q hh k q => by
    have hl1 : s1.heap.IsTuple l us.toArray := by
      obtain ⟨o, e, r⟩ := hl
      exact ⟨o, k l o e, r⟩
    have hb : l < s1.heap.objs.size := by
      obtain ⟨o, e, _⟩ := hl1
      exact Heap.lt_size e
    have hz : us.toArray.size = xs.length := by rw [List.size_toArray]; exact hu.length
    refine wpAny_pyIter_tuple hl1 (q _ [s1.heap.objs.size, l] (fun i h => h.IsTupleIter s1.heap.objs.size l i ∧ h.IsTuple l us.toArray) (fun i v => us.toArray[i]? = some v) (fun B hB => ?_) (fun b hb => ?_) (fun i v e => ?_) ⟨⟨_, Heap.get?_push_size _ rfl, rfl, rfl⟩, hl1.push _⟩)
    · rw [← hz]
      exact Walks.tuple hB _ l (Nat.ne_of_lt hb) us.toArray
    · rcases List.mem_cons.mp hb with z | z
      · exact .inl z
      · rw [List.mem_singleton.mp z]
        obtain ⟨o, e, _⟩ := hl
        exact .inr ⟨o, e⟩
    · obtain ⟨y, t, z, e2⟩ := hu.item i v (by rw [← e]; simp)
      exact ⟨y, t, e2, z⟩
/-- the letters of a text -/
def letters (x : Str) : List Str := x.cps.toList.map sing
theorem gives_str {x : Str} {t : Tok} : Gives P w E s (.str x t) "str" (letters x) where
  ty := fun s1 _ => typeIs_str _ _ _
  no1 := PySem.F.sub_str_set
  no2 := PySem.F.sub_str_frozenset
  no3 := by decide
  it := fun A s1 Q hh k q => by
    refine wpAny_pyIter_str fun o St W st => q o [s1.heap.objs.size] St (SignAt x) (fun B hB => ?_) (fun b hb => .inl (List.mem_singleton.mp hb)) (fun i v e => ?_) st
    · have hz : (letters x).length = x.cps.size := by unfold letters; rw [List.length_map, Array.length_toList]
      rw [hz]
      exact W B hB
    · obtain ⟨c, u, e1, e2⟩ := e
      refine ⟨sing c, u, ?_, e2⟩
      unfold letters
      rw [List.getElem?_map, Array.getElem?_toList, e1]
      rfl
/-- a row of texts that has all of l, and is no longer -/
theorem perm_s : ∀ (l ys : List Str), l.Nodup → (∀ x ∈ l, x ∈ ys) → ys.length ≤ l.length → ys.Perm l
  | [], ys, _, _, h => by
    cases ys with
    | nil => exact .nil
    | cons y r => simp at h
  | x :: l, ys, nd, hs, h => by
    obtain ⟨n1, n2⟩ := List.nodup_cons.mp nd
    have hx := hs x List.mem_cons_self
    have le : (ys.erase x).length ≤ l.length := by
      rw [List.length_erase_of_mem hx]
      rw [List.length_cons] at h
      omega
    refine (List.perm_cons_erase hx).trans ((perm_s l (ys.erase x) n2 (fun y hy => ?_) le).cons x)
    exact (List.mem_erase_of_ne (fun e : y = x => n1 (e ▸ hy))).mpr (hs y (List.mem_cons_of_mem _ hy))
def textOf : Value → Str
  | .str x _ => x
  | _ => Str.empty
theorem strs_map : ∀ vs : List Value, (∀ v ∈ vs, ∃ x t, v = .str x t) → StrsAre vs (vs.map textOf)
  | [], _ => .nil
  | v :: vs, h => by
    obtain ⟨x, t, rfl⟩ := h v List.mem_cons_self
    exact .cons x t (strs_map vs fun u hu => h u (List.mem_cons_of_mem _ hu))
/-- sorted(set) -/
theorem sorted_s {a : Addr} {l : List Str} {Q : Value → Shared → Prop} (R : SetS P w s.heap a l) (hh : A.handled = none) (hb : l.length < scanBound)
    (q : ∀ s' p (out : Array Value) (c : Nat) (ys : List Str), (∀ b o, s.heap.get? b = some o → s'.heap.get? b = some o) → s'.gens = s.gens → s'.os = s.os → s.heap.objs.size ≤ p →
      s'.heap.get? p = some (seqObj "list" out c) → StrsAre out.toList ys → ys.Perm l → sortedS ys = true → Q (.ref p) s') :
    wpAny (model P w) A (call (.builtin "sorted") [.ref a]) Q E s := by
  obtain ⟨D, ho, td, F, nd⟩ := R
  refine Calls.call_function_entry kind_sorted plain_sorted entry_sorted (args_sorted1 _) ?_
  unfold Builtin.«sorted»
  refine wpAny_bind (m := checkCount "sorted" 1 1 _) (wpAny_pure ?_)
  have sz : D.1.size = l.length := F.sz
  refine wpAny_bind (collect_set (A := A.in1) hh ⟨_, ho, rfl, rfl⟩ F.fit (by rw [sz]; exact hb) td.1 td.2 fun s1 vs k1 z1 g1 o1 pm => ?_)
  have sv : ∀ v ∈ vs, ∃ x t, v = .str x t ∧ ∃ e ∈ D.1.toList, e.2 = v := fun v hv => by
    obtain ⟨e, he, e2⟩ := List.mem_map.mp (pm.mem_iff.mp hv)
    obtain ⟨⟨k, hk, _⟩, _⟩ := F.el e he
    obtain ⟨t, z⟩ := Value.isStrOf_shape (x := k) (v := e.2) hk
    exact ⟨k, t, e2.symm.trans z, e, he, e2⟩
  have hS : StrsAre vs (vs.map textOf) := strs_map vs fun v hv => let ⟨x, t, z, _⟩ := sv v hv; ⟨x, t, z⟩
  have hlen : vs.length = l.length := by rw [pm.length_eq, List.length_map, Array.length_toList]; exact sz
  have hp : (vs.map textOf).Perm l := perm_s l _ nd (fun x hx => by
    obtain ⟨e, he, z⟩ := (F.mem x).mp hx
    obtain ⟨t, z2⟩ := Value.isStrOf_shape (x := x) (v := e.2) z
    exact List.mem_map.mpr ⟨e.2, pm.mem_iff.mpr (List.mem_map.mpr ⟨e, he, rfl⟩), by rw [z2]; rfl⟩) (by rw [List.length_map]; omega)
  have fit : vs.length ≤ sizeLine := by rw [hlen]; exact fits_of_scanBound hb
  refine wpAny_bind (wpAny_newList ?_ fit)
  have hoL : (s1.heap.push (seqObj "list" vs.toArray 0)).get? s1.heap.objs.size = some (seqObj "list" vs.toArray 0) := Heap.get?_push_size _ rfl
  refine wpAny_bind (wpAny_holding (wpAny_call_entry slot_list_sort ⟨_, hoL, rfl⟩ entry_list_sort
    (list_sort_treeKAny strKind_oneLt hoL hS.keysOf (fun v₁ v₂ rest e => keyKind_strs (by rw [← e]; exact hS)) fit fun st a1 a2 => ⟨_, rfl, ?_⟩) (args_list_sort _)))
  obtain ⟨ys, b1, b2, b3⟩ := sorted_out_str hS a1 a2
  obtain ⟨c, hc⟩ := sortedHeap_at (vs := vs) (out := (arrOf st).map (·.2)) hoL
  refine wpAny_pure ⟨_, rfl, q _ s1.heap.objs.size _ c ys (fun b u e => ?_) g1 o1 z1 hc b1 (b2.trans hp) b3⟩
  have e1 := k1 b u e
  have lt := Heap.lt_size e1
  have e2 := sortedHeap_old (h := s1.heap.push (seqObj "list" vs.toArray 0)) (a := s1.heap.objs.size) (vs := vs) (out := (arrOf st).map (·.2)) (b := b) (Nat.ne_of_lt lt) (by rw [size_push']; exact Nat.lt_succ_of_lt lt)
  exact e2.trans (Heap.get?_push_of_some _ e1)
/-- len(set) -/
theorem len_s {a : Addr} {l : List Str} {Q : Value → Shared → Prop} (R : SetS P w s.heap a l) (hb : l.length < scanBound) (q : Q (.int l.length (s.toks + 1)) { s with toks := s.toks + 1 + 1 }) :
    wpAny (model P w) A (call (.builtin "len") [.ref a]) Q E s := by
  obtain ⟨D, ho, td, F, nd⟩ := R
  have sz : D.1.size = l.length := F.sz
  refine call_len_set ho ⟨rfl, rfl, rfl⟩ rfl F.fit ?_ (by rw [sz]; exact q)
  rw [sz]
  have : (l.length : Int) < 4096 := by unfold scanBound at hb; omega
  exact Int.lt_of_lt_of_le this (by decide +kernel)
/-- x in set -/
theorem in_s {a : Addr} {l : List Str} (R : SetS P w s.heap a l) (hb : l.length < scanBound) : s.heap.SetOf (PySem.strKind P w) a (fun k => decide (k ∈ l)) l.length := by
  obtain ⟨D, ho, td, F, nd⟩ := R
  exact ⟨_, D.1, D.2.1, D.2.2, ho, ⟨rfl, rfl, rfl⟩, rfl, F.el, fun k => by rw [decide_eq_true_eq]; exact F.mem k, by rw [show D.1.size = l.length from F.sz]; exact hb, F.fit, F.sz⟩
end
end Own

namespace Own
open PySem PySem.Spec L2 PyProof.Rows PySem.Froz
/-- a set of texts on the tracked heap -/
def SetT (P : Program) (w : World) (a : Addr) (l : List Str) : HO := .ext fun h => SetS P w h a l
theorem setT_ok {P : Program} {w : World} {H : Hp} {h : Heap} {a : Addr} {l : List Str} (R : SetS P w h a l) : ObjOk P w H h a (SetT P w a l) := by
  have ⟨D, e, _⟩ := R
  exact ⟨R, ⟨_, e⟩, fun h1 h2 p k => SetS.at p k⟩
/-- what gives the texts xs: a list, a tuple, a text letter by letter -/
inductive Texts (K : PySem.W.Frag) (H : Hp) : V → List Str → Prop
  | list {a xs} : SqL K H a (xs.map V.str) → Texts K H (.ref a) xs
  | tup {a xs} : SqT K H a (xs.map V.str) → Texts K H (.ref a) xs
  | text (y : Str) : Texts K H (.str y) (letters y)
def rSetT (P : Program) (w : World) (K : PySem.W.Frag) : List V → Hp → VK → Prop := fun vs H Q => ∃ x xs, vs = [x] ∧ Texts K H x xs ∧ xs.length + 1 < scanBound ∧
  ∀ (p : Addr) (l : List Str), H p = none → l.Nodup → (∀ y, y ∈ l ↔ y ∈ xs) → l.length ≤ xs.length → Q (.ref p) (upd H p (SetT P w p l))
def rSortT (P : Program) (w : World) : List V → Hp → VK → Prop := fun vs H Q => ∃ (a : Addr) (l : List Str), vs = [.ref a] ∧ H a = some (SetT P w a l) ∧ l.length < scanBound ∧
  ∀ (p : Addr) (ys : List Str), H p = none → ys.Perm l → sortedS ys = true → Q (.ref p) (upd H p (.lst (ys.map V.str)))
def rLenT (P : Program) (w : World) : List V → Hp → VK → Prop := fun vs H Q => ∃ (a : Addr) (l : List Str), vs = [.ref a] ∧ H a = some (SetT P w a l) ∧ l.length < scanBound ∧ Q (.int l.length) H
theorem SetS.nodup {P : Program} {w : World} {h : Heap} {a : Addr} {l : List Str} (R : SetS P w h a l) : l.Nodup := by
  obtain ⟨_, _, _, _, nd⟩ := R
  exact nd
section
variable {X : Cx}
theorem setT_at {pins : List (Addr × Obj)} {σ : L2.St} {H : Hp} {s : Shared} {a : Addr} {l : List Str} (I : Inv X pins σ H s) (ha : H a = some (SetT X.prog X.w a l)) : SetS X.prog X.w s.heap a l := (I.hok a _ ha).1
theorem IsTup.isTuple {h : Heap} {a : Addr} {items : Array Value} (e : IsTup h a items) : h.IsTuple a items := e
theorem cr_setT (hc : X.calm = true) : CallR X (.type "set") (rSetT X.prog X.w X.K) := by
  intro pins s σ H vs us Q I r h
  obtain ⟨x, xs, rfl, tx, hb, q⟩ := h
  obtain ⟨u, rfl, rx⟩ := vals1 r
  have go : ∀ T, Gives X.prog X.w X.xe s u T xs → wpAny (model X.prog X.w) X.A (call (.type "set") [u]) (EP X pins σ Q) X.xe s := fun T g =>
    call_setG g (I.ok.hd hc) hb fun h' tk l k S hm hl =>
      ⟨.ref _, upd H s.heap.objs.size (SetT X.prog X.w s.heap.objs.size l), I.laid (t' := tk) k (Nat.le_refl _) (setT_ok S), rfl, q _ l (I.hok.fresh (Nat.le_refl _)) S.nodup hm hl⟩
  cases tx with
  | list hs =>
    obtain ⟨its, rv, hl, _⟩ := I.list hs
    cases rx
    exact go _ (gives_list hl.isList rv.strs)
  | tup hs =>
    obtain ⟨its, rv, hl, _⟩ := I.tuple hs
    cases rx
    exact go _ (gives_tup (IsTup.isTuple hl) rv.strs)
  | text y =>
    obtain ⟨t, rfl⟩ := rx
    exact go _ gives_str
theorem cr_sortT (hc : X.calm = true) : CallR X (.builtin "sorted") (rSortT X.prog X.w) := by
  intro pins s σ H vs us Q I r h
  obtain ⟨a, l, rfl, ha, hb, q⟩ := h
  rw [Vals.ref1 r]
  refine sorted_s (setT_at I ha) (I.ok.hd hc) hb fun s' p out c ys k g o hp hg hi pm hs => ?_
  have hz : (ys.map V.str).length ≤ sizeLine := by rw [List.length_map, pm.length_eq]; exact fits_of_scanBound hb
  have hn : H p = none := I.hok.fresh hp
  have J : Inv X pins σ (upd H p (.lst (ys.map V.str))) { s with heap := s'.heap, gens := s'.gens, drawn := s'.drawn, toks := s'.toks } :=
    I.call (ch := []) (Un.laid k hp hn) (I.hok.laid k hp ⟨hz, out.toList, c, vals_of_strs hi, hg⟩) (by rw [g]; exact I.bare) (fun _ z => nomatch z)
  have e : s' = { s with heap := s'.heap, gens := s'.gens, drawn := s'.drawn, toks := s'.toks } := by
    obtain ⟨_, _, _, _, _⟩ := s'
    obtain ⟨_, _, _, _, _⟩ := s
    cases o
    rfl
  rw [e]
  exact ⟨.ref p, _, J, rfl, q p ys hn pm hs⟩
theorem cr_lenT : CallR X (.builtin "len") (rLenT X.prog X.w) := by
  intro pins s σ H vs us Q I r h
  obtain ⟨a, l, rfl, ha, hb, q⟩ := h
  rw [Vals.ref1 r]
  exact len_s (setT_at I ha) hb ⟨.int l.length, H, I.tok _, ⟨_, rfl⟩, q⟩
/-- a text in a set, or not in it -/
def rInT (P : Program) (w : World) (f : Bool → Bool) : V → V → Hp → VK → Prop := fun x y H Q => ∃ (k : Str) (a : Addr) (l : List Str), x = .str k ∧ y = .ref a ∧ H a = some (SetT P w a l) ∧ l.length < scanBound ∧ Q (.bl (f (decide (k ∈ l)))) H
theorem or_inT : OpR X (compareOp .In) (rInT X.prog X.w id) := by
  intro pins s σ H x y v u Q I rx ry h
  obtain ⟨k, a, l, rfl, rfl, ha, hb, q⟩ := h
  obtain ⟨t, rfl⟩ := rx
  cases ry
  exact wpAny_inSet_of (knd := PySem.strKind X.prog X.w) (k := k) (is_str k t) rfl (in_s (setT_at I ha) hb) ⟨.bl _, H, I.tok _, rfl, q⟩
theorem or_notinT : OpR X (compareOp .NotIn) (rInT X.prog X.w not) := by
  intro pins s σ H x y v u Q I rx ry h
  obtain ⟨k, a, l, rfl, rfl, ha, hb, q⟩ := h
  obtain ⟨t, rfl⟩ := rx
  cases ry
  exact wpAny_notInSet_of (knd := PySem.strKind X.prog X.w) (k := k) (is_str k t) rfl (in_s (setT_at I ha) hb) ⟨.bl _, H, I.tok _, rfl, q⟩
end
end Own

namespace Own
open PySem PySem.Spec L2 PyProof.Rows PySem.Froz
/-! ### the keys of a row of texts: each once, in ascending order -/
def leS (a b : Str) : Prop := ltCps b.cps.toList a.cps.toList = false
theorem leS_iff (a b : Str) : leS a b ↔ a.cps.toList ≤ b.cps.toList := by
  unfold leS
  rw [ltCps_eq, decide_eq_false_iff_not]
  exact List.not_lt
theorem leS_trans {a b c : Str} (h : leS a b) (k : leS b c) : leS a c := (leS_iff a c).mpr (List.le_trans ((leS_iff a b).mp h) ((leS_iff b c).mp k))
theorem leS_total (a b : Str) : leS a b ∨ leS b a := (List.le_total a.cps.toList b.cps.toList).imp (leS_iff a b).mpr (leS_iff b a).mpr
theorem leS_anti {a b : Str} (h : leS a b) (k : leS b a) : a = b := by
  have e := List.le_antisymm ((leS_iff a b).mp h) ((leS_iff b a).mp k)
  obtain ⟨⟨x⟩⟩ := a
  obtain ⟨⟨y⟩⟩ := b
  have e' : x = y := e
  rw [e']
theorem pair_rising : ∀ (l : List Str) (p : Str), risingS p l = true → (p :: l).Pairwise leS
  | [], p, _ => List.pairwise_singleton _ _
  | x :: l, p, h => by
    unfold risingS at h
    rw [Bool.and_eq_true] at h
    have ih := pair_rising l x h.2
    have px : leS p x := by
      have q := h.1
      unfold leS
      simpa using q
    refine List.pairwise_cons.mpr ⟨fun y hy => ?_, ih⟩
    rcases List.mem_cons.mp hy with rfl | z
    · exact px
    · exact leS_trans px ((List.pairwise_cons.mp ih).1 y z)
theorem pair_sorted {l : List Str} (h : sortedS l = true) : l.Pairwise leS := by
  cases l with
  | nil => exact .nil
  | cons x r => exact pair_rising r x h
theorem same_sorted : ∀ (xs ys : List Str), xs.Perm ys → xs.Pairwise leS → ys.Pairwise leS → xs = ys
  | [], ys, p, _, _ => (List.nil_perm.mp p).symm
  | x :: r, [], p, _, _ => (List.perm_nil.mp p)
  | x :: r, y :: t, p, a, b => by
    obtain ⟨a1, a2⟩ := List.pairwise_cons.mp a
    obtain ⟨b1, b2⟩ := List.pairwise_cons.mp b
    have e : x = y := by
      have hx := p.mem_iff.mp (List.mem_cons_self (a := x) (l := r))
      have hy := p.mem_iff.mpr (List.mem_cons_self (a := y) (l := t))
      rcases List.mem_cons.mp hx with z | z
      · exact z
      · rcases List.mem_cons.mp hy with z2 | z2
        · exact z2.symm
        · exact leS_anti (a1 y z2) (b1 x z)
    subst e
    rw [same_sorted r t p.cons_inv a2 b2]
instance (a b : Str) : Decidable (leS a b) := by unfold leS; exact inferInstance
def once (xs : List Str) : List Str := xs.foldr (fun x l => if x ∈ l then l else x :: l) []
theorem once_mem (y : Str) : ∀ xs : List Str, y ∈ once xs ↔ y ∈ xs
  | [] => Iff.rfl
  | x :: xs => by
    have ih := once_mem y xs
    show y ∈ (if x ∈ once xs then once xs else x :: once xs) ↔ _
    split
    · rename_i c
      rw [List.mem_cons, ih]
      exact ⟨.inr, fun z => z.elim (fun e => by rw [e]; exact (once_mem x xs).mp c) id⟩
    · rw [List.mem_cons, List.mem_cons, ih]
theorem once_nodup : ∀ xs : List Str, (once xs).Nodup
  | [] => List.nodup_nil
  | x :: xs => by
    show (if x ∈ once xs then once xs else x :: once xs).Nodup
    split
    · exact once_nodup xs
    · rename_i c
      exact List.nodup_cons.mpr ⟨c, once_nodup xs⟩
theorem once_len : ∀ xs : List Str, (once xs).length ≤ xs.length
  | [] => Nat.le_refl _
  | x :: xs => by
    have ih := once_len xs
    show (if x ∈ once xs then once xs else x :: once xs).length ≤ _
    split
    · rw [List.length_cons]; omega
    · rw [List.length_cons, List.length_cons]; omega
/-- tuple(sorted(set(xs))) -/
def kl (xs : List Str) : List Str := (once xs).mergeSort fun a b => decide (leS a b)
theorem kl_perm (xs : List Str) : (kl xs).Perm (once xs) := List.mergeSort_perm _ _
theorem kl_mem {xs : List Str} {y : Str} : y ∈ kl xs ↔ y ∈ xs := (kl_perm xs).mem_iff.trans (once_mem y xs)
theorem kl_nodup (xs : List Str) : (kl xs).Nodup := (kl_perm xs).nodup_iff.mpr (once_nodup xs)
theorem kl_len (xs : List Str) : (kl xs).length ≤ xs.length := by rw [(kl_perm xs).length_eq]; exact once_len xs
theorem kl_pair (xs : List Str) : (kl xs).Pairwise leS := by
  have h := List.pairwise_mergeSort (le := fun a b => decide (leS a b)) (fun a b c h k => by
    rw [decide_eq_true_eq] at h k ⊢
    exact leS_trans h k) (fun a b => by
    rw [Bool.or_eq_true, decide_eq_true_eq, decide_eq_true_eq]
    exact leS_total a b) (once xs)
  exact h.imp fun z => by rwa [decide_eq_true_eq] at z
theorem perm_mem {l ys : List Str} (a : l.Nodup) (b : ys.Nodup) (h : ∀ y, y ∈ l ↔ y ∈ ys) : l.Perm ys := by
  refine (perm_s l ys a (fun x hx => (h x).mp hx) ?_).symm
  exact (perm_len ys l b fun x hx => (h x).mpr hx)
where perm_len : ∀ (u v : List Str), u.Nodup → (∀ x ∈ u, x ∈ v) → u.length ≤ v.length
  | [], _, _, _ => Nat.zero_le _
  | x :: u, v, nd, hs => by
    obtain ⟨n1, n2⟩ := List.nodup_cons.mp nd
    have hx := hs x List.mem_cons_self
    have ih := perm_len u (v.erase x) n2 fun y hy => (List.mem_erase_of_ne (fun e : y = x => n1 (e ▸ hy))).mpr (hs y (List.mem_cons_of_mem _ hy))
    have e := List.length_erase_of_mem hx
    have p := List.length_pos_of_mem hx
    rw [List.length_cons]
    omega
theorem kl_uniq {xs ys : List Str} (a : ys.Nodup) (s : ys.Pairwise leS) (h : ∀ y, y ∈ ys ↔ y ∈ xs) : ys = kl xs :=
  same_sorted _ _ (perm_mem a (kl_nodup xs) fun y => (h y).trans kl_mem.symm) s (kl_pair xs)
theorem kl_of {xs l ys : List Str} (p : ys.Perm l) (s : sortedS ys = true) (nd : l.Nodup) (h : ∀ y, y ∈ l ↔ y ∈ xs) : ys = kl xs :=
  kl_uniq (p.nodup_iff.mpr nd) (pair_sorted s) fun y => p.mem_iff.trans (h y)
theorem kl_congr {xs ys : List Str} (h : ∀ y, y ∈ xs ↔ y ∈ ys) : kl xs = kl ys := kl_uniq (kl_nodup xs) (kl_pair xs) fun y => kl_mem.trans (h y)
theorem kl_kl (xs : List Str) : kl (kl xs) = kl xs := kl_congr fun _ => kl_mem
theorem len_once {xs l : List Str} (nd : l.Nodup) (h : ∀ y, y ∈ l ↔ y ∈ xs) : l.length = (kl xs).length := (perm_mem nd (kl_nodup xs) fun y => (h y).trans kl_mem.symm).length_eq
theorem kl_sub {xs ys : List Str} (h : ∀ y ∈ xs, y ∈ ys) : (kl xs).length ≤ (kl ys).length := perm_mem.perm_len _ _ (kl_nodup xs) fun y hy => kl_mem.mpr (h y (kl_mem.mp hy))
end Own

/-! list comprehensions of any number of clauses -/
namespace Own
open PySem PySem.Spec PyProof.Rows L2
/-- what a clause whose tests hold does next -/
def onward (elt : Expr) (gs : List Comprehension) (scope : Scope) (pos : Pos) (d : Nat) (acc : Value) (env : Env) : Sem Unit := match gs[d]? with
  | some g' => do
    let x ← eval g'.iter env
    standAt g'.iter.pos
    let x ← if g'.is_async != 0 then foldedIterable g'.iter x else foldedSetIterable g'.iter env x
    let _ ← runOwn (.compStart (.ListComp elt gs scope pos) d (← holding [x] (if g'.is_async != 0 then asyncIter x else pyIter x)) acc env) env
  | none => do
    let _ ← call (.builtin "list.append") [acc, ← eval elt env]
/-- the clause at d is there, or d is the end -/
def Nextly (gs : List Comprehension) (d : Nat) : Prop := gs[d]? = none ∨ ∃ t i fs, gs[d]? = some ⟨t, i, fs, 0⟩
theorem turn_of {elt tg iter : Expr} {ifs : List Expr} {gs : List Comprehension} {scope : Scope} {pos : Pos} {d : Nat} {it acc : Value} {env : Env} (hg : gs[d]? = some ⟨tg, iter, ifs, 0⟩) (hn : Nextly gs (d + 1)) :
    compTurn (.ListComp elt gs scope pos) d it acc env = (do
      standAt iter.pos
      match ← pyNext it with
      | none => pure (.done .next)
      | some v =>
        letOwnedTupleGo tg it v
        assign tg env v
        let mut ok := true
        for c in ifs do
          if ok then ok ← isTrue c env (eval c env)
        if ok then
          onward elt gs scope pos (d + 1) acc env
          again (.compLoop (.ListComp elt gs scope pos) d it acc env)
        else again (.compLoop (.ListComp elt gs scope pos) d it acc env)) := by
  unfold compTurn onward
  dsimp only
  rw [hg]
  have z : ((0 : Int) != 0) = false := rfl
  rcases hn with hn | ⟨t, i, fs, hn⟩
  · rw [hn]
    simp only [z, Bool.false_eq_true, if_false, bind_assoc, pure_bind]
    try rfl
  · rw [hn]
    simp only [z, Bool.false_eq_true, if_false, bind_assoc, pure_bind]
    try rfl
section
variable {prog : Program} {w : World} {A : Around} {R : Result → Shared → Prop} {s : Shared} {elt tg iter : Expr} {ifs : List Expr} {gs : List Comprehension} {scope : Scope} {pos : Pos} {d : Nat} {it acc : Value} {env : Env}
/-- a clause's loop, nothing raised -/
theorem loop_of (hg : gs[d]? = some ⟨tg, iter, ifs, 0⟩) (hn : Nextly gs (d + 1)) (I : Nat → Shared → Prop)
    (turn : ∀ n s, I n s → wpAny (model prog w) A (pyNext it) (fun r s1 => match r with
      | none => R (.ok .next) s1
      | some v => wpAny (model prog w) A (letOwnedTupleGo tg it v) (fun _ s2 => wpAny (model prog w) A (assign tg env v) (fun _ s3 =>
          wpAny (model prog w) A (forIn ifs true fun c r => if r = true then do let ok ← isTrue c env (eval c env); pure (ForInStep.yield ok) else pure (ForInStep.yield r)) (fun ok s4 =>
            if ok = true then wpAny (model prog w) A (onward elt gs scope pos (d + 1) acc env) (fun _ s5 => ∃ m, m < n ∧ I m s5) (fun _ _ => False) s4 else ∃ m, m < n ∧ I m s4) (fun _ _ => False) s3) (fun _ _ => False) s2) (fun _ _ => False) s1) (fun _ _ => False) s)
    (n : Nat) (h : I n s) : codeAny (model prog w) A (.compLoop (.ListComp elt gs scope pos) d it acc env) R s := by
  have no : ∀ (E : Value → Shared → Prop) (x : Value) (z : Shared), False → E x z := fun _ _ _ z => z.elim
  refine codeAny_loop rfl I (fun n s hI => ?_) n h
  show wpAny _ A ((compTurn (.ListComp elt gs scope pos) d it acc env).onRaise (fun x => do noteFrame x env; theTreesLotGoes x)) _ _ s
  refine wpAny_noted ?_
  rw [turn_of hg hn]
  refine wpAny_bind (wpAny_standAt (wpAny_bind (wpAny_mono (turn n s hI) (fun r s1 h1 => ?_) (no _))))
  cases r with
  | none => exact wpAny_pure h1
  | some v =>
    refine wpAny_bind (wpAny_mono h1 (fun _ s2 h2 => wpAny_bind (wpAny_mono h2 (fun _ s3 h3 => wpAny_bind (wpAny_mono h3 (fun b s4 h4 => ?_) (no _))) (no _))) (no _))
    cases b with
    | false => exact wpAny_pure ⟨rfl, h4⟩
    | true => exact wpAny_bind (wpAny_mono h4 (fun _ s5 h5 => wpAny_pure ⟨rfl, h5⟩) (no _))
theorem start_of (hg : gs[d]? = some ⟨tg, iter, ifs, 0⟩) (h0 : codeAny (model prog w) A (.compLoop (.ListComp elt gs scope pos) d it acc env) R s)
    (h : wpAny (model prog w) A (pyIter it) (fun it' s' => codeAny (model prog w) A (.compLoop (.ListComp elt gs scope pos) d it' acc env) R s') (fun _ _ => False) s) :
    codeAny (model prog w) A (.compStart (.ListComp elt gs scope pos) d it acc env) R s := by
  refine codeAny_of_tree ?_
  show wpAny _ _ ((compStart (.ListComp elt gs scope pos) d it acc env).onRaise (fun x => do noteFrame x env; standAt theWindowsPlace)) _ _ s
  refine wpAny_notedAt ?_
  unfold compStart
  have hc : clausesOf (.ListComp elt gs scope pos) = gs := rfl
  rw [hc, hg]
  show wpAny _ _ (ask >>= _) _ _ s
  refine wpAny_bind (wpAny_askSetting (wpAny_ite ?_))
  split
  · first
      | exact wpAny_bind (wpAny_pure (wpAny_pure (And.intro rfl h0)))
      | exact wpAny_pure (And.intro rfl h0)
  · refine wpAny_bind (wpAny_rule ?_)
    show wpAny _ _ (standAt iter.pos >>= _) _ _ s
    exact wpAny_bind (wpAny_standAt (wpAny_bind (wpAny_mono h (fun it' s' h' => wpAny_pure (And.intro rfl h')) fun _ _ x => x.elim)))
end
/-- from slots and heap to what is reached -/
abbrev TN := L2.St → Hp → (Hp → Prop) → Prop
/-- the onward step at depth d, the list at D, the slots vs its own -/
structure Does (Y : Cx) (elt : Expr) (gs : List Comprehension) (scope : Scope) (pos : Pos) (d : Nat) (D : Addr) (vs : List Nat) (t : TN) : Prop where
  run : ∀ (pins : List (Addr × Obj)) (s : Shared) (σ : L2.St) (H : Hp) (Nx : Hp → Prop) (R : Shared → Prop), Inv Y pins σ H s → t σ H Nx →
    (∀ s' σ' H', Inv Y pins σ' H' s' → σ'.length = σ.length → (∀ (i : Nat) v, i ∉ vs → σ[i]? = some (some v) → σ'[i]? = some (some v)) → Nx H' → R s') →
    wpAny (model Y.prog Y.w) Y.A (onward elt gs scope pos d (.ref D) Y.env) (fun _ => R) (fun _ _ => False) s
def tEmit (te : TE) (D : Addr) : TN := fun σ H Nx => te σ H fun y H4 => ∃ acc, H4 D = some (.lst acc) ∧ acc.length < sizeLine ∧ Nx (upd H4 D (.lst (acc ++ [y])))
def tLoop (g : TG) (tt : TT) (t : TN) (vs : List Nat) (J : It) : TN := fun σ H Nx => ∃ W : Nat → Nat → Hp → Prop, (∃ m, W 0 m H) ∧ ∀ j k H, W j k H →
  (J.stop j H ∧ Nx H) ∨ (J.go j H ∧ ∃ N1 : Hp → Prop, (∀ H', N1 H' → ∃ k', k' < k ∧ W (j + 1) k' H') ∧ ∀ x H', J.yld j H x H' → g x (wipe σ vs) H' fun σ3 H5 => wipe σ3 vs = wipe σ vs ∧ tt σ3 H5 fun b H6 =>
    if b = true then t σ3 H6 N1 else N1 H6)
/-- a further clause, and what stands behind it -/
def tFor (wi : TI) (g : TG) (tt : TT) (vs : List Nat) (t : Addr → TN) : Addr → TN := fun D σ H Nx => wi σ H fun J H4 => tLoop g tt (t D) vs J σ H4 Nx
section
variable {Y : Cx} {elt tg iter : Expr} {ifs : List Expr} {gs : List Comprehension} {scope : Scope} {pos : Pos} {d : Nat} {D : Addr} {g : TG} {tt : TT} {te : TE} {t : TN} {wi : TI} {vs vs1 : List Nat}
theorem does_emit (hg : gs[d]? = none) (hx : Y.xe = fun _ _ => False) (pe : PE Y elt te) : Does Y elt gs scope pos d D [] (tEmit te D) := by
  refine ⟨fun pins s σ H Nx R I h k => ?_⟩
  unfold onward
  rw [hg]
  refine wpAny_bind ?_
  have r := pe.run pins s σ H _ I h
  rw [hx] at r
  refine thnF r fun z s1 ⟨y, H1, I1, r1, acc, e, hz, nx⟩ => ?_
  exact wpAny_bind (app_ok I1 e hz r1 fun s2 I2 => wpAny_pure (k s2 σ _ I2 rfl (fun _ _ _ e => e) nx))
theorem loop_n (hg : gs[d]? = some ⟨tg, iter, ifs, 0⟩) (hn : Nextly gs (d + 1)) (hc : Y.calm = true) (hx : Y.xe = fun _ _ => False) (pg : PG Y tg g) (pt : PTs Y ifs tt) (dn : Does Y elt gs scope pos (d + 1) D vs1 t) (hv : ∀ i ∈ vs1, i ∈ vs)
    {pins : List (Addr × Obj)} {s : Shared} {σ : L2.St} {H : Hp} {Nx : Hp → Prop} {R : Result → Shared → Prop} {J : It} {fp : List Addr} {it : Addr} {tn : Nat → Heap → Prop} (I : Inv Y pins σ H s) (T : Turn Y.prog Y.w Y.K tg J fp it tn) (st : tn 0 s.heap) (hf : ∀ b ∈ fp, FpOk Y pins H b)
    (h : tLoop g tt t vs J σ H Nx) (fin : ∀ s' H', Inv Y pins (wipe σ vs) H' s' → Nx H' → R (.ok .next) s') :
    codeAny (model Y.prog Y.w) Y.A (.compLoop (.ListComp elt gs scope pos) d (.ref it) (.ref D) Y.env) R s := by
  obtain ⟨W, ⟨m0, w0⟩, turn⟩ := h
  have ok : ∀ {H' : Hp}, (∀ b ∈ fp, H' b = none) → ∀ b ∈ fp, FpOk Y pins H' b := fun hn b hb => ⟨hn b hb, (hf b hb).2⟩
  refine loop_of hg hn (fun n z => ∃ i H', Inv Y pins (wipe σ vs) H' z ∧ tn i z.heap ∧ (∀ b ∈ fp, H' b = none) ∧ W i n H') ?_ m0 ⟨0, H, I.weak (wipe_length _ _) fun _ _ e => (wipe_some e).1, st, fun b hb => (hf b hb).1, w0⟩
  rintro n z ⟨i, H1, I1, st1, n1, w1⟩
  rcases turn i n H1 w1 with ⟨stop, nx⟩ | ⟨go, N1, back, step⟩
  · refine thnF (T.done Y rfl rfl rfl hc i pins z _ H1 (fun _ _ => False) I1 (ok n1) st1 stop) fun r z2 ⟨hr, I2⟩ => ?_
    rw [hr]
    exact fin z2 H1 I2 nx
  · refine thnF (T.item Y rfl rfl rfl hc i pins z _ H1 (fun _ _ => False) I1 (ok n1) st1 go) fun r z2 ⟨u, hr, h2⟩ => ?_
    rw [hr]
    refine thnF h2 fun _ z3 ⟨x, H3, I3, r3, y3, st3, n3⟩ => ?_
    have J3 := I3.pinned (ok n3) (T.obj _ _ st3)
    have a := pg.run _ z3 _ H3 x u _ J3 r3 (step x H3 y3)
    rw [hx] at a
    refine thnF a fun _ z4 ⟨σ4, H4, I4, e4, q4⟩ => ?_
    have b := pt.run _ z4 σ4 H4 _ I4 q4
    rw [hx] at b
    refine thnF b fun ok5 z5 ⟨H5, I5, q5⟩ => ?_
    -- the end of a turn
    have fin1 : ∀ z6 σ6 H6, Inv Y (pins ++ pinsAt fp z3.heap) σ6 H6 z6 → σ6.length = σ4.length → (∀ (j : Nat) v, j ∉ vs1 → σ4[j]? = some (some v) → σ6[j]? = some (some v)) → N1 H6 → ∃ m, m < n ∧ ∃ i H', Inv Y pins (wipe σ vs) H' z6 ∧ tn i z6.heap ∧ (∀ b ∈ fp, H' b = none) ∧ W i m H' := fun z6 σ6 H6 I6 l6 k6 nx => by
      obtain ⟨m, lt, w6⟩ := back H6 nx
      have pin : ∀ b ∈ fp, ∀ o, z3.heap.get? b = some o → z6.heap.get? b = some o ∧ H6 b = none := fun b hb o e =>
        have q := I6.pin (b, o) (List.mem_append_right _ (List.mem_append_right _ (mem_pinsAt hb e)))
        ⟨q.1, q.2.1⟩
      refine ⟨m, lt, i + 1, H6, I6.unpinned.weak ?_ fun j v e => ?_, T.keep _ _ _ st3 fun b hb o e => (pin b hb o e).1, fun b hb => ?_, w6⟩
      · rw [l6, ← e4, wipe_length]
      · rw [← e4] at e
        obtain ⟨p, q⟩ := wipe_some e
        exact k6 j v (fun m => q (hv j m)) p
      · obtain ⟨o, e, _⟩ := T.obj _ _ st3 b hb
        exact (pin b hb o e).2
    cases ok5 with
    | false =>
      simp only [Bool.false_eq_true, if_false] at q5 ⊢
      exact fin1 z5 σ4 H5 I5 rfl (fun _ _ _ e => e) q5
    | true =>
      simp only [if_true] at q5 ⊢
      exact dn.run _ z5 σ4 H5 N1 _ I5 q5 fin1
theorem does_for {t : Addr → TN} (hg : gs[d]? = some ⟨tg, iter, ifs, 0⟩) (hn : Nextly gs (d + 1)) (hc : Y.calm = true) (hx : Y.xe = fun _ _ => False) (pi : PI Y tg iter wi) (hs : ∀ x, foldedSetIterable iter Y.env x = pure x) (pg : PG Y tg g) (pt : PTs Y ifs tt)
    (dn : Does Y elt gs scope pos (d + 1) D vs1 (t D)) (hv : ∀ i ∈ vs1, i ∈ vs) : Does Y elt gs scope pos d D vs (tFor wi g tt vs t D) := by
  refine ⟨fun pins s σ H Nx R I h k => ?_⟩
  unfold onward
  rw [hg]
  have r := pi.run pins s σ H _ I h
  rw [hx] at r
  refine wpAny_bind (thnF r fun v s1 h1 => wpAny_bind (wpAny_standAt ?_))
  dsimp only
  rw [show ((0 : Int) != 0) = false from rfl]
  simp only [Bool.false_eq_true, if_false]
  refine wpAny_bind (wpAny_of_eq (hs v) (wpAny_bind (wpAny_holding (thnF h1 fun itv s2 h2 => ?_))))
  obtain ⟨it, fp, tn, J, H2, e, I2, T, st2, f2, q⟩ := h2
  subst e
  have lp : codeAny (model Y.prog Y.w) Y.A (.compLoop (.ListComp elt gs scope pos) d (.ref it) (.ref D) Y.env) (fun r s' => match r with
      | .ok _ => R s'
      | .error _ => False) s2 :=
    loop_n hg hn hc hx pg pt dn hv I2 T st2 f2 q fun s' H' I' nx => k s' _ H' I' (wipe_length _ _) (fun i v hi e => by rw [wipe_out hi]; exact e) nx
  refine wpAny_bind (wpAny_runOwn ?_)
  rw [Around.mark_none]
  refine codeAny_mono (start_of hg lp (T.self Y.A 0 _ _ _ st2 lp)) fun r s' hr => ?_
  cases r with
  | ok f => exact wpAny_pure hr
  | error e => exact hr.elim
end
section
variable {X : Cx} {elt tg iter : Expr} {ifs : List Expr} {rest : List Comprehension} {scope : Scope} {own : List (Str × Nat)} {pos : Pos} {g : TG} {tt : TT} {wi : TI} {vs1 : List Nat} {t : Addr → TN}
/-- [elt for tg in iter if .. for ..]; t: what stands behind the first clause -/
def tLcN (wi : TI) (g : TG) (tt : TT) (t : Addr → TN) (vs : List Nat) : TE := fun σ H Q => wi σ H fun J H1 => ∀ D, H1 D = none → tLoop g tt (t D) vs J (wipe σ vs) (upd H1 D (.lst [])) (Q (.ref D))
theorem lcN_core {pins : List (Addr × Obj)} {s : Shared} {σ : L2.St} {H : Hp} {Q : VK} {pos' : Pos} {use : Option (Value → Sem Unit)} {Qf : Value → Shared → Prop} (hc : X.calm = true) (hN : X.N.Nodup) (hi : PI X tg iter wi) (ok : BlkOk X.N X.env.scope scope own) (hn : Nextly (⟨tg, iter, ifs, 0⟩ :: rest) 1) (hv : ∀ i ∈ vs1, i ∈ own.map (·.2))
    (hg : ∀ (s : Shared) (H : Hp) (C : Addr) (cl : List (Str × Addr)) (fp : List Addr), PG (X.blk s H scope (compEnvC scope cl C X.env) fp) tg g) (ht : ∀ (s : Shared) (H : Hp) (C : Addr) (cl : List (Str × Addr)) (fp : List Addr), PTs (X.blk s H scope (compEnvC scope cl C X.env) fp) ifs tt)
    (hd : ∀ (s : Shared) (H : Hp) (C : Addr) (cl : List (Str × Addr)) (fp : List Addr) (D : Addr), Does (X.blk s H scope (compEnvC scope cl C X.env) fp) elt (⟨tg, iter, ifs, 0⟩ :: rest) scope pos 1 D vs1 (t D)) (hs : ∀ x, foldedSetIterable iter X.env x = pure x)
    (I : Inv X pins σ H s) (h : tLcN wi g tt t (own.map (·.2)) σ H Q) (done : ∀ D C s' m H', Inv X pins σ H' s' → Q (.ref D) H' → s'.heap.Ns C m → FpOk X pins H' C → compPost (model X.prog X.w) X.A X.xe use Qf (.ref D) C (.ok .next) s') :
    wpAny (model X.prog X.w) X.A (comprehension (.ListComp elt (⟨tg, iter, ifs, 0⟩ :: rest) scope pos) scope X.env pos' (newList []) false (eval iter X.env) use) Qf X.xe s := by
  have cl : closureFor scope X.env = pure (cloFrom X.env.cells scope.names []) := closure_ok fun y hy e => I.ok.has _ (ok.free y hy e)
  refine wpAny_comprehension_free (use := use) rfl hs cl ok.kind (fun y hy e => (ok.uniq y hy).trans (by rw [e])) (thn (hi.run pins s σ H _ I h) fun xv s1 h1 => thn h1 fun itv s2 h2 => ?_)
  obtain ⟨it, fp, tn, J, H2, rfl, I2, T, st2, f2, q⟩ := h2
  refine wpAny_newObj_type (newEnv_comp ?_) (Nat.zero_le _)
  have q := q s2.heap.objs.size (I2.hok.fresh (Nat.le_refl _))
  have lt : ∀ b ∈ fp, b < s2.heap.objs.size := fun b hb => by
    obtain ⟨o, e, _⟩ := T.obj _ _ st2 b hb
    exact Heap.lt_size e
  have new : ∀ b o, s2.heap.get? b = some o → (s2.heap.push { cls := .type "list", data := .seq ([] : List Value).toArray }).get? b = some o := fun b o e => Heap.get?_push_of_some _ e
  -- the list is there
  have I3 := I2.laid (t' := s2.toks) (o := .lst []) (a := s2.heap.objs.size) new (Nat.le_refl _) ⟨Nat.zero_le _, [], 0, .nil, Heap.get?_push_size _ rfl⟩
  have f3 : ∀ b ∈ fp, FpOk X pins (upd H2 s2.heap.objs.size (.lst [])) b := fun b hb => ⟨by rw [upd_ne (Nat.ne_of_lt (lt b hb))]; exact (f2 b hb).1, (f2 b hb).2⟩
  have st3 := T.keep _ _ _ st2 fun b _ o e => new b o e
  generalize s2.heap.objs.size = D at q I3 f3 lt ⊢
  generalize upd H2 D (.lst []) = H3 at q I3 f3 ⊢
  have lt3 : ∀ b ∈ fp, b < (s2.heap.push { cls := .type "list", data := .seq ([] : List Value).toArray }).objs.size := fun b hb => by
    obtain ⟨o, e, _⟩ := T.obj _ _ st3 b hb
    exact Heap.lt_size e
  change Inv X pins σ H3 { s2 with heap := s2.heap.push { cls := .type "list", data := .seq ([] : List Value).toArray } } at I3
  generalize hz : ({ s2 with heap := s2.heap.push { cls := .type "list", data := .seq ([] : List Value).toArray } } : Shared) = z at I3 ⊢
  have ez : s2.heap.push { cls := .type "list", data := .seq ([] : List Value).toArray } = z.heap := by rw [← hz]
  rw [ez] at st3 lt3
  have I4 := block_start I3 ok hN fun b hb => ⟨f3 b hb, lt3 b hb⟩
  have st4 := T.keep 0 _ (pushCells (z.heap.push { cls := .type "dict", data := .dict #[] }) scope.names) st3 fun b _ o e => pushCells_keeps _ _ _ _ (Heap.get?_push_of_some _ e)
  have pg := hg z H3 z.heap.objs.size (cellsFrom (z.heap.objs.size + 1) scope.names (cloFrom X.env.cells scope.names [])) fp
  have pt := ht z H3 z.heap.objs.size (cellsFrom (z.heap.objs.size + 1) scope.names (cloFrom X.env.cells scope.names [])) fp
  have pd := hd z H3 z.heap.objs.size (cellsFrom (z.heap.objs.size + 1) scope.names (cloFrom X.env.cells scope.names [])) fp D
  change codeAny (model X.prog X.w) X.A (.compStart _ 0 (.ref it) (.ref D) (compEnvC scope (cellsFrom (z.heap.objs.size + 1) scope.names (cloFrom X.env.cells scope.names [])) z.heap.objs.size X.env)) (compPost (model X.prog X.w) X.A X.xe use Qf (.ref D) z.heap.objs.size) { z with heap := pushCells (z.heap.push { cls := .type "dict", data := .dict #[] }) scope.names }
  have fY : ∀ b ∈ fp, FpOk (X.blk z H3 scope (compEnvC scope (cellsFrom (z.heap.objs.size + 1) scope.names (cloFrom X.env.cells scope.names [])) z.heap.objs.size X.env) fp) [] H3 b := fun b hb =>
    ⟨(f3 b hb).1, (I4.ok.exf b hb).1, I4.ok.exfs b hb, .inl hb, fun x c e => (I4.ok.exf b hb).2 x c e, fun p hp => nomatch (show p ∈ ([] : List (Addr × Obj)) from by simpa using hp)⟩
  have free : X.calm = true := hc
  have lp := loop_n (Y := X.blk z H3 scope (compEnvC scope (cellsFrom (z.heap.objs.size + 1) scope.names (cloFrom X.env.cells scope.names [])) z.heap.objs.size X.env) fp) (R := compPost (model X.prog X.w) X.A X.xe use Qf (.ref D) z.heap.objs.size) rfl hn hc rfl pg pt pd hv I4 T st4 fY q fun s' H' I' q' => by
    have J : Inv X pins σ H' s' := I3.call' (ch := fp) I'.os I'.base I'.hok I'.bare fun b hb =>
      have f := f3 b hb
      ⟨f.2.2.2.1, f.2.1, f.2.2.2.2.1, f.2.2.2.2.2⟩
    obtain ⟨m, ns, _⟩ := I'.loc
    have f := I3.fpOk (b := z.heap.objs.size) (H' := H') (Nat.le_refl _) I'.free
    exact done D _ s' m H' J q' ns f
  exact codeAny_compStart_list lp (T.self X.A 0 _ _ _ st4 lp)
theorem pe_lcN (hc : X.calm = true) (hN : X.N.Nodup) (hi : PI X tg iter wi) (ok : BlkOk X.N X.env.scope scope own) (hn : Nextly (⟨tg, iter, ifs, 0⟩ :: rest) 1) (hv : ∀ i ∈ vs1, i ∈ own.map (·.2))
    (hg : ∀ (s : Shared) (H : Hp) (C : Addr) (cl : List (Str × Addr)) (fp : List Addr), PG (X.blk s H scope (compEnvC scope cl C X.env) fp) tg g) (ht : ∀ (s : Shared) (H : Hp) (C : Addr) (cl : List (Str × Addr)) (fp : List Addr), PTs (X.blk s H scope (compEnvC scope cl C X.env) fp) ifs tt)
    (hd : ∀ (s : Shared) (H : Hp) (C : Addr) (cl : List (Str × Addr)) (fp : List Addr) (D : Addr), Does (X.blk s H scope (compEnvC scope cl C X.env) fp) elt (⟨tg, iter, ifs, 0⟩ :: rest) scope pos 1 D vs1 (t D)) (hs : ∀ x, foldedSetIterable iter X.env x = pure x := by intro _; rfl) :
    PE X (.ListComp elt (⟨tg, iter, ifs, 0⟩ :: rest) scope pos) (tLcN wi g tt t (own.map (·.2))) := by
  refine ⟨fun pins s σ H Q I h => ?_⟩
  rw [eval_ListComp]
  refine lcN_core hc hN hi ok hn hv hg ht hd hs I h fun D C s' m H' J q ns f => ⟨m, ns, fun h sb => ⟨.ref D, H', J.turned (t' := s'.toks) (fun b o hb e => (sb.2 b hb).trans e) f.1 f.2.1 f.2.2.2.1 f.2.2.2.2.1 f.2.2.2.2.2, rfl, q⟩⟩
/-- y = [..] on one line, y a local -/
theorem ps_setLcN {i : Nat} {y : Str} {py spos : Pos} (hc : X.calm = true) (hN : X.N.Nodup) (hy : X.N[i]? = some y) (hyl : X.env.scope.names.lookup y = some .local)
    (hsw : swapsWith (.ListComp elt (⟨tg, iter, ifs, 0⟩ :: rest) scope pos) (some (.Name y py)) spos.line X.env = pure true) (hi : PI X tg iter wi) (ok : BlkOk X.N X.env.scope scope own) (hn : Nextly (⟨tg, iter, ifs, 0⟩ :: rest) 1) (hv : ∀ i ∈ vs1, i ∈ own.map (·.2))
    (hg : ∀ (s : Shared) (H : Hp) (C : Addr) (cl : List (Str × Addr)) (fp : List Addr), PG (X.blk s H scope (compEnvC scope cl C X.env) fp) tg g) (ht : ∀ (s : Shared) (H : Hp) (C : Addr) (cl : List (Str × Addr)) (fp : List Addr), PTs (X.blk s H scope (compEnvC scope cl C X.env) fp) ifs tt)
    (hd : ∀ (s : Shared) (H : Hp) (C : Addr) (cl : List (Str × Addr)) (fp : List Addr) (D : Addr), Does (X.blk s H scope (compEnvC scope cl C X.env) fp) elt (⟨tg, iter, ifs, 0⟩ :: rest) scope pos 1 D vs1 (t D)) (hs : ∀ x, foldedSetIterable iter X.env x = pure x := by intro _; rfl) :
    PS X (.Assign [.Name y py] (.ListComp elt (⟨tg, iter, ifs, 0⟩ :: rest) scope pos) spos) (tAsg (tLcN wi g tt t (own.map (·.2))) (gName i)) := by
  refine ⟨fun pins s σ H D I h => ?_⟩
  rw [exec_Assign_Name_used _ _ _ _ hsw]
  refine wpAny_bind (wpAny_standAt (wpAny_bind (m := comprehension _ scope X.env _ (newList []) false (eval iter X.env) (some (assign (.Name y py) X.env)) >>= fun _ => pure ()) ?_))
  refine wpAny_bind (thn (lcN_core (Q := fun x H1 => gName i x σ H1 D.nx) (Qf := fun _ z => SP X pins D .next z) hc hN hi ok hn hv hg ht hd hs I h fun L C s1 m H1 J q ns f => ?_) fun _ z hq => wpAny_pure (wpAny_pure hq))
  show wpAny _ _ (assign (.Name y py) X.env (.ref L)) _ _ _
  refine wpAny_assign_Name (store_ok2 (v := V.ref L) J hN hy (.inl hyl) rfl (fun s2 J2 ⟨a, sb, ha⟩ => ?_) (.inr hyl))
  have ne : C ≠ a := ha.elim (fun z => by rw [z]; exact f.2.1) fun z e => f.2.2.2.2.1 y a z e.symm
  exact ⟨m, ns.sameBut sb ne, fun h3 sb3 => ⟨_, H1, J2.turned (t' := s2.toks) (fun b o hb e => (sb3.2 b hb).trans e) f.1 f.2.1 f.2.2.2.1 f.2.2.2.2.1 f.2.2.2.2.2, q⟩⟩
end
section
variable {J : It} {n : Nat} {G : Hp → Prop} {Yl : Nat → Hp → V → Hp → Prop} {g : TG} {tt : TT} {t : TN} {vs : List Nat} {σ : L2.St} {H : Hp} {Nx : Hp → Prop}
/-- a clause's turns, by what holds after each; τ: the slots ahead of a turn, written out -/
theorem lp_it (τ : L2.St) (ht : wipe σ vs = τ) (w : L2.Walk J n G Yl) (Pv : Nat → Hp → Prop) (h0 : Pv 0 H) (hG : ∀ i H, i ≤ n → Pv i H → G H)
    (hs : ∀ i x H H', i < n → Pv i H → Yl i H x H' → g x τ H' fun σ3 H5 => wipe σ3 vs = τ ∧ tt σ3 H5 fun b H6 => if b = true then t σ3 H6 (Pv (i + 1)) else Pv (i + 1) H6) (hd : ∀ H, Pv n H → Nx H) :
    tLoop g tt t vs J σ H Nx := by
  subst ht
  refine ⟨fun i m H => m + i = n ∧ Pv i H, ⟨n, rfl, h0⟩, fun i m H ⟨e, p⟩ => ?_⟩
  have q := hG i H (by omega) p
  by_cases c : i = n
  · subst c
    exact .inl ⟨w.stops H q, hd H p⟩
  · exact .inr ⟨w.goes i H (by omega) q, Pv (i + 1), fun H' p' => ⟨m - 1, by omega, by omega, p'⟩, fun x H' y => hs i x H H' (by omega) p (w.yields i H x H' (by omega) q y)⟩
end
end Own

/-! zip over a text and a tuple -/
namespace Own
open PySem PySem.Spec PyProof.Rows L2 PySem.Froz
/-- an iterator that is drawn from by zip: n items; At i k: k of them have come from the one at i; keep: what else it rests on -/
structure Draws (P : Program) (w : World) (n : Nat) (itm : Nat → Value → Prop) (At : Addr → Nat → Heap → Prop) (rest : Addr → Prop) : Prop where
  keep : ∀ i k h h', At i k h → (∀ b o, b = i ∨ rest b → h.get? b = some o → h'.get? b = some o) → At i k h'
  has : ∀ i k h, At i k h → ∃ o, h.get? i = some o ∧ ∀ v, o.data ≠ .cell v
  item : ∀ (A : Around) (E : Value → Shared → Prop) (s : Shared) (Q : Value → Shared → Prop) i k, k < n → At i k s.heap → ¬ rest i → (∀ v h' tk, itm k v → At i (k + 1) h' → Heap.SameBut i s.heap h' → Q v { s with heap := h', toks := tk }) →
    wpAny (model P w) A (Builtin.SmallTypes.nextOf (.ref i)) Q E s
  stop : ∀ (A : Around) (E : Value → Shared → Prop) (s : Shared) (Q : Value → Shared → Prop) i, A.handled = none → At i n s.heap → (∀ h' e, Heap.ExtBut i s.heap h' → (∃ o, h'.get? e = some o ∧ o.cls = .type "StopIteration") → E (.ref e) { s with heap := h' }) →
    wpAny (model P w) A (Builtin.SmallTypes.nextOf (.ref i)) Q E s
/-- a text's letters -/
theorem draws_text (P : Program) (w : World) (x : Str) (u : Tok) : Draws P w x.cps.size (fun k v => ∃ c t, x.cps[k]? = some c ∧ v = .str (sing c) t) (fun i k h => h.get? i = some (itObj x u k)) (fun _ => False) where
  keep := fun i k h h' e kk => kk i _ (.inl rfl) e
  has := fun i k h e => ⟨_, e, fun v z => nomatch z⟩
  item := fun A E s Q i k lt ho _ q => by
    obtain ⟨c, hc⟩ : ∃ c, x.cps[k]? = some c := ⟨_, Array.getElem?_eq_getElem lt⟩
    have hT : s.TypeIs (.ref i) "str_ascii_iterator" := ⟨_, ho, rfl⟩
    have hd : (itObj x u k).data = .fields #[.str x u, .int k 0] := rfl
    unfold Builtin.SmallTypes.nextOf
    refine wpAny_bind (wpAny_callSpecial?_slot (name := Str.ofString "__next__") hT F.slot_str_ascii_iterator_next
      (wpAny_call_entry F.slot_str_ascii_iterator_next hT F.entry_str_ascii_iterator_next ?_ (F.args_str_ascii_iterator_next_1 _)))
    refine wpAny_bind (m := field (.ref i) 0) (wpAny_field ho hd (x := .str x u) rfl ?_)
    refine wpAny_bind (m := field (.ref i) 1) (wpAny_field ho hd (x := .int k 0) rfl ?_)
    simp only [Int.toNat_natCast, hc]
    refine wpAny_bind (wpAny_setField ho hd (by simp) (wpAny_bind (wpAny_mkStr (wpAny_pure ⟨_, rfl, wpAny_pure (q _ _ _ ⟨c, _, hc, rfl⟩ ?_ (Heap.SameBut.update ..))⟩) (by show 1 ≤ sizeLine; decide))))
    have e := upd_const (Obj.mapFields (fun vs => vs.setIfInBounds 1 (rawInt ((k : Int) + 1)))) ho
    show (s.heap.update i (Obj.mapFields (fun vs => vs.setIfInBounds 1 (rawInt ((k : Int) + 1))))).get? i = _
    rw [e, it_step x u k]
    exact get_upd _ ho rfl
  stop := fun A E s Q i hh ho q => by
    have hc : x.cps[x.cps.size]? = none := by simp
    have hT : s.TypeIs (.ref i) "str_ascii_iterator" := ⟨_, ho, rfl⟩
    have hd : (itObj x u x.cps.size).data = .fields #[.str x u, .int x.cps.size 0] := rfl
    unfold Builtin.SmallTypes.nextOf
    refine wpAny_bind (wpAny_callSpecial?_slot (name := Str.ofString "__next__") hT F.slot_str_ascii_iterator_next
      (wpAny_call_entry F.slot_str_ascii_iterator_next hT F.entry_str_ascii_iterator_next ?_ (F.args_str_ascii_iterator_next_1 _)))
    refine wpAny_bind (m := field (.ref i) 0) (wpAny_field ho hd (x := .str x u) rfl ?_)
    refine wpAny_bind (m := field (.ref i) 1) (wpAny_field ho hd (x := .int x.cps.size 0) rfl ?_)
    simp only [Int.toNat_natCast, hc]
    refine wpAny_bind (wpAny_rule (wpAny_bind (wpAny_setField ho hd (by simp) (wpAny_bind (wpAny_letGo ?_)))))
    refine wpAny_bind (m := newExc (.type "StopIteration") []) ?_
    simp only [newExc, newTuple]
    refine wpAny_bind (wpAny_newObj_type ?_ (by size_fits))
    refine wpAny_bind (m := firstArgMember _ _) (wpAny_of_eq (a := Value.none) (by first | rfl | (simp only [firstArgMember]; rfl)) (wpAny_newObj_type ?_ (by size_fits)))
    simp only [raiseNew]
    refine wpAny_bind (wpAny_handled ?_)
    first | rw [show A.in1.handled = none from hh] | rw [hh]
    exact wpAny_bind (wpAny_pure (wpAny_throw (q _ _ (((Heap.SameBut.update ..).extBut.push _).push _) ⟨_, Heap.get?_push_size _ rfl, rfl⟩)))
/-- a tuple's items -/
theorem draws_tup (P : Program) (w : World) (l : Addr) (items : Array Value) : Draws P w items.size (fun k v => items[k]? = some v) (fun i k h => h.IsTupleIter i l k ∧ h.IsTuple l items ∧ l ≠ i) (fun b => b = l) where
  keep := fun i k h h' e kk => ⟨e.1.at fun o z => kk i o (.inl rfl) z, (by
    obtain ⟨_, ⟨o, z, r⟩, _⟩ := e
    exact ⟨o, kk l o (.inr rfl) z, r⟩), e.2.2⟩
  has := fun i k h e => by
    obtain ⟨⟨o, z, _, d⟩, _⟩ := e
    exact ⟨o, z, fun v y => by rw [d] at y; cases y⟩
  item := fun A E s Q i k lt ho _ q => RZ.nextOf_tuple_item ho.1 ho.2.1 (Array.getElem?_eq_getElem lt) fun h' it sb => q _ h' s.toks (Array.getElem?_eq_getElem lt) ⟨it, (by
    obtain ⟨o, z, r⟩ := ho.2.1
    exact ⟨o, (sb.2 l ho.2.2).trans z, r⟩), ho.2.2⟩ sb
  stop := fun A E s Q i hh ho q => RZ.nextOf_tuple_end hh ho.1 ho.2.1 (by simp) q
/-- the places of a zip's turning are unlike; what its sources rest on is elsewhere -/
structure Far (z TI TO i1 i2 : Addr) (r1 r2 : Addr → Prop) : Prop where
  a : TI ≠ z
  b : TO ≠ z
  c : i1 ≠ z
  d : i2 ≠ z
  e : TI ≠ TO
  f : TI ≠ i1
  g : TI ≠ i2
  h : TO ≠ i1
  i : TO ≠ i2
  j : i1 ≠ i2
  r : ∀ q, r1 q ∨ r2 q → q ≠ z ∧ q ≠ TO ∧ q ≠ i1 ∧ q ≠ i2
section
variable {P : Program} {w : World} {A : Around} {E : Value → Shared → Prop} {s : Shared} {n1 n2 k : Nat} {it1 it2 : Nat → Value → Prop} {At1 At2 : Addr → Nat → Heap → Prop} {r1 r2 : Addr → Prop} {z TI TO i1 i2 : Addr} {x0 y0 : Value}
/-- both have an item -/
theorem zip_item (D1 : Draws P w n1 it1 At1 r1) (D2 : Draws P w n2 it2 At2 r2) (F : Far z TI TO i1 i2 r1 r2) (hz : IsZip s.heap z TI TO .none) (hI : IsPair s.heap TI (.ref i1) (.ref i2)) (hO : IsPair s.heap TO x0 y0) (h1 : At1 i1 k s.heap) (h2 : At2 i2 k s.heap) (l1 : k < n1) (l2 : k < n2)
    {Q : Value → Shared → Prop} (q : ∀ (h' : Heap) tk v1 v2, it1 k v1 → it2 k v2 → IsZip h' z TI TO (rawInt s.heap.objs.size) → IsPair h' TO v1 v2 → At1 i1 (k + 1) h' → At2 i2 (k + 1) h' → IsPair h' s.heap.objs.size v1 v2 →
      (∀ c o, c ≠ z → c ≠ TO → c ≠ i1 → c ≠ i2 → s.heap.get? c = some o → h'.get? c = some o) → Q (.ref s.heap.objs.size) { s with heap := h', toks := tk }) :
    wpAny (model P w) A (Builtin.«zip.__next__» ⟨[.ref z], []⟩) (fun fin s' => ∃ v, fin = .done (.ret v) ∧ Q v s') E s := by
  have n1r : ¬ r1 i1 := fun z => (F.r i1 (.inl z)).2.2.1 rfl
  have n2r : ¬ r2 i2 := fun z => (F.r i2 (.inr z)).2.2.2 rfl
  refine wpAny_bind (m := field (.ref z) 2) (wpAny_field hz rfl (x := .bool false) rfl ?_)
  refine wpAny_bind (m := field (.ref z) 3) (wpAny_field hz rfl (x := .ref TI) rfl ?_)
  refine wpAny_bind (wpAny_seqItems hI rfl ?_)
  refine wpAny_bind (m := Builtin.SmallTypes.ownedTupleIsFree (.ref z)) ?_
  unfold Builtin.SmallTypes.ownedTupleIsFree
  refine wpAny_bind (wpAny_field hz rfl (x := .none) rfl (wpAny_pure ?_))
  simp only [if_true]
  refine wpAny_bind (wpAny_rule (wpAny_bind (wpAny_field hz rfl (x := .ref TO) rfl (wpAny_bind (wpAny_setField_rec hz (by simp) fun ha za sa => ?_)))))
  replace za : IsZip ha z TI TO .ellipsis := za
  refine wpAny_bind ?_
  simp only [List.zipIdx_cons, List.zipIdx_nil, List.forIn_cons, List.forIn_nil]
  -- the first
  refine wpAny_bind (wpAny_bind (wpAny_onRaise (wpAny_bind (m := Builtin.SmallTypes.nextOf (.ref i1)) ?_)))
  refine D1.item _ _ { s with heap := ha } _ i1 k l1 (D1.keep _ _ _ _ h1 fun b o hb e => (sa.2 b (hb.elim (fun e => e ▸ F.c) fun r => (F.r b (.inl r)).1)).trans e) n1r fun v1 hb tb p1 a1 sb => wpAny_pure ?_
  have Ob : IsPair hb TO x0 y0 := (sb.2 TO F.h).trans ((sa.2 TO F.b).trans hO)
  refine wpAny_bind (wpAny_seqItems Ob rfl (wpAny_bind (wpAny_updateSeq_pair Ob fun hc Oc sc => wpAny_bind (wpAny_letGo (wpAny_pure ?_)))))
  replace Oc : IsPair hc TO v1 y0 := Oc
  -- the second
  refine wpAny_bind (wpAny_bind (wpAny_onRaise (wpAny_bind (m := Builtin.SmallTypes.nextOf (.ref i2)) ?_)))
  have h2c : At2 i2 k hc := D2.keep _ _ _ _ h2 fun b o hb e => by
    have f : b ≠ z ∧ b ≠ TO ∧ b ≠ i1 := hb.elim (fun e => by rw [e]; exact ⟨F.d, F.i.symm, F.j.symm⟩) fun r => have g := F.r b (.inr r); ⟨g.1, g.2.1, g.2.2.1⟩
    exact (sc.2 b f.2.1).trans ((sb.2 b f.2.2).trans ((sa.2 b f.1).trans e))
  refine D2.item _ _ { s with heap := hc, toks := tb } _ i2 k l2 h2c n2r fun v2 hd td p2 a2 sd => wpAny_pure ?_
  have Od : IsPair hd TO v1 y0 := (sd.2 TO F.i).trans Oc
  refine wpAny_bind (wpAny_seqItems Od rfl (wpAny_bind (wpAny_updateSeq_pair Od fun he Oe se => wpAny_bind (wpAny_letGo (wpAny_pure (wpAny_pure ?_))))))
  replace Oe : IsPair he TO v1 v2 := Oe
  refine wpAny_bind (wpAny_seqItems Oe rfl (wpAny_bind (wpAny_newTuple ?_)))
  have sz : he.objs.size = s.heap.objs.size := by rw [se.1, sd.1, sc.1, sb.1, sa.1]
  -- what stands as before
  have kp : ∀ c o, c ≠ z → c ≠ TO → c ≠ i1 → c ≠ i2 → s.heap.get? c = some o → he.get? c = some o := fun c o c1 c2 c3 c4 e => (se.2 c c2).trans ((sd.2 c c4).trans ((sc.2 c c2).trans ((sb.2 c c3).trans ((sa.2 c c1).trans e))))
  have ze : IsZip he z TI TO .ellipsis := (se.2 z F.b.symm).trans ((sd.2 z F.d.symm).trans ((sc.2 z F.b.symm).trans ((sb.2 z F.c.symm).trans za)))
  have a1e : At1 i1 (k + 1) he := D1.keep _ _ _ _ a1 fun b o hb e => by
    have f : b ≠ TO ∧ b ≠ i2 := hb.elim (fun e => by rw [e]; exact ⟨F.h.symm, F.j⟩) fun r => have g := F.r b (.inl r); ⟨g.2.1, g.2.2.2⟩
    exact (se.2 b f.1).trans ((sd.2 b f.2).trans ((sc.2 b f.1).trans e))
  have a2e : At2 i2 (k + 1) he := D2.keep _ _ _ _ a2 fun b o hb e => by
    have f : b ≠ TO := hb.elim (fun e => by rw [e]; exact F.i.symm) fun r => (F.r b (.inr r)).2.1
    exact (se.2 b f).trans e
  refine wpAny_bind (m := Builtin.SmallTypes.ownedTupleHandOut (.ref z) (.ref he.objs.size)) ?_
  unfold Builtin.SmallTypes.ownedTupleHandOut
  have zf : IsZip (he.push { cls := .type "tuple", data := .seq #[v1, v2] }) z TI TO .ellipsis := Heap.get?_push_of_some _ ze
  refine wpAny_bind (wpAny_setField_rec zf (by simp) fun hg zg sg => ?_)
  replace zg : IsZip hg z TI TO (rawInt he.objs.size) := zg
  refine wpAny_setField_rec zg (by simp) fun hh zh sh => ?_
  replace zh : IsZip hh z TI TO (rawInt he.objs.size) := zh
  have up : ∀ c o, c ≠ z → he.get? c = some o → hh.get? c = some o := fun c o c1 e => (sh.2 c c1).trans ((sg.2 c c1).trans (Heap.get?_push_of_some _ e))
  have zlt : z < he.objs.size := Heap.lt_size ze
  have new : IsPair hh he.objs.size v1 v2 := (sh.2 _ (Nat.ne_of_gt zlt)).trans ((sg.2 _ (Nat.ne_of_gt zlt)).trans (Heap.get?_push_size _ rfl))
  rw [sz] at zh new
  refine wpAny_pure ⟨_, rfl, ?_⟩
  show Q (.ref he.objs.size) _
  rw [sz]
  refine q hh _ v1 v2 p1 p2 zh (up _ _ F.b Oe) (D1.keep _ _ _ _ a1e fun b o hb e => up b o (hb.elim (fun e => e ▸ F.c) fun r => (F.r b (.inl r)).1) e) (D2.keep _ _ _ _ a2e fun b o hb e => up b o (hb.elim (fun e => e ▸ F.d) fun r => (F.r b (.inr r)).1) e) new fun c o c1 c2 c3 c4 e => up c o c1 (kp c o c1 c2 c3 c4 e)
/-- the first is at its end -/
theorem zip_stop (D1 : Draws P w n1 it1 At1 r1) (F : Far z TI TO i1 i2 r1 r2) (hh : A.handled = none) (hz : IsZip s.heap z TI TO .none) (hI : IsPair s.heap TI (.ref i1) (.ref i2)) (h1 : At1 i1 n1 s.heap)
    {Q : Fin → Shared → Prop} (q : ∀ (h' : Heap) e, (∀ c o, c ≠ z → c ≠ TO → c ≠ i1 → c ≠ i2 → s.heap.get? c = some o → h'.get? c = some o) → (∃ o, h'.get? e = some o ∧ o.cls = .type "StopIteration") → E (.ref e) { s with heap := h' }) :
    wpAny (model P w) A (Builtin.«zip.__next__» ⟨[.ref z], []⟩) Q E s := by
  refine wpAny_bind (m := field (.ref z) 2) (wpAny_field hz rfl (x := .bool false) rfl ?_)
  refine wpAny_bind (m := field (.ref z) 3) (wpAny_field hz rfl (x := .ref TI) rfl ?_)
  refine wpAny_bind (wpAny_seqItems hI rfl ?_)
  refine wpAny_bind (m := Builtin.SmallTypes.ownedTupleIsFree (.ref z)) ?_
  unfold Builtin.SmallTypes.ownedTupleIsFree
  refine wpAny_bind (wpAny_field hz rfl (x := .none) rfl (wpAny_pure ?_))
  simp only [if_true]
  refine wpAny_bind (wpAny_rule (wpAny_bind (wpAny_field hz rfl (x := .ref TO) rfl (wpAny_bind (wpAny_setField_rec hz (by simp) fun ha za sa => ?_)))))
  replace za : IsZip ha z TI TO .ellipsis := za
  refine wpAny_bind ?_
  simp only [List.zipIdx_cons, List.zipIdx_nil, List.forIn_cons, List.forIn_nil]
  refine wpAny_bind (wpAny_bind (wpAny_onRaise (wpAny_bind (m := Builtin.SmallTypes.nextOf (.ref i1)) ?_)))
  refine D1.stop _ _ { s with heap := ha } _ i1 hh (D1.keep _ _ _ _ h1 fun b o hb e => (sa.2 b (hb.elim (fun e => e ▸ F.c) fun r => (F.r b (.inl r)).1)).trans e) fun hb e kb ⟨o, ho, co⟩ => ?_
  have zb : IsZip hb z TI TO .ellipsis := kb z _ F.c.symm za
  have ne : e ≠ z := fun x => by
    rw [x, zb] at ho
    cases ho
    simp at co
  exact wpAny_setField_rec zb (by simp) fun hc zc sc => q hc e (fun c o c1 _ c3 _ x => (sc.2 c c1).trans (kb c o c3 ((sa.2 c c1).trans x))) ⟨o, (sc.2 e ne).trans ho, co⟩
end
end Own

namespace Own
open PySem PySem.Spec PyProof.Rows L2 PySem.Froz
abbrev zs1 (h : Heap) (x : Str) (u : Tok) : Heap := h.push (itObj x u 0)
abbrev zs2 (h : Heap) (x : Str) (u : Tok) (l : Addr) : Heap := (zs1 h x u).push { cls := .type "tuple_iterator", data := .fields #[.ref l, .int 0 0] }
abbrev zs3 (h : Heap) (x : Str) (u : Tok) (l : Addr) : Heap := (zs2 h x u l).push { cls := .type "tuple", data := .seq #[.ref h.objs.size, .ref (zs1 h x u).objs.size] }
abbrev zs4 (h : Heap) (x : Str) (u : Tok) (l : Addr) : Heap := (zs3 h x u l).push { cls := .type "tuple", data := .seq #[.none, .none] }
abbrev zs5 (h : Heap) (x : Str) (u : Tok) (l : Addr) : Heap := (zs4 h x u l).push { cls := .type "zip", data := .fields #[.none, .bool false, .bool false, .ref (zs2 h x u l).objs.size, .ref (zs3 h x u l).objs.size] }
theorem zip_made (x : Str) (u : Tok) (l : Addr) (ys : Array Value) (ha : x.cps.all (· < 128) = true) :
    Meets (Builtin.«zip.__new__» ⟨[.type "zip", .str x u, .ref l], []⟩) (fun _ R s => s.heap.IsTuple l ys ∧ R (.ok (.ret (.ref (zs4 s.heap x u l).objs.size))) { s with heap := zs5 s.heap x u l }) :=
  .of_wp fun prog w A R s h => by
    obtain ⟨hp, g, d, tk, os⟩ := s
    obtain ⟨hl, h⟩ := h
    have hsub := sub_zip
    have hL : Heap.IsTuple (Shared.heap ⟨hp.push { cls := .type "str_ascii_iterator", data := .fields #[.str x u, .int 0 0] }, g, d, tk, os⟩) l ys := Heap.IsTuple.push hl _
    wp_walk using wpAny_pyIter_ascii (x := x) (t := u) ha, wpAny_pyIter_tuple hL
    exact ⟨_, rfl, h⟩
section
variable {P : Program} {w : World} {A : Around} {E : Value → Shared → Prop} {s : Shared} {n1 n2 k : Nat} {it1 it2 : Nat → Value → Prop} {At1 At2 : Addr → Nat → Heap → Prop} {r1 r2 : Addr → Prop} {z TI TO i1 i2 : Addr} {x0 y0 : Value}
theorem call_zipS {x : Str} {u : Tok} {l : Addr} {ys : Array Value} {Q : Value → Shared → Prop} (ha : x.cps.all (· < 128) = true) (hl : s.heap.IsTuple l ys)
    (q : ∀ h', IsZip h' (s.heap.objs.size + 4) (s.heap.objs.size + 2) (s.heap.objs.size + 3) .none → IsPair h' (s.heap.objs.size + 2) (.ref s.heap.objs.size) (.ref (s.heap.objs.size + 1)) → IsPair h' (s.heap.objs.size + 3) .none .none →
      h'.get? s.heap.objs.size = some (itObj x u 0) → h'.IsTupleIter (s.heap.objs.size + 1) l 0 → (∀ c o, s.heap.get? c = some o → h'.get? c = some o) → Q (.ref (s.heap.objs.size + 4)) { s with heap := h' }) :
    wpAny (model P w) A (call (.type "zip") [.str x u, .ref l]) Q E s := by
  refine callType_new F.called_zip (by decide) (F.typeCall_zip_2 _ _) (F.newCall_zip_2 _ _) (fun obj => F.args_object_init_3 obj _ _) F.entry_zip_new (zip_made x u l ys ha) ⟨hl, ?_⟩
  have e1 : (zs1 s.heap x u).objs.size = s.heap.objs.size + 1 := Heap.size_push ..
  have e2 : (zs2 s.heap x u l).objs.size = s.heap.objs.size + 2 := by rw [Heap.size_push, e1]
  have e3 : (zs3 s.heap x u l).objs.size = s.heap.objs.size + 3 := by rw [Heap.size_push, e2]
  have e4 : (zs4 s.heap x u l).objs.size = s.heap.objs.size + 4 := by rw [Heap.size_push, e3]
  have up : ∀ {h : Heap} {o : Obj} {c : Addr} {v : Obj}, h.get? c = some v → (h.push o).get? c = some v := fun e => Heap.get?_push_of_some _ e
  have g5 : (zs5 s.heap x u l).get? (zs4 s.heap x u l).objs.size = some _ := Heap.get?_push_size _ rfl
  have g4 : (zs5 s.heap x u l).get? (zs3 s.heap x u l).objs.size = some _ := up (Heap.get?_push_size _ rfl)
  have g3 : (zs5 s.heap x u l).get? (zs2 s.heap x u l).objs.size = some _ := up (up (Heap.get?_push_size _ rfl))
  have g2 : (zs5 s.heap x u l).get? (zs1 s.heap x u).objs.size = some _ := up (up (up (Heap.get?_push_size _ rfl)))
  have g1 : (zs5 s.heap x u l).get? s.heap.objs.size = some (itObj x u 0) := up (up (up (up (Heap.get?_push_size _ rfl))))
  rw [e1] at g2 g3
  rw [e2] at g3 g5
  rw [e3] at g4 g5
  rw [e4] at g5
  show _ ∧ _
  rw [e4]
  exact ⟨⟨_, g5, rfl⟩, q _ g5 g3 g4 g1 ⟨_, g2, rfl, rfl⟩ fun c o e => up (up (up (up (up e))))⟩
theorem next_item (D1 : Draws P w n1 it1 At1 r1) (D2 : Draws P w n2 it2 At2 r2) (F : Far z TI TO i1 i2 r1 r2) (hz : IsZip s.heap z TI TO .none) (hI : IsPair s.heap TI (.ref i1) (.ref i2)) (hO : IsPair s.heap TO x0 y0) (h1 : At1 i1 k s.heap) (h2 : At2 i2 k s.heap) (l1 : k < n1) (l2 : k < n2)
    {Q : Option Value → Shared → Prop} (q : ∀ (h' : Heap) tk v1 v2, it1 k v1 → it2 k v2 → IsZip h' z TI TO (rawInt s.heap.objs.size) → IsPair h' TO v1 v2 → At1 i1 (k + 1) h' → At2 i2 (k + 1) h' → IsPair h' s.heap.objs.size v1 v2 →
      (∀ c o, c ≠ z → c ≠ TO → c ≠ i1 → c ≠ i2 → s.heap.get? c = some o → h'.get? c = some o) → Q (some (.ref s.heap.objs.size)) { s with heap := h', toks := tk }) : wpAny (model P w) A (pyNext (.ref z)) Q E s := by
  have hT : s.TypeIs (.ref z) "zip" := ⟨_, hz, rfl⟩
  unfold pyNext
  exact wpAny_bind (wpAny_attempt (wpAny_callSpecial?_slot (name := Str.ofString "__next__") hT PySem.F.slot_zip_next
    (wpAny_call_entry PySem.F.slot_zip_next hT PySem.F.entry_zip_next (zip_item D1 D2 F hz hI hO h1 h2 l1 l2 fun h' tk v1 v2 b1 b2 b3 b4 b5 b6 b7 b8 => wpAny_pure (q h' tk v1 v2 b1 b2 b3 b4 b5 b6 b7 b8)) (PySem.F.args_zip_next_1 _))))
theorem next_stop (D1 : Draws P w n1 it1 At1 r1) (F : Far z TI TO i1 i2 r1 r2) (hh : A.handled = none) (hz : IsZip s.heap z TI TO .none) (hI : IsPair s.heap TI (.ref i1) (.ref i2)) (h1 : At1 i1 n1 s.heap)
    {Q : Option Value → Shared → Prop} (q : ∀ h', (∀ c o, c ≠ z → c ≠ TO → c ≠ i1 → c ≠ i2 → s.heap.get? c = some o → h'.get? c = some o) → Q none { s with heap := h' }) : wpAny (model P w) A (pyNext (.ref z)) Q E s := by
  have hT : s.TypeIs (.ref z) "zip" := ⟨_, hz, rfl⟩
  unfold pyNext
  refine wpAny_bind (wpAny_attempt (wpAny_callSpecial?_slot (name := Str.ofString "__next__") hT PySem.F.slot_zip_next
    (wpAny_call_entry PySem.F.slot_zip_next hT PySem.F.entry_zip_next ?_ (PySem.F.args_zip_next_1 _))))
  refine zip_stop D1 F (show A.in1.handled = none from hh) hz hI h1 fun h' e kk ⟨o, ho, co⟩ => ?_
  exact wpAny_bind (wpAny_isInstance (T := "StopIteration") (b := true) ⟨o, ho, co⟩ isSubtype_stop (wpAny_pure (q h' kk)))
end
end Own

namespace Own
open PySem PySem.Spec PyProof.Rows L2 PySem.Froz
/-- the text y and the tuple at b, that is no shorter, item by item in new pairs -/
def Itzs (K : PySem.W.Frag) (y : Str) (b : Addr) : It :=
  ⟨fun i H => ∃ (ys : List V) (v : V), i < y.cps.size ∧ SqT K H b ys ∧ ys[i]? = some v,
    fun i H v H' => ∃ T c x, v = .ref T ∧ H T = none ∧ H' = upd H T (.tup [.str (sing c), x]) ∧ y.cps[i]? = some c ∧ ∀ ys, SqT K H b ys → ys[i]? = some x,
    fun i H => i = y.cps.size ∧ ∃ ys : List V, SqT K H b ys⟩
/-- the objects of such a walk -/
def ZipSt (y : Str) (u : Tok) (b z TI TO i1 i2 : Addr) (i : Nat) (h : Heap) : Prop :=
  IsZip h z TI TO .none ∧ IsPair h TI (.ref i1) (.ref i2) ∧ (∃ p q, IsPair h TO p q) ∧ h.get? i1 = some (itObj y u i) ∧ h.IsTupleIter i2 b i
theorem turn_zips {P : Program} {w : World} {K : PySem.W.Frag} {elts : List Expr} {kk : Nat} {tpos : Pos} {y : Str} {u : Tok} {b z TI TO i1 i2 : Addr} (F : Far z TI TO i1 i2 (fun _ => False) (fun q => q = b)) :
    Turn P w K (.Tuple elts kk tpos) (Itzs K y b) [z, TI, TO, i1, i2] z (ZipSt y u b z TI TO i1 i2) where
  mem := List.mem_cons_self
  obj := fun i h ⟨hz, hI, ⟨p, q, hO⟩, h1, ⟨o, h2, _, d2⟩⟩ c hc => by
    simp only [List.mem_cons, List.not_mem_nil, or_false] at hc
    rcases hc with rfl | rfl | rfl | rfl | rfl
    · exact ⟨_, hz, fun v e => nomatch e⟩
    · exact ⟨_, hI, fun v e => nomatch e⟩
    · exact ⟨_, hO, fun v e => nomatch e⟩
    · exact ⟨_, h1, fun v e => nomatch e⟩
    · exact ⟨_, h2, fun v e => by rw [d2] at e; cases e⟩
  keep := fun i h h' ⟨hz, hI, ⟨p, q, hO⟩, h1, h2⟩ k =>
    ⟨k z (by simp) _ hz, k TI (by simp) _ hI, ⟨p, q, k TO (by simp) _ hO⟩, k i1 (by simp) _ h1, h2.at fun o e => k i2 (by simp) o e⟩
  item := fun X hP hw hK hc i pins s σ H E I hf ⟨hz, hI, ⟨p, q, hO⟩, h1, h2⟩ ⟨ys, v, hi, hq, hv⟩ => by
    subst hP hw hK
    obtain ⟨its, rv, hb, _⟩ := I.tuple hq
    obtain ⟨r, hr, rr⟩ := rv.get hv
    have hi2 : i < its.toArray.size := by rw [List.size_toArray]; exact (List.getElem?_eq_some_iff.mp hr).1
    have zlt : z < s.heap.objs.size := Heap.lt_size hz
    have far := F.r b (.inr rfl)
    refine next_item (draws_text X.prog X.w y u) (draws_tup X.prog X.w b its.toArray) F hz hI hO h1 ⟨h2, hb, far.2.2.2⟩ hi hi2 fun h' tk v1 v2 ⟨c, t, hc1, e1⟩ e2 z' O' a1 a2 T' kp => ?_
    have e3 : v2 = r := by
      have q : its.toArray[i]? = some r := by simpa using hr
      rw [q] at e2
      exact (Option.some.inj e2).symm
    subst e1 e3
    refine ⟨_, rfl, wpAny_letOwnedTupleGo_zip (s := { s with heap := h', toks := tk }) z' fun h3 z3 sb => ?_⟩
    have kp3 : ∀ c o, c ∉ [z, TI, TO, i1, i2] → s.heap.get? c = some o → h3.get? c = some o := fun c o hn e => by
      simp only [List.mem_cons, List.not_mem_nil, or_false, not_or] at hn
      exact (sb.2 c hn.1).trans (kp c o hn.1 hn.2.2.1 hn.2.2.2.1 hn.2.2.2.2 e)
    have T3 : h3.get? s.heap.objs.size = some { cls := .type "tuple", data := .seq #[.str (sing c) t, v2] } := (sb.2 _ (Nat.ne_of_gt zlt)).trans T'
    have new : ObjOk X.prog X.w (upd H s.heap.objs.size (.tup [.str (sing c), v])) h3 s.heap.objs.size (.tup [.str (sing c), v]) :=
      ⟨by show 2 ≤ sizeLine; decide, [.str (sing c) t, v2], .cons ⟨t, rfl⟩ (.cons rr .nil), ⟨_, T3, rfl, _, rfl⟩⟩
    have J : Inv X pins σ (upd H s.heap.objs.size (.tup [.str (sing c), v])) { s with heap := h3, toks := tk } := I.turnedNew (t' := tk) (ch := [z, TI, TO, i1, i2]) kp3 hf (Nat.le_refl _) new
    refine ⟨.ref s.heap.objs.size, _, J, rfl, ⟨_, c, v, rfl, I.hok.fresh (Nat.le_refl _), rfl, hc1, fun l hl => by rw [I.tuple_inj hl hq]; exact hv⟩, ⟨z3, ?_, ⟨_, _, (sb.2 _ F.b).trans O'⟩, (sb.2 _ F.c).trans a1, a2.1.at fun o e => (sb.2 _ F.d).trans e⟩, fun d hd => ?_⟩
    · exact (sb.2 _ F.a).trans (kp _ _ F.a F.e F.f F.g hI)
    · have lt : d < s.heap.objs.size := by
        simp only [List.mem_cons, List.not_mem_nil, or_false] at hd
        rcases hd with rfl | rfl | rfl | rfl | rfl
        · exact zlt
        · exact Heap.lt_size hI
        · exact Heap.lt_size hO
        · exact Heap.lt_size h1
        · obtain ⟨_, e, _⟩ := h2; exact Heap.lt_size e
      rw [upd_ne (Nat.ne_of_lt lt)]
      exact (hf d hd).1
  done := fun X hP hw hK hc i pins s σ H E I hf ⟨hz, hI, ⟨p, q, hO⟩, h1, h2⟩ ⟨hi, ys, hq⟩ => by
    subst hP hw hK hi
    exact next_stop (draws_text X.prog X.w y u) F (I.ok.hd hc) hz hI h1 fun h' kp => ⟨rfl, I.turnedL (t' := s.toks) (ch := [z, TI, TO, i1, i2]) (fun c o hn e => by
      simp only [List.mem_cons, List.not_mem_nil, or_false, not_or] at hn
      exact kp c o hn.1 hn.2.2.1 hn.2.2.2.1 hn.2.2.2.2 e) hf⟩
  self := fun A i s Q E st h => wpAny_pyIter_zip st.1 h
/-- zip(text, tuple) -/
def iZips (K : PySem.W.Frag) (ta : TA) : TI := fun σ H R => ta σ H fun vs H1 => ∃ (y : Str) (b : Addr) (ys : List V), vs = [.str y, .ref b] ∧ y.cps.all (· < 128) = true ∧ SqT K H1 b ys ∧ R (Itzs K y b) H1
theorem pi_zips {X : Cx} {e e2 : Expr} {ta : TA} {p pos tpos : Pos} {elts : List Expr} {kk : Nat} (hg : Gl X "zip") (hm : X.mg "zip" = none) (ha : PA X [e, e2] ta)
    (hs : starEach [e, e2] X.env = (false, eval e X.env) :: starEach [e2] X.env := by rfl) (hpl : (backTo pos (starEach [e2] X.env)).any (·.1) = false := by rfl) :
    PI X (.Tuple elts kk tpos) (.Call (.Name "zip" p) [e, e2] [] pos) (iZips X.K ta) := by
  refine ⟨fun pins s σ H R I h => Call_ (ld_blt I hg hm PyProof.Rows.boot_zip (PyProof.Rows.callWith_type1 (thn (ha.run pos pins s σ H _ I h) fun us s1 ⟨vs, H1, I1, r1, y, b, ys, ev, asc, hq, q⟩ => ?_) hs hpl))⟩
  subst ev
  cases r1 with
  | cons r rr =>
    cases rr with
    | cons r' r2 =>
      cases r2
      obtain ⟨u, rfl⟩ := r
      cases r'
      obtain ⟨its, rv, hb, _⟩ := I1.tuple hq
      have lt : b < s1.heap.objs.size := by
        obtain ⟨o, e, _⟩ := id hb
        exact Heap.lt_size e
      refine call_zipS asc (show s1.heap.IsTuple b its.toArray from hb) fun h' hz hI hO h1 h2 kp => wpAny_pyIter_zip hz ?_
      have J : Inv X pins σ H1 { s1 with heap := h' } := I1.kept (t' := s1.toks) kp
      have far : Far (s1.heap.objs.size + 4) (s1.heap.objs.size + 2) (s1.heap.objs.size + 3) s1.heap.objs.size (s1.heap.objs.size + 1) (fun _ => False) (fun q => q = b) := by
        have nn : ∀ {m n : Nat}, m ≠ n → (m : Addr) ≠ n := fun h => h
        refine ⟨nn (by omega), nn (by omega), nn (by omega), nn (by omega), nn (by omega), nn (by omega), nn (by omega), nn (by omega), nn (by omega), nn (by omega), fun q hq => ?_⟩
        rcases hq with f | e
        · exact f.elim
        · have lt' : q < s1.heap.objs.size := e.symm ▸ lt
          exact ⟨nn (Nat.ne_of_lt (Nat.lt_add_right _ lt')), nn (Nat.ne_of_lt (Nat.lt_add_right _ lt')), nn (Nat.ne_of_lt lt'), nn (Nat.ne_of_lt (Nat.lt_add_right _ lt'))⟩
      refine ⟨s1.heap.objs.size + 4, [s1.heap.objs.size + 4, s1.heap.objs.size + 2, s1.heap.objs.size + 3, s1.heap.objs.size, s1.heap.objs.size + 1], ZipSt y u b (s1.heap.objs.size + 4) (s1.heap.objs.size + 2) (s1.heap.objs.size + 3) s1.heap.objs.size (s1.heap.objs.size + 1), _, H1, rfl, J, turn_zips far, ⟨hz, hI, ⟨_, _, hO⟩, h1, h2⟩, fun c hc => ?_, q⟩
      have le : s1.heap.objs.size ≤ c := by
        simp only [List.mem_cons, List.not_mem_nil, or_false] at hc
        rcases hc with e | e | e | e | e <;> rw [e] <;> first | exact Nat.le_add_right _ _ | exact Nat.le_refl _
      exact I1.fpOk le (I1.hok.fresh le)
theorem walk_zips {K : PySem.W.Frag} {y : Str} {b : Addr} {ys : List V} (hl : y.cps.size ≤ ys.length) : L2.Walk (Itzs K y b) y.cps.size (fun H => SqT K H b ys) (YPair (fun i => (y.cps[i]?).map fun c => .str (sing c)) (fun i => ys[i]?)) := by
  refine ⟨fun i H hi q => ⟨ys, ys[i], hi, q, List.getElem?_eq_getElem (by omega)⟩, fun H q => ⟨rfl, ys, q⟩, fun i H x H' hi q ⟨T, c, v, e1, e2, e3, e4, e5⟩ => ⟨T, .str (sing c), v, e1, e2, e3, ?_, e5 ys q⟩⟩
  show (y.cps[i]?).map _ = _
  rw [e4]
  rfl
end Own

namespace Kx
open PySem L2 Own
abbrev s_is_whole : Stmt := top 8
abbrev s_key_list : Stmt := top 11
abbrev s_check_ways : Stmt := top 29
abbrev s_keys_in : Stmt := top 30
/-! ### rows of machines -/
abbrev Way := Int × List Str
/-- a tuple of keys -/
def KeysT (H : Hp) (v : V) (ks : List Str) : Prop := ∃ a, v = .ref a ∧ H a = some (.tup (ks.map V.str))
def WayT (H : Hp) (v : V) (w : Way) : Prop := ∃ a kv, v = .ref a ∧ H a = some (.tup [.int w.1, kv]) ∧ KeysT H kv w.2
def RowT (H : Hp) (v : V) (r : List Way) : Prop := ∃ a vs, v = .ref a ∧ H a = some (.tup vs) ∧ Paired (WayT H) vs r
theorem KeysT.keep {H H' : Hp} (s : ∀ b xs, H b = some (.tup xs) → H' b = some (.tup xs)) {v : V} {ks : List Str} (h : KeysT H v ks) : KeysT H' v ks := by
  obtain ⟨a, e, h⟩ := h
  exact ⟨a, e, s _ _ h⟩
theorem WayT.keep {H H' : Hp} (s : ∀ b xs, H b = some (.tup xs) → H' b = some (.tup xs)) {v : V} {r : Way} (h : WayT H v r) : WayT H' v r := by
  obtain ⟨a, kv, e, h, k⟩ := h
  exact ⟨a, kv, e, s _ _ h, k.keep s⟩
theorem RowT.keep {H H' : Hp} (s : ∀ b xs, H b = some (.tup xs) → H' b = some (.tup xs)) {v : V} {r : List Way} (h : RowT H v r) : RowT H' v r := by
  obtain ⟨a, vs, e, h, k⟩ := h
  exact ⟨a, vs, e, s _ _ h, L2.Paired.mapP k fun _ _ z => z.keep s⟩
theorem tups {H H' : Hp} (s : Same H H') : ∀ b xs, H b = some (.tup xs) → H' b = some (.tup xs) := fun b xs e => s b _ e
def keysOfRows (R : List (List Way)) : List Str := R.flatMap fun r => r.flatMap fun w => w.2
/-- the defs of machines -/
structure MAd where
  f1 : Addr
  f2 : Addr
  f3 : Addr
  f4 : Addr
  d1 : FuncData
  d2 : FuncData
  d3 : FuncData
  d4 : FuncData
structure TxtM (K : PySem.W.Frag) (mg : Str → Option Value) (B : MAd) : Prop where
  D_is_whole : DefT K mg "is_whole" "is_whole" s_is_whole ["value"] B.f1 B.d1
  D_key_list : DefT K mg "key_list" "key_list" s_key_list ["given"] B.f2 B.d2
  D_check_ways : DefT K mg "check_ways" "check_ways" s_check_ways ["rows"] B.f3 B.d3
  D_keys_in : DefT K mg "keys_in" "keys_in" s_keys_in ["rows", "ends"] B.f4 B.d4
  n_isinstance : mg "isinstance" = none
  n_int : mg "int" = none
  n_bool : mg "bool" = none
  n_len : mg "len" = none
  n_set : mg "set" = none
  n_sorted : mg "sorted" = none
  n_tuple : mg "tuple" = none
  n_zip : mg "zip" = none
  n_enumerate : mg "enumerate" = none
section
variable {P : Program} {w : World} {K : PySem.W.Frag} {mg : Str → Option Value} {base : Heap} {B : MAd}
def spWhole : Sp := fun vs H Q _ => ∃ i : Int, vs = [.int i] ∧ Q (.bl true) H
theorem sc_is_whole : FnScope ["value"] ["value"] (defScope s_is_whole) := ⟨rfl, rfl, rfl, by decide +kernel, rfl, by decide +kernel, by decide +kernel⟩
theorem ok_is_whole (T : TxtM K mg B) : FnOk P w K mg base CX0 1 B.f1 B.d1 ["value"] spWhole := by
  have sc := sc_is_whole
  refine T.D_is_whole.F.ok sc (fun vs H Q E h => ?_) (fun cdv A1 outer s H vs Q E hr h => ?_)
  · obtain ⟨_, rfl, _⟩ := h; rfl
  · obtain ⟨i, rfl, q⟩ := h
    refine ⟨_, pss_one (ps_ret (pe_and (pe_callB call_isi (by rfl) T.n_isinstance (by decide +kernel) (pa_cons (pv 0) (pa_cons (pe_bltn (v := .ty "int") rfl T.n_int (by decide +kernel) rfl) pa_nil)))
      (pe_one (pe_notT (pe_callB call_isi (by rfl) T.n_isinstance (by decide +kernel) (pa_cons (pv 0) (pa_cons (pe_bltn (v := .ty "bool") rfl T.n_bool (by decide +kernel) rfl) pa_nil))))))), ?_⟩
    refine ⟨_, rfl, _, _, _, _, true, rfl, ClsV.ty _, .base (.int i), kit_ty (by decide +kernel), true, rfl, ?_⟩
    exact ⟨_, rfl, _, _, _, _, false, rfl, ClsV.ty _, .base (.int i), kit_ty (by decide +kernel), false, rfl, q⟩
def spKl (K : PySem.W.Frag) : Sp := fun vs H Q _ => ∃ (x : V) (xs : List Str), vs = [x] ∧ Texts K H x xs ∧ xs.length + 1 < scanBound ∧
  ∀ p H', H p = none → Same H H' → H' p = some (.tup ((kl xs).map V.str)) → Q (.ref p) H'
theorem sc_key_list : FnScope ["given"] ["given"] (defScope s_key_list) := ⟨rfl, rfl, rfl, by decide +kernel, rfl, by decide +kernel, by decide +kernel⟩
theorem ok_key_list (T : TxtM K mg B) : FnOk P w K mg base CX0 1 B.f2 B.d2 ["given"] (spKl K) := by
  have sc := sc_key_list
  refine T.D_key_list.F.ok sc (fun vs H Q E h => ?_) (fun cdv A1 outer s H vs Q E hr h => ?_)
  · obtain ⟨_, _, rfl, _⟩ := h; rfl
  · obtain ⟨x, xs, rfl, tx, hb, q⟩ := h
    refine ⟨_, pss_one (ps_ret (pe_tupleOf rfl T.n_tuple (pe_callB (cr_sortT rfl) (by rfl) T.n_sorted (by decide +kernel) (pa_cons (pe_callTy (cr_setT rfl) (by rfl) T.n_set (by decide +kernel) (pa_cons (pv 0) pa_nil)) pa_nil)))), ?_⟩
    refine ⟨_, rfl, x, xs, rfl, tx, hb, fun p l hp nd hm hl => ?_⟩
    refine ⟨p, l, rfl, upd_same, by omega, fun p2 ys hp2 pm hs => ?_⟩
    refine .inl ⟨p2, _, rfl, SqL.of upd_same, fun p3 hp3 => ?_⟩
    rw [kl_of pm hs nd hm] at *
    have h3 : H p3 = none := by
      cases e : H p3 with
      | none => rfl
      | some o => exact absurd ((Same.upd hp2 _ _ (Same.upd hp _ _ e)).symm.trans hp3) (by simp)
    exact q p3 _ h3 (fun b o e => Same.upd hp3 _ _ (Same.upd hp2 _ _ (Same.upd hp _ _ e))) upd_same
end
end Kx

namespace Kx
open PySem L2 Own
section
variable {P : Program} {w : World} {K : PySem.W.Frag} {mg : Str → Option Value} {base : Heap} {B : MAd}
local macro_rules | `(tactic| walk_at "g") => `(tactic| first | refine ⟨_, _, rfl, rfl, ?_⟩ | refine ⟨_, rfl, ?_⟩ | refine ⟨rfl, ?_⟩)
theorem pat {α β : Type} {F : α → β → Prop} : ∀ {l : List α} {m : List β} {i : Nat} {x : α}, Paired F l m → l[i]? = some x → ∃ y, m[i]? = some y ∧ F x y
  | _, _, i, _, .nil, h => by cases i <;> cases h
  | _, _, 0, _, .cons r _, h => ⟨_, rfl, by cases h; exact r⟩
  | _, _, i + 1, _, .cons _ t, h => pat (i := i) t h
theorem flat_step {α : Type} (f : α → List Str) : ∀ {l : List α} {i : Nat} {x : α}, l[i]? = some x → (l.take (i + 1)).flatMap f = (l.take i).flatMap f ++ f x
  | [], i, _, h => by cases i <;> cases h
  | a :: l, 0, x, h => by
    have e : a = x := Option.some.inj h
    subst e
    simp
  | a :: l, i + 1, x, h => by
    have ih := flat_step f (l := l) (i := i) h
    rw [List.take_succ_cons, List.take_succ_cons, List.flatMap_cons, List.flatMap_cons, ih, List.append_assoc]
theorem flat_le {α : Type} (f : α → List Str) : ∀ {l : List α} {i : Nat} {x : α}, l[i]? = some x → ((l.take i).flatMap f).length + (f x).length ≤ (l.flatMap f).length
  | [], i, _, h => by cases i <;> cases h
  | a :: l, 0, x, h => by
    have e : a = x := Option.some.inj h
    subst e
    simp
  | a :: l, i + 1, x, h => by
    have ih := flat_le f (l := l) (i := i) h
    rw [List.take_succ_cons, List.flatMap_cons, List.flatMap_cons, List.length_append, List.length_append]
    omega
theorem bound_line {n : Nat} (h : n < scanBound) : n < sizeLine := by
  rw [sizeLine_eq]
  unfold scanBound at h
  omega
def spKin (K : PySem.W.Frag) : Sp := fun vs H Q _ => ∃ (r e : Addr) (rv ev : List V) (R : List (List Way)) (Es : List (List Str)), vs = [.ref r, .ref e] ∧ H r = some (.tup rv) ∧ Paired (RowT H) rv R ∧ H e = some (.tup ev) ∧ Paired (KeysT H) ev Es ∧
  (keysOfRows R ++ Es.flatten).length + 1 < scanBound ∧ ∀ p H', H p = none → Same H H' → H' p = some (.tup ((kl (keysOfRows R ++ Es.flatten)).map V.str)) → Q (.ref p) H'
theorem sc_keys_in : FnScope ["rows", "ends", "on_ways", "row", "way", "key", "end"] ["rows", "ends"] (defScope s_keys_in) := ⟨rfl, rfl, rfl, by decide +kernel, rfl, by decide +kernel, by decide +kernel⟩
theorem ok_keys_in (T : TxtM K mg B) : FnOk P w K mg base CX0 2 B.f4 B.d4 ["rows", "ends"] (spKin K) := by
  have sc := sc_keys_in
  have G_key_list : FnOk P w K mg base CX0 1 B.f2 B.d2 ["given"] (spKl K) := ok_key_list T
  refine T.D_keys_in.F.ok sc (fun vs H Q E h => ?_) (fun cdv A1 outer s H vs Q E hr h => ?_)
  · obtain ⟨_, _, _, _, _, _, rfl, _⟩ := h; rfl
  · obtain ⟨r, e, rv, ev, R, Es, rfl, hrv, pR, hev, pE, hb, q⟩ := h
    refine ⟨_, (pss_cons (ps_setLcN (i := 2) (own := [("row", 3), ("way", 4), ("key", 5)]) (vs1 := [4, 5]) (g := gName 3) (tt := tYes) (t := tFor (iTup K (tVar 3)) (gName 4) tYes [4, 5] (tFor (iTup K (tOp (rIxT K) (tVar 4) (tC (.int 1)))) (gName 5) tYes [5] (tEmit (tVar 5)))) rfl sc.nd rfl rfl (sw_true rfl rfl rfl (by decide +kernel)) (pi_tup (pv 0)) (blkOk_by (N := ["rows", "ends", "on_ways", "row", "way", "key", "end"]) (sc := defScope s_keys_in) (own := [("row", 3), ("way", 4), ("key", 5)]) (by decide +kernel)) (.inr ⟨_, _, _, rfl⟩) (by decide)
        (fun _ _ _ _ _ => (pg_name (i := 3) sc.nd rfl (Or.inl rfl))) (fun _ _ _ _ _ => pts_nil)
        (fun _ _ _ _ _ D => does_for rfl (.inr ⟨_, _, _, rfl⟩) rfl rfl (pi_tup (pv 3)) (fun _ => rfl) (pg_name (i := 4) sc.nd rfl (Or.inl rfl)) pts_nil
          (does_for rfl (.inl rfl) rfl rfl (pi_tup (pe_ix ix_tup (pv 4) pe_int (fun _ _ => rfl))) (fun _ => rfl) (pg_name (i := 5) sc.nd rfl (Or.inl rfl)) pts_nil (does_emit rfl rfl (pv 5)) (by decide)) (by decide)))
      (pss_one (ps_ret (pe_call G_key_list (hr.mono (by decide)) rfl T.D_key_list.g T.D_key_list.F.kp T.D_key_list.b .nil pass0 (pa_cons (pe_lst (StX.pa_star (pv 2) (StX.pa_star
        (pe_lcN (own := [("end", 6), ("key", 5)]) (vs1 := [5]) (g := gName 6) (tt := tYes) (t := tFor (iTup K (tVar 6)) (gName 5) tYes [5] (tEmit (tVar 5))) rfl sc.nd (pi_tup (pv 1)) (blkOk_by (N := ["rows", "ends", "on_ways", "row", "way", "key", "end"]) (sc := defScope s_keys_in) (own := [("end", 6), ("key", 5)]) (by decide +kernel)) (.inr ⟨_, _, _, rfl⟩) (by decide)
          (fun _ _ _ _ _ => (pg_name (i := 6) sc.nd rfl (Or.inl rfl))) (fun _ _ _ _ _ => pts_nil)
          (fun _ _ _ _ _ D => does_for rfl (.inl rfl) rfl rfl (pi_tup (pv 6)) (fun _ => rfl) (pg_name (i := 5) sc.nd rfl (Or.inl rfl)) pts_nil (does_emit rfl rfl (pv 5)) (by decide)))
        pa_nil))) pa_nil))))), ?_⟩
    have hb1 : (keysOfRows R).length + Es.flatten.length + 1 < scanBound := by rw [List.length_append] at hb; exact hb
    -- on_ways
    refine ⟨_, rfl, r, rfl, ⟨_, SqT.of hrv⟩, fun D hD => ?_⟩
    have put : ∀ {H' : Hp} {xs : List V}, Same H H' → Same H (upd H' D (.lst xs)) := fun {H' xs} s1 b o e => by rw [upd_ne (ne_of_none e hD)]; exact s1 b o e
    refine lp_it [some (.ref r), some (.ref e), none, none, none, none, none] rfl walk_tup (fun i H' => Same H H' ∧ H' D = some (.lst ((keysOfRows (R.take i)).map V.str))) ⟨Same.upd hD, upd_same⟩ (fun i H' _ z => SqT.of (z.1 _ _ hrv)) ?_ ?_
    · rintro i x H1 _ hi ⟨s1, h1⟩ ⟨rfl, hx⟩
      obtain ⟨rw1, hrw, a, vs, rfl, ha, pr⟩ := pat pR hx
      have l1 := flat_le (fun r : List Way => r.flatMap fun w => w.2) hrw
      refine ⟨rfl, _, rfl, a, rfl, ⟨_, SqT.of (s1 _ _ ha)⟩, ?_⟩
      refine lp_it [some (.ref r), some (.ref e), none, some (.ref a), none, none, none] rfl walk_tup (fun j H' => Same H H' ∧ H' D = some (.lst ((keysOfRows (R.take i) ++ (rw1.take j).flatMap fun w => w.2).map V.str))) ⟨s1, by simpa using h1⟩ (fun j H' _ z => SqT.of (z.1 _ _ ha)) ?_ ?_
      · rintro j y H2 _ hj ⟨s2, h2⟩ ⟨rfl, hy⟩
        obtain ⟨wy, hwy, b, kv, rfl, hb2, kt, rfl, hk⟩ := pat pr hy
        have l2 := flat_le (fun w : Way => w.2) hwy
        refine ⟨rfl, _, rfl, b, _, 1, _, rfl, rfl, SqT.of (s2 _ _ hb2), atI_nat (j := 1) rfl, kt, rfl, ⟨_, SqT.of (s2 _ _ hk)⟩, ?_⟩
        refine lp_it [some (.ref r), some (.ref e), none, some (.ref a), some (.ref b), none, none] rfl walk_tup (fun k H' => Same H H' ∧ H' D = some (.lst ((keysOfRows (R.take i) ++ ((rw1.take j).flatMap fun w => w.2) ++ wy.2.take k).map V.str))) ⟨s2, by simpa using h2⟩ (fun k H' _ z => SqT.of (z.1 _ _ hk)) ?_ ?_
        · rintro k z H3 _ hk3 ⟨s3, h3⟩ ⟨rfl, hz⟩
          rw [List.getElem?_map] at hz
          obtain ⟨key, hkey, rfl⟩ := Option.map_eq_some_iff.mp hz
          refine ⟨rfl, _, rfl, _, h3, ?_, put s3, ?_⟩
          · refine bound_line ?_
            rw [List.length_map, List.length_append, List.length_append, List.length_take]
            unfold keysOfRows at hb1 ⊢
            omega
          · rw [upd_same, List.take_add_one, hkey]
            simp
        · rintro H3 ⟨s3, h3⟩
          refine ⟨s3, ?_⟩
          rw [List.length_map, List.take_length] at h3
          rw [flat_step _ hwy, ← List.append_assoc]
          exact h3
      · rintro H2 ⟨s2, h2⟩
        refine ⟨s2, ?_⟩
        have e : vs.length = rw1.length := Paired.length pr
        rw [e, List.take_length] at h2
        show H2 D = some (.lst (((R.take (i + 1)).flatMap _).map V.str))
        rw [flat_step _ hrw]
        exact h2
    rintro H1 ⟨s1, h1⟩
    have e1 : rv.length = R.length := Paired.length pR
    rw [e1, List.take_length] at h1
    -- the display
    refine ⟨_, rfl, D, _, rfl, .inr (SqL.of h1), ?_⟩
    refine ⟨_, rfl, e, rfl, ⟨_, SqT.of (s1 _ _ hev)⟩, fun D2 hD2 => ?_⟩
    have put2 : ∀ {H' : Hp} {xs : List V}, Same H1 H' → Same H1 (upd H' D2 (.lst xs)) := fun {H' xs} s1 b o e => by rw [upd_ne (ne_of_none e hD2)]; exact s1 b o e
    refine lp_it [some (.ref r), some (.ref e), some (.ref D), none, none, none, none] rfl walk_tup (fun i H' => Same H1 H' ∧ H' D2 = some (.lst (((Es.take i).flatMap id).map V.str))) ⟨Same.upd hD2, upd_same⟩ (fun i H' _ z => SqT.of (z.1 _ _ (s1 _ _ hev))) ?_ ?_
    · rintro i x H2 _ hi ⟨s2, h2⟩ ⟨rfl, hx⟩
      obtain ⟨ks, hks, kt, rfl, hk⟩ := pat pE hx
      have l1 := flat_le id hks
      have l2 : (Es.flatMap id).length = Es.flatten.length := by rw [List.flatMap_id]
      refine ⟨rfl, _, rfl, kt, rfl, ⟨_, SqT.of (s2 _ _ (s1 _ _ hk))⟩, ?_⟩
      refine lp_it [some (.ref r), some (.ref e), some (.ref D), none, none, none, some (.ref kt)] rfl walk_tup (fun k H' => Same H1 H' ∧ H' D2 = some (.lst (((Es.take i).flatMap id ++ ks.take k).map V.str))) ⟨s2, by simpa using h2⟩ (fun k H' _ z => SqT.of (z.1 _ _ (s1 _ _ hk))) ?_ ?_
      · rintro k z H3 _ hk3 ⟨s3, h3⟩ ⟨rfl, hz⟩
        rw [List.getElem?_map] at hz
        obtain ⟨key, hkey, rfl⟩ := Option.map_eq_some_iff.mp hz
        refine ⟨rfl, _, rfl, _, h3, ?_, put2 s3, ?_⟩
        · refine bound_line ?_
          rw [List.length_map, List.length_append, List.length_take]
          have l3 : (id ks).length = ks.length := rfl
          omega
        · rw [upd_same, List.take_add_one, hkey]
          simp
      · rintro H3 ⟨s3, h3⟩
        refine ⟨s3, ?_⟩
        rw [List.length_map, List.take_length] at h3
        rw [flat_step _ hks]
        exact h3
    rintro H2 ⟨s2, h2⟩
    have e2 : ev.length = Es.length := Paired.length pE
    rw [e2, List.take_length, List.flatMap_id] at h2
    refine ⟨D2, _, rfl, .inr (SqL.of h2), ?_⟩
    have eL : (keysOfRows R).map V.str ++ (Es.flatten.map V.str ++ []) = (keysOfRows R ++ Es.flatten).map V.str := by simp
    refine ⟨?_, fun l hl => ?_⟩
    · show ((keysOfRows R).map V.str ++ (Es.flatten.map V.str ++ [])).length ≤ sizeLine
      rw [eL, List.length_map]
      exact Nat.le_of_lt (bound_line (by omega))
    have nl : H l = none := by
      cases c : H l with
      | none => rfl
      | some o => exact absurd ((s2 _ _ (s1 _ _ c)).symm.trans hl) (by simp)
    refine ⟨.ref l, _, rfl, .list (SqL.of (upd_same.trans (congrArg (fun z => some (HO.lst z)) eL))), hb, fun p H' hp s3 h3 => ?_⟩
    have up : Same H (upd H2 l (.lst ((keysOfRows R).map V.str ++ (Es.flatten.map V.str ++ [])))) := fun b o c => Same.upd hl _ _ (s2 _ _ (s1 _ _ c))
    refine q p H' ?_ (fun b o c => s3 _ _ (up _ _ c)) h3
    cases c : H p with
    | none => rfl
    | some o => exact absurd ((up _ _ c).symm.trans hp) (by simp)
end
end Kx

namespace Kx
open PySem L2 Own
abbrev s_copied : Stmt := top 18
abbrev s_BadMachine : Stmt := inClass (top 15) 0
abbrev s_TooMany : Stmt := inClass (top 17) 0
/-! ### the errors of machines: their fields are numbers and words -/
def Flat (v : V) : Prop := (∃ i, v = .int i) ∨ ∃ x, v = .str x
abbrev tailM (M : Addr) : List Value := [.ref M, .type "ValueError", .type "Exception", .type "BaseException", .type "object"]
structure ErrC (K : PySem.W.Frag) (mg : Str → Option Value) (name : Str) (C M : Addr) : Prop where
  g : mg name = some (.ref C)
  oex : OexC K C
  exc : ExcC K C
  cls : PySem.W.isClsIn K C = true
  sub : ∀ b : Value, PySem.W.subIn K (.ref C) b = some ((Value.ref C :: tailM M).contains b)
theorem ErrC.xf {K : PySem.W.Frag} {mg : Str → Option Value} {name : Str} {C M : Addr} (e : ErrC K mg name C M) : XfC K C := ⟨e.exc.hg, e.exc.hk, e.exc.hs, e.exc.hd⟩
structure IniT (K : PySem.W.Frag) (qual : Str) (st : Stmt) (C f : Addr) (fd : FuncData) (ps : List Str) : Prop where
  iC : PySem.W.findIn K (.ref C) "__init__" = some (some (.ref f))
  tI : PySem.W.typeIn K (.ref f) = some (.type "function")
  F : Fun K "__init__" qual st f fd
  b : Binds K fd ps []
structure EAd where
  M : Addr
  c1 : Addr
  c2 : Addr
  i1 : Addr
  i2 : Addr
  e1 : FuncData
  e2 : FuncData
  fc : Addr
  dc : FuncData
structure TxtE (K : PySem.W.Frag) (mg : Str → Option Value) (A : EAd) : Prop where
  E_BadMachine : ErrC K mg "BadMachine" A.c1 A.M
  I_BadMachine : IniT K "BadMachine.__init__" s_BadMachine A.c1 A.i1 A.e1 ["self", "state", "place"]
  N_state : PySem.W.findIn K (.ref A.c1) "state" = some none
  N_place : PySem.W.findIn K (.ref A.c1) "place" = some none
  E_TooMany : ErrC K mg "TooMany" A.c2 A.M
  I_TooMany : IniT K "TooMany.__init__" s_TooMany A.c2 A.i2 A.e2 ["self", "what"]
  N_what : PySem.W.findIn K (.ref A.c2) "what" = some none
  D_copied : DefT K mg "copied" "copied" s_copied ["field"] A.fc A.dc
  n_isinstance : mg "isinstance" = none
  n_list : mg "list" = none
  n_tuple : mg "tuple" = none
  n_dict : mg "dict" = none
section
variable {P : Program} {w : World} {K : PySem.W.Frag} {mg : Str → Option Value} {base : Heap} {A : EAd}
def spFlat : Sp := fun vs H Q _ => ∃ v : V, vs = [v] ∧ Flat v ∧ Q v H
theorem sc_copied : FnScope ["field", "part", "key"] ["field"] (defScope s_copied) := ⟨rfl, rfl, rfl, by decide +kernel, rfl, by decide +kernel, by decide +kernel⟩
theorem ok_copied (T : TxtE K mg A) : FnOk P w K mg base CX0 1 A.fc A.dc ["field"] spFlat := by
  have sc := sc_copied
  refine T.D_copied.F.ok sc (fun vs H Q E h => ?_) (fun cdv A1 outer s H vs Q E hr h => ?_)
  · obtain ⟨_, rfl, _⟩ := h; rfl
  · obtain ⟨v, rfl, hf, q⟩ := h
    refine ⟨_, (pss_cons (ps_if (pt_val (pe_callB call_isi (by rfl) T.n_isinstance (by decide +kernel) (pa_cons (pv 0) (pa_cons (pe_bltn (v := .ty "list") rfl T.n_list (by decide +kernel) rfl) pa_nil)))) (pss_one ps_never)
        pss_nil)
      (pss_cons (ps_if (pt_val (pe_callB call_isi (by rfl) T.n_isinstance (by decide +kernel) (pa_cons (pv 0) (pa_cons (pe_bltn (v := .ty "tuple") rfl T.n_tuple (by decide +kernel) rfl) pa_nil)))) (pss_one ps_never)
        pss_nil)
      (pss_cons (ps_if (pt_val (pe_callB call_isi (by rfl) T.n_isinstance (by decide +kernel) (pa_cons (pv 0) (pa_cons (pe_bltn (v := .ty "dict") rfl T.n_dict (by decide +kernel) rfl) pa_nil)))) (pss_one ps_never)
        pss_nil)
      (pss_one (ps_ret (pv 0)))))), ?_⟩
    rcases hf with ⟨i, rfl⟩ | ⟨x, rfl⟩
    · refine ⟨_, rfl, _, _, _, _, false, rfl, ClsV.ty _, .base (.int i), kit_ty (by decide +kernel), _, rfl, iteF ?_⟩
      refine ⟨_, rfl, _, _, _, _, false, rfl, ClsV.ty _, .base (.int i), kit_ty (by decide +kernel), _, rfl, iteF ?_⟩
      refine ⟨_, rfl, _, _, _, _, false, rfl, ClsV.ty _, .base (.int i), kit_ty (by decide +kernel), _, rfl, iteF ?_⟩
      exact ⟨_, rfl, q⟩
    · refine ⟨_, rfl, _, _, _, _, false, rfl, ClsV.ty _, .base (.str x), kit_ty (by decide +kernel), _, rfl, iteF ?_⟩
      refine ⟨_, rfl, _, _, _, _, false, rfl, ClsV.ty _, .base (.str x), kit_ty (by decide +kernel), _, rfl, iteF ?_⟩
      refine ⟨_, rfl, _, _, _, _, false, rfl, ClsV.ty _, .base (.str x), kit_ty (by decide +kernel), _, rfl, iteF ?_⟩
      exact ⟨_, rfl, q⟩
/-- an error's __init__ of the fields fs -/
def spErr (C : Addr) (names : List Str) : Sp := fun vs H Q _ => ∃ (a : Addr) (us : List V), vs = .ref a :: us ∧ us.length = names.length ∧ H a = some (exo a C none) ∧ (∀ u ∈ us, Flat u) ∧
  ∀ (dx : Addr) (H' : Hp), H dx = none → dx ≠ a → H' a = some (exo a C (some dx)) → H' dx = some (exd dx (names.zip us).reverse) → (∀ b o, H b = some o → b ≠ a → H' b = some o) → Q .non H'
theorem sc_TooMany : FnScope ["self", "what"] ["self", "what"] (defScope s_TooMany) := ⟨rfl, rfl, rfl, by decide +kernel, rfl, by decide +kernel, by decide +kernel⟩
theorem ok_TooMany (T : TxtE K mg A) : FnOk P w K mg base CX0 2 A.i2 A.e2 ["self", "what"] (spErr A.c2 ["what"]) := by
  have sc := sc_TooMany
  have G_copied : FnOk P w K mg base CX0 1 A.fc A.dc ["field"] spFlat := ok_copied T
  refine T.I_TooMany.F.ok sc (fun vs H Q E h => ?_) (fun cdv A1 outer s H vs Q E hr h => ?_)
  · obtain ⟨_, us, rfl, l, _⟩ := h
    rw [List.length_cons, l]; rfl
  · obtain ⟨a, us, rfl, l, ha, hf, k⟩ := h
    obtain ⟨v, rfl⟩ : ∃ v, us = [v] := List.length_eq_one_iff.mp l
    refine ⟨_, (pss_one (ps_ost (pv 0) (pe_call G_copied (hr.mono (by decide)) rfl T.D_copied.g T.D_copied.F.kp T.D_copied.b .nil pass0 (pa_cons (pv 1) pa_nil)))), ?_⟩
    refine ⟨_, rfl, v, rfl, hf v List.mem_cons_self, _, rfl, a, A.c2, rfl, T.E_TooMany.oex, T.N_what, .inl ⟨ha, fun dx hd ne => ?_⟩⟩
    refine k dx _ hd ne upd_same (by rw [upd_ne ne, upd_same]; rfl) fun b o e nb => ?_
    rw [upd_ne nb, upd_ne (ne_of_none e hd)]
    exact e
theorem sc_BadMachine : FnScope ["self", "state", "place"] ["self", "state", "place"] (defScope s_BadMachine) := ⟨rfl, rfl, rfl, by decide +kernel, rfl, by decide +kernel, by decide +kernel⟩
theorem ok_BadMachine (T : TxtE K mg A) : FnOk P w K mg base CX0 2 A.i1 A.e1 ["self", "state", "place"] (spErr A.c1 ["state", "place"]) := by
  have sc := sc_BadMachine
  have G_copied : FnOk P w K mg base CX0 1 A.fc A.dc ["field"] spFlat := ok_copied T
  refine T.I_BadMachine.F.ok sc (fun vs H Q E h => ?_) (fun cdv A1 outer s H vs Q E hr h => ?_)
  · obtain ⟨_, us, rfl, l, _⟩ := h
    rw [List.length_cons, l]; rfl
  · obtain ⟨a, us, rfl, l, ha, hf, k⟩ := h
    obtain ⟨v, u, rfl⟩ : ∃ v u, us = [v, u] := by
      match us, l with
      | [v, u], _ => exact ⟨v, u, rfl⟩
    refine ⟨_, (pss_cons (ps_ost (pv 0) (pe_call G_copied (hr.mono (by decide)) rfl T.D_copied.g T.D_copied.F.kp T.D_copied.b .nil pass0 (pa_cons (pv 1) pa_nil)))
      (pss_one (ps_ost (pv 0) (pe_call G_copied (hr.mono (by decide)) rfl T.D_copied.g T.D_copied.F.kp T.D_copied.b .nil pass0 (pa_cons (pv 2) pa_nil))))), ?_⟩
    refine ⟨_, rfl, v, rfl, hf v (by simp), _, rfl, a, A.c1, rfl, T.E_BadMachine.oex, T.N_state, .inl ⟨ha, fun dx hd ne => ?_⟩⟩
    have q1 : (upd (upd H dx (exd dx [("state", v)])) a (exo a A.c1 (some dx))) a = some (exo a A.c1 (some dx)) := upd_same
    have q2 : (upd (upd H dx (exd dx [("state", v)])) a (exo a A.c1 (some dx))) dx = some (exd dx [("state", v)]) := by rw [upd_ne ne, upd_same]
    have q3 : ∀ b o, H b = some o → b ≠ a → (upd (upd H dx (exd dx [("state", v)])) a (exo a A.c1 (some dx))) b = some o := fun b o e nb => by
      rw [upd_ne nb, upd_ne (ne_of_none e hd)]
      exact e
    generalize upd (upd H dx (exd dx [("state", v)])) a (exo a A.c1 (some dx)) = H2 at q1 q2 q3 ⊢
    refine ⟨_, rfl, u, rfl, hf u (by simp), _, rfl, a, A.c1, rfl, T.E_BadMachine.oex, T.N_place, .inr ⟨dx, [("state", v)], q1, q2, (by show 1 ≤ 900; decide), ?_⟩⟩
    refine k dx _ hd ne (by rw [upd_ne (Ne.symm ne)]; exact q1) upd_same fun b o e nb => ?_
    rw [upd_ne (ne_of_none e hd)]
    exact q3 b o e nb
/-- the reading of C(e, ..) behind raise -/
theorem rsE {H : Hp} {C : Addr} {names : List Str} {us : List V} {W : XK} (l : us.length = names.length) (l2 : us.length ≤ 1000) (hf : ∀ u ∈ us, Flat u) (k : ∀ dx H', H dx = none → Same H H' → H' dx = some (.xd (names.zip us).reverse) → W (.ref C) (some dx) H') :
    us.length ≤ 1000 ∧ ∀ a, H a = none → spErr C names (.ref a :: (us ++ [])) (upd H a (exo a C none)) (fun u H2 => u = .non ∧ ∃ (dx : Addr) (fs : List (Str × V)), H2 a = some (exo a C (some dx)) ∧ H2 dx = some (exd dx fs) ∧ H dx = none ∧ W (.ref C) (some dx) (upd (del H2 a) dx (.xd fs))) (fun _ _ _ => False) := by
  refine ⟨l2, fun a ha => ⟨a, us, by rw [List.append_nil], l, upd_same, hf, fun dx H2 hd ne e1 e2 kp => ?_⟩⟩
  have hd0 : H dx = none := by rw [upd_ne ne] at hd; exact hd
  refine ⟨rfl, dx, _, e1, e2, hd0, k dx _ hd0 (fun b o z => ?_) upd_same⟩
  have nb : b ≠ a := ne_of_none z ha
  rw [upd_ne (ne_of_none z hd0), del_ne nb]
  exact kp b o (by rw [upd_ne nb]; exact z) nb
theorem ErrC.raises {X : Cx} {name : Str} {C M : Addr} (e : ErrC X.K X.mg name C M) : Raises X (.ref C) := raises_own e.oex.exC e.oex.tyC
end
end Kx

namespace Kx
open PySem L2 Own
/-! ### what is handed to a machine: lists of lists of tuples -/
def WayS (K : PySem.W.Frag) (H : Hp) (v : V) (w : Way) : Prop := ∃ a kv, v = .ref a ∧ H a = some (.tup [.int w.1, kv]) ∧ Texts K H kv w.2
def RowL (K : PySem.W.Frag) (H : Hp) (v : V) (r : List Way) : Prop := ∃ a vs, v = .ref a ∧ H a = some (.lst vs) ∧ Paired (WayS K H) vs r
theorem seqT {K : PySem.W.Frag} {H H' : Hp} {a : Addr} {xs : List V} (s : Same H H') (h : SqT K H a xs) : SqT K H' a xs := by
  rcases h with h | h
  · exact .inl (h.imp (s _ _) fun ⟨o, z⟩ => ⟨o, s _ _ z⟩)
  · exact .inr h
theorem _root_.Own.Texts.keep {K : PySem.W.Frag} {H H' : Hp} (s : Same H H') {v : V} {xs : List Str} (h : Texts K H v xs) : Texts K H' v xs := by
  cases h with
  | list h => exact .list (s.seq h)
  | tup h => exact .tup (seqT s h)
  | text y => exact .text y
theorem WayS.keep {K : PySem.W.Frag} {H H' : Hp} (s : Same H H') {v : V} {w : Way} (h : WayS K H v w) : WayS K H' v w := by
  obtain ⟨a, kv, e, h, k⟩ := h
  exact ⟨a, kv, e, s _ _ h, k.keep s⟩
theorem RowL.keep {K : PySem.W.Frag} {H H' : Hp} (s : Same H H') {v : V} {r : List Way} (h : RowL K H v r) : RowL K H' v r := by
  obtain ⟨a, vs, e, h, k⟩ := h
  exact ⟨a, vs, e, s _ _ h, L2.Paired.mapP k fun _ _ z => z.keep s⟩
def Okw (n : Nat) (w : Way) : Prop := 0 ≤ w.1 ∧ w.1 < n
section
variable {P : Program} {w : World} {K : PySem.W.Frag} {mg : Str → Option Value} {base : Heap} {A : EAd} {B : MAd}
def spCheck (K : PySem.W.Frag) (A : EAd) : Sp := fun vs H Q E => ∃ (r : Addr) (rv : List V) (R : List (List Way)), vs = [.ref r] ∧ H r = some (.lst rv) ∧ Paired (RowL K H) rv R ∧
  (∀ H', Same H H' → (∀ (i : Nat) q, R[i]? = some q → ∀ w ∈ q, Okw R.length w) → Q .non H') ∧
  ∀ (i j : Nat) (q : List Way) (w : Way) (dx : Addr) (H' : Hp), R[i]? = some q → q[j]? = some w → ¬ Okw R.length w → (∀ (i' : Nat) q', i' < i → R[i']? = some q' → ∀ w ∈ q', Okw R.length w) → (∀ (j' : Nat) w', j' < j → q[j']? = some w' → Okw R.length w') →
    H dx = none → Same H H' → H' dx = some (.xd [("place", .int j), ("state", .int i)]) → E (.ref A.c1) (some dx) H'
theorem sc_check : FnScope ["rows", "state", "row", "place", "way"] ["rows"] (defScope s_check_ways) := ⟨rfl, rfl, rfl, by decide +kernel, rfl, by decide +kernel, by decide +kernel⟩
theorem ok_check (T : TxtM K mg B) (TE : TxtE K mg A) : FnOk P w K mg base (L2.CX P w) 4 B.f3 B.d3 ["rows"] (spCheck K A) := by
  have sc := sc_check
  have G_is_whole : FnOk P w K mg base CX0 1 B.f1 B.d1 ["value"] spWhole := ok_is_whole T
  refine T.D_check_ways.F.okX sc (fun vs H Q E h => ?_) (fun cdv A1 outer s H vs Q E hr h => ?_)
  · obtain ⟨_, _, _, rfl, _⟩ := h; rfl
  · obtain ⟨r, rv, R, rfl, hrv, pR, good, bad⟩ := h
    refine ⟨_, (pss_one (ps_for (passes_of rfl) rfl (pi_enum (by rfl) T.n_enumerate (pa_cons (pv 0) pa_nil)) (pg_tup rfl (pgs_cons (pg_name (i := 1) sc.nd rfl (Or.inl rfl)) (pgs_cons (pg_name (i := 2) sc.nd rfl (Or.inl rfl)) pgs_nil)))
      (pss_one (ps_for (passes_of rfl) rfl (pi_enum (by rfl) T.n_enumerate (pa_cons (pv 2) pa_nil)) (pg_tup rfl (pgs_cons (pg_name (i := 3) sc.nd rfl (Or.inl rfl)) (pgs_cons (pg_name (i := 4) sc.nd rfl (Or.inl rfl)) pgs_nil)))
        (pss_one (ps_if (PW.pt (pw_or (pt_not (pt_val (pe_call G_is_whole (hr.mono (by decide)) rfl T.D_is_whole.g T.D_is_whole.F.kp T.D_is_whole.b .nil pass0 (pa_cons (pe_ix ix_tup (pv 4) pe_int (fun _ _ => rfl)) pa_nil)))) (pw_or (pt_cmpR op_lt (pe_ix ix_tup (pv 4) pe_int (fun _ _ => rfl)) pe_int (nomark _)) (pw_or1 (pt_cmpR op_ge (pe_ix ix_tup (pv 4) pe_int (fun _ _ => rfl)) (pe_callB call_len (by rfl) T.n_len (by decide +kernel) (pa_cons (pv 0) pa_nil)) (nomark _))))))
          (pss_one (ps_raise rfl (takes_of rfl rfl rfl rfl) (pmk_oex TE.E_BadMachine.oex TE.I_BadMachine.iC TE.I_BadMachine.tI (ok_BadMachine TE) (hr.mono (by decide)) TE.I_BadMachine.b .nil pass0 rfl TE.E_BadMachine.g (pa_cons (pv 1) (pa_cons (pv 3) pa_nil)))))
          pss_nil)))))), ?_⟩
    have shut : ∀ {b : Addr} {o : HO}, H b = none → H b = some o → False := fun e1 e2 => by rw [e1] at e2; cases e2
    refine ⟨_, rfl, r, rv, rfl, SqL.of hrv, ?_⟩
    refine for_it walk_enum (fun i σ H' => (∃ x1 x2 x3 x4, σ = [some (.ref r), x1, x2, x3, x4]) ∧ Same H H' ∧ ∀ (i' : Nat) q', i' < i → R[i']? = some q' → ∀ w ∈ q', Okw R.length w) ⟨⟨_, _, _, _, rfl⟩, Same.refl _, fun i' q' h => nomatch h⟩ (fun i σ H' _ z => SqL.of (z.2.1 _ _ hrv)) ?_ ?_
    · rintro i x σ H1 H1' hi ⟨⟨x1, x2, x3, x4, rfl⟩, s1, g1⟩ ⟨t1, u1, y, rfl, nt1, rfl, eu, hy⟩
      cases eu
      obtain ⟨q, hq, a, vs, rfl, ha, pr⟩ := pat pR hy
      have s2 : Same H (upd H1 t1 (.tup [.int (i : Nat), .ref a])) := fun b o e => Same.upd nt1 _ _ (s1 _ _ e)
      refine ⟨t1, _, rfl, SqT.of upd_same, rfl, _, _, rfl, _, _, rfl, rfl, ?_⟩
      generalize upd H1 t1 (.tup [.int (i : Nat), .ref a]) = H2 at s2 ⊢
      refine ⟨_, rfl, a, vs, rfl, SqL.of (s2 _ _ ha), ?_⟩
      refine for_it walk_enum (fun j σ H' => (∃ x3 x4, σ = [some (.ref r), some (.int (i : Nat)), some (.ref a), x3, x4]) ∧ Same H H' ∧ ∀ (j' : Nat) w', j' < j → q[j']? = some w' → Okw R.length w') ⟨⟨_, _, rfl⟩, s2, fun i' q' h => nomatch h⟩ (fun i σ H' _ z => SqL.of (z.2.1 _ _ ha)) ?_ ?_
      · rintro j x σ H3 H3' hj ⟨⟨x3, x4, rfl⟩, s3, g3⟩ ⟨t2, u2, z, rfl, nt2, rfl, eu, hz⟩
        cases eu
        obtain ⟨wy, hwy, b, kv, rfl, hb, kt⟩ := pat pr hz
        have s4 : Same H (upd H3 t2 (.tup [.int (j : Nat), .ref b])) := fun c o e => Same.upd nt2 _ _ (s3 _ _ e)
        refine ⟨t2, _, rfl, SqT.of upd_same, rfl, _, _, rfl, _, _, rfl, rfl, ?_⟩
        generalize upd H3 t2 (.tup [.int (j : Nat), .ref b]) = H4 at s4 ⊢
        have hw : SqT K H4 b [.int wy.1, kv] := SqT.of (s4 _ _ hb)
        have at0 : atI ([.int wy.1, kv] : List V) 0 = some (.int wy.1) := atI_nat (j := 0) rfl
        have go : ¬ Okw R.length wy → ([V.int (i : Nat), V.int (j : Nat)] : List V).length ≤ 1000 ∧ ∀ a, H4 a = none → spErr A.c1 ["state", "place"] (.ref a :: ([V.int (i : Nat), V.int (j : Nat)] ++ [])) (upd H4 a (exo a A.c1 none)) (fun u H2 => u = .non ∧ ∃ (dx : Addr) (fs : List (Str × V)), H2 a = some (exo a A.c1 (some dx)) ∧ H2 dx = some (exd dx fs) ∧ H4 dx = none ∧ E (.ref A.c1) (some dx) (upd (del H2 a) dx (.xd fs))) (fun _ _ _ => False) := fun nb =>
          rsE rfl (by show 2 ≤ 1000; decide) (fun u hu => .inl (by
            rcases List.mem_cons.mp hu with rfl | hu
            · exact ⟨_, rfl⟩
            · rw [List.mem_singleton.mp hu]; exact ⟨_, rfl⟩)) fun dx H5 hd s5 h5 => bad i j q wy dx H5 hq hwy nb g1 g3 (s4.free hd) (fun b o e => s5 _ _ (s4 _ _ e)) h5
        refine ⟨_, rfl, b, _, 0, _, rfl, rfl, hw, at0, wy.1, rfl, _, rfl, iteF ?_⟩
        refine ⟨_, rfl, b, _, 0, _, rfl, rfl, hw, at0, _, _, rfl, rfl, _, rfl, ?_⟩
        by_cases c1 : wy.1 < 0
        · refine ifT c1 ?_
          refine ⟨_, rfl, _, rfl, ?_⟩
          exact go fun h => by have := h.1; omega
        refine ifF c1 ?_
        refine ⟨_, rfl, b, _, 0, _, rfl, rfl, hw, at0, _, rfl, .ref r, rv.length, rfl, .inl ⟨_, SqL.of (s4 _ _ hrv), rfl⟩, _, _, rfl, rfl, _, rfl, ?_⟩
        have el : rv.length = R.length := Paired.length pR
        by_cases c2 : (rv.length : Int) ≤ wy.1
        · refine ifT c2 ?_
          refine ⟨_, rfl, _, rfl, ?_⟩
          exact go fun h => by have := h.2; omega
        refine ifF c2 ?_
        refine ⟨⟨_, _, rfl⟩, s4, fun j' w' lt hw' => ?_⟩
        by_cases c : j' < j
        · exact g3 j' w' c hw'
        · have ej : j' = j := by omega
          subst ej
          rw [hwy] at hw'
          cases hw'
          exact ⟨by omega, by omega⟩
      · rintro σ H3 ⟨⟨x3, x4, rfl⟩, s3, g3⟩
        have e : vs.length = q.length := Paired.length pr
        refine ⟨⟨_, _, _, _, rfl⟩, s3, fun i' q' lt hq' w hw => ?_⟩
        by_cases c : i' < i
        · exact g1 i' q' c hq' w hw
        · have ei : i' = i := by omega
          subst ei
          rw [hq] at hq'
          cases hq'
          obtain ⟨j', hj'⟩ := List.getElem?_of_mem hw
          exact g3 j' w (by rw [e]; exact (List.getElem?_eq_some_iff.mp hj').1) hj'
    · rintro σ H1 ⟨_, s1, g1⟩
      refine good H1 s1 fun i q hq => g1 i q ?_ hq
      rw [Paired.length pR]
      exact (List.getElem?_eq_some_iff.mp hq).1
end
end Kx

namespace Kx
open PySem L2 Own
abbrev s_init : Stmt := inClass (top 28) 0
/-- the dict of a row's ways after i signs -/
def kvUp (sg : Str) (vs : List V) : Nat → List (Key × V)
  | 0 => []
  | i + 1 => match sg.cps[i]?, vs[i]? with
    | some c, some x => putK (kvUp sg vs i) (Sum.inr (Froz.sing c)) x
    | _, _ => kvUp sg vs i
structure CAd where
  C : Addr
  f : Addr
  d : FuncData
structure TxtC (K : PySem.W.Frag) (mg : Str → Option Value) (Z : CAd) : Prop where
  cl : Cls K Z.C
  make : Mk K Z.C Z.f
  F : Fun K "__init__" "Machine.__init__" s_init Z.f Z.d
  b : Binds K Z.d ["self", "signs", "rows", "ends"] []
  g : mg "Machine" = some (.ref Z.C)
  a1 : NoAttr K Z.C "signs"
  a2 : NoAttr K Z.C "rows"
  a3 : NoAttr K Z.C "ends"
  a4 : NoAttr K Z.C "all_keys"
  a5 : NoAttr K Z.C "_ways"
  g_MOST_KEYS : ∃ t, mg "MOST_KEYS" = some (.int 12 t)
/-- what the inner displays of __init__ ask -/
def rowsTe (K : PySem.W.Frag) : TE := tThen (tLc (iList K (tVar 4)) (gTup K 2 (gCons (gName 5) (gCons (gName 6) gNil))) tYes (tTup (tCons (tVar 5) (tCons (tCall (spKl K) [] E0 (tCons (tVar 6) tNil)) tNil))) [5, 6]) (kTup K)
def waysTe (K : PySem.W.Frag) : TE := tDc (iZips K (tCons (tVar 1) (tCons (tVar 4) tNil))) (gTup K 2 (gCons (gName 8) (gCons (gName 9) gNil))) tYes (tVar 8) (tVar 9) [8, 9]
section
variable {P : Program} {w : World} {K : PySem.W.Frag} {mg : Str → Option Value} {base : Heap} {A : EAd} {B : MAd} {Z : CAd}
theorem sc_init : FnScope ["self", "signs", "rows", "ends", "row", "to", "given", "end", "sign", "way"] ["self", "signs", "rows", "ends"] (defScope s_init) := ⟨rfl, rfl, rfl, by decide +kernel, rfl, by decide +kernel, by decide +kernel⟩
end
end Kx

namespace Kx
open PySem L2 Own
/-- the turns of a display, the slots written out -/
theorem lcs_it {J : It} {n : Nat} {G : Hp → Prop} {Yl : Nat → Hp → V → Hp → Prop} {g : TG} {tt : TT} {te : TE} {vs : List Nat} {σ : L2.St} {H1 : Hp} {D : Addr} {Qd : Hp → Prop} (τ : L2.St) (ht : wipe σ vs = τ) (w : L2.Walk J n G Yl) (Pv : Nat → Hp → Prop) (h0 : Pv 0 (upd H1 D (.lst []))) (hG : ∀ i H, i ≤ n → Pv i H → G H)
    (hs : ∀ i x H H', i < n → Pv i H → Yl i H x H' → g x τ H' fun σ2 H2 => wipe σ2 vs = τ ∧ tt σ2 H2 fun b H3 =>
      if b = true then te σ2 H3 fun y H4 => ∃ acc, H4 D = some (.lst acc) ∧ acc.length < sizeLine ∧ Pv (i + 1) (upd H4 D (.lst (acc ++ [y]))) else Pv (i + 1) H3) (hd : ∀ H, Pv n H → Qd H) :
    ∃ W : Nat → Nat → Hp → Prop, (∃ m, W 0 m (upd H1 D (.lst []))) ∧ ∀ i m H, W i m H →
      (J.stop i H ∧ Qd H) ∨ (J.go i H ∧ ∃ Nx : Hp → Prop, (∀ H', Nx H' → ∃ m', m' < m ∧ W (i + 1) m' H') ∧ ∀ x H', J.yld i H x H' → g x (wipe σ vs) H' fun σ2 H2 => wipe σ2 vs = wipe σ vs ∧ tt σ2 H2 fun b H3 =>
        if b = true then te σ2 H3 fun y H4 => ∃ acc, H4 D = some (.lst acc) ∧ acc.length < sizeLine ∧ Nx (upd H4 D (.lst (acc ++ [y]))) else Nx H3) := by
  subst ht
  exact lc_it w Pv h0 hG hs hd
/-- the same of a display of a dict -/
theorem dcs_it {J : It} {n : Nat} {G : Hp → Prop} {Yl : Nat → Hp → V → Hp → Prop} {g : TG} {tt : TT} {tk tv : TE} {vs : List Nat} {σ : L2.St} {H1 : Hp} {D : Addr} {Qd : Hp → Prop} (τ : L2.St) (ht : wipe σ vs = τ) (w : L2.Walk J n G Yl) (Pv : Nat → Hp → Prop) (h0 : Pv 0 (upd H1 D (.dK []))) (hG : ∀ i H, i ≤ n → Pv i H → G H)
    (hs : ∀ i x H H', i < n → Pv i H → Yl i H x H' → g x τ H' fun σ2 H2 => wipe σ2 vs = τ ∧ tt σ2 H2 fun b H3 =>
      if b = true then tk σ2 H3 fun y H4 => tv σ2 H4 fun z H5 => ∃ kvs k, y = kV k ∧ H5 D = some (.dK kvs) ∧ kvs.length < sizeLine ∧ Pv (i + 1) (upd H5 D (.dK (putK kvs k z))) else Pv (i + 1) H3) (hd : ∀ H, Pv n H → Qd H) :
    ∃ W : Nat → Nat → Hp → Prop, (∃ m, W 0 m (upd H1 D (.dK []))) ∧ ∀ i m H, W i m H →
      (J.stop i H ∧ Qd H) ∨ (J.go i H ∧ ∃ Nx : Hp → Prop, (∀ H', Nx H' → ∃ m', m' < m ∧ W (i + 1) m' H') ∧ ∀ x H', J.yld i H x H' → g x (wipe σ vs) H' fun σ2 H2 => wipe σ2 vs = wipe σ vs ∧ tt σ2 H2 fun b H3 =>
        if b = true then tk σ2 H3 fun y H4 => tv σ2 H4 fun z H5 => ∃ kvs k, y = kV k ∧ H5 D = some (.dK kvs) ∧ kvs.length < sizeLine ∧ Nx (upd H5 D (.dK (putK kvs k z))) else Nx H3) := by
  subst ht
  refine ⟨fun i m H => m + i = n ∧ Pv i H, ⟨n, rfl, h0⟩, fun i m H ⟨e, p⟩ => ?_⟩
  have q := hG i H (by omega) p
  by_cases c : i = n
  · subst c
    exact .inl ⟨w.stops H q, hd H p⟩
  · exact .inr ⟨w.goes i H (by omega) q, Pv (i + 1), fun H' p' => ⟨m - 1, by omega, by omega, p'⟩, fun x H' y => hs i x H H' (by omega) p (w.yields i H x H' (by omega) q y)⟩
/-- a way, a row as a machine keeps them -/
def nw (w : Way) : Way := (w.1, kl w.2)
def nrm (r : List Way) : List Way := r.map nw
theorem psnoc {α β : Type} {F : α → β → Prop} : ∀ {l : List α} {m : List β} {x : α} {y : β}, Paired F l m → F x y → Paired F (l ++ [x]) (m ++ [y])
  | _, _, _, _, .nil, h => .cons h .nil
  | _, _, _, _, .cons r t, h => .cons r (psnoc t h)
/-- [(to, key_list(given)) for to, given in row] behind tuple: a row as it is kept -/
theorem row_made {K : PySem.W.Frag} {v0 v1 v2 v3 : V} {H : Hp} {a : Addr} {vs : List V} {q : List Way} {Q : VK} (ha : H a = some (.lst vs)) (pr : Paired (WayS K H) vs q) (hz : q.length ≤ 1000) (hb : ∀ w ∈ q, w.2.length + 1 < scanBound)
    (k : ∀ p H', H p = none → Same H H' → RowT H' (.ref p) (nrm q) → Q (.ref p) H') : rowsTe K [some v0, some v1, some v2, some v3, some (.ref a), none, none, none, none, none] H Q := by
  have hv : vs.length = q.length := Paired.length pr
  refine ⟨_, rfl, a, rfl, ⟨_, SqL.of ha⟩, fun D hD => ?_⟩
  have put : ∀ {H' : Hp} {xs : List V}, Same H H' → Same H (upd H' D (.lst xs)) := fun {H' xs} s1 b o e => by rw [upd_ne (ne_of_none e hD)]; exact s1 b o e
  refine lcs_it [some v0, some v1, some v2, some v3, some (.ref a), none, none, none, none, none] rfl walk_list (fun j H' => Same H H' ∧ ∃ acc, H' D = some (.lst acc) ∧ acc.length = j ∧ Paired (WayT H') acc ((q.take j).map nw)) ⟨Same.upd hD, [], upd_same, rfl, .nil⟩ (fun i H' _ z => SqL.of (z.1 _ _ ha)) ?_ ?_
  · rintro j x _ H1 hj ⟨s1, acc, hacc, hl, pa⟩ ⟨rfl, hx⟩
    obtain ⟨w, hw, b, kv, rfl, hb2, kt⟩ := pat pr hx
    refine ⟨b, _, rfl, SqT.of (s1 _ _ hb2), rfl, _, _, rfl, _, _, rfl, rfl, rfl, ?_⟩
    refine ⟨_, rfl, _, rfl, kv, w.2, rfl, kt.keep s1, hb w (List.mem_of_getElem? hw), fun p H2 hp s2 h2 => ?_⟩
    refine ⟨by show 2 ≤ sizeLine; decide, fun t ht => ⟨acc, ?_, ?_, ?_, acc ++ [.ref t], upd_same, by rw [List.length_append, hl]; rfl, ?_⟩⟩
    · exact Same.upd ht _ _ (s2 _ _ hacc)
    · rw [hl]
      exact Nat.lt_of_lt_of_le (Nat.lt_of_lt_of_le hj (hv ▸ hz)) (by decide)
    · exact put fun c o e => Same.upd ht _ _ (s2 _ _ (s1 _ _ e))
    · have tk : (q.take (j + 1)).map nw = (q.take j).map nw ++ [nw w] := by rw [List.take_add_one, hw]; simp
      rw [tk]
      have kp : ∀ b xs, H1 b = some (.tup xs) → (upd (upd H2 t (.tup [.int w.1, .ref p])) D (.lst (acc ++ [.ref t]))) b = some (.tup xs) := fun b xs e => by
        have e1 := Same.upd (o := .tup [.int w.1, .ref p]) ht _ _ (s2 _ _ e)
        rw [upd_ne (ne_of e1 (Same.upd ht _ _ (s2 _ _ hacc)) (by intro z; cases z))]
        exact e1
      have nt : t ≠ D := fun e => by
        have := s2 _ _ hacc
        rw [← e, ht] at this
        cases this
      refine psnoc (L2.Paired.mapP pa fun _ _ z => z.keep kp) ⟨t, .ref p, rfl, by rw [upd_ne nt, upd_same]; rfl, p, rfl, ?_⟩
      have e1 := Same.upd (o := .tup [.int w.1, .ref p]) ht _ _ h2
      rw [upd_ne (ne_of e1 (Same.upd ht _ _ (s2 _ _ hacc)) (by intro z; cases z))]
      exact e1
  · rintro H1 ⟨s1, acc, hacc, hl, pa⟩
    rw [hv, List.take_length] at pa
    refine .inl ⟨D, acc, rfl, SqL.of hacc, fun p hp => ?_⟩
    refine k p _ (s1.free hp) (fun b o e => Same.upd hp _ _ (s1 _ _ e)) ⟨p, acc, rfl, upd_same, L2.Paired.mapP pa fun _ _ z => z.keep (tups (Same.upd hp))⟩
theorem kvUp_len (sg : Str) (vs : List V) : ∀ i, (kvUp sg vs i).length ≤ i
  | 0 => Nat.le_refl _
  | i + 1 => by
    have ih := kvUp_len sg vs i
    unfold kvUp
    split
    · rename_i c x _ _
      have := length_putK (kvUp sg vs i) (Sum.inr (Froz.sing c)) x
      omega
    · omega
/-- {sign: way for sign, way in zip(signs, row)} -/
theorem ways_made {K : PySem.W.Frag} {v0 v2 v3 : V} {sg : Str} {H : Hp} {a : Addr} {vs : List V} {Q : VK} (ha : H a = some (.tup vs)) (asc : sg.cps.all (· < 128) = true) (hl : sg.cps.size ≤ vs.length) (hz : sg.cps.size ≤ 1000)
    (k : ∀ d H', H d = none → Same H H' → H' d = some (.dK (kvUp sg vs sg.cps.size)) → Q (.ref d) H') : waysTe K [some v0, some (.str sg), some v2, some v3, some (.ref a), none, none, none, none, none] H Q := by
  refine ⟨_, rfl, _, rfl, sg, a, vs, rfl, asc, SqT.of ha, fun D hD => ?_⟩
  refine dcs_it [some v0, some (.str sg), some v2, some v3, some (.ref a), none, none, none, none, none] rfl (walk_zips hl) (fun i H' => Same H H' ∧ H' D = some (.dK (kvUp sg vs i))) ⟨Same.upd hD, upd_same⟩ (fun i H' _ z => SqT.of (z.1 _ _ ha)) ?_ (fun H' z => k D H' hD z.1 z.2)
  rintro i x H1 H1' hi ⟨s1, h1⟩ ⟨t, y, z, rfl, nt, rfl, ey, ez⟩
  obtain ⟨c, hc, rfl⟩ := Option.map_eq_some_iff.mp ey
  have ln := kvUp_len sg vs i
  refine ⟨t, _, rfl, SqT.of upd_same, rfl, _, _, rfl, _, _, rfl, rfl, rfl, _, rfl, _, rfl, kvUp sg vs i, Sum.inr (Froz.sing c), rfl, Same.upd nt _ _ h1, ?_, ?_, ?_⟩
  · rw [sizeLine_eq]; omega
  · intro b o e
    rw [upd_ne (ne_of_none e hD)]
    exact Same.upd nt _ _ (s1 _ _ e)
  · rw [upd_same]
    have e : kvUp sg vs (i + 1) = putK (kvUp sg vs i) (Sum.inr (Froz.sing c)) z := by
      show (match sg.cps[i]?, vs[i]? with
        | some c, some x => putK (kvUp sg vs i) (Sum.inr (Froz.sing c)) x
        | _, _ => kvUp sg vs i) = _
      rw [hc, show vs[i]? = some z from ez]
    rw [e]
end Kx

namespace Kx
open PySem L2 Own
/-- an instance stands at m; all but it is as it was -/
def Kd (m : Addr) (H H' : Hp) : Prop := (∃ C dx fs, H m = some (.ins C dx fs)) ∧ ∀ b o, H b = some o → b ≠ m → H' b = some o
section
variable {m : Addr} {H H' H2 : Hp}
theorem Kd.of {C dx : Addr} {fs : List (Str × V)} (hm : H m = some (.ins C dx fs)) (s : Same H H') : Kd m H H' := ⟨⟨C, dx, fs, hm⟩, fun b o e _ => s b o e⟩
theorem Kd.trans (a : Kd m H H') (s : Same H' H2) : Kd m H H2 := ⟨a.1, fun b o e n => s b o (a.2 b o e n)⟩
theorem Kd.get (s : Kd m H H') {b : Addr} {o : HO} (e : H b = some o) (n : ∀ C dx fs, o ≠ .ins C dx fs) : H' b = some o := by
  obtain ⟨⟨C, dx, fs, hm⟩, k⟩ := s
  exact k b o e (ne_of e hm (n C dx fs))
theorem Kd.lst (s : Kd m H H') {b : Addr} {xs : List V} (e : H b = some (.lst xs)) : H' b = some (.lst xs) := s.get e fun _ _ _ z => by cases z
theorem Kd.tup (s : Kd m H H') {b : Addr} {xs : List V} (e : H b = some (.tup xs)) : H' b = some (.tup xs) := s.get e fun _ _ _ z => by cases z
end
theorem Kd.texts {K : PySem.W.Frag} {m : Addr} {H H' : Hp} (s : Kd m H H') {v : V} {xs : List Str} (h : Texts K H v xs) : Texts K H' v xs := by
  cases h with
  | list h =>
    rcases h with (h | ⟨o, h⟩) | h
    · exact .list (.inl (.inl (s.lst h)))
    · exact .list (.inl (.inr ⟨o, s.get h fun _ _ _ z => by cases z⟩))
    · exact .list (.inr h)
  | tup h =>
    rcases h with (h | ⟨o, h⟩) | h
    · exact .tup (.inl (.inl (s.tup h)))
    · exact .tup (.inl (.inr ⟨o, s.get h fun _ _ _ z => by cases z⟩))
    · exact .tup (.inr h)
  | text y => exact .text y
theorem Kd.row {K : PySem.W.Frag} {m : Addr} {H H' : Hp} (s : Kd m H H') {v : V} {r : List Way} (h : RowL K H v r) : RowL K H' v r := by
  obtain ⟨a, vs, e, h, k⟩ := h
  refine ⟨a, vs, e, s.lst h, L2.Paired.mapP k fun _ _ ⟨b, kv, e1, e2, e3⟩ => ⟨b, kv, e1, s.tup e2, s.texts e3⟩⟩
/-- the dicts of a machine's ways -/
def WaysD (sg : Str) (H : Hp) (d : V) (rw : V) : Prop := ∃ a b vs, d = .ref a ∧ rw = .ref b ∧ H b = some (.tup vs) ∧ H a = some (.dK (kvUp sg vs sg.cps.size))
/-- a machine of the signs sg, the rows R and the ends Es stands at m -/
def MachAt (C : Addr) (H : Hp) (m : Addr) (sg : Str) (R : List (List Way)) (Es : List (List Str)) : Prop := ∃ (dx r e k w : Addr) (rv ev wv : List V),
  H m = some (.ins C dx [("signs", .str sg), ("rows", .ref r), ("ends", .ref e), ("all_keys", .ref k), ("_ways", .ref w)]) ∧ H r = some (.tup rv) ∧ Paired (RowT H) rv R ∧ H e = some (.tup ev) ∧ Paired (KeysT H) ev Es ∧
  H k = some (.tup ((kl (keysOfRows R ++ Es.flatten)).map V.str)) ∧ H w = some (.tup wv) ∧ Paired (WaysD sg H) wv rv
theorem way_le {R : List (List Way)} {i : Nat} {q : List Way} {w : Way} (hq : R[i]? = some q) (hw : w ∈ q) : w.2.length ≤ (keysOfRows R).length := by
  obtain ⟨j, hj⟩ := List.getElem?_of_mem hw
  have a := flat_le (fun r : List Way => r.flatMap fun w => w.2) hq
  have b := flat_le (fun w : Way => w.2) hj
  unfold keysOfRows
  omega
theorem snap {α β : Type} (f : α → β) {l : List α} {i : Nat} {x : α} (h : l[i]? = some x) : (l.take (i + 1)).map f = (l.take i).map f ++ [f x] := by rw [List.take_add_one, h]; simp
theorem tyes {σ : L2.St} {H : Hp} {F : Bool → Hp → Prop} (h : F true H) : tYes σ H F := h
theorem mem_nrm {R : List (List Way)} {y : Str} : y ∈ keysOfRows (R.map nrm) ↔ y ∈ keysOfRows R := by
  unfold keysOfRows nrm
  simp only [List.mem_flatMap, List.mem_map]
  constructor
  · rintro ⟨_, ⟨q, hq, rfl⟩, w, hw, hy⟩
    obtain ⟨w0, hw0, rfl⟩ := List.mem_map.mp hw
    exact ⟨q, hq, w0, hw0, kl_mem.mp hy⟩
  · rintro ⟨q, hq, w, hw, hy⟩
    exact ⟨_, ⟨q, hq, rfl⟩, nw w, List.mem_map.mpr ⟨w, hw, rfl⟩, kl_mem.mpr hy⟩
theorem mem_ends {Es : List (List Str)} {y : Str} : y ∈ (Es.map kl).flatten ↔ y ∈ Es.flatten := by
  simp only [List.mem_flatten, List.mem_map]
  constructor
  · rintro ⟨_, ⟨q, hq, rfl⟩, hy⟩
    exact ⟨q, hq, kl_mem.mp hy⟩
  · rintro ⟨q, hq, hy⟩
    exact ⟨_, ⟨q, hq, rfl⟩, kl_mem.mpr hy⟩
theorem len_row : ∀ r : List Way, ((nrm r).flatMap fun w => w.2).length ≤ (r.flatMap fun w => w.2).length
  | [] => Nat.le_refl _
  | w :: r => by
    have ih := len_row r
    have k := kl_len w.2
    unfold nrm at ih ⊢
    rw [List.map_cons, List.flatMap_cons, List.flatMap_cons, List.length_append, List.length_append]
    show (kl w.2).length + _ ≤ _
    omega
theorem len_nrm : ∀ R : List (List Way), (keysOfRows (R.map nrm)).length ≤ (keysOfRows R).length
  | [] => Nat.le_refl _
  | r :: R => by
    have ih := len_nrm R
    have k := len_row r
    unfold keysOfRows at ih ⊢
    rw [List.map_cons, List.flatMap_cons, List.flatMap_cons, List.length_append, List.length_append]
    omega
theorem len_ends : ∀ Es : List (List Str), (Es.map kl).flatten.length ≤ Es.flatten.length
  | [] => Nat.le_refl _
  | e :: Es => by
    have ih := len_ends Es
    have k := kl_len e
    rw [List.map_cons, List.flatten_cons, List.flatten_cons, List.length_append, List.length_append]
    omega
theorem WaysD.keep {sg : Str} {H H' : Hp} (s : ∀ b xs, H b = some (.tup xs) → H' b = some (.tup xs)) (s2 : ∀ b xs, H b = some (.dK xs) → H' b = some (.dK xs)) {d rw1 : V} (h : WaysD sg H d rw1) : WaysD sg H' d rw1 := by
  obtain ⟨a, b, vs, e1, e2, e3, e4⟩ := h
  exact ⟨a, b, vs, e1, e2, s _ _ e3, s2 _ _ e4⟩
section
variable {P : Program} {w : World} {K : PySem.W.Frag} {mg : Str → Option Value} {base : Heap} {A : EAd} {B : MAd} {Z : CAd}
def spInit (K : PySem.W.Frag) (A : EAd) (Z : CAd) : Sp := fun vs H Q E => ∃ (m r e dx : Addr) (sg : Str) (rv ev : List V) (R : List (List Way)) (Es : List (List Str)), vs = [.ref m, .str sg, .ref r, .ref e] ∧ H m = some (.ins Z.C dx []) ∧
  H r = some (.lst rv) ∧ Paired (RowL K H) rv R ∧ H e = some (.lst ev) ∧ Paired (Texts K H) ev Es ∧ sg.cps.all (· < 128) = true ∧ sg.cps.size ≤ 1000 ∧ (∀ q ∈ R, sg.cps.size ≤ q.length ∧ q.length ≤ 1000) ∧ R.length ≤ 1000 ∧ Es.length ≤ 1000 ∧ (keysOfRows R ++ Es.flatten).length + 1 < scanBound ∧
  (∀ (i j : Nat) (q : List Way) (w : Way) (d : Addr) (H' : Hp), R[i]? = some q → q[j]? = some w → ¬ Okw R.length w → (∀ (i' : Nat) q', i' < i → R[i']? = some q' → ∀ w ∈ q', Okw R.length w) → (∀ (j' : Nat) w', j' < j → q[j']? = some w' → Okw R.length w') →
    H d = none → Kd m H H' → H' d = some (.xd [("place", .int j), ("state", .int i)]) → E (.ref A.c1) (some d) H') ∧
  ((∀ (i : Nat) q, R[i]? = some q → ∀ w ∈ q, Okw R.length w) → ∀ H', Kd m H H' → (12 < (kl (keysOfRows R ++ Es.flatten)).length → ∀ d, H d = none → H' d = some (.xd [("what", .str "keys")]) → E (.ref A.c2) (some d) H') ∧
    ((kl (keysOfRows R ++ Es.flatten)).length ≤ 12 → MachAt Z.C H' m sg (R.map nrm) (Es.map kl) → Q .non H'))
theorem ok_init (T : TxtM K mg B) (TE : TxtE K mg A) (TC : TxtC K mg Z) : FnOk P w K mg base (L2.CX P w) 5 Z.f Z.d ["self", "signs", "rows", "ends"] (spInit K A Z) := by
  have sc := sc_init
  have G_check : FnOk P w K mg base (L2.CX P w) 4 B.f3 B.d3 ["rows"] (spCheck K A) := ok_check T TE
  have G_key_list : FnOk P w K mg base CX0 1 B.f2 B.d2 ["given"] (spKl K) := ok_key_list T
  have G_keys_in : FnOk P w K mg base CX0 2 B.f4 B.d4 ["rows", "ends"] (spKin K) := ok_keys_in T
  obtain ⟨tk, g12⟩ := TC.g_MOST_KEYS
  refine TC.F.okX sc (fun vs H Q E h => ?_) (fun cdv A1 outer s H vs Q E hr h => ?_)
  · obtain ⟨_, _, _, _, _, _, _, _, _, rfl, _⟩ := h; rfl
  · obtain ⟨m, r, e, dx, sg, rv, ev, R, Es, rfl, hm, hrv, pR, hev, pE, asc, sz, rl, Rl, El, hb, bad, good⟩ := h
    refine ⟨_, (pss_cons (ps_expr (pe_callS G_check (hr.mono (by decide)) rfl T.D_check_ways.g T.D_check_ways.F.kp T.D_check_ways.b (fun σ => passAt (takes_of rfl rfl rfl rfl) σ) (pa_cons (pv 2) pa_nil)))
      (pss_cons (ps_fld (pv 0) (pv 1) rfl)
      (pss_cons (ps_fld (pv 0) (pe_tupleOf rfl T.n_tuple (pe_lc (own := [("row", 4)]) (g := gName 4) (tt := tYes) (te := rowsTe K) rfl sc.nd (pi_list (pv 2)) (blkOk_by (N := ["self", "signs", "rows", "ends", "row", "to", "given", "end", "sign", "way"]) (sc := defScope s_init) (own := [("row", 4)]) (by decide +kernel)) (fun _ _ _ _ _ => (pg_name (i := 4) sc.nd rfl (Or.inl rfl))) (fun _ _ _ _ _ => pts_nil)
        (fun _ _ _ _ _ => pe_tupleOf rfl T.n_tuple (pe_lc (own := [("to", 5), ("given", 6)]) (tt := tYes) rfl sc.nd (pi_list (pv 4)) (blkOk_by (own := [("to", 5), ("given", 6)]) (by rfl)) (fun _ _ _ _ _ => pg_tup rfl (pgs_cons (pg_name (i := 5) sc.nd rfl (Or.inl rfl)) (pgs_cons (pg_name (i := 6) sc.nd rfl (Or.inl rfl)) pgs_nil))) (fun _ _ _ _ _ => pts_nil)
          (fun _ _ _ _ _ => pe_tup (pa_cons (pv 5) (pa_cons (pe_call G_key_list (hr.mono (by decide)) rfl T.D_key_list.g T.D_key_list.F.kp T.D_key_list.b .nil pass0 (pa_cons (pv 6) pa_nil)) pa_nil))))))) rfl)
      (pss_cons (ps_fld (pv 0) (pe_tupleOf rfl T.n_tuple (pe_lc (own := [("end", 7)]) (g := gName 7) (tt := tYes) rfl sc.nd (pi_list (pv 3)) (blkOk_by (N := ["self", "signs", "rows", "ends", "row", "to", "given", "end", "sign", "way"]) (sc := defScope s_init) (own := [("end", 7)]) (by decide +kernel)) (fun _ _ _ _ _ => (pg_name (i := 7) sc.nd rfl (Or.inl rfl))) (fun _ _ _ _ _ => pts_nil)
        (fun _ _ _ _ _ => pe_call G_key_list (hr.mono (by decide)) rfl T.D_key_list.g T.D_key_list.F.kp T.D_key_list.b .nil pass0 (pa_cons (pv 7) pa_nil)))) rfl)
      (pss_cons (ps_fld (pv 0) (pe_call G_keys_in (hr.mono (by decide)) rfl T.D_keys_in.g T.D_keys_in.F.kp T.D_keys_in.b .nil pass0 (pa_cons (pe_fld (pv 0) rfl) (pa_cons (pe_fld (pv 0) rfl) pa_nil))) rfl)
      (pss_cons (ps_if (pt_cmpR op_gt (pe_callB call_len (by rfl) T.n_len (by decide +kernel) (pa_cons (pe_fld (pv 0) rfl) pa_nil)) (pe_glob (v := .int 12) rfl g12 ⟨_, rfl⟩) (nomark _))
          (pss_one (ps_raise rfl (takes_of rfl rfl rfl rfl) (pmk_oex TE.E_TooMany.oex TE.I_TooMany.iC TE.I_TooMany.tI (ok_TooMany TE) (hr.mono (by decide)) TE.I_TooMany.b .nil pass0 rfl TE.E_TooMany.g (pa_cons pe_str pa_nil))))
          pss_nil)
      (pss_one (ps_fld (pv 0) (pe_tupleOf rfl T.n_tuple (pe_lc (own := [("row", 4)]) (g := gName 4) (tt := tYes) (te := waysTe K) rfl sc.nd (pi_tup (pe_fld (pv 0) rfl)) (blkOk_by (N := ["self", "signs", "rows", "ends", "row", "to", "given", "end", "sign", "way"]) (sc := defScope s_init) (own := [("row", 4)]) (by decide +kernel)) (fun _ _ _ _ _ => (pg_name (i := 4) sc.nd rfl (Or.inl rfl))) (fun _ _ _ _ _ => pts_nil)
        (fun _ _ _ _ _ => pe_dc (own := [("sign", 8), ("way", 9)]) (tt := tYes) rfl sc.nd (pi_zips (by rfl) T.n_zip (pa_cons (pv 1) (pa_cons (pv 4) pa_nil))) (blkOk_by (own := [("sign", 8), ("way", 9)]) (by rfl)) (fun _ _ _ _ _ => pg_tup rfl (pgs_cons (pg_name (i := 8) sc.nd rfl (Or.inl rfl)) (pgs_cons (pg_name (i := 9) sc.nd rfl (Or.inl rfl)) pgs_nil))) (fun _ _ _ _ _ => pts_nil) (fun _ _ _ _ _ => pv 8) (fun _ _ _ _ _ => pv 9)))) rfl)))))))), ?_⟩
    refine ⟨_, rfl, r, rv, R, rfl, hrv, pR, fun H1 s1 ok => ?_, fun i j q w d H1 hq hw nb g1 g2 hd s1 h1 => bad i j q w d H1 hq hw nb g1 g2 hd (.of hm s1) h1⟩
    replace good := good ok
    -- self.signs
    refine ⟨_, rfl, _, rfl, m, Z.C, dx, [], rfl, s1 _ _ hm, TC.cl, TC.a1, (by show 0 < 1000; decide), ?_⟩
    have k2 : Kd m H (upd H1 m (.ins Z.C dx (putF "signs" (.str sg) []))) := ⟨⟨_, _, _, hm⟩, fun b o e n => by
      rw [upd_ne n]
      exact s1 _ _ e⟩
    have m2 : (upd H1 m (.ins Z.C dx (putF "signs" (.str sg) []))) m = some (.ins Z.C dx [("signs", .str sg)]) := upd_same
    generalize upd H1 m (.ins Z.C dx (putF "signs" (.str sg) [])) = H2 at k2 m2 ⊢
    -- self.rows
    refine ⟨_, rfl, r, rfl, ⟨_, SqL.of (k2.lst hrv)⟩, fun D hD => ?_⟩
    refine lcs_it [some (.ref m), some (.str sg), some (.ref r), some (.ref e), none, none, none, none, none, none] rfl walk_list (fun i H' => Same H2 H' ∧ ∃ acc, H' D = some (.lst acc) ∧ acc.length = i ∧ Paired (RowT H') acc ((R.take i).map nrm)) ⟨Same.upd hD, [], upd_same, rfl, .nil⟩ (fun i H' _ z => SqL.of (z.1 _ _ (k2.lst hrv))) ?_ ?_
    · rintro i x _ H3 hi ⟨s3, acc, hacc, hl, pa⟩ ⟨rfl, hx⟩
      obtain ⟨q, hq, a, vs, rfl, ha, pr⟩ := pat (L2.Paired.mapP pR fun _ _ z => k2.row z) hx
      refine ⟨rfl, ?_⟩
      refine row_made (s3 _ _ ha) (L2.Paired.mapP pr fun _ _ z => z.keep s3) (rl q (List.mem_of_getElem? hq)).2 (fun w hw => ?_) fun p H4 hp s4 h4 => ?_
      · have := way_le hq hw
        rw [List.length_append] at hb
        omega
      · have pl : rv.length = R.length := Paired.length pR
        have kp : ∀ b xs, H4 b = some (.tup xs) → (upd H4 D (.lst (acc ++ [.ref p]))) b = some (.tup xs) := fun b xs e => by
          rw [upd_ne (ne_of e (s4 _ _ hacc) (by intro z; cases z))]
          exact e
        refine ⟨acc, s4 _ _ hacc, ?_, fun b o e => ?_, acc ++ [.ref p], upd_same, by rw [List.length_append, hl]; rfl, ?_⟩
        · rw [sizeLine_eq]; omega
        · rw [upd_ne (ne_of_none e hD)]
          exact s4 _ _ (s3 _ _ e)
        · rw [snap nrm hq]
          exact psnoc (L2.Paired.mapP pa fun _ _ z => z.keep fun b xs e => kp b xs (s4 _ _ e)) (h4.keep kp)
    rintro H3 ⟨s3, rv3, hacc, hl, pa⟩
    rw [show rv.length = R.length from Paired.length pR, List.take_length] at pa
    refine .inl ⟨D, rv3, rfl, SqL.of hacc, fun r3 hr3 => ?_⟩
    have s4 : Same H2 (upd H3 r3 (.tup rv3)) := fun b o e => Same.upd hr3 _ _ (s3 _ _ e)
    have r4 : (upd H3 r3 (.tup rv3)) r3 = some (.tup rv3) := upd_same
    have pa4 : Paired (RowT (upd H3 r3 (.tup rv3))) rv3 (R.map nrm) := L2.Paired.mapP pa fun _ _ z => z.keep (tups (Same.upd hr3))
    generalize upd H3 r3 (.tup rv3) = H4 at s4 r4 pa4 ⊢
    refine ⟨_, rfl, m, Z.C, dx, [("signs", .str sg)], rfl, s4 _ _ m2, TC.cl, TC.a2, (by show 1 < 1000; decide), ?_⟩
    have next : ∀ {Ha Hb : Hp} {fs fs' : List (Str × V)}, Kd m H Ha → Same Ha Hb → Hb m = some (.ins Z.C dx fs) → Kd m H (upd Hb m (.ins Z.C dx fs')) := fun {Ha Hb fs fs'} k s e => ⟨k.1, fun b o e1 n => by
      rw [upd_ne n]
      exact s _ _ (k.2 b o e1 n)⟩
    have k5 : Kd m H (upd H4 m (.ins Z.C dx (putF "rows" (.ref r3) [("signs", .str sg)]))) := next k2 s4 (s4 _ _ m2)
    have m5 : (upd H4 m (.ins Z.C dx (putF "rows" (.ref r3) [("signs", .str sg)]))) m = some (.ins Z.C dx [("signs", .str sg), ("rows", .ref r3)]) := upd_same
    have j5 : ∀ b xs, H4 b = some (.tup xs) → (upd H4 m (.ins Z.C dx (putF "rows" (.ref r3) [("signs", .str sg)]))) b = some (.tup xs) := fun b xs e => by
      rw [upd_ne (ne_of e (s4 _ _ m2) (by intro z; cases z))]
      exact e
    have r5 := j5 _ _ r4
    have pa5 := L2.Paired.mapP pa4 fun _ _ z => z.keep j5
    clear j5
    generalize upd H4 m (.ins Z.C dx (putF "rows" (.ref r3) [("signs", .str sg)])) = H5 at k5 m5 r5 pa5 ⊢
    -- self.ends
    refine ⟨_, rfl, e, rfl, ⟨_, SqL.of (k5.lst hev)⟩, fun D5 hD5 => ?_⟩
    refine lcs_it [some (.ref m), some (.str sg), some (.ref r), some (.ref e), none, none, none, none, none, none] rfl walk_list (fun i H' => Same H5 H' ∧ ∃ acc, H' D5 = some (.lst acc) ∧ acc.length = i ∧ Paired (KeysT H') acc ((Es.take i).map kl)) ⟨Same.upd hD5, [], upd_same, rfl, .nil⟩ (fun i H' _ z => SqL.of (z.1 _ _ (k5.lst hev))) ?_ ?_
    · rintro i x _ H6 hi ⟨s6, acc, hacc, hl, pa⟩ ⟨rfl, hx⟩
      obtain ⟨ks, hks, kt⟩ := pat (L2.Paired.mapP pE fun _ _ z => k5.texts z) hx
      have l1 := flat_le id hks
      have l2 : (Es.flatMap id).length = Es.flatten.length := by rw [List.flatMap_id]
      refine ⟨rfl, _, rfl, x, ks, rfl, kt.keep s6, ?_, fun p H7 hp s7 h7 => ?_⟩
      · have l3 : (id ks).length = ks.length := rfl
        rw [List.length_append] at hb
        omega
      · have pl : ev.length = Es.length := Paired.length pE
        have kp : ∀ b xs, H7 b = some (.tup xs) → (upd H7 D5 (.lst (acc ++ [.ref p]))) b = some (.tup xs) := fun b xs e => by
          rw [upd_ne (ne_of e (s7 _ _ hacc) (by intro z; cases z))]
          exact e
        refine ⟨acc, s7 _ _ hacc, ?_, fun b o e => ?_, acc ++ [.ref p], upd_same, by rw [List.length_append, hl]; rfl, ?_⟩
        · rw [sizeLine_eq]; omega
        · rw [upd_ne (ne_of_none e hD5)]
          exact s7 _ _ (s6 _ _ e)
        · rw [snap kl hks]
          exact psnoc (L2.Paired.mapP pa fun _ _ z => z.keep fun b xs e => kp b xs (s7 _ _ e)) ⟨p, rfl, kp _ _ h7⟩
    rintro H6 ⟨s6, ev6, hacc6, hl6, pe6⟩
    rw [show ev.length = Es.length from Paired.length pE, List.take_length] at pe6
    refine .inl ⟨D5, ev6, rfl, SqL.of hacc6, fun e6 he6 => ?_⟩
    have s7 : Same H5 (upd H6 e6 (.tup ev6)) := fun b o e => Same.upd he6 _ _ (s6 _ _ e)
    have e7 : (upd H6 e6 (.tup ev6)) e6 = some (.tup ev6) := upd_same
    have pe7 : Paired (KeysT (upd H6 e6 (.tup ev6))) ev6 (Es.map kl) := L2.Paired.mapP pe6 fun _ _ z => z.keep (tups (Same.upd he6))
    generalize upd H6 e6 (.tup ev6) = H7 at s7 e7 pe7 ⊢
    refine ⟨_, rfl, m, Z.C, dx, [("signs", .str sg), ("rows", .ref r3)], rfl, s7 _ _ m5, TC.cl, TC.a3, (by show 2 < 1000; decide), ?_⟩
    have k8 : Kd m H (upd H7 m (.ins Z.C dx (putF "ends" (.ref e6) [("signs", .str sg), ("rows", .ref r3)]))) := next k5 s7 (s7 _ _ m5)
    have m8 : (upd H7 m (.ins Z.C dx (putF "ends" (.ref e6) [("signs", .str sg), ("rows", .ref r3)]))) m = some (.ins Z.C dx [("signs", .str sg), ("rows", .ref r3), ("ends", .ref e6)]) := upd_same
    have j8 : ∀ b xs, H7 b = some (.tup xs) → (upd H7 m (.ins Z.C dx (putF "ends" (.ref e6) [("signs", .str sg), ("rows", .ref r3)]))) b = some (.tup xs) := fun b xs e => by
      rw [upd_ne (ne_of e (s7 _ _ m5) (by intro z; cases z))]
      exact e
    have r8 := j8 _ _ (s7 _ _ r5)
    have pa8 := L2.Paired.mapP pa5 fun _ _ z => z.keep fun b xs e => j8 b xs (s7 _ _ e)
    have e8 := j8 _ _ e7
    have pe8 := L2.Paired.mapP pe7 fun _ _ z => z.keep j8
    clear j8
    generalize upd H7 m (.ins Z.C dx (putF "ends" (.ref e6) [("signs", .str sg), ("rows", .ref r3)])) = H8 at k8 m8 r8 pa8 e8 pe8 ⊢
    -- self.all_keys
    have mem : ∀ y, y ∈ keysOfRows (R.map nrm) ++ (Es.map kl).flatten ↔ y ∈ keysOfRows R ++ Es.flatten := fun y => by
      rw [List.mem_append, List.mem_append, mem_nrm, mem_ends]
    have len8 : (keysOfRows (R.map nrm) ++ (Es.map kl).flatten).length ≤ (keysOfRows R ++ Es.flatten).length := by
      have a := len_nrm R
      have b := len_ends Es
      rw [List.length_append, List.length_append]
      omega
    refine ⟨_, rfl, m, Z.C, dx, _, _, rfl, m8, TC.cl, TC.a2, rfl, _, rfl, m, Z.C, dx, _, _, rfl, m8, TC.cl, TC.a3, rfl, ?_⟩
    refine ⟨r3, e6, rv3, ev6, R.map nrm, Es.map kl, rfl, r8, pa8, e8, pe8, by omega, fun k9 H9 hk9 s9 h9 => ?_⟩
    rw [kl_congr mem] at h9
    refine ⟨_, rfl, m, Z.C, dx, [("signs", .str sg), ("rows", .ref r3), ("ends", .ref e6)], rfl, s9 _ _ m8, TC.cl, TC.a4, (by show 3 < 1000; decide), ?_⟩
    have k10 : Kd m H (upd H9 m (.ins Z.C dx (putF "all_keys" (.ref k9) [("signs", .str sg), ("rows", .ref r3), ("ends", .ref e6)]))) := next k8 s9 (s9 _ _ m8)
    have m10 : (upd H9 m (.ins Z.C dx (putF "all_keys" (.ref k9) [("signs", .str sg), ("rows", .ref r3), ("ends", .ref e6)]))) m = some (.ins Z.C dx [("signs", .str sg), ("rows", .ref r3), ("ends", .ref e6), ("all_keys", .ref k9)]) := upd_same
    have j10 : ∀ b xs, H9 b = some (.tup xs) → (upd H9 m (.ins Z.C dx (putF "all_keys" (.ref k9) [("signs", .str sg), ("rows", .ref r3), ("ends", .ref e6)]))) b = some (.tup xs) := fun b xs e => by
      rw [upd_ne (ne_of e (s9 _ _ m8) (by intro z; cases z))]
      exact e
    have f10 : ∀ d, (upd H9 m (.ins Z.C dx (putF "all_keys" (.ref k9) [("signs", .str sg), ("rows", .ref r3), ("ends", .ref e6)]))) d = none → H d = none := fun d hd => by
      have nd : d ≠ m := fun e => by rw [e, m10] at hd; cases hd
      rw [upd_ne nd] at hd
      cases c : H d with
      | none => rfl
      | some o =>
        have := s9 _ _ (k8.2 d o c nd)
        rw [hd] at this
        cases this
    have r10 := j10 _ _ (s9 _ _ r8)
    have pa10 := L2.Paired.mapP pa8 fun _ _ z => z.keep fun b xs e => j10 b xs (s9 _ _ e)
    have e10 := j10 _ _ (s9 _ _ e8)
    have pe10 := L2.Paired.mapP pe8 fun _ _ z => z.keep fun b xs e => j10 b xs (s9 _ _ e)
    have a10 := j10 _ _ h9
    clear j10
    generalize upd H9 m (.ins Z.C dx (putF "all_keys" (.ref k9) [("signs", .str sg), ("rows", .ref r3), ("ends", .ref e6)])) = H10 at k10 m10 f10 r10 pa10 e10 pe10 a10 ⊢
    -- if len(self.all_keys) > MOST_KEYS
    refine ⟨_, rfl, m, Z.C, dx, _, _, rfl, m10, TC.cl, TC.a4, rfl, .ref k9, _, rfl, .inr ⟨_, SqT.of a10, rfl⟩, _, _, rfl, rfl, _, rfl, ?_⟩
    rw [List.length_map]
    by_cases c : (12 : Int) < ((kl (keysOfRows R ++ Es.flatten)).length : Nat)
    · refine ifT c ?_
      refine rsE rfl (by show 1 ≤ 1000; decide) (fun u hu => ?_) fun d H11 hd s11 h11 => (good H11 (k10.trans s11)).1 (by omega) d (f10 d hd) h11
      rw [List.mem_singleton.mp hu]
      exact .inr ⟨_, rfl⟩
    refine ifF c ?_
    -- self._ways
    refine ⟨_, rfl, m, Z.C, dx, _, _, rfl, m10, TC.cl, TC.a2, rfl, r3, rfl, ⟨_, SqT.of r10⟩, fun W hW => ?_⟩
    have rl3 : rv3.length = R.length := (Paired.length pa10).trans (List.length_map ..)
    refine lcs_it [some (.ref m), some (.str sg), some (.ref r), some (.ref e), none, none, none, none, none, none] rfl walk_tup (fun i H' => Same H10 H' ∧ ∃ acc, H' W = some (.lst acc) ∧ acc.length = i ∧ Paired (WaysD sg H') acc (rv3.take i)) ⟨Same.upd hW, [], upd_same, rfl, .nil⟩ (fun i H' _ z => SqT.of (z.1 _ _ r10)) ?_ ?_
    · rintro i x _ H11 hi ⟨s11, acc, hacc, hl, pw⟩ ⟨rfl, hx⟩
      obtain ⟨row, hrow, a, vs, rfl, ha, pr⟩ := pat pa10 hx
      rw [List.getElem?_map] at hrow
      obtain ⟨q, hq, rfl⟩ := Option.map_eq_some_iff.mp hrow
      have vl : vs.length = q.length := (Paired.length pr).trans (List.length_map ..)
      have q1 := rl q (List.mem_of_getElem? hq)
      refine ⟨rfl, tyes ?_⟩
      simp only [if_true]
      refine ways_made (s11 _ _ ha) asc (by omega) sz fun d H12 hd s12 h12 => ?_
      have kt : ∀ b xs, H12 b = some (.tup xs) → (upd H12 W (.lst (acc ++ [.ref d]))) b = some (.tup xs) := fun b xs e => by
        rw [upd_ne (ne_of e (s12 _ _ hacc) (by intro z; cases z))]
        exact e
      have kd : ∀ b xs, H12 b = some (.dK xs) → (upd H12 W (.lst (acc ++ [.ref d]))) b = some (.dK xs) := fun b xs e => by
        rw [upd_ne (ne_of e (s12 _ _ hacc) (by intro z; cases z))]
        exact e
      refine ⟨acc, s12 _ _ hacc, ?_, fun b o e => ?_, acc ++ [.ref d], upd_same, by rw [List.length_append, hl]; rfl, ?_⟩
      · rw [sizeLine_eq]; omega
      · rw [upd_ne (ne_of_none e hW)]
        exact s12 _ _ (s11 _ _ e)
      · have tk : rv3.take (i + 1) = rv3.take i ++ [.ref a] := by rw [List.take_add_one, hx]; rfl
        rw [tk]
        exact psnoc (L2.Paired.mapP pw fun _ _ z => z.keep (fun b xs e => kt b xs (s12 _ _ e)) fun b xs e => kd b xs (s12 _ _ e)) ⟨d, a, vs, rfl, rfl, kt _ _ (s12 _ _ (s11 _ _ ha)), kd _ _ h12⟩
    rintro H11 ⟨s11, wv, hacc, hl, pw⟩
    rw [List.take_length] at pw
    refine .inl ⟨W, wv, rfl, SqL.of hacc, fun w6 hw6 => ?_⟩
    have s12 : Same H10 (upd H11 w6 (.tup wv)) := fun b o e => Same.upd hw6 _ _ (s11 _ _ e)
    have w12 : (upd H11 w6 (.tup wv)) w6 = some (.tup wv) := upd_same
    have pw12 : Paired (WaysD sg (upd H11 w6 (.tup wv))) wv rv3 := L2.Paired.mapP pw fun _ _ z => z.keep (tups (Same.upd hw6)) fun b xs e => Same.upd hw6 _ _ e
    generalize upd H11 w6 (.tup wv) = H12 at s12 w12 pw12 ⊢
    refine ⟨_, rfl, m, Z.C, dx, [("signs", .str sg), ("rows", .ref r3), ("ends", .ref e6), ("all_keys", .ref k9)], rfl, s12 _ _ m10, TC.cl, TC.a5, (by show 4 < 1000; decide), ?_⟩
    have j : ∀ b xs, H12 b = some (.tup xs) → (upd H12 m (.ins Z.C dx (putF "_ways" (.ref w6) [("signs", .str sg), ("rows", .ref r3), ("ends", .ref e6), ("all_keys", .ref k9)]))) b = some (.tup xs) := fun b xs e => by
      rw [upd_ne (ne_of e (s12 _ _ m10) (by intro z; cases z))]
      exact e
    have jd : ∀ b xs, H12 b = some (.dK xs) → (upd H12 m (.ins Z.C dx (putF "_ways" (.ref w6) [("signs", .str sg), ("rows", .ref r3), ("ends", .ref e6), ("all_keys", .ref k9)]))) b = some (.dK xs) := fun b xs e => by
      rw [upd_ne (ne_of e (s12 _ _ m10) (by intro z; cases z))]
      exact e
    refine (good _ (next k10 s12 (s12 _ _ m10))).2 (by omega) ⟨dx, r3, e6, k9, w6, rv3, ev6, wv, upd_same, j _ _ (s12 _ _ r10), ?_, j _ _ (s12 _ _ e10), ?_, ?_, j _ _ w12, ?_⟩
    · exact L2.Paired.mapP pa10 fun _ _ z => z.keep fun b xs e => j b xs (s12 _ _ e)
    · exact L2.Paired.mapP pe10 fun _ _ z => z.keep fun b xs e => j b xs (s12 _ _ e)
    · rw [kl_congr mem]
      exact j _ _ (s12 _ _ a10)
    · exact L2.Paired.mapP pw12 fun _ _ z => z.keep j jd
end
end Kx

/-! enumerate over a text -/
namespace Own
open PySem PySem.Spec PyProof.Rows L2 PySem.Froz
/-- the letters of the text y, each in a new pair with its place -/
def Ites (y : Str) : It :=
  ⟨fun i _ => i < y.cps.size, fun i H v H' => ∃ T c, v = .ref T ∧ H T = none ∧ H' = upd H T (.tup [.int (i : Nat), .str (sing c)]) ∧ y.cps[i]? = some c, fun i _ => i = y.cps.size⟩
theorem turn_enumS {P : Program} {w : World} {K : PySem.W.Frag} {elts : List Expr} {kk : Nat} {tpos : Pos} (y : Str) (u : Tok) (e it : Addr) :
    Turn P w K (.Tuple elts kk tpos) (Ites y) [e, it] e (fun i h => (∃ old, IsEnum h e it ((i : Nat) : Int) old) ∧ h.IsStrIter it (strIterType y) y u i ∧ e ≠ it) where
  mem := List.mem_cons_self
  obj := fun i h ⟨⟨old, he⟩, ⟨o, ho, hc, hd⟩, _⟩ b hb => by
    rcases List.mem_cons.mp hb with rfl | hb
    · exact ⟨_, he, fun v q => nomatch q⟩
    · rw [List.mem_singleton.mp hb]
      exact ⟨o, ho, fun v q => by rw [hd] at q; cases q⟩
  keep := fun i h h' ⟨⟨old, he⟩, ⟨o, ho, r⟩, hne⟩ k => ⟨⟨old, k e (by simp) _ he⟩, ⟨o, k it (by simp) _ ho, r⟩, hne⟩
  item := fun X hP hw hK hc i pins s σ H E I hf ⟨⟨old, he⟩, hit, hne⟩ hi => by
    subst hP hw hK
    have elt : e < s.heap.objs.size := Heap.lt_size he
    have ilt : it < s.heap.objs.size := by
      obtain ⟨_, q, _⟩ := hit
      exact Heap.lt_size q
    have ef : e ∉ [it] := fun m => hne (List.mem_singleton.mp m)
    refine wpAny_pyNext_enum_itemD (Draws.text (A := X.A.in1) (I.ok.hd hc) it y u) he hit hi hne ef fun x h' tk ⟨c, t, hc1, ex⟩ ho hit' hT hz kk => ?_
    subst ex
    refine ⟨_, rfl, wpAny_letOwnedTupleGo_enum (s := { s with heap := h', toks := tk + 1 }) ho fun h2 he2 sb => ?_⟩
    have hT2 : h2.get? s.heap.objs.size = some { cls := .type "tuple", data := .seq #[.int i tk, .str (sing c) t] } := (sb.2 _ (Nat.ne_of_gt elt)).trans hT
    have new : ObjOk X.prog X.w (upd H s.heap.objs.size (.tup [.int (i : Nat), .str (sing c)])) h2 s.heap.objs.size (.tup [.int (i : Nat), .str (sing c)]) :=
      ⟨by show 2 ≤ sizeLine; decide, [.int i tk, .str (sing c) t], .cons ⟨_, rfl⟩ (.cons ⟨t, rfl⟩ .nil), ⟨_, hT2, rfl, _, rfl⟩⟩
    have kp : ∀ b o, b ∉ [e, it] → s.heap.get? b = some o → h2.get? b = some o := fun b o nb q => by
      simp only [List.mem_cons, List.not_mem_nil, or_false, not_or] at nb
      exact (sb.2 b nb.1).trans (kk b o nb.1 nb.2 q)
    have J := I.turnedNew (h' := h2) (t' := tk + 1) (ch := [e, it]) kp hf (Nat.le_refl _) new
    refine ⟨.ref s.heap.objs.size, _, J, rfl, ⟨_, c, rfl, I.hok.fresh (Nat.le_refl _), rfl, hc1⟩, ⟨⟨.str (sing c) t, ?_⟩, ?_, hne⟩, fun b hb => ?_⟩
    · have e1 : ((i + 1 : Nat) : Int) = (i : Int) + 1 := by omega
      rw [e1]
      exact he2
    · obtain ⟨o, q, r⟩ := hit'
      exact ⟨o, (sb.2 it (Ne.symm hne)).trans q, r⟩
    · have lt : b < s.heap.objs.size := by
        rcases List.mem_cons.mp hb with rfl | hb
        · exact elt
        · rw [List.mem_singleton.mp hb]
          exact ilt
      rw [upd_ne (Nat.ne_of_lt lt)]
      exact (hf b hb).1
  done := fun X hP hw hK hc i pins s σ H E I hf ⟨⟨old, he⟩, hit, hne⟩ hi => by
    subst hP hw hK
    have hi : i = y.cps.size := hi
    subst hi
    obtain ⟨f0, f1, f2, f3, f4, f5⟩ := hf it (by simp)
    exact wpAny_pyNext_enum_endD (Draws.text (A := X.A.in1) (I.ok.hd hc) it y u) he hit fun h' eb => ⟨rfl, I.turned (t' := s.toks) (fun b o nb q => eb b o nb q) f0 f1 f3 f4 f5⟩
  self := fun A i s Q E ⟨⟨_, he⟩, _⟩ h => wpAny_pyIter_enum he h
/-- enumerate(text) -/
def iEnumS (ta : TA) : TI := fun σ H R => ta σ H fun vs H1 => ∃ y : Str, vs = [.str y] ∧ R (Ites y) H1
theorem pi_enumS {X : Cx} {e : Expr} {ta : TA} {p pos tpos : Pos} {elts : List Expr} {kk : Nat} (hg : Gl X "enumerate") (hm : X.mg "enumerate" = none) (ha : PA X [e] ta) (hs : starEach [e] X.env = [(false, eval e X.env)] := by rfl) :
    PI X (.Tuple elts kk tpos) (.Call (.Name "enumerate" p) [e] [] pos) (iEnumS ta) := by
  refine ⟨fun pins s σ H R I h => Call_ (ld_blt I hg hm boot_enumerate (PyProof.Rows.callWith_type1 (thn (ha.run pos pins s σ H _ I h) fun us s1 ⟨vs, H1, I1, r1, y, ev, q⟩ => ?_) hs rfl))⟩
  subst ev
  obtain ⟨v, rfl, u, rfl⟩ := vals1 r1
  refine call_enumerate_str fun h' he hit hz kp => wpAny_pyIter_enum he ?_
  have J : Inv X pins σ H1 { s1 with heap := h' } := I1.kept (t' := s1.toks) kp
  refine ⟨s1.heap.objs.size + 1, [s1.heap.objs.size + 1, s1.heap.objs.size], _, _, H1, rfl, J, turn_enumS y u (s1.heap.objs.size + 1) s1.heap.objs.size, ⟨⟨.none, he⟩, hit, Nat.succ_ne_self _⟩, fun b hb => ?_, q⟩
  have le : s1.heap.objs.size ≤ b := by
    rcases List.mem_cons.mp hb with rfl | hb
    · exact Nat.le_add_right _ _
    · rw [List.mem_singleton.mp hb]
      exact Nat.le_refl _
  exact I1.fpOk le (I1.hok.fresh le)
theorem walk_enumS {y : Str} : L2.Walk (Ites y) y.cps.size (fun _ => True) (YPair (fun i => some (.int (i : Nat))) (fun i => (y.cps[i]?).map fun c => .str (sing c))) :=
  ⟨fun _ _ hi _ => hi, fun _ _ => rfl, fun i H x H' hi _ ⟨T, c, e1, e2, e3, e4⟩ => ⟨T, .int (i : Nat), .str (sing c), e1, e2, e3, rfl, by show (y.cps[i]?).map _ = _; rw [e4]; rfl⟩⟩
end Own

namespace Kx
open PySem L2 Own
abbrev s_BadSign : Stmt := inClass (top 16) 0
abbrev s_Machine_walk : Stmt := inClass (top 28) 4
abbrev s_Machine_keys_of : Stmt := inClass (top 28) 5
abbrev s_Machine_after : Stmt := inClass (top 28) 6
/-! ### reading in plain lists -/
/-- the way of the letter c from the state s -/
def stepW (sg : Str) (R : List (List Way)) (s c : Nat) : Option Way := (sg.cps.toList.idxOf? c).bind fun j => (R[s]?).bind fun q => q[j]?
def acc1 (sg : Str) (R : List (List Way)) (p : Nat × List Str) (c : Nat) : Nat × List Str := match stepW sg R p.1 c with
  | some w => (w.1.toNat, p.2 ++ w.2)
  | none => p
/-- the state behind some letters, and the keys on the way -/
def runW (sg : Str) (R : List (List Way)) (s : Nat) (cs : List Nat) : Nat × List Str := cs.foldl (acc1 sg R) (s, [])
theorem runW_snoc (sg : Str) (R : List (List Way)) (s : Nat) (cs : List Nat) (c : Nat) : runW sg R s (cs ++ [c]) = acc1 sg R (runW sg R s cs) c := by
  unfold runW
  rw [List.foldl_append]
  rfl
/-- a machine as all of them are that were made -/
structure Full (sg : Str) (R : List (List Way)) (Es : List (List Str)) : Prop where
  nd : sg.cps.toList.Nodup
  row : ∀ q ∈ R, q.length = sg.cps.size ∧ ∀ w ∈ q, Okw R.length w
  ends : Es.length = R.length
  pos : 0 < R.length
  size : (keysOfRows R ++ Es.flatten).length + 1 < scanBound
theorem Full.way {sg : Str} {R : List (List Way)} {Es : List (List Str)} (F : Full sg R Es) {s j c : Nat} (hs : s < R.length) (hc : sg.cps[j]? = some c) : ∃ q w, R[s]? = some q ∧ q[j]? = some w ∧ stepW sg R s c = some w ∧ Okw R.length w := by
  have hq : R[s]? = some R[s] := List.getElem?_eq_getElem hs
  obtain ⟨l, g⟩ := F.row R[s] (List.getElem_mem hs)
  have hj : j < sg.cps.size := by
    obtain ⟨h, _⟩ := Array.getElem?_eq_some_iff.mp hc
    exact h
  have hw : R[s][j]? = some R[s][j] := List.getElem?_eq_getElem (by omega)
  refine ⟨R[s], R[s][j], hq, hw, ?_, g _ (List.getElem_mem _)⟩
  have hi : sg.cps.toList.idxOf? c = some j := by
    rw [List.idxOf?_eq_some_iff]
    obtain ⟨h, e⟩ := Array.getElem?_eq_some_iff.mp hc
    refine ⟨by simpa using h, by simpa using e, fun i hi => ?_⟩
    have nd := List.pairwise_iff_getElem.mp F.nd i j (by simp; omega) (by simpa using h) hi
    simp only [Array.getElem_toList, beq_iff_eq] at nd ⊢
    rw [e] at nd
    simpa using nd
  unfold stepW
  rw [hi, hq]
  exact hw
theorem Full.out {sg : Str} {R : List (List Way)} {s c : Nat} (hc : c ∉ sg.cps.toList) : stepW sg R s c = none := by
  unfold stepW
  rw [List.idxOf?_eq_none_iff.mpr hc]
  rfl
/-- what a reading within the signs comes to -/
theorem Full.run {sg : Str} {R : List (List Way)} {Es : List (List Str)} (F : Full sg R Es) {s : Nat} (hs : s < R.length) : ∀ cs : List Nat, (runW sg R s cs).1 < R.length ∧ ∀ y ∈ (runW sg R s cs).2, y ∈ keysOfRows R := by
  suffices h : ∀ (cs : List Nat) (p : Nat × List Str), p.1 < R.length → (∀ y ∈ p.2, y ∈ keysOfRows R) → (cs.foldl (acc1 sg R) p).1 < R.length ∧ ∀ y ∈ (cs.foldl (acc1 sg R) p).2, y ∈ keysOfRows R from
    fun cs => h cs (s, []) hs (fun _ z => nomatch z)
  intro cs
  induction cs with
  | nil => exact fun p a b => ⟨a, b⟩
  | cons c cs ih =>
    intro p a b
    refine ih (acc1 sg R p c) ?_ ?_
    all_goals
      unfold acc1
      cases e : stepW sg R p.1 c with
      | none => first | exact a | exact b
      | some w =>
        unfold stepW at e
        obtain ⟨j, _, e⟩ := Option.bind_eq_some_iff.mp e
        obtain ⟨q, hq, e⟩ := Option.bind_eq_some_iff.mp e
        have hqm := List.mem_of_getElem? hq
        have hwm := List.mem_of_getElem? e
        first
        | exact (by have := (F.row q hqm).2 w hwm; show w.1.toNat < R.length; have h1 := this.1; have h2 := this.2; omega)
        | exact fun y hy => (by
            rcases List.mem_append.mp hy with hy | hy
            · exact b y hy
            · exact List.mem_flatMap.mpr ⟨q, hqm, List.mem_flatMap.mpr ⟨w, hwm, hy⟩⟩)
/-! ### the dicts of ways, and of keys -/
abbrev lk (c : Nat) : Key := Sum.inr (Froz.sing c)
theorem sing_inj {a b : Nat} (h : lk a = lk b) : a = b := by
  have h1 : Froz.sing a = Froz.sing b := Sum.inr.inj h
  have h2 : (#[a] : Array Nat) = #[b] := congrArg Str.cps h1
  simpa using h2
theorem kvUp_out {sg : Str} {vs : List V} {c : Nat} (hc : c ∉ sg.cps.toList) : ∀ i, valV (kvUp sg vs i) (lk c) = none
  | 0 => rfl
  | i + 1 => by
    have ih := kvUp_out hc (vs := vs) i
    unfold kvUp
    split
    · rename_i d x hd _
      rw [valV_put, if_neg, ih]
      intro e
      have e' := sing_inj e
      subst e'
      exact hc (Array.mem_toList_iff.mpr (Array.mem_of_getElem? hd))
    · exact ih
theorem kvUp_in {sg : Str} {vs : List V} {c j : Nat} (nd : sg.cps.toList.Nodup) (hc : sg.cps[j]? = some c) : ∀ i, j < i → i ≤ sg.cps.size → sg.cps.size ≤ vs.length → valV (kvUp sg vs i) (lk c) = vs[j]?
  | i + 1, hj, hi, hl => by
    have h1 : sg.cps[i]? = some (sg.cps[i]'(by omega)) := Array.getElem?_eq_getElem (by omega)
    have h2 : vs[i]? = some (vs[i]'(by omega)) := List.getElem?_eq_getElem (by omega)
    unfold kvUp
    rw [h1, h2]
    dsimp only
    rw [valV_put]
    by_cases e : j = i
    · subst e
      have e1 : sg.cps[j]'(by omega) = c := by
        rw [h1] at hc
        exact Option.some.inj hc
      rw [e1, if_pos rfl, h2]
    · rw [if_neg]
      · exact kvUp_in nd hc i (by omega) (by omega) hl
      · intro z
        have z' := sing_inj z
        obtain ⟨hj', ec⟩ := Array.getElem?_eq_some_iff.mp hc
        have p := List.pairwise_iff_getElem.mp nd j i (by simpa using hj') (by simp; omega) (by omega)
        simp only [Array.getElem_toList] at p
        exact p (ec.trans z')
/-- a dict with the keys ys, each True -/
def gotK (ys : List Str) : List (Key × V) := ys.map fun y => (Sum.inr y, V.bl true)
theorem got_val (ys : List Str) (y : Str) : valV (gotK ys) (Sum.inr y) = if y ∈ ys then some (.bl true) else none := by
  induction ys with
  | nil => rfl
  | cons a r ih =>
    unfold gotK at ih ⊢
    rw [List.map_cons]
    by_cases e : a = y
    · subst e
      rw [valV_pos rfl, if_pos List.mem_cons_self]
    · rw [valV_neg (by simpa using e), ih]
      by_cases m : y ∈ r
      · rw [if_pos m, if_pos (List.mem_cons_of_mem _ m)]
      · rw [if_neg m, if_neg (by simp only [List.mem_cons, not_or]; exact ⟨fun z => e z.symm, m⟩)]
theorem got_put (ys : List Str) (y : Str) : putK (gotK ys) (Sum.inr y) (.bl true) = gotK (if y ∈ ys then ys else ys ++ [y]) := by
  unfold putK
  rw [valV_any, got_val]
  by_cases m : y ∈ ys
  · rw [if_pos m, if_pos m, if_pos (show (some (V.bl true)).isSome = true from rfl)]
    unfold gotK
    rw [List.map_map]
    refine List.map_congr_left fun a _ => ?_
    simp only [Function.comp]
    by_cases e : (Sum.inr a : Key) = Sum.inr y
    · rw [if_pos e]
    · rw [if_neg e]
  · rw [if_neg m, if_neg m, if_neg (show ¬ (none : Option V).isSome = true by simp)]
    unfold gotK
    rw [List.map_append]
    rfl
theorem nd_sub_len {α : Type} [DecidableEq α] : ∀ {l m : List α}, l.Nodup → (∀ x ∈ l, x ∈ m) → l.length ≤ m.length
  | [], _, _, _ => Nat.zero_le _
  | a :: l, m, nd, h => by
    obtain ⟨na, nl⟩ := List.nodup_cons.mp nd
    have ha := h a List.mem_cons_self
    have ih := nd_sub_len (l := l) (m := m.erase a) nl fun x hx => (List.mem_erase_of_ne fun z : x = a => na (z ▸ hx)).mpr (h x (List.mem_cons_of_mem _ hx))
    rw [List.length_erase_of_mem ha] at ih
    have := List.length_pos_of_mem ha
    rw [List.length_cons]
    omega
theorem got_grow {ys zs : List Str} (nd : ys.Nodup) (y : Str) : (if y ∈ ys then ys else ys ++ [y]).Nodup ∧ ∀ x, x ∈ (if y ∈ ys then ys else ys ++ [y]) ↔ x ∈ ys ∨ x = y := by
  by_cases m : y ∈ ys
  · rw [if_pos m]
    exact ⟨nd, fun x => ⟨.inl, fun z => z.elim id fun e => e ▸ m⟩⟩
  · rw [if_neg m]
    refine ⟨List.nodup_append.mpr ⟨nd, by simp, fun a ha b hb => ?_⟩, fun x => by simp⟩
    rw [List.mem_singleton.mp hb]
    exact fun e => m (e ▸ ha)
end Kx

namespace Kx
open PySem L2 Own
structure SAd where
  c : Addr
  i : Addr
  e : FuncData
  fw : Addr
  fk : Addr
  fa : Addr
  dw : FuncData
  dk : FuncData
  da : FuncData
structure TxtS (K : PySem.W.Frag) (mg : Str → Option Value) (A : EAd) (Z : CAd) (S : SAd) : Prop where
  E_BadSign : ErrC K mg "BadSign" S.c A.M
  I_BadSign : IniT K "BadSign.__init__" s_BadSign S.c S.i S.e ["self", "place"]
  N_place : PySem.W.findIn K (.ref S.c) "place" = some none
  M_walk : Meth K Z.C "walk" S.fw
  F_walk : Fun K "walk" "Machine.walk" s_Machine_walk S.fw S.dw
  b_walk : Binds K S.dw ["self", "state", "text"] []
  M_keys_of : Meth K Z.C "keys_of" S.fk
  F_keys_of : Fun K "keys_of" "Machine.keys_of" s_Machine_keys_of S.fk S.dk
  b_keys_of : Binds K S.dk ["self", "text"] []
  M_after : Meth K Z.C "after" S.fa
  F_after : Fun K "after" "Machine.after" s_Machine_after S.fa S.da
  b_after : Binds K S.da ["self", "text"] []
section
variable {P : Program} {w : World} {K : PySem.W.Frag} {mg : Str → Option Value} {base : Heap} {A : EAd} {B : MAd} {Z : CAd} {S : SAd}
theorem sc_BadSign : FnScope ["self", "place"] ["self", "place"] (defScope s_BadSign) := ⟨rfl, rfl, rfl, by decide +kernel, rfl, by decide +kernel, by decide +kernel⟩
theorem ok_BadSign (T : TxtE K mg A) (TS : TxtS K mg A Z S) : FnOk P w K mg base CX0 2 S.i S.e ["self", "place"] (spErr S.c ["place"]) := by
  have sc := sc_BadSign
  have G_copied : FnOk P w K mg base CX0 1 A.fc A.dc ["field"] spFlat := ok_copied T
  refine TS.I_BadSign.F.ok sc (fun vs H Q E h => ?_) (fun cdv A1 outer s H vs Q E hr h => ?_)
  · obtain ⟨_, us, rfl, l, _⟩ := h
    rw [List.length_cons, l]; rfl
  · obtain ⟨a, us, rfl, l, ha, hf, k⟩ := h
    obtain ⟨v, rfl⟩ : ∃ v, us = [v] := List.length_eq_one_iff.mp l
    refine ⟨_, (pss_one (ps_ost (pv 0) (pe_call G_copied (hr.mono (by decide)) rfl T.D_copied.g T.D_copied.F.kp T.D_copied.b .nil pass0 (pa_cons (pv 1) pa_nil)))), ?_⟩
    refine ⟨_, rfl, v, rfl, hf v List.mem_cons_self, _, rfl, a, S.c, rfl, TS.E_BadSign.oex, TS.N_place, .inl ⟨ha, fun dx hd ne => ?_⟩⟩
    refine k dx _ hd ne upd_same (by rw [upd_ne ne, upd_same]; rfl) fun b o e nb => ?_
    rw [upd_ne nb, upd_ne (ne_of_none e hd)]
    exact e
/-- self.walk(state, text): the state behind the text and the keys on the way, or the place of the first letter that is no sign -/
def spWalk (Z : CAd) (S : SAd) : Sp := fun vs H Q E => ∃ (m : Addr) (st : Nat) (y sg : Str) (R : List (List Way)) (Es : List (List Str)), vs = [.ref m, .int st, .str y] ∧ MachAt Z.C H m sg R Es ∧ Full sg R Es ∧ st < R.length ∧
  ((∀ c ∈ y.cps.toList, c ∈ sg.cps.toList) → ∀ (p k : Addr) H', Same H H' → H' p = some (.tup [.int (runW sg R st y.cps.toList).1, .ref k]) → H' k = some (.tup ((kl (runW sg R st y.cps.toList).2).map V.str)) → Q (.ref p) H') ∧
  (∀ (i : Nat) (c : Nat) (d : Addr) H', y.cps[i]? = some c → c ∉ sg.cps.toList → (∀ (j : Nat) c', j < i → y.cps[j]? = some c' → c' ∈ sg.cps.toList) → H d = none → Same H H' → H' d = some (.xd [("place", .int i)]) → E (.ref S.c) (some d) H')
theorem sc_walk : FnScope ["self", "state", "text", "got", "place", "letter", "way", "given", "key"] ["self", "state", "text"] (defScope s_Machine_walk) := ⟨rfl, rfl, rfl, by decide +kernel, rfl, by decide +kernel, by decide +kernel⟩
theorem wayT_at {sg : Str} {H : Hp} {rv wv : List V} {R : List (List Way)} {s j c : Nat} {q : List Way} {w : Way} (pr : Paired (RowT H) rv R) (pw : Paired (WaysD sg H) wv rv) (nd : sg.cps.toList.Nodup) (hq : R[s]? = some q) (hl : q.length = sg.cps.size) (hw : q[j]? = some w) (hc : sg.cps[j]? = some c) :
    ∃ (d b kv : Addr) (kvs : List (Key × V)), wv[s]? = some (.ref d) ∧ H d = some (.dK kvs) ∧ valV kvs (lk c) = some (.ref b) ∧ H b = some (.tup [.int w.1, .ref kv]) ∧ H kv = some (.tup (w.2.map V.str)) := by
  have hs : s < R.length := (List.getElem?_eq_some_iff.mp hq).1
  have l1 := Paired.length pr
  have l2 := Paired.length pw
  have hwv : wv[s]? = some (wv[s]'(by omega)) := List.getElem?_eq_getElem (by omega)
  obtain ⟨rw1, hrw, d, b, vs, ed, eb, hb, hd⟩ := pat pw hwv
  obtain ⟨q', hq', b', vs', eb', hb', pq⟩ := pat pr hrw
  rw [hq] at hq'
  cases hq'
  rw [eb] at eb'
  cases eb'
  rw [hb] at hb'
  cases hb'
  have lv : vs.length = q.length := Paired.length pq
  have hj : j < q.length := (List.getElem?_eq_some_iff.mp hw).1
  have hvj : vs[j]? = some (vs[j]'(by omega)) := List.getElem?_eq_getElem (by omega)
  obtain ⟨w', hw', a, kv, ea, ha, kt, ek, hk⟩ := pat pq hvj
  rw [hw] at hw'
  cases hw'
  rw [ek] at ha
  refine ⟨d, a, kt, _, by rw [hwv, ed], hd, ?_, ha, hk⟩
  rw [kvUp_in nd hc sg.cps.size (by omega) (Nat.le_refl _) (by omega), hvj, ea]
theorem dict_at {sg : Str} {H : Hp} {rv wv : List V} {s c : Nat} (pw : Paired (WaysD sg H) wv rv) (hs : s < rv.length) (hc : c ∉ sg.cps.toList) : ∃ (d : Addr) (kvs : List (Key × V)), wv[s]? = some (.ref d) ∧ H d = some (.dK kvs) ∧ valV kvs (lk c) = none := by
  have l2 := Paired.length pw
  have hwv : wv[s]? = some (wv[s]'(by omega)) := List.getElem?_eq_getElem (by omega)
  obtain ⟨rw1, hrw, d, b, vs, ed, eb, hb, hd⟩ := pat pw hwv
  exact ⟨d, _, by rw [hwv, ed], hd, kvUp_out hc _⟩
theorem ok_walk (T : TxtM K mg B) (TE : TxtE K mg A) (TC : TxtC K mg Z) (TS : TxtS K mg A Z S) : FnOk P w K mg base (L2.CX P w) 4 S.fw S.dw ["self", "state", "text"] (spWalk Z S) := by
  have sc := sc_walk
  have G_key_list : FnOk P w K mg base CX0 1 B.f2 B.d2 ["given"] (spKl K) := ok_key_list T
  refine TS.F_walk.okX sc (fun vs H Q E h => ?_) (fun cdv A1 outer s H vs Q E hr h => ?_)
  · obtain ⟨_, _, _, _, _, _, rfl, _⟩ := h; rfl
  · obtain ⟨m, st, y, sg, R, Es, rfl, hm, F, hst, good, bad⟩ := h
    have hu := hu_of hr
    refine ⟨_, (pss_cons (ps_set (i := 3) sc.nd rfl (Or.inl rfl) pe_dnewK)
      (pss_cons (ps_for (passes_of rfl) rfl (pi_enumS (by rfl) T.n_enumerate (pa_cons (pv 2) pa_nil)) (pg_tup rfl (pgs_cons (pg_name (i := 4) sc.nd rfl (Or.inl rfl)) (pgs_cons (pg_name (i := 5) sc.nd rfl (Or.inl rfl)) pgs_nil)))
        (pss_cons (ps_set (i := 6) sc.nd rfl (Or.inl rfl) (pe_dget1 hu (pe_ix ix_tup (pe_fld (pv 0) rfl) (pv 1) (fun _ _ => rfl)) (pv 5) ⟨by rfl, by rfl, by rfl, by rfl⟩))
        (pss_cons (ps_if (pt_cmpR op_isN (pv 6) pe_non (nomark _))
          (pss_one (ps_raise rfl (takes_of rfl rfl rfl rfl) (pmk_oex TS.E_BadSign.oex TS.I_BadSign.iC TS.I_BadSign.tI (ok_BadSign TE TS) (hr.mono (by decide)) TS.I_BadSign.b .nil pass0 rfl TS.E_BadSign.g (pa_cons (pv 4) pa_nil))))
          pss_nil)
        (pss_cons (ps_asg (pv 6) (pg_tup rfl (pgs_cons (pg_name (i := 1) sc.nd rfl (Or.inl rfl)) (pgs_cons (pg_name (i := 7) sc.nd rfl (Or.inl rfl)) pgs_nil))))
        (pss_one (ps_for (passes_of rfl) rfl (pi_tup (pv 7)) (pg_name (i := 8) sc.nd rfl (Or.inl rfl))
          (pss_one (ps_dput hu (pv 3) (pv 8) pe_bl rfl))))))))
      (pss_one (ps_ret (pe_tup (pa_cons (pv 1) (pa_cons (pe_call G_key_list (hr.mono (by decide)) rfl T.D_key_list.g T.D_key_list.F.kp T.D_key_list.b .nil pass0 (pa_cons (pe_callTy (call_list_dK rfl) (by rfl) TE.n_list (by decide +kernel) (pa_cons (pv 3) pa_nil)) pa_nil)) pa_nil))))))), ?_⟩
    intro D hD
    obtain ⟨dx, r, e, k, w5, rv, ev, wv, hm0, hr0, pr, he0, pe, hk0, hw0, pw⟩ := hm
    have rl : rv.length = R.length := Paired.length pr
    have keepT : ∀ {H' : Hp}, Same H H' → Paired (RowT H') rv R := fun s1 => L2.Paired.mapP pr fun _ _ z => z.keep (tups s1)
    have keepW : ∀ {H' : Hp}, Same H H' → Paired (WaysD sg H') wv rv := fun s1 => L2.Paired.mapP pw fun _ _ z => z.keep (tups s1) fun b xs z => s1 b _ z
    have put : ∀ {H' : Hp} {o : HO}, Same H H' → Same H (upd H' D o) := fun {H' o} s1 b u z => by rw [upd_ne (ne_of_none z hD)]; exact s1 b u z
    refine ⟨_, rfl, y, rfl, ?_⟩
    refine for_it walk_enumS (fun i σ H' => (∃ x4 x5 x6 x7 x8, σ = [some (.ref m), some (.int (runW sg R st (y.cps.toList.take i)).1), some (.str y), some (.ref D), x4, x5, x6, x7, x8]) ∧ Same H H' ∧ (∃ ys, H' D = some (.dK (gotK ys)) ∧ ys.Nodup ∧ ∀ x, x ∈ ys ↔ x ∈ (runW sg R st (y.cps.toList.take i)).2) ∧ ∀ (j : Nat) c', j < i → y.cps[j]? = some c' → c' ∈ sg.cps.toList)
      ⟨⟨_, _, _, _, _, rfl⟩, Same.upd hD, ⟨[], upd_same, .nil, fun x => Iff.rfl⟩, fun j c' z => nomatch z⟩ (fun _ _ _ _ _ => trivial) ?_ ?_
    · rintro i x σ H1 H1' hi ⟨⟨x4, x5, x6, x7, x8, rfl⟩, s1, ⟨ys, hys, nd, mem⟩, g1⟩ ⟨t1, u1, v1, rfl, nt1, rfl, eu, ev1⟩
      cases eu
      obtain ⟨c, hc, rfl⟩ := Option.map_eq_some_iff.mp ev1
      have hct : y.cps.toList[i]? = some c := by rw [Array.getElem?_toList]; exact hc
      have s2 : Same H (upd H1 t1 (.tup [.int (i : Nat), .str (Froz.sing c)])) := fun b o z => Same.upd nt1 _ _ (s1 _ _ z)
      have hy2 : (upd H1 t1 (.tup [.int (i : Nat), .str (Froz.sing c)])) D = some (.dK (gotK ys)) := Same.upd nt1 _ _ hys
      refine ⟨t1, _, rfl, SqT.of upd_same, rfl, _, _, rfl, _, _, rfl, rfl, ?_⟩
      generalize upd H1 t1 (.tup [.int (i : Nat), .str (Froz.sing c)]) = H2 at s2 hy2 ⊢
      obtain ⟨run1, run2⟩ := F.run hst (y.cps.toList.take i)
      generalize hrun : runW sg R st (y.cps.toList.take i) = rn at run1 run2 mem ⊢
      refine ⟨_, rfl, m, Z.C, dx, _, _, rfl, s2 _ _ hm0, TC.cl, TC.a5, rfl, _, rfl, w5, wv, ((rn.1 : Nat) : Int), ?_⟩
      by_cases cm : c ∈ sg.cps.toList
      · obtain ⟨j, hj⟩ := List.getElem?_of_mem cm
        rw [Array.getElem?_toList] at hj
        obtain ⟨q, wy, hq, hw, hstep, okw⟩ := F.way run1 hj
        obtain ⟨d, b, kv, kvs, ewv, hd, hv, hb, hkv⟩ := wayT_at pr pw F.nd hq (F.row q (List.mem_of_getElem? hq)).1 hw hj
        have dg : DGet H2 d (.str (Froz.sing c)) (some (.ref b)) := by
          have z := DGet.k (k := lk c) (s2 _ _ hd)
          rw [hv] at z
          exact z
        refine ⟨_, rfl, rfl, SqT.of (s2 _ _ hw0), atI_nat ewv, d, rfl, .inl ⟨kvs, .inl (s2 _ _ hd)⟩, _, rfl, some (.ref b), dg, ?_⟩
        have hnn : 0 ≤ wy.1 := okw.1
        have hrun2 : runW sg R st (y.cps.toList.take (i + 1)) = (wy.1.toNat, rn.2 ++ wy.2) := by
          rw [List.take_add_one, hct]
          show runW sg R st (y.cps.toList.take i ++ [c]) = _
          rw [runW_snoc, hrun]
          unfold acc1
          rw [hstep]
        have kb : ∀ x ∈ rn.2 ++ wy.2, x ∈ keysOfRows R := fun x hx => by
          rcases List.mem_append.mp hx with hx | hx
          · exact run2 x hx
          · exact List.mem_flatMap.mpr ⟨q, List.mem_of_getElem? hq, List.mem_flatMap.mpr ⟨wy, List.mem_of_getElem? hw, hx⟩⟩
        refine ⟨_, rfl, rfl, _, rfl, iteF ?_⟩
        refine ⟨_, rfl, b, _, rfl, SqT.of (s2 _ _ hb), rfl, _, _, rfl, _, _, rfl, rfl, ?_⟩
        refine ⟨_, rfl, kv, rfl, ⟨_, SqT.of (s2 _ _ hkv)⟩, ?_⟩
        refine for_it walk_tup (fun j2 σ H' => (∃ x8, σ = [some (.ref m), some (.int wy.1), some (.str y), some (.ref D), some (.int (i : Nat)), some (.str (Froz.sing c)), some (.ref b), some (.ref kv), x8]) ∧ Same H H' ∧ ∃ ys, H' D = some (.dK (gotK ys)) ∧ ys.Nodup ∧ ∀ x, x ∈ ys ↔ x ∈ rn.2 ++ wy.2.take j2)
          ⟨⟨_, rfl⟩, s2, ys, hy2, nd, fun x => by simpa using mem x⟩ (fun j2 σ H' _ z => SqT.of (z.2.1 _ _ hkv)) ?_ ?_
        · rintro j2 x σ H3 H3' hj2 ⟨⟨x8, rfl⟩, s3, ys3, hys3, nd3, mem3⟩ ⟨rfl, hx⟩
          rw [List.getElem?_map] at hx
          obtain ⟨key, hkey, rfl⟩ := Option.map_eq_some_iff.mp hx
          have kin : key ∈ wy.2 := List.mem_of_getElem? hkey
          have small : (gotK ys3).length < sizeLine := by
            have l1 : ys3.length ≤ (keysOfRows R).length := nd_sub_len nd3 fun x hx => kb x (by
              rcases List.mem_append.mp ((mem3 x).mp hx) with z | z
              · exact List.mem_append_left _ z
              · exact List.mem_append_right _ (List.mem_of_mem_take z))
            have l2 := F.size
            rw [List.length_append] at l2
            unfold gotK
            rw [List.length_map]
            exact bound_line (by omega)
          refine ⟨_, rfl, _, rfl, D, _, rfl, DPut.k (k := Sum.inr key) hys3 small, ?_⟩
          obtain ⟨g2, g3⟩ := got_grow (zs := []) nd3 key
          rw [got_put]
          refine ⟨⟨_, rfl⟩, put s3, _, upd_same, g2, fun x => ?_⟩
          rw [g3, mem3, List.take_add_one, hkey]
          simp only [List.mem_append, Option.toList_some, List.mem_singleton]
          constructor
          · rintro ((z | z) | z)
            · exact .inl z
            · exact .inr (.inl z)
            · exact .inr (.inr z)
          · rintro (z | z | z)
            · exact .inl (.inl z)
            · exact .inl (.inr z)
            · exact .inr z
        · rintro σ H3 ⟨⟨x8, rfl⟩, s3, ys3, hys3, nd3, mem3⟩
          rw [List.length_map, List.take_length] at mem3
          have e0 : (((runW sg R st (y.cps.toList.take (i + 1))).1 : Nat) : Int) = wy.1 := by
            rw [hrun2]
            exact Int.toNat_of_nonneg hnn
          refine ⟨⟨some (.int (i : Nat)), some (.str (Froz.sing c)), some (.ref b), some (.ref kv), x8, by rw [e0]⟩, s3, ⟨ys3, hys3, nd3, ?_⟩, fun j' c' lt hc' => ?_⟩
          · rw [hrun2]
            exact mem3
          · by_cases e : j' < i
            · exact g1 j' c' e hc'
            · have e : j' = i := by omega
              subst e
              rw [hc] at hc'
              cases hc'
              exact cm
      · obtain ⟨d, kvs, ewv, hd, hv⟩ := dict_at pw (by omega : rn.1 < rv.length) cm
        have dg : DGet H2 d (.str (Froz.sing c)) none := by
          have z := DGet.k (k := lk c) (s2 _ _ hd)
          rw [hv] at z
          exact z
        refine ⟨_, rfl, rfl, SqT.of (s2 _ _ hw0), atI_nat ewv, d, rfl, .inl ⟨kvs, .inl (s2 _ _ hd)⟩, _, rfl, none, dg, ?_⟩
        refine ⟨_, rfl, rfl, _, rfl, iteT ?_⟩
        refine ⟨_, rfl, ?_⟩
        exact rsE rfl (by show 1 ≤ 1000; decide) (fun u hu => .inl ⟨_, List.mem_singleton.mp hu⟩) fun dx5 H5 hd5 s5 h5 => bad i c dx5 H5 hc cm g1 (s2.free hd5) (fun b o e => s5 _ _ (s2 _ _ e)) h5
    · rintro σ H1 ⟨⟨x4, x5, x6, x7, x8, rfl⟩, s1, ⟨ys, hys, nd, mem⟩, g1⟩
      have el : y.cps.toList.take y.cps.size = y.cps.toList := List.take_of_length_le (by simp)
      rw [el] at mem ⊢
      obtain ⟨run1, run2⟩ := F.run hst y.cps.toList
      have inn : ∀ c ∈ y.cps.toList, c ∈ sg.cps.toList := fun c hc => by
        obtain ⟨j, hj⟩ := List.getElem?_of_mem hc
        rw [Array.getElem?_toList] at hj
        exact g1 j c (Array.getElem?_eq_some_iff.mp hj).1 hj
      have l2 := F.size
      rw [List.length_append] at l2
      have l1 : ys.length ≤ (keysOfRows R).length := nd_sub_len nd fun x hx => run2 x ((mem x).mp hx)
      refine ⟨_, rfl, _, rfl, D, _, rfl, hys, fun q hq => ?_⟩
      have e1 : (gotK ys).map (fun kv => kV kv.1) = ys.map V.str := by
        unfold gotK
        rw [List.map_map]
        rfl
      rw [e1]
      refine ⟨.ref q, ys, rfl, .list (SqL.of upd_same), by omega, fun p2 H2 hp2 s2 h2 => ?_⟩
      refine ⟨by show 2 ≤ sizeLine; decide, fun t ht => ?_⟩
      rw [kl_congr mem] at h2
      exact good inn t p2 _ (fun b o z => Same.upd ht _ _ (s2 _ _ (Same.upd hq _ _ (s1 _ _ z)))) upd_same (Same.upd ht _ _ h2)
end
end Kx

namespace Kx
open PySem L2 Own
section
variable {P : Program} {w : World} {K : PySem.W.Frag} {mg : Str → Option Value} {base : Heap} {A : EAd} {B : MAd} {Z : CAd} {S : SAd}
def keysW (sg : Str) (R : List (List Way)) (Es : List (List Str)) (cs : List Nat) : List Str := kl ((runW sg R 0 cs).2 ++ Es.getD (runW sg R 0 cs).1 [])
/-- self.keys_of(text), self.after(text) -/
def spAsk (Z : CAd) (S : SAd) (ans : Str → List (List Way) → List (List Str) → Str → Hp → V → Prop) : Sp := fun vs H Q E => ∃ (m : Addr) (y sg : Str) (R : List (List Way)) (Es : List (List Str)), vs = [.ref m, .str y] ∧ MachAt Z.C H m sg R Es ∧ Full sg R Es ∧
  ((∀ c ∈ y.cps.toList, c ∈ sg.cps.toList) → ∀ v H', Same H H' → ans sg R Es y H' v → Q v H') ∧
  (∀ (i : Nat) (c : Nat) (d : Addr) H', y.cps[i]? = some c → c ∉ sg.cps.toList → (∀ (j : Nat) c', j < i → y.cps[j]? = some c' → c' ∈ sg.cps.toList) → H d = none → Same H H' → H' d = some (.xd [("place", .int i)]) → E (.ref S.c) (some d) H')
def ansKeys (sg : Str) (R : List (List Way)) (Es : List (List Str)) (y : Str) (H : Hp) (v : V) : Prop := KeysT H v (keysW sg R Es y.cps.toList)
def ansState (sg : Str) (R : List (List Way)) (Es : List (List Str)) (y : Str) (H : Hp) (v : V) : Prop := v = .int (runW sg R 0 y.cps.toList).1
theorem sc_keys_of : FnScope ["self", "text", "state", "given"] ["self", "text"] (defScope s_Machine_keys_of) := ⟨rfl, rfl, rfl, by decide +kernel, rfl, by decide +kernel, by decide +kernel⟩
theorem ok_keys_of (T : TxtM K mg B) (TE : TxtE K mg A) (TC : TxtC K mg Z) (TS : TxtS K mg A Z S) : FnOk P w K mg base (L2.CX P w) 5 S.fk S.dk ["self", "text"] (spAsk Z S ansKeys) := by
  have sc := sc_keys_of
  have G_walk : FnOk P w K mg base (L2.CX P w) 4 S.fw S.dw ["self", "state", "text"] (spWalk Z S) := ok_walk T TE TC TS
  have G_key_list : FnOk P w K mg base CX0 1 B.f2 B.d2 ["given"] (spKl K) := ok_key_list T
  refine TS.F_keys_of.okX sc (fun vs H Q E h => ?_) (fun cdv A1 outer s H vs Q E hr h => ?_)
  · obtain ⟨_, _, _, _, _, rfl, _⟩ := h; rfl
  · obtain ⟨m, y, sg, R, Es, rfl, hm, F, good, bad⟩ := h
    refine ⟨_, (pss_cons (ps_asg (pe_meth (pv 0) TC.cl TS.M_walk G_walk (hr.mono (by decide)) TS.b_walk .nil (passes_call (takes_of rfl rfl rfl rfl) fun _ _ _ _ h => h) (pa_cons pe_int (pa_cons (pv 1) pa_nil))) (pg_tup rfl (pgs_cons (pg_name (i := 2) sc.nd rfl (Or.inl rfl)) (pgs_cons (pg_name (i := 3) sc.nd rfl (Or.inl rfl)) pgs_nil))))
      (pss_one (ps_ret (pe_call G_key_list (hr.mono (by decide)) rfl T.D_key_list.g T.D_key_list.F.kp T.D_key_list.b .nil pass0 (pa_cons (pe_lst (StX.pa_star (pv 3) (StX.pa_star (pe_ix ix_tup (pe_fld (pv 0) rfl) (pv 2) (fun _ _ => rfl)) pa_nil))) pa_nil))))), ?_⟩
    have hm' := hm
    obtain ⟨dx, r, e, k, w5, rv, ev, wv, hm0, hr0, pr, he0, pe, hk0, hw0, pw⟩ := hm'
    refine ⟨_, rfl, m, dx, _, rfl, hm0, rfl, _, rfl, m, 0, y, sg, R, Es, rfl, hm, F, F.pos, fun inn p k2 H1 s1 h1 h2 => ?_, bad⟩
    obtain ⟨run1, run2⟩ := F.run F.pos y.cps.toList
    replace good := good inn
    have ee := F.ends
    have le : ev.length = Es.length := Paired.length pe
    have hev : ev[(runW sg R 0 y.cps.toList).1]? = some (ev[(runW sg R 0 y.cps.toList).1]'(by omega)) := List.getElem?_eq_getElem (by omega)
    obtain ⟨ks, hks, a, eka, ha⟩ := pat pe hev
    rw [eka] at hev
    have ek : Es.getD (runW sg R 0 y.cps.toList).1 [] = ks := by rw [List.getD_eq_getElem?_getD, hks]; rfl
    refine ⟨p, _, rfl, SqT.of h1, rfl, _, _, rfl, _, _, rfl, rfl, ?_⟩
    refine ⟨_, rfl, k2, _, rfl, .inl (SqT.of h2), ?_⟩
    refine ⟨_, rfl, m, Z.C, dx, _, _, rfl, s1 _ _ hm0, TC.cl, TC.a3, rfl, _, rfl, e, ev, _, _, rfl, rfl, SqT.of (s1 _ _ he0), atI_nat hev, a, _, rfl, .inl (SqT.of (s1 _ _ ha)), ?_⟩
    have l0 : (kl (runW sg R 0 y.cps.toList).2).length ≤ (keysOfRows R).length := nd_sub_len (kl_nodup _) fun x hx => run2 x (kl_mem.mp hx)
    have l1 : ks.length ≤ Es.flatten.length := by
      have := flat_le id hks
      rw [List.flatMap_id, List.flatMap_id] at this
      have : (id ks).length = ks.length := rfl
      omega
    have l2 := F.size
    rw [List.length_append] at l2
    have eL : (kl (runW sg R 0 y.cps.toList).2).map V.str ++ (ks.map V.str ++ []) = (kl (runW sg R 0 y.cps.toList).2 ++ ks).map V.str := by simp
    refine ⟨?_, fun l hl => ?_⟩
    · show ((kl (runW sg R 0 y.cps.toList).2).map V.str ++ (ks.map V.str ++ [])).length ≤ sizeLine
      rw [eL, List.length_map, List.length_append]
      exact Nat.le_of_lt (bound_line (by omega))
    refine ⟨.ref l, _, rfl, .list (SqL.of (upd_same.trans (congrArg (fun z => some (HO.lst z)) eL))), by rw [List.length_append]; omega, fun q H3 hq s3 h3 => ?_⟩
    refine good _ _ (fun b o z => s3 _ _ (Same.upd hl _ _ (s1 _ _ z))) ⟨q, rfl, ?_⟩
    have ek2 : kl (kl (runW sg R 0 y.cps.toList).2 ++ ks) = keysW sg R Es y.cps.toList := by
      unfold keysW
      rw [ek]
      exact kl_congr fun x => by rw [List.mem_append, List.mem_append, kl_mem]
    rw [← ek2]
    exact h3
end
end Kx

namespace Kx
open PySem L2 Own
/-- rows of lists, as the law draws them -/
def KeyE (H : Hp) (v : V) (ks : List Str) : Prop := ∃ a, v = .ref a ∧ H a = some (.lst (ks.map V.str))
def WayE (H : Hp) (v : V) (w : Way) : Prop := ∃ a kv, v = .ref a ∧ H a = some (.tup [.int w.1, .ref kv]) ∧ H kv = some (.lst (w.2.map V.str))
def RowE (H : Hp) (v : V) (r : List Way) : Prop := ∃ a vs, v = .ref a ∧ H a = some (.lst vs) ∧ Paired (WayE H) vs r
theorem KeyE.keep {H H' : Hp} (s : Same H H') {v : V} {ks : List Str} (h : KeyE H v ks) : KeyE H' v ks := by
  obtain ⟨a, e, h⟩ := h
  exact ⟨a, e, s _ _ h⟩
theorem WayE.keep {H H' : Hp} (s : Same H H') {v : V} {r : Way} (h : WayE H v r) : WayE H' v r := by
  obtain ⟨a, kv, e, h, k⟩ := h
  exact ⟨a, kv, e, s _ _ h, s _ _ k⟩
theorem RowE.keep {H H' : Hp} (s : Same H H') {v : V} {r : List Way} (h : RowE H v r) : RowE H' v r := by
  obtain ⟨a, vs, e, h, k⟩ := h
  exact ⟨a, vs, e, s _ _ h, L2.Paired.mapP k fun _ _ z => z.keep s⟩
theorem toRow {K : PySem.W.Frag} {H : Hp} {v : V} {r : List Way} (h : RowE H v r) : RowL K H v r := by
  obtain ⟨a, vs, e, h, k⟩ := h
  exact ⟨a, vs, e, h, L2.Paired.mapP k fun _ _ ⟨b, kv, e1, e2, e3⟩ => ⟨b, .ref kv, e1, e2, .list (SqL.of e3)⟩⟩
theorem toTexts {K : PySem.W.Frag} {H : Hp} {v : V} {ks : List Str} (h : KeyE H v ks) : Texts K H v ks := by
  obtain ⟨a, rfl, h⟩ := h
  exact .list (SqL.of h)
/-- list(x), by values -/
def rListOf (K : PySem.W.Frag) : List V → Hp → VK → Prop := fun xs H Q => ∃ p ys, xs = [V.ref p] ∧ (SqL K H p ys ∨ SqT K H p ys) ∧ ∀ l, H l = none → Q (.ref l) (upd H l (.lst ys))
end Kx

namespace Own
open PySem PySem.Spec L2 PyProof.Rows PySem.Froz
/-- the place of a sign in a text -/
theorem occ_sign (x : Str) (c j : Nat) (hj : x.cps[j]? = some c) (hn : ∀ k, k < j → x.cps[k]? ≠ some c) : ∃ r, Builtin.Str.occurrences x (sing c) 0 x.length 1 = j :: r := by
  have here : ∀ i, StrLaws.At x (sing c) x.length i ↔ x.cps.toList[i]? = some c := fun i => StrLaws.subAt_one x c i
  rcases StrLaws.occ_head x (sing c) 1 (Nat.le_refl _) with ⟨_, h⟩ | ⟨i, r, e, ha, hk⟩
  · exact absurd ((here j).mpr (by rw [Array.getElem?_toList]; exact hj)) (h j)
  · have ia := (here i).mp ha
    rw [Array.getElem?_toList] at ia
    rcases Nat.lt_trichotomy i j with z | z | z
    · exact absurd ia (hn i z)
    · subst z
      exact ⟨r, e⟩
    · exact absurd ((here j).mpr (by rw [Array.getElem?_toList]; exact hj)) (hk j z)
def rSignAt : V → List V → Hp → VK → Prop := fun x xs H Q => ∃ (a : Str) (c j : Nat), x = .str a ∧ xs = [.str (sing c)] ∧ a.cps[j]? = some c ∧ (∀ k, k < j → a.cps[k]? ≠ some c) ∧ Q (.int j) H
theorem mt_signAt {X : Cx} : MtR X "str.index" rSignAt := by
  intro pins s σ H x xs v us Q I rx rs h
  obtain ⟨a, c, j, rfl, rfl, hj, hn, h⟩ := h
  obtain ⟨t, rfl⟩ := rx
  obtain ⟨u, rfl, t2, rfl⟩ := vals1 rs
  obtain ⟨r, e⟩ := occ_sign a c j hj hn
  exact PySem.SC.index e ⟨.int j, H, I.tok _, ⟨_, rfl⟩, h⟩
end Own

namespace Kx
open PySem L2 Own
abbrev s__law_read : Stmt := top 38
structure TxtR (K : PySem.W.Frag) (mg : Str → Option Value) (f : Addr) (d : FuncData) : Prop where
  D__law_read : DefT K mg "_law_read" "_law_read" s__law_read ["signs", "tables", "text"] f d
  n_list : mg "list" = none
  n_set : mg "set" = none
  n_sorted : mg "sorted" = none
  n_tuple : mg "tuple" = none
/-- tables that can be read -/
structure Rd2 (sg : Str) (R : List (List Way)) (Es : List (List Str)) : Prop where
  F : Full sg R Es
  two : (∀ q ∈ R, ∀ w ∈ q, w.2.length ≤ 2) ∧ ∀ ks ∈ Es, ks.length ≤ 2
theorem Rd2.run {sg : Str} {R : List (List Way)} {Es : List (List Str)} (F : Rd2 sg R Es) (s : Nat) : ∀ cs : List Nat, (runW sg R s cs).2.length ≤ 2 * cs.length := by
  suffices h : ∀ (cs : List Nat) (p : Nat × List Str), (cs.foldl (acc1 sg R) p).2.length ≤ p.2.length + 2 * cs.length from fun cs => by
    have := h cs (s, [])
    unfold runW
    simpa using this
  intro cs
  induction cs with
  | nil => intro p; simp
  | cons c cs ih =>
    intro p
    have := ih (acc1 sg R p c)
    have l : (acc1 sg R p c).2.length ≤ p.2.length + 2 := by
      unfold acc1
      cases e : stepW sg R p.1 c with
      | none => exact Nat.le_add_right _ _
      | some w =>
        unfold stepW at e
        obtain ⟨j, _, e⟩ := Option.bind_eq_some_iff.mp e
        obtain ⟨q, hq, e⟩ := Option.bind_eq_some_iff.mp e
        have := F.two.1 q (List.mem_of_getElem? hq) w (List.mem_of_getElem? e)
        show (p.2 ++ w.2).length ≤ _
        rw [List.length_append]
        omega
    rw [List.foldl_cons, List.length_cons]
    omega
section
variable {P : Program} {w : World} {K : PySem.W.Frag} {mg : Str → Option Value} {base : Heap} {f : Addr} {d : FuncData}
def spRead : Sp := fun vs H Q _ => ∃ (t r e : Addr) (y sg : Str) (rv ev : List V) (R : List (List Way)) (Es : List (List Str)), vs = [.str sg, .ref t, .str y] ∧ H t = some (.tup [.ref r, .ref e]) ∧ H r = some (.lst rv) ∧ Paired (RowE H) rv R ∧ H e = some (.lst ev) ∧ Paired (KeyE H) ev Es ∧
  Rd2 sg R Es ∧ y.cps.size ≤ 1000 ∧ (∀ c ∈ y.cps.toList, c ∈ sg.cps.toList) ∧ ∀ (p k : Addr) H', Same H H' → H' p = some (.tup [.int (runW sg R 0 y.cps.toList).1, .ref k]) → H' k = some (.tup ((keysW sg R Es y.cps.toList).map V.str)) → Q (.ref p) H'
theorem sc_read : FnScope ["signs", "tables", "text", "rows", "ends", "state", "given", "sign", "keys"] ["signs", "tables", "text"] (defScope s__law_read) := ⟨rfl, rfl, rfl, by decide +kernel, rfl, by decide +kernel, by decide +kernel⟩
theorem ok_read (T : TxtR K mg f d) : FnOk P w K mg base CX0 1 f d ["signs", "tables", "text"] spRead := by
  have sc := sc_read
  refine T.D__law_read.F.ok sc (fun vs H Q E h => ?_) (fun cdv A1 outer s H vs Q E hr h => ?_)
  · obtain ⟨_, _, _, _, _, _, _, _, _, rfl, _⟩ := h; rfl
  · obtain ⟨t, r, e, y, sg, rv, ev, R, Es, rfl, ht, hrv, pR, hev, pE, F, yl, inn, k⟩ := h
    refine ⟨_, (pss_cons (ps_asg (pv 1) (pg_tup rfl (pgs_cons (pg_name (i := 3) sc.nd rfl (Or.inl rfl)) (pgs_cons (pg_name (i := 4) sc.nd rfl (Or.inl rfl)) pgs_nil))))
      (pss_cons (ps_par (i := 5) (j := 6) rfl sc.nd rfl rfl (by decide) rfl rfl (pa_cons pe_int (pa_cons (pe_lst pa_nil) pa_nil)) rfl)
      (pss_cons (ps_for PassesOwn.never rfl (pi_str (pv 2)) (pg_name (i := 7) sc.nd rfl (Or.inl rfl))
        (pss_cons (ps_asg (pe_ix ix_list (pe_ix ix_list (pv 3) (pv 5) (fun _ _ => rfl)) (pe_bm PySem.F.plainAttrs_str PySem.F.slot_str_index PySem.F.type_str_index mt_signAt (pv 0) (pa_cons (pv 7) pa_nil)) (fun _ _ => rfl)) (pg_tup rfl (pgs_cons (pg_name (i := 5) sc.nd rfl (Or.inl rfl)) (pgs_cons (pg_name (i := 8) sc.nd rfl (Or.inl rfl)) pgs_nil))))
        (pss_one (ps_set (i := 6) sc.nd rfl (Or.inl rfl) (pe_op op_cat (pv 6) (pe_callTy call_list_of (by rfl) T.n_list (by decide +kernel) (pa_cons (pv 8) pa_nil)))))))
      (pss_one (ps_ret (pe_tup (pa_cons (pv 5) (pa_cons (pe_tupleOf rfl T.n_tuple (pe_callB (cr_sortT rfl) (by rfl) T.n_sorted (by decide +kernel) (pa_cons (pe_callTy (cr_setT rfl) (by rfl) T.n_set (by decide +kernel) (pa_cons (pe_op op_cat (pv 6) (pe_callTy call_list_of (by rfl) T.n_list (by decide +kernel) (pa_cons (pe_ix ix_list (pv 4) (pv 5) (fun _ _ => rfl)) pa_nil))) pa_nil)) pa_nil))) pa_nil)))))))), ?_⟩
    refine ⟨_, rfl, t, _, rfl, SqT.of ht, rfl, _, _, rfl, _, _, rfl, rfl, ?_⟩
    have rl : rv.length = R.length := Paired.length pR
    have el : ev.length = Es.length := Paired.length pE
    refine ⟨by decide, fun g0 hg0 => ⟨_, _, rfl, ?_⟩⟩
    refine ⟨_, rfl, y, rfl, ?_⟩
    refine for_it walk_str (fun i σ H' => (∃ g x7 x8, σ = [some (.str sg), some (.ref t), some (.str y), some (.ref r), some (.ref e), some (.int (runW sg R 0 (y.cps.toList.take i)).1), some (.ref g), x7, x8] ∧ H' g = some (.lst ((runW sg R 0 (y.cps.toList.take i)).2.map V.str))) ∧ Same H H')
      ⟨⟨g0, _, _, rfl, upd_same⟩, Same.upd hg0⟩ (fun _ _ _ _ _ => trivial) ?_ ?_
    · rintro i x σ _ H1 hi ⟨⟨g, x7, x8, rfl, hg⟩, s1⟩ ⟨rfl, c, hc, rfl⟩
      have hct : y.cps.toList[i]? = some c := by rw [Array.getElem?_toList]; exact hc
      have cm := inn c (List.mem_of_getElem? hct)
      obtain ⟨j, hj⟩ := List.getElem?_of_mem cm
      rw [Array.getElem?_toList] at hj
      obtain ⟨run1, _⟩ := F.F.run F.F.pos (y.cps.toList.take i)
      have run2 := F.run 0 (y.cps.toList.take i)
      obtain ⟨q, wy, hq, hw, hstep, okw⟩ := F.F.way run1 hj
      have hrun2 : runW sg R 0 (y.cps.toList.take (i + 1)) = (wy.1.toNat, (runW sg R 0 (y.cps.toList.take i)).2 ++ wy.2) := by
        rw [List.take_add_one, hct]
        show runW sg R 0 (y.cps.toList.take i ++ [c]) = _
        rw [runW_snoc]
        unfold acc1
        rw [hstep]
      generalize runW sg R 0 (y.cps.toList.take i) = rn at hrun2 run1 run2 hg hstep hq ⊢
      have w2 := F.two.1 q (List.mem_of_getElem? hq) wy (List.mem_of_getElem? hw)
      have hx : rv[rn.1]? = some (rv[rn.1]'(by omega)) := List.getElem?_eq_getElem (by omega)
      obtain ⟨q', hq', a, vs, ea, ha, pq⟩ := pat pR hx
      rw [hq] at hq'
      cases hq'
      rw [ea] at hx
      have lq : vs.length = q.length := Paired.length pq
      have hj2 : j < q.length := (List.getElem?_eq_some_iff.mp hw).1
      have hy : vs[j]? = some (vs[j]'(by omega)) := List.getElem?_eq_getElem (by omega)
      obtain ⟨w', hw', b, kv, eb, hb, hkv⟩ := pat pq hy
      rw [hw] at hw'
      cases hw'
      rw [eb] at hy
      have hfirst : ∀ k, k < j → sg.cps[k]? ≠ some c := fun k hk hc' => by
        obtain ⟨h1, e1⟩ := Array.getElem?_eq_some_iff.mp hc'
        obtain ⟨h2, e2⟩ := Array.getElem?_eq_some_iff.mp hj
        have nd := List.pairwise_iff_getElem.mp F.F.nd k j (by simpa using h1) (by simpa using h2) hk
        simp only [Array.getElem_toList] at nd
        exact nd (e1.trans e2.symm)
      refine ⟨_, rfl, _, rfl, r, rv, (rn.1 : Nat), _, rfl, rfl, SqL.of (s1 _ _ hrv), atI_nat hx, _, rfl, ?_⟩
      refine ⟨rfl, _, rfl, sg, c, j, rfl, rfl, hj, hfirst, a, vs, (j : Nat), _, rfl, rfl, SqL.of (s1 _ _ ha), atI_nat hy, b, _, rfl, SqT.of (s1 _ _ hb), rfl, _, _, rfl, _, _, rfl, rfl, ?_⟩
      have hnn : 0 ≤ wy.1 := okw.1
      have e0 : (((runW sg R 0 (y.cps.toList.take (i + 1))).1 : Nat) : Int) = wy.1 := by
        rw [hrun2]
        exact Int.toNat_of_nonneg hnn
      rw [List.length_take] at run2
      refine ⟨_, rfl, _, rfl, kv, _, rfl, .inl (SqL.of (s1 _ _ hkv)), fun l hl1 => ⟨g, l, _, _, rfl, rfl, Same.upd hl1 _ _ hg, upd_same, ?_, fun p3 hp3 => ?_⟩⟩
      · rw [List.length_map, List.length_map, sizeLine_eq]
        omega
      · refine ⟨⟨p3, some (.str (Froz.sing c)), some (.ref kv), by rw [e0]; rfl, ?_⟩, fun b o z => Same.upd hp3 _ _ (Same.upd hl1 _ _ (s1 _ _ z))⟩
        rw [upd_same, hrun2, ← List.map_append]
    · rintro σ H1 ⟨⟨g, x7, x8, rfl, hg⟩, s1⟩
      have eT : y.cps.toList.take y.cps.size = y.cps.toList := List.take_of_length_le (by simp)
      rw [eT] at hg ⊢
      obtain ⟨run1, _⟩ := F.F.run F.F.pos y.cps.toList
      have run2 := F.run 0 y.cps.toList
      have ly : y.cps.toList.length = y.cps.size := Array.length_toList
      have ee := F.F.ends
      have hx : ev[(runW sg R 0 y.cps.toList).1]? = some (ev[(runW sg R 0 y.cps.toList).1]'(by omega)) := List.getElem?_eq_getElem (by omega)
      obtain ⟨ks, hks, a, ea, ha⟩ := pat pE hx
      rw [ea] at hx
      clear ea
      have k2 := F.two.2 ks (List.mem_of_getElem? hks)
      have ek : Es.getD (runW sg R 0 y.cps.toList).1 [] = ks := by rw [List.getD_eq_getElem?_getD, hks]; rfl
      have eC : keysW sg R Es y.cps.toList = kl ((runW sg R 0 y.cps.toList).2 ++ ks) := by unfold keysW; rw [ek]
      generalize runW sg R 0 y.cps.toList = rn at run1 run2 hg hx eC k ⊢
      refine ⟨_, rfl, _, rfl, _, rfl, _, rfl, e, ev, (rn.1 : Nat), _, rfl, rfl, SqL.of (s1 _ _ hev), atI_nat hx, a, _, rfl, .inl (SqL.of (s1 _ _ ha)), fun l hl1 => ⟨g, l, _, _, rfl, rfl, Same.upd hl1 _ _ hg, upd_same, ?_, fun p3 hp3 => ?_⟩⟩
      · rw [List.length_map, List.length_map, sizeLine_eq]
        omega
      have h3 : (upd (upd H1 l (.lst (ks.map V.str))) p3 (.lst (rn.2.map V.str ++ ks.map V.str))) p3 = some (.lst ((rn.2 ++ ks).map V.str)) := by
        rw [upd_same, ← List.map_append]
      have s3 : Same H (upd (upd H1 l (.lst (ks.map V.str))) p3 (.lst (rn.2.map V.str ++ ks.map V.str))) := fun b o z => Same.upd hp3 _ _ (Same.upd hl1 _ _ (s1 _ _ z))
      generalize upd (upd H1 l (.lst (ks.map V.str))) p3 (.lst (rn.2.map V.str ++ ks.map V.str)) = H3 at h3 s3 ⊢
      refine ⟨.ref p3, _, rfl, .list (SqL.of h3), by rw [List.length_append]; have e : scanBound = 4096 := rfl; omega, fun p4 l4 hp4 nd4 hm4 hl4 => ?_⟩
      refine ⟨p4, l4, rfl, upd_same, by rw [List.length_append] at hl4; have e : scanBound = 4096 := rfl; omega, fun p5 ys hp5 pm5 hs5 => ?_⟩
      refine .inl ⟨p5, _, rfl, SqL.of upd_same, fun p6 hp6 => ?_⟩
      rw [kl_of pm5 hs5 nd4 hm4] at *
      refine ⟨by show 2 ≤ sizeLine; decide, fun p7 hp7 => ?_⟩
      refine k p7 p6 _ (fun b o z => Same.upd hp7 _ _ (Same.upd hp6 _ _ (Same.upd hp5 _ _ (Same.upd hp4 _ _ (s3 _ _ z))))) upd_same ?_
      rw [eC]
      exact Same.upd hp7 _ _ upd_same
end
end Kx

namespace Kx
open PySem L2 Own
/-! ### a word many times, in plain lists -/
section
variable (f : Nat → Nat) (g : Nat → List Str)
/-- the state behind so many words -/
def goN (s : Nat) : Nat → Nat
  | 0 => s
  | n + 1 => f (goN s n)
/-- y is given on the way of so many words -/
def giv (s n : Nat) (y : Str) : Prop := ∃ m, m < n ∧ y ∈ g (goN f s m)
theorem goN_add (s m : Nat) : ∀ n, goN f s (m + n) = goN f (goN f s m) n
  | 0 => rfl
  | n + 1 => congrArg f (goN_add s m n)
theorem giv_zero (s : Nat) (y : Str) : ¬ giv f g s 0 y := fun ⟨_, h, _⟩ => nomatch h
theorem giv_add (s m n : Nat) (y : Str) : giv f g s (m + n) y ↔ giv f g s m y ∨ giv f g (goN f s m) n y := by
  constructor
  · rintro ⟨k, hk, hy⟩
    by_cases c : k < m
    · exact .inl ⟨k, c, hy⟩
    · refine .inr ⟨k - m, by omega, ?_⟩
      rw [← goN_add, show m + (k - m) = k by omega]
      exact hy
  · rintro (⟨k, hk, hy⟩ | ⟨k, hk, hy⟩)
    · exact ⟨k, by omega, hy⟩
    · refine ⟨m + k, by omega, ?_⟩
      rw [goN_add]
      exact hy
theorem giv_one (s : Nat) (y : Str) : giv f g s 1 y ↔ y ∈ g s := by
  constructor
  · rintro ⟨k, hk, hy⟩
    have : k = 0 := by omega
    subst this
    exact hy
  · exact fun h => ⟨0, by omega, h⟩
theorem giv_succ (s n : Nat) (y : Str) : giv f g s (n + 1) y ↔ giv f g s n y ∨ y ∈ g (goN f s n) := by
  rw [giv_add, giv_one]
/-- a ring: where the i-th state is the first-th one, all later ones come round again -/
theorem ring {s a i : Nat} (h : goN f s i = goN f s a) (ai : a < i) (n : Nat) (hn : a ≤ n) : goN f s n = goN f s (a + (n - a) % (i - a)) := by
  generalize hr : i - a = r
  have rp : 0 < r := by omega
  have per : ∀ k, goN f s (a + k + r) = goN f s (a + k) := fun k => by
    have e1 : a + k + r = i + k := by omega
    rw [e1, goN_add, h, ← goN_add]
  have many : ∀ q k, goN f s (a + k + q * r) = goN f s (a + k) := fun q => by
    induction q with
    | zero => intro k; rw [Nat.zero_mul, Nat.add_zero]
    | succ q ih =>
      intro k
      have e1 : a + k + (q + 1) * r = a + (k + q * r) + r := by rw [Nat.succ_mul]; omega
      rw [e1, per]
      have e2 : a + (k + q * r) = a + k + q * r := by omega
      rw [e2]
      exact ih k
  have e3 := many ((n - a) / r) ((n - a) % r)
  have e4 := Nat.div_add_mod (n - a) r
  have e5 : a + (n - a) % r + (n - a) / r * r = n := by
    rw [Nat.mul_comm] at e4
    omega
  rw [e5] at e3
  exact e3
theorem ring_giv {s a i : Nat} (h : goN f s i = goN f s a) (ai : a < i) (n : Nat) (hn : i ≤ n) (y : Str) : giv f g s n y ↔ giv f g s i y := by
  constructor
  · rintro ⟨m, hm, hy⟩
    by_cases c : m < i
    · exact ⟨m, c, hy⟩
    · have := ring f h ai m (by omega)
      rw [this] at hy
      have := Nat.mod_lt (m - a) (show 0 < i - a by omega)
      exact ⟨_, by omega, hy⟩
  · rintro ⟨m, hm, hy⟩
    exact ⟨m, by omega, hy⟩
theorem goN_ext {f' : Nat → Nat} (h : ∀ s, f s = f' s) (s : Nat) : ∀ n, goN f s n = goN f' s n
  | 0 => rfl
  | n + 1 => by
    show f (goN f s n) = f' (goN f' s n)
    rw [h, goN_ext h s n]
end
/-! ### reading a word many times -/
abbrev stN (sg : Str) (R : List (List Way)) (cs : List Nat) (s : Nat) : Nat := (runW sg R s cs).1
abbrev kyN (sg : Str) (R : List (List Way)) (cs : List Nat) (s : Nat) : List Str := (runW sg R s cs).2
theorem runW_append (sg : Str) (R : List (List Way)) (s : Nat) (a b : List Nat) : runW sg R s (a ++ b) = ((runW sg R (runW sg R s a).1 b).1, (runW sg R s a).2 ++ (runW sg R (runW sg R s a).1 b).2) := by
  have acc : ∀ (b : List Nat) (p : Nat × List Str), b.foldl (acc1 sg R) p = ((b.foldl (acc1 sg R) (p.1, [])).1, p.2 ++ (b.foldl (acc1 sg R) (p.1, [])).2) := by
    intro b
    induction b with
    | nil => intro p; simp
    | cons c b ih =>
      intro p
      have one : ∀ q : Nat × List Str, acc1 sg R q c = ((acc1 sg R (q.1, []) c).1, q.2 ++ (acc1 sg R (q.1, []) c).2) := fun q => by
        unfold acc1
        cases stepW sg R q.1 c <;> simp
      rw [List.foldl_cons, List.foldl_cons, ih (acc1 sg R p c), ih (acc1 sg R (p.1, []) c), one p, List.append_assoc]
  unfold runW
  rw [List.foldl_append]
  exact acc b _
theorem run_rep (sg : Str) (R : List (List Way)) (cs : List Nat) (s : Nat) : ∀ n, (runW sg R s (List.replicate n cs).flatten).1 = goN (stN sg R cs) s n ∧ ∀ y, y ∈ (runW sg R s (List.replicate n cs).flatten).2 ↔ giv (stN sg R cs) (kyN sg R cs) s n y
  | 0 => ⟨rfl, fun y => ⟨fun z => absurd z List.not_mem_nil, fun z => absurd z (giv_zero _ _ _ _)⟩⟩
  | n + 1 => by
    obtain ⟨h1, h2⟩ := run_rep sg R cs s n
    have e : (List.replicate (n + 1) cs).flatten = (List.replicate n cs).flatten ++ cs := by
      rw [List.replicate_succ', List.flatten_append]
      simp
    rw [e, runW_append, h1]
    refine ⟨rfl, fun y => ?_⟩
    rw [List.mem_append, h2, giv_succ]
/-- the state behind blocks -/
def farS (sg : Str) (R : List (List Way)) : Nat → List (Str × Nat) → Nat
  | s, [] => s
  | s, b :: r => farS sg R (goN (stN sg R b.1.cps.toList) s b.2) r
/-- y is given on the way of blocks -/
def farG (sg : Str) (R : List (List Way)) : Nat → List (Str × Nat) → Str → Prop
  | _, [], _ => False
  | s, b :: r, y => giv (stN sg R b.1.cps.toList) (kyN sg R b.1.cps.toList) s b.2 y ∨ farG sg R (goN (stN sg R b.1.cps.toList) s b.2) r y
theorem farS_append (sg : Str) (R : List (List Way)) : ∀ (a b : List (Str × Nat)) (s : Nat), farS sg R s (a ++ b) = farS sg R (farS sg R s a) b
  | [], _, _ => rfl
  | _ :: r, b, _ => farS_append sg R r b _
theorem farG_append (sg : Str) (R : List (List Way)) (y : Str) : ∀ (a b : List (Str × Nat)) (s : Nat), farG sg R s (a ++ b) y ↔ farG sg R s a y ∨ farG sg R (farS sg R s a) b y
  | [], _, _ => ⟨.inr, fun h => h.elim (fun z => z.elim) id⟩
  | x :: r, b, s => by
    show _ ∨ farG sg R _ (r ++ b) y ↔ _
    rw [farG_append sg R y r b]
    exact or_assoc.symm
theorem farS_snoc (sg : Str) (R : List (List Way)) (a : List (Str × Nat)) (b : Str × Nat) (s : Nat) : farS sg R s (a ++ [b]) = goN (stN sg R b.1.cps.toList) (farS sg R s a) b.2 := farS_append sg R a [b] s
theorem farG_snoc (sg : Str) (R : List (List Way)) (a : List (Str × Nat)) (b : Str × Nat) (s : Nat) (y : Str) : farG sg R s (a ++ [b]) y ↔ farG sg R s a y ∨ giv (stN sg R b.1.cps.toList) (kyN sg R b.1.cps.toList) (farS sg R s a) b.2 y := by
  rw [farG_append]
  show _ ∨ (_ ∨ False) ↔ _
  simp
/-- what blocks are told to have -/
def FarK (sg : Str) (R : List (List Way)) (Es : List (List Str)) (bs : List (Str × Nat)) (ks : List Str) : Prop := ∃ l, ks = kl l ∧ ∀ y, y ∈ l ↔ farG sg R 0 bs y ∨ y ∈ Es.getD (farS sg R 0 bs) []
theorem FarK.one {sg : Str} {R : List (List Way)} {Es : List (List Str)} {bs : List (Str × Nat)} {k1 k2 : List Str} (h1 : FarK sg R Es bs k1) (h2 : FarK sg R Es bs k2) : k1 = k2 := by
  obtain ⟨l1, rfl, m1⟩ := h1
  obtain ⟨l2, rfl, m2⟩ := h2
  exact kl_congr fun y => (m1 y).trans (m2 y).symm
/-- blocks cut in two -/
def cutB (d : Nat) : List (Str × Nat) → List (Str × Nat)
  | [] => []
  | b :: r => (b.1, d % (b.2 + 1)) :: (b.1, b.2 - d % (b.2 + 1)) :: cutB d r
theorem cut_far (sg : Str) (R : List (List Way)) (d : Nat) : ∀ (bs : List (Str × Nat)) (s : Nat), farS sg R s (cutB d bs) = farS sg R s bs ∧ ∀ y, farG sg R s (cutB d bs) y ↔ farG sg R s bs y
  | [], _ => ⟨rfl, fun _ => Iff.rfl⟩
  | b :: r, s => by
    have lt := Nat.mod_lt d (show 0 < b.2 + 1 by omega)
    have e : d % (b.2 + 1) + (b.2 - d % (b.2 + 1)) = b.2 := by omega
    have e1 : goN (stN sg R b.1.cps.toList) (goN (stN sg R b.1.cps.toList) s (d % (b.2 + 1))) (b.2 - d % (b.2 + 1)) = goN (stN sg R b.1.cps.toList) s b.2 := by rw [← goN_add, e]
    obtain ⟨h1, h2⟩ := cut_far sg R d r (goN (stN sg R b.1.cps.toList) s b.2)
    constructor
    · show farS sg R (goN (stN sg R b.1.cps.toList) (goN (stN sg R b.1.cps.toList) s (d % (b.2 + 1))) (b.2 - d % (b.2 + 1))) (cutB d r) = _
      rw [e1]
      exact h1
    · intro y
      show _ ∨ _ ∨ farG sg R (goN (stN sg R b.1.cps.toList) (goN (stN sg R b.1.cps.toList) s (d % (b.2 + 1))) (b.2 - d % (b.2 + 1))) (cutB d r) y ↔ _
      rw [e1, h2, ← or_assoc, ← giv_add, e]
      exact Iff.rfl
/-- the text that blocks tell -/
def flatB (bs : List (Str × Nat)) : List Nat := (bs.map fun b => (List.replicate b.2 b.1.cps.toList).flatten).flatten
theorem flat_far (sg : Str) (R : List (List Way)) : ∀ (bs : List (Str × Nat)) (s : Nat), (runW sg R s (flatB bs)).1 = farS sg R s bs ∧ ∀ y, y ∈ (runW sg R s (flatB bs)).2 ↔ farG sg R s bs y
  | [], s => ⟨rfl, fun y => ⟨fun z => absurd z List.not_mem_nil, fun z => z.elim⟩⟩
  | b :: r, s => by
    obtain ⟨h1, h2⟩ := run_rep sg R b.1.cps.toList s b.2
    have e : flatB (b :: r) = (List.replicate b.2 b.1.cps.toList).flatten ++ flatB r := rfl
    obtain ⟨h3, h4⟩ := flat_far sg R r (goN (stN sg R b.1.cps.toList) s b.2)
    rw [e, runW_append, h1]
    refine ⟨h3, fun y => ?_⟩
    rw [List.mem_append, h2, h4]
    exact Iff.rfl
theorem FarK.text {sg : Str} {R : List (List Way)} {Es : List (List Str)} {bs : List (Str × Nat)} {k1 : List Str} (h1 : FarK sg R Es bs k1) : k1 = keysW sg R Es (flatB bs) := by
  obtain ⟨l1, rfl, m1⟩ := h1
  unfold keysW
  obtain ⟨e1, e2⟩ := flat_far sg R bs 0
  refine kl_congr fun y => ?_
  rw [List.mem_append, e2, e1, m1]
theorem FarK.cut {sg : Str} {R : List (List Way)} {Es : List (List Str)} {bs : List (Str × Nat)} {k1 : List Str} {d : Nat} (h1 : FarK sg R Es (cutB d bs) k1) : FarK sg R Es bs k1 := by
  obtain ⟨l1, rfl, m1⟩ := h1
  obtain ⟨e1, e2⟩ := cut_far sg R d bs 0
  refine ⟨l1, rfl, fun y => ?_⟩
  rw [m1, e1, e2]
end Kx

namespace Own
open PySem PySem.Spec L2 PyProof.Rows
/-! ### a text so many times -/
def repS (a : Str) (n : Nat) : Str := ⟨((List.replicate n a.cps.toList).flatten).toArray⟩
theorem foldl_cat (x : Array Nat) : ∀ (m : Nat) (a : Array Nat), (List.replicate m x).foldl (· ++ ·) a = a ++ ((List.replicate m x.toList).flatten).toArray
  | 0, a => by simp
  | m + 1, a => by
    rw [List.replicate_succ, List.foldl_cons, foldl_cat x m, List.replicate_succ, List.flatten_cons]
    apply Array.toList_inj.mp
    simp
theorem mul_rep (x : Str) (n : Nat) : Txt.mul x n = repS x n := by
  unfold Txt.mul repS
  by_cases h0 : (n : Int) < 1
  · have : n = 0 := by omega
    subst this
    rw [if_pos h0]
    rfl
  · rw [if_neg h0]
    by_cases h1 : ((n : Int) == 1 || x.length == 0) = true
    · rw [if_pos h1]
      rcases Bool.or_eq_true_iff.mp h1 with h | h
      · have : n = 1 := by have := eq_of_beq h; omega
        subst this
        obtain ⟨c⟩ := x
        simp
      · have e : x.cps = #[] := Array.size_eq_zero_iff.mp (eq_of_beq h)
        obtain ⟨c⟩ := x
        subst e
        simp
    · rw [if_neg h1, Int.toNat_natCast, foldl_cat]
      simp
def rRepS : R2 := fun x y H Q => ∃ (a : Str) (n : Nat), x = .str a ∧ y = .int n ∧ a.cps.size * n ≤ 1000 ∧ n < 2 ^ 62 ∧ Q (.str (repS a n)) H
theorem op_repS {X : Cx} : OpR X (binaryOp .Mult) rRepS := by
  intro pins s σ H x y v u Q I rx ry h
  obtain ⟨a, n, rfl, rfl, hz, hn, q⟩ := h
  obtain ⟨t, rfl⟩ := rx
  obtain ⟨t', rfl⟩ := ry
  refine SB.mul ⟨?_, fun h1 h2 => ?_, fun h1 h2 => ?_⟩ fun t' k => ?_
  · rw [decide_eq_false (by omega), decide_eq_false (by omega)]; rfl
  · intro g
    have hl : a.length * n ≤ 1000 := hz
    have n1 : 1 ≤ (n : Int) := by omega
    have : (2 ^ 63 - 1 : Int) / n ≥ a.length := by
      refine (Int.le_ediv_iff_mul_le (by omega)).mpr ?_
      have : ((a.length * n : Nat) : Int) ≤ 1000 := by omega
      rw [Int.natCast_mul] at this
      omega
    omega
  · have hl : a.length * n ≤ 1000 := hz
    rw [Int.toNat_natCast]
    unfold Builtin.Str.tooLong
    simp only [decide_eq_false_iff_not]
    rw [sizeLine_eq]
    omega
  · rw [mul_rep]
    exact ⟨.str (repS a n), H, I.tok _, ⟨_, rfl⟩, q⟩
/-! ### xs.extend(t), t a tuple -/
theorem ext_tup (l : Addr) (items : Array Value) (n : Nat) (b : Addr) (o : Obj) (items2 : Array Value) (n2 : Nat) (ho : o.cls = .type "tuple") (hd : o.data = .seq items2 n2) (hs0 : ¬(!items.isEmpty && Builtin.List.listTooLong (items.size + items2.size)) = true) (hs1 : items.size ≤ sizeLine) (hs2 : items.size + items2.size ≤ sizeLine) :
    Meets (Builtin.«list.extend» ⟨[.ref l, .ref b], []⟩) (fun _ R s => s.heap.get? l = some { cls := .type "list", dict := none, data := .seq items n, slots := #[] } ∧ s.heap.get? b = some o ∧ R (.ok (.ret Value.none)) { s with heap := s.heap.update l (Obj.mapSeq fun x => x ++ items2) }) :=
  .of_wp fun prog w A R s h => by
    obtain ⟨hp, g, d, tk, os⟩ := s
    obtain ⟨hl, hb, h⟩ := h
    obtain ⟨cls, dict, data, slots⟩ := o
    cases ho
    cases hd
    have f1 := AutoSeq1.idx_int; have f3 := AutoSeq1.sub_list_list; have f4 := AutoSeq1.sub_tuple_list
    have hz' : (items ++ items2).size ≤ sizeLine + 1 := by rw [Array.size_append]; omega
    wp_walk using (wpAny_updateSeq hl rfl (hz := hs1) (_hz' := hz')), AutoSeq1.wpAny_loadPart' hl, AutoSeq1.wpAny_loadPart' hb
    exact ⟨_, rfl, h⟩
def rExtT (K : PySem.W.Frag) : V → List V → Hp → VK → Prop := fun x vs H Q => ∃ l b xs zs, x = .ref l ∧ vs = [.ref b] ∧ H l = some (.lst xs) ∧ SqT K H b zs ∧ xs.length + zs.length ≤ sizeLine ∧ Q .non (upd H l (.lst (xs ++ zs)))
theorem mt_extT {X : Cx} : MtR X "list.extend" (rExtT X.K) := by
  intro pins s σ H x vs v us Q I rx rv h
  obtain ⟨l, b, xs, zs, rfl, rfl, hH, hB, hz, q⟩ := h
  cases rx
  obtain ⟨u, rfl, ru⟩ := rv.one
  cases ru
  obtain ⟨z, its, n, r, hl, e⟩ := I.lstM hH
  obtain ⟨its2, r2, ⟨o, ho, hc, n2, hd⟩, hl2⟩ := I.tuple hB
  have e2 := r2.length
  have hsz : its.toArray.size + its2.toArray.size ≤ sizeLine := by rw [List.size_toArray, List.size_toArray]; omega
  have hlong : ¬ (!its.toArray.isEmpty && Builtin.List.listTooLong (its.toArray.size + its2.toArray.size)) = true := by
    rw [notLongL hsz, Bool.and_false]
    exact Bool.false_ne_true
  refine call_meets F.slot_list_extend ⟨_, e, rfl⟩ F.entry_list_extend (F.args_list_extend_2 _ _)
    (ext_tup l its.toArray n b o its2.toArray n2 hc hd hlong (by rw [List.size_toArray]; omega) hsz) ⟨e, ho, ?_⟩
  refine ⟨.non, _, I.lset (its' := its ++ its2) hH e (by simp) (r.append r2) ?_, rfl, q⟩
  rw [List.length_append]
  omega
end Own
namespace Own
open PySem PySem.Spec L2 PyProof.Rows
/-! ### for x in xs, xs a list or a tuple that stands in the heap -/
def iSeq (tl : TE) : TI := fun σ H R => tl σ H fun x H1 => ∃ a xs, x = .ref a ∧ (H1 a = some (.lst xs) ∨ H1 a = some (.tup xs)) ∧ ∀ (J : It) (G : Hp → Prop), L2.Walk J xs.length G (YAt xs) → (∀ H2, H2 a = H1 a → G H2) → R J H1
theorem pi_seq {X : Cx} {tg l : Expr} {tl : TE} (hl : PE X l tl) : PI X tg l (iSeq tl) := by
  refine ⟨fun pins s σ H R I h => ?_⟩
  refine thn (hl.run pins s σ H _ I h) fun v s1 ⟨x, H1, I1, r1, a, xs, e, hq, q⟩ => ?_
  subst e
  cases r1
  have last : ∀ {o : Obj}, ∀ b ∈ [s1.heap.objs.size], ((b = s1.heap.objs.size)) := fun b hb => by simpa using hb
  rcases hq with hq | hq
  · obtain ⟨its, rv, p, hz⟩ := I1.list (SqL.of hq)
    refine wpAny_pyIter_list p.isList ⟨s1.heap.objs.size, [s1.heap.objs.size], _, _, H1, rfl, I1.kept (t' := s1.toks) fun b o e => Heap.get?_push_of_some _ e, turn_list a _, ⟨_, Heap.get?_push_size _ rfl, rfl, rfl⟩, fun b hb => ?_, q _ _ walk_list fun H2 e => SqL.of (e.trans hq)⟩
    cases last (o := { cls := .type "list", data := .seq #[] 0 }) b hb
    exact I1.fpOk (Nat.le_refl _) (I1.hok.fresh (Nat.le_refl _))
  · obtain ⟨its, rv, p, hz⟩ := I1.tuple (SqT.of hq)
    refine wpAny_pyIter_tuple p ⟨s1.heap.objs.size, [s1.heap.objs.size], _, _, H1, rfl, I1.kept (t' := s1.toks) fun b o e => Heap.get?_push_of_some _ e, turn_tuple a _, ⟨_, Heap.get?_push_size _ rfl, rfl, rfl⟩, fun b hb => ?_, q _ _ walk_tup fun H2 e => SqT.of (e.trans hq)⟩
    cases last (o := { cls := .type "list", data := .seq #[] 0 }) b hb
    exact I1.fpOk (Nat.le_refl _) (I1.hok.fresh (Nat.le_refl _))
end Own

namespace Kx
open PySem L2 Own
abbrev s_Machine_far_keys : Stmt := inClass (top 28) 7
abbrev s_Machine_walk_often : Stmt := inClass (top 28) 8
structure OAd where
  fo : Addr
  ff : Addr
  dO : FuncData
  df : FuncData
structure TxtO (K : PySem.W.Frag) (mg : Str → Option Value) (Z : CAd) (O : OAd) : Prop where
  M_walk_often : Meth K Z.C "walk_often" O.fo
  F_walk_often : Fun K "walk_often" "Machine.walk_often" s_Machine_walk_often O.fo O.dO
  b_walk_often : Binds K O.dO ["self", "state", "word", "times"] []
  M_far_keys : Meth K Z.C "far_keys" O.ff
  F_far_keys : Fun K "far_keys" "Machine.far_keys" s_Machine_far_keys O.ff O.df
  b_far_keys : Binds K O.df ["self", "blocks"] []
/-- a machine as the law draws them: few states, few keys -/
structure FarOk (R : List (List Way)) : Prop where
  states : R.length ≤ 16
  keys : (kl (keysOfRows R)).length ≤ 12
theorem FarOk.fit {R : List (List Way)} (h : FarOk R) {l : List Str} (hl : ∀ y ∈ l, y ∈ keysOfRows R) : (kl l).length ≤ 12 :=
  Nat.le_trans (nd_sub_len (kl_nodup _) fun x hx => kl_mem.mpr (hl x (kl_mem.mp hx))) h.keys
/-! ### the dict of states that were passed -/
section
variable (f : Nat → Nat) (s : Nat)
def pasK (i : Nat) : List (Key × V) := (List.range i).map fun m => ((Sum.inl (goN f s m : Nat) : Key), V.int m)
theorem pas_len (i : Nat) : (pasK f s i).length = i := by unfold pasK; simp
theorem pas_of (x : Nat) : ∀ l : List Nat, (∃ m v, valV (l.map fun m => ((Sum.inl (goN f s m : Nat) : Key), V.int m)) (Sum.inl (x : Int)) = some v ∧ m ∈ l ∧ goN f s m = x ∧ v = .int m) ∨ valV (l.map fun m => ((Sum.inl (goN f s m : Nat) : Key), V.int m)) (Sum.inl (x : Int)) = none ∧ ∀ m ∈ l, goN f s m ≠ x
  | [] => .inr ⟨rfl, fun _ z => absurd z List.not_mem_nil⟩
  | a :: r => by
    rw [List.map_cons]
    by_cases e : goN f s a = x
    · refine .inl ⟨a, .int a, ?_, List.mem_cons_self, e, rfl⟩
      rw [valV_pos (by rw [e])]
    · rw [valV_neg (fun z => e (Int.ofNat.inj (Sum.inl.inj z)))]
      rcases pas_of x r with ⟨m, v, h1, h2, h3⟩ | ⟨h1, h2⟩
      · exact .inl ⟨m, v, h1, List.mem_cons_of_mem _ h2, h3⟩
      · refine .inr ⟨h1, fun m hm => ?_⟩
        rcases List.mem_cons.mp hm with rfl | hm
        · exact e
        · exact h2 m hm
theorem pas_at (i x : Nat) : (∃ m, m < i ∧ goN f s m = x ∧ valV (pasK f s i) (Sum.inl (x : Int)) = some (.int m)) ∨ valV (pasK f s i) (Sum.inl (x : Int)) = none ∧ ∀ m, m < i → goN f s m ≠ x := by
  rcases pas_of f s x (List.range i) with ⟨m, v, h1, h2, h3, rfl⟩ | ⟨h1, h2⟩
  · exact .inl ⟨m, List.mem_range.mp h2, h3, h1⟩
  · exact .inr ⟨h1, fun m hm => h2 m (List.mem_range.mpr hm)⟩
theorem pas_put {i : Nat} (h : valV (pasK f s i) (Sum.inl (goN f s i : Nat)) = none) : putK (pasK f s i) (Sum.inl (goN f s i : Nat)) (.int i) = pasK f s (i + 1) := by
  unfold putK
  rw [valV_any, h, if_neg (show ¬ (none : Option V).isSome = true by simp)]
  unfold pasK
  rw [List.range_succ, List.map_append]
  rfl
theorem pas_few {n i : Nat} (hb : ∀ m, goN f s m < n) (hd : ∀ a b, a < b → b < i → goN f s a ≠ goN f s b) : i ≤ n := by
  have nd : ((List.range i).map (goN f s)).Nodup := by
    refine List.pairwise_iff_getElem.mpr fun a b ha hb' lt => ?_
    rw [List.getElem_map, List.getElem_map, List.getElem_range, List.getElem_range]
    rw [List.length_map, List.length_range] at hb'
    exact hd a b lt hb'
  have := nd_sub_len nd (m := List.range n) fun x hx => by
    obtain ⟨m, _, rfl⟩ := List.mem_map.mp hx
    exact List.mem_range.mpr (hb m)
  rw [List.length_map, List.length_range, List.length_range] at this
  exact this
theorem pas_keys (i : Nat) : (pasK f s i).map (fun kv => kV kv.1) = (List.range i).map fun m => V.int (goN f s m : Nat) := by
  unfold pasK
  rw [List.map_map]
  rfl
end
theorem mach_same {C : Addr} {H H' : Hp} {m : Addr} {sg : Str} {R : List (List Way)} {Es : List (List Str)} (s : Same H H') (h : MachAt C H m sg R Es) : MachAt C H' m sg R Es := by
  obtain ⟨dx, r, e, k, w, rv, ev, wv, h1, h2, h3, h4, h5, h6, h7, h8⟩ := h
  exact ⟨dx, r, e, k, w, rv, ev, wv, s _ _ h1, s _ _ h2, L2.Paired.mapP h3 fun _ _ z => z.keep (tups s), s _ _ h4, L2.Paired.mapP h5 fun _ _ ⟨a, ea, ha⟩ => ⟨a, ea, s _ _ ha⟩, s _ _ h6, s _ _ h7, L2.Paired.mapP h8 fun _ _ z => z.keep (tups s) fun b xs z => s b _ z⟩
section
variable {P : Program} {w : World} {K : PySem.W.Frag} {mg : Str → Option Value} {base : Heap} {A : EAd} {B : MAd} {Z : CAd} {S : SAd} {O : OAd}
/-- self.walk_often(state, word, times) -/
def spOften (Z : CAd) : Sp := fun vs H Q _ => ∃ (m : Addr) (st n : Nat) (y sg : Str) (R : List (List Way)) (Es : List (List Str)), vs = [.ref m, .int st, .str y, .int n] ∧ MachAt Z.C H m sg R Es ∧ Full sg R Es ∧ FarOk R ∧ st < R.length ∧
  (∀ c ∈ y.cps.toList, c ∈ sg.cps.toList) ∧ ∀ (p k : Addr) (l : List Str) H', Same H H' → H' p = some (.tup [.int (goN (stN sg R y.cps.toList) st n : Nat), .ref k]) → H' k = some (.tup ((kl l).map V.str)) →
    (∀ z, z ∈ l ↔ giv (stN sg R y.cps.toList) (kyN sg R y.cps.toList) st n z) → Q (.ref p) H'
theorem sc_often : FnScope ["self", "state", "word", "times", "passed", "got", "given", "first", "ring"] ["self", "state", "word", "times"] (defScope s_Machine_walk_often) := ⟨rfl, rfl, rfl, by decide +kernel, rfl, by decide +kernel, by decide +kernel⟩
theorem ok_often (T : TxtM K mg B) (TE : TxtE K mg A) (TC : TxtC K mg Z) (TS : TxtS K mg A Z S) (TO : TxtO K mg Z O) : FnOk P w K mg base (L2.CX P w) 5 O.fo O.dO ["self", "state", "word", "times"] (spOften Z) := by
  have sc := sc_often
  have G_walk : FnOk P w K mg base (L2.CX P w) 4 S.fw S.dw ["self", "state", "text"] (spWalk Z S) := ok_walk T TE TC TS
  have G_key_list : FnOk P w K mg base CX0 1 B.f2 B.d2 ["given"] (spKl K) := ok_key_list T
  refine TO.F_walk_often.okX sc (fun vs H Q E h => ?_) (fun cdv A1 outer s H vs Q E hr h => ?_)
  · obtain ⟨_, _, _, _, _, _, _, rfl, _⟩ := h; rfl
  · obtain ⟨m, st, n, y, sg, R, Es, rfl, hm, F, FO, hst, inn, k⟩ := h
    have hu := hu_of hr
    refine ⟨_, (pss_cons (ps_set (i := 4) sc.nd rfl (Or.inl rfl) pe_dnewK)
      (pss_cons (ps_set (i := 5) sc.nd rfl (Or.inl rfl) (pe_lst pa_nil))
      (pss_cons (ps_while (passes_of rfl) (PW.pt (pw_and (pt_cmpR op_lt (pe_callB call_lenD (by rfl) T.n_len (by decide +kernel) (pa_cons (pv 4) pa_nil)) (pv 3) (nomark _)) (pw_and1 (pt_cmp (pc_dnotin hu (pv 1) (pv 4))))))
        (pss_cons (ps_dput hu (pv 4) (pv 1) (pe_callB call_lenD (by rfl) T.n_len (by decide +kernel) (pa_cons (pv 4) pa_nil)) rfl)
        (pss_cons (ps_asg (pe_meth (pv 0) TC.cl TS.M_walk G_walk (hr.mono (by decide)) TS.b_walk .nil (passes_call (takes_of rfl rfl rfl rfl) fun _ _ _ _ h => h) (pa_cons (pv 1) (pa_cons (pv 2) pa_nil))) (pg_tup rfl (pgs_cons (pg_name (i := 1) sc.nd rfl (Or.inl rfl)) (pgs_cons (pg_name (i := 6) sc.nd rfl (Or.inl rfl)) pgs_nil))))
        (pss_one (ps_expr (pe_bm PySem.F.plainAttrs_list PySem.F.slot_list_extend PySem.F.type_list_extend mt_extT (pv 5) (pa_cons (pv 6) pa_nil)))))))
      (pss_cons (ps_if (pt_cmpR op_lt (pe_callB call_lenD (by rfl) T.n_len (by decide +kernel) (pa_cons (pv 4) pa_nil)) (pv 3) (nomark _))
        (pss_cons (ps_set (i := 7) sc.nd rfl (Or.inl rfl) (pe_dget hu (pv 4) (pv 1) (fun _ _ => rfl)))
        (pss_cons (ps_set (i := 8) sc.nd rfl (Or.inl rfl) (pe_op op_sub (pe_callB call_lenD (by rfl) T.n_len (by decide +kernel) (pa_cons (pv 4) pa_nil)) (pv 7)))
        (pss_one (ps_set (i := 1) sc.nd rfl (Or.inl rfl) (pe_ix ix_list (pe_callTy (call_list_dK rfl) (by rfl) TE.n_list (by decide +kernel) (pa_cons (pv 4) pa_nil)) (pe_op op_add (pv 7) (pe_op op_modN (pe_op op_sub (pv 3) (pv 7)) (pv 8))) (fun _ _ => rfl))))))
        pss_nil)
      (pss_one (ps_ret (pe_tup (pa_cons (pv 1) (pa_cons (pe_call G_key_list (hr.mono (by decide)) rfl T.D_key_list.g T.D_key_list.F.kp T.D_key_list.b .nil pass0 (pa_cons (pv 5) pa_nil)) pa_nil))))))))), ?_⟩
    intro D hD
    refine ⟨by decide, fun g hg => ?_⟩
    obtain ⟨dx, r, e, ka, w5, rv, ev, wv, hm0, _⟩ := id hm
    have gD : g ≠ D := fun z => by rw [z, upd_same] at hg; cases hg
    have hgH : H g = none := by rw [upd_ne gD] at hg; exact hg
    have bnd : ∀ m, goN (stN sg R y.cps.toList) st m < R.length := fun m => by
      induction m with
      | zero => exact hst
      | succ m ih => exact (F.run ih y.cps.toList).1
    have put : ∀ {H' : Hp} {o : HO}, Same H H' → Same H (upd H' D o) := fun {H' o} s1 b u z => by rw [upd_ne (ne_of_none z hD)]; exact s1 b u z
    have putg : ∀ {H' : Hp} {o : HO}, Same H H' → Same H (upd H' g o) := fun {H' o} s1 b u z => by rw [upd_ne (ne_of_none z hgH)]; exact s1 b u z
    generalize hf : stN sg R y.cps.toList = f at bnd k
    generalize hk : kyN sg R y.cps.toList = ky at k
    refine ⟨fun q σ H' => ∃ (i : Nat) (x6 : Option V) (l : List Str), i + q = R.length ∧ i ≤ n ∧ σ = [some (.ref m), some (.int (goN f st i : Nat)), some (.str y), some (.int n), some (.ref D), some (.ref g), x6, none, none] ∧ Same H H' ∧ H' D = some (.dK (pasK f st i)) ∧ H' g = some (.lst (l.map V.str)) ∧ (∀ z, z ∈ l ↔ giv f ky st i z) ∧ l.length ≤ 12 * i ∧ ∀ a b, a < b → b < i → goN f st a ≠ goN f st b, ?_, ?_⟩
    · refine ⟨R.length, 0, _, [], Nat.zero_add _, Nat.zero_le _, rfl, Same.trans (Same.upd hD) (Same.upd hg), by rw [upd_ne gD.symm]; exact upd_same, upd_same, fun z => ⟨fun q => absurd q List.not_mem_nil, fun q => absurd q (giv_zero _ _ _ _)⟩, Nat.le_refl _, fun a b _ q => absurd q (Nat.not_lt_zero _)⟩
    rintro q σ H1 ⟨i, x6, l, eq, hin, rfl, s1, hd1, hg1, mem, ll, dis⟩
    have lp := pas_len f st i
    have few := pas_few f st bnd dis
    have ln : ∀ {z : Nat}, z ≤ 16 → z < sizeLine := fun h => by rw [sizeLine_eq]; omega
    refine ⟨_, rfl, D, _, rfl, hd1, ?_⟩
    rw [lp]
    refine ⟨_, rfl, _, _, rfl, rfl, _, rfl, ?_⟩
    have low : ∀ z ∈ l, z ∈ keysOfRows R := fun z hz => by
      obtain ⟨a, _, ha⟩ := (mem z).mp hz
      rw [← hk] at ha
      exact (F.run (bnd a) y.cps.toList).2 z ha
    have g16 := FO.states
    by_cases c : i < n
    · rw [decide_eq_true (by omega : (i : Int) < n)]
      refine iteT ?_
      refine ⟨_, rfl, _, rfl, D, _, rfl, DGet.k (k := Sum.inl (goN f st i : Nat)) hd1, ?_⟩
      rcases pas_at f st i (goN f st i) with ⟨a, ha, ea, hv⟩ | ⟨hv, new⟩
      · have dg : DGet H1 D (.int (goN f st i : Nat)) (some (.int a)) := by
          have z := DGet.k (k := Sum.inl (goN f st i : Nat)) hd1
          rw [hv] at z
          exact z
        rw [hv]
        refine ⟨_, rfl, ?_⟩
        refine ⟨_, rfl, D, _, rfl, hd1, ?_⟩
        rw [lp]
        refine ⟨_, rfl, _, _, rfl, rfl, _, rfl, ?_⟩
        rw [decide_eq_true (by omega : (i : Int) < n)]
        refine iteT ?_
        refine ⟨_, rfl, _, rfl, D, _, rfl, dg, ?_⟩
        refine ⟨_, rfl, D, _, rfl, hd1, ?_⟩
        rw [lp]
        refine ⟨_, rfl, _, _, rfl, rfl, ?_⟩
        refine ⟨_, rfl, D, _, rfl, hd1, fun q hq => ?_⟩
        rw [pas_keys]
        have hi := ring f ea.symm ha n (by omega)
        have lt := Nat.mod_lt (n - a) (show 0 < i - a by omega)
        have hx : ((List.range i).map fun m => V.int (goN f st m : Nat))[a + (n - a) % (i - a)]? = some (.int (goN f st n : Nat)) := by
          rw [List.getElem?_map, List.getElem?_range (by omega), hi]
          rfl
        have en : ((a : Int) + ((n : Int) - a).fmod ((i : Int) - a)) = ((a + (n - a) % (i - a) : Nat) : Int) := by
          have e1 : (n : Int) - a = ((n - a : Nat) : Int) := by omega
          have e2 : (i : Int) - a = ((i - a : Nat) : Int) := by omega
          rw [e1, e2, Int.fmod_eq_emod_of_nonneg _ (Int.natCast_nonneg _), ← Int.natCast_emod, ← Int.natCast_add]
        refine ⟨_, rfl, _, rfl, _, rfl, _, _, rfl, rfl, _, rfl, _, _, rfl, rfl, by omega, _, _, rfl, rfl, ?_⟩
        refine ⟨q, _, _, _, rfl, rfl, SqL.of upd_same, by rw [en]; exact atI_nat hx, ?_⟩
        refine ⟨_, rfl, _, rfl, .ref g, l, rfl, .list (SqL.of (Same.upd hq _ _ hg1)), by have e : scanBound = 4096 := rfl; have := FO.states; omega, fun p2 H3 hp2 s3 h3 => ?_⟩
        refine ⟨by show 2 ≤ sizeLine; decide, fun t ht => ?_⟩
        refine k t p2 l _ (fun b o z => Same.upd ht _ _ (s3 _ _ (Same.upd hq _ _ (s1 _ _ z)))) upd_same (Same.upd ht _ _ h3) ?_
        intro z
        rw [mem, ring_giv f ky ea.symm ha n (by omega)]
      · have dis' : ∀ a b, a < b → b < i + 1 → goN f st a ≠ goN f st b := fun a b ab bi => by
          by_cases e : b < i
          · exact dis a b ab e
          · have e : b = i := by omega
            subst e
            exact new a ab
        have few' := pas_few f st bnd dis'
        rw [hv]
        refine ⟨_, rfl, ?_⟩
        refine ⟨fun σ H' => ∃ (x6 : Option V) (l : List Str), σ = [some (.ref m), some (.int (goN f st (i + 1) : Nat)), some (.str y), some (.int n), some (.ref D), some (.ref g), x6, none, none] ∧ Same H H' ∧ H' D = some (.dK (pasK f st (i + 1))) ∧ H' g = some (.lst (l.map V.str)) ∧ (∀ z, z ∈ l ↔ giv f ky st (i + 1) z) ∧ l.length ≤ 12 * (i + 1),
          fun σ' H' ⟨x6, l, z1, z2, z3, z4, z5, z6⟩ => ⟨q - 1, by omega, i + 1, x6, l, by omega, by omega, z1, z2, z3, z4, z5, z6, dis'⟩, ?_⟩
        refine ⟨_, rfl, D, _, rfl, hd1, _, rfl, _, rfl, D, _, rfl, DPut.k (k := Sum.inl (goN f st i : Nat)) hd1 (by rw [lp]; exact ln (by omega)), ?_⟩
        rw [lp, pas_put f st hv]
        have s2 := put (o := .dK (pasK f st (i + 1))) s1
        have hd2 : (upd H1 D (.dK (pasK f st (i + 1)))) D = some (.dK (pasK f st (i + 1))) := upd_same
        have hg2 : (upd H1 D (.dK (pasK f st (i + 1)))) g = some (.lst (l.map V.str)) := by rw [upd_ne gD]; exact hg1
        generalize upd H1 D (.dK (pasK f st (i + 1))) = H2 at s2 hd2 hg2 ⊢
        refine ⟨_, rfl, m, dx, _, rfl, s2 _ _ hm0, rfl, _, rfl, _, rfl, m, goN f st i, y, sg, R, Es, rfl, mach_same s2 hm, F, bnd i, fun _ p k2 H3 s3 h1 h2 => ?_, fun i' c' d' H' hc' nc _ _ _ _ => absurd (inn c' (List.mem_of_getElem? (by rw [Array.getElem?_toList]; exact hc'))) nc⟩
        have e1 : (runW sg R (goN f st i) y.cps.toList).1 = goN f st (i + 1) := congrFun hf _
        have e2 : (runW sg R (goN f st i) y.cps.toList).2 = ky (goN f st i) := congrFun hk _
        have e3 := FO.fit (F.run (bnd i) y.cps.toList).2
        rw [e2] at h2 e3
        rw [e1] at h1
        refine ⟨p, _, rfl, SqT.of h1, rfl, _, _, rfl, _, _, rfl, rfl, ?_⟩
        refine ⟨_, rfl, .inl ⟨rfl, _, SqL.of (s3 _ _ hg2)⟩, _, rfl, g, k2, _, _, rfl, rfl, s3 _ _ hg2, SqT.of h2, ?_, ?_⟩
        · rw [List.length_map, List.length_map, sizeLine_eq]
          omega
        · refine ⟨_, l ++ kl (ky (goN f st i)), rfl, putg (fun b o z => s3 _ _ (s2 _ _ z)), ?_, ?_, fun z => ?_, ?_⟩
          · rw [upd_ne gD.symm]
            exact s3 _ _ hd2
          · rw [upd_same, List.map_append]
          · rw [List.mem_append, kl_mem, giv_succ, mem]
          · rw [List.length_append]
            omega
    · rw [decide_eq_false (by omega : ¬ (i : Int) < n)]
      refine iteF ?_
      · refine ⟨_, rfl, D, _, rfl, hd1, ?_⟩
        rw [lp]
        refine ⟨_, rfl, _, _, rfl, rfl, _, rfl, ?_⟩
        rw [decide_eq_false (by omega : ¬ (i : Int) < n)]
        refine iteF ?_
        have e : i = n := by omega
        subst e
        refine ⟨_, rfl, _, rfl, .ref g, l, rfl, .list (SqL.of hg1), by have e : scanBound = 4096 := rfl; have := FO.states; omega, fun p2 H3 hp2 s3 h3 => ?_⟩
        refine ⟨by show 2 ≤ sizeLine; decide, fun t ht => ?_⟩
        refine k t p2 l _ (fun b o z => Same.upd ht _ _ (s3 _ _ (s1 _ _ z))) upd_same (Same.upd ht _ _ h3) ?_
        exact mem
end
end Kx

namespace Kx
open PySem L2 Own
/-- a block, as it stands -/
def BlkE (H : Hp) (v : V) (b : Str × Nat) : Prop := ∃ a, v = .ref a ∧ H a = some (.tup [.str b.1, .int b.2])
theorem BlkE.keep {H H' : Hp} (s : Same H H') {v : V} {b : Str × Nat} (h : BlkE H v b) : BlkE H' v b := by
  obtain ⟨a, e, h⟩ := h
  exact ⟨a, e, s _ _ h⟩
section
variable {P : Program} {w : World} {K : PySem.W.Frag} {mg : Str → Option Value} {base : Heap} {A : EAd} {B : MAd} {Z : CAd} {S : SAd} {O : OAd}
/-- self.far_keys(blocks), a list or a tuple of blocks -/
def spFar (Z : CAd) : Sp := fun vs H Q _ => ∃ (m q : Addr) (bv : List V) (bs : List (Str × Nat)) (sg : Str) (R : List (List Way)) (Es : List (List Str)), vs = [.ref m, .ref q] ∧ MachAt Z.C H m sg R Es ∧ Full sg R Es ∧ FarOk R ∧
  (H q = some (.lst bv) ∨ H q = some (.tup bv)) ∧ Paired (BlkE H) bv bs ∧ (∀ b ∈ bs, ∀ c ∈ b.1.cps.toList, c ∈ sg.cps.toList) ∧ bs.length ≤ 10 ∧ (∀ ks ∈ Es, ks.length ≤ 100) ∧
  ∀ (p : Addr) (ks : List Str) H', Same H H' → H' p = some (.tup (ks.map V.str)) → FarK sg R Es bs ks → Q (.ref p) H'
theorem sc_far : FnScope ["self", "blocks", "state", "got", "word", "times", "given"] ["self", "blocks"] (defScope s_Machine_far_keys) := ⟨rfl, rfl, rfl, by decide +kernel, rfl, by decide +kernel, by decide +kernel⟩
theorem farS_lt {sg : Str} {R : List (List Way)} {Es : List (List Str)} (F : Full sg R Es) : ∀ (bs : List (Str × Nat)) {s : Nat}, s < R.length → farS sg R s bs < R.length
  | [], _, h => h
  | b :: r, s, h => farS_lt F r (by
      generalize b.2 = n
      induction n with
      | zero => exact h
      | succ n ih => exact (F.run ih _).1)
theorem ok_far (T : TxtM K mg B) (TE : TxtE K mg A) (TC : TxtC K mg Z) (TS : TxtS K mg A Z S) (TO : TxtO K mg Z O) : FnOk P w K mg base (L2.CX P w) 6 O.ff O.df ["self", "blocks"] (spFar Z) := by
  have sc := sc_far
  have G_often : FnOk P w K mg base (L2.CX P w) 5 O.fo O.dO ["self", "state", "word", "times"] (spOften Z) := ok_often T TE TC TS TO
  have G_key_list : FnOk P w K mg base CX0 1 B.f2 B.d2 ["given"] (spKl K) := ok_key_list T
  refine TO.F_far_keys.okX sc (fun vs H Q E h => ?_) (fun cdv A1 outer s H vs Q E hr h => ?_)
  · obtain ⟨_, _, _, _, _, _, _, rfl, _⟩ := h; rfl
  · obtain ⟨m, q, bv, bs, sg, R, Es, rfl, hm, F, FO, hq, pb, inn, lb, le, k⟩ := h
    refine ⟨_, (pss_cons (ps_set (i := 2) sc.nd rfl (Or.inl rfl) pe_int)
      (pss_cons (ps_set (i := 3) sc.nd rfl (Or.inl rfl) (pe_lst pa_nil))
      (pss_cons (ps_for (passes_of rfl) rfl (pi_seq (pv 1)) (pg_tup rfl (pgs_cons (pg_name (i := 4) sc.nd rfl (Or.inl rfl)) (pgs_cons (pg_name (i := 5) sc.nd rfl (Or.inl rfl)) pgs_nil)))
        (pss_cons (ps_asg (pe_meth (pv 0) TC.cl TO.M_walk_often G_often (hr.mono (by decide)) TO.b_walk_often .nil (passes_call (takes_of rfl rfl rfl rfl) fun _ _ _ _ h => h) (pa_cons (pv 2) (pa_cons (pv 4) (pa_cons (pv 5) pa_nil)))) (pg_tup rfl (pgs_cons (pg_name (i := 2) sc.nd rfl (Or.inl rfl)) (pgs_cons (pg_name (i := 6) sc.nd rfl (Or.inl rfl)) pgs_nil))))
        (pss_one (ps_expr (pe_bm PySem.F.plainAttrs_list PySem.F.slot_list_extend PySem.F.type_list_extend mt_extT (pv 3) (pa_cons (pv 6) pa_nil))))))
      (pss_one (ps_ret (pe_call G_key_list (hr.mono (by decide)) rfl T.D_key_list.g T.D_key_list.F.kp T.D_key_list.b .nil pass0 (pa_cons (pe_lst (StX.pa_star (pv 3) (StX.pa_star (pe_ix ix_tup (pe_fld (pv 0) rfl) (pv 2) (fun _ _ => rfl)) pa_nil))) pa_nil))))))), ?_⟩
    refine ⟨by decide, fun g hg => ?_⟩
    obtain ⟨dx, r, e, ka, w5, rv, ev, wv, hm0, hr0, pr, he0, pe, _⟩ := id hm
    have putg : ∀ {H' : Hp} {o : HO}, Same H H' → Same H (upd H' g o) := fun {H' o} s1 b u z => by rw [upd_ne (ne_of_none z hg)]; exact s1 b u z
    refine ⟨_, rfl, q, bv, rfl, ?_, fun J G wk hG => ?_⟩
    · exact hq.imp (Same.upd hg _ _) (Same.upd hg _ _)
    have lbv : bv.length = bs.length := Paired.length pb
    have gQ : ∀ {H2 : Hp}, Same H H2 → G H2 := fun {H2} s2 => hG H2 (by
      rcases hq with hq | hq
      · rw [s2 _ _ hq, Same.upd hg _ _ hq]
      · rw [s2 _ _ hq, Same.upd hg _ _ hq])
    refine for_it wk (fun i σ H' => (∃ x4 x5 x6, σ = [some (.ref m), some (.ref q), some (.int (farS sg R 0 (bs.take i) : Nat)), some (.ref g), x4, x5, x6]) ∧ Same H H' ∧ ∃ l : List Str, H' g = some (.lst (l.map V.str)) ∧ (∀ z, z ∈ l ↔ farG sg R 0 (bs.take i) z) ∧ l.length ≤ 12 * i)
      ⟨⟨_, _, _, rfl⟩, Same.upd hg, [], upd_same, fun z => ⟨fun y => absurd y List.not_mem_nil, fun y => y.elim⟩, Nat.zero_le _⟩ (fun i σ H' _ z => gQ z.2.1) ?_ ?_
    · rintro i x σ H1 H1' hi ⟨⟨x4, x5, x6, rfl⟩, s1, l, hl, mem, ll⟩ ⟨rfl, hx⟩
      obtain ⟨b, hb, a, rfl, ha⟩ := pat pb hx
      have take1 : bs.take (i + 1) = bs.take i ++ [b] := by rw [List.take_add_one, hb]; rfl
      have st1 := farS_lt F (bs.take i) F.pos
      refine ⟨a, _, rfl, SqT.of (s1 _ _ ha), rfl, _, _, rfl, _, _, rfl, rfl, ?_⟩
      refine ⟨_, rfl, m, dx, _, rfl, s1 _ _ hm0, rfl, _, rfl, _, rfl, _, rfl, m, _, b.2, b.1, sg, R, Es, rfl, mach_same s1 hm, F, FO, st1, inn b (List.mem_of_getElem? hb), fun p k2 l2 H2 s2 h1 h2 m2 => ?_⟩
      refine ⟨p, _, rfl, SqT.of h1, rfl, _, _, rfl, _, _, rfl, rfl, ?_⟩
      have f2 : (kl l2).length ≤ 12 := FO.fit fun y hy => by
        obtain ⟨a, hlt, ha⟩ := (m2 y).mp hy
        refine (F.run ?_ b.1.cps.toList).2 y ha
        clear ha hlt
        induction a with
        | zero => exact st1
        | succ n ih => exact (F.run ih _).1
      refine ⟨_, rfl, .inl ⟨rfl, _, SqL.of (s2 _ _ hl)⟩, _, rfl, g, k2, _, _, rfl, rfl, s2 _ _ hl, SqT.of h2, ?_, ?_⟩
      · rw [List.length_map, List.length_map, sizeLine_eq]
        omega
      · refine ⟨by rw [take1, farS_snoc]; exact ⟨_, _, _, rfl⟩, putg (fun b o z => s2 _ _ (s1 _ _ z)), l ++ kl l2, by rw [upd_same, List.map_append], fun z => ?_, by rw [List.length_append]; omega⟩
        rw [take1, farG_snoc, List.mem_append, kl_mem, mem, m2]
    · rintro σ H1 ⟨⟨x4, x5, x6, rfl⟩, s1, l, hl, mem, ll⟩
      have eT : bs.take bv.length = bs := List.take_of_length_le (by omega)
      rw [eT] at mem ⊢
      have st1 := farS_lt F bs F.pos
      have ee := F.ends
      have lev : ev.length = Es.length := Paired.length pe
      have hev : ev[farS sg R 0 bs]? = some (ev[farS sg R 0 bs]'(by omega)) := List.getElem?_eq_getElem (by omega)
      obtain ⟨ks, hks, a, eka, ha⟩ := pat pe hev
      rw [eka] at hev
      have ek : Es.getD (farS sg R 0 bs) [] = ks := by rw [List.getD_eq_getElem?_getD, hks]; rfl
      have lk := le ks (List.mem_of_getElem? hks)
      refine ⟨_, rfl, g, _, rfl, .inr (SqL.of hl), ?_⟩
      refine ⟨_, rfl, m, Z.C, dx, _, _, rfl, s1 _ _ hm0, TC.cl, TC.a3, rfl, _, rfl, e, ev, _, _, rfl, rfl, SqT.of (s1 _ _ he0), atI_nat hev, a, _, rfl, .inl (SqT.of (s1 _ _ ha)), ?_⟩
      have eL : l.map V.str ++ (ks.map V.str ++ []) = (l ++ ks).map V.str := by simp
      refine ⟨?_, fun p1 hp1 => ?_⟩
      · show (l.map V.str ++ (ks.map V.str ++ [])).length ≤ sizeLine
        rw [eL, List.length_map, List.length_append, sizeLine_eq]
        omega
      refine ⟨.ref p1, _, rfl, .list (SqL.of (upd_same.trans (congrArg (fun z => some (HO.lst z)) eL))), by rw [List.length_append]; have e : scanBound = 4096 := rfl; omega, fun p2 H3 hp2 s3 h3 => ?_⟩
      exact k p2 _ H3 (fun b o z => s3 _ _ (Same.upd hp1 _ _ (s1 _ _ z))) h3 ⟨_, rfl, fun y => by rw [List.mem_append, mem, ek]⟩
end
end Kx

namespace Kx
open PySem L2 Own
abbrev s__law_signs : Stmt := top 35
abbrev s__law_keys : Stmt := top 36
abbrev s__law_tables : Stmt := top 37
structure LAd where
  f1 : Addr
  f2 : Addr
  f3 : Addr
  d1 : FuncData
  d2 : FuncData
  d3 : FuncData
  p1 : Addr
  p2 : Addr
  p3 : Addr
  q1 : FuncData
  q2 : FuncData
  q3 : FuncData
structure TxtL (K : PySem.W.Frag) (mg : Str → Option Value) (L : LAd) : Prop where
  pen : TxtP K mg L.p1 L.p2 L.p3 L.q1 L.q2 L.q3
  D__law_signs : DefT K mg "_law_signs" "_law_signs" s__law_signs ["pen", "many"] L.f1 L.d1
  D__law_keys : DefT K mg "_law_keys" "_law_keys" s__law_keys ["pen", "words"] L.f2 L.d2
  D__law_tables : DefT K mg "_law_tables" "_law_tables" s__law_tables ["pen", "signs", "most", "words"] L.f3 L.d3
  n_len : mg "len" = none
  n_range : mg "range" = none
  n_set : mg "set" = none
  n_sorted : mg "sorted" = none
section
variable {P : Program} {w : World} {K : PySem.W.Frag} {mg : Str → Option Value} {base : Heap} {L : LAd}
def alpha : List Nat := (List.range 26).map (97 + ·)
def spSigns : Sp := fun vs H Q _ => ∃ (p c : Addr) (many n : Nat), vs = [.ref p, .int many] ∧ PenAt H p c n ∧ n + many ≤ 1000000 ∧ many ≤ 26 ∧
  ∀ (sg : Str) H', sg.cps.size = many → sg.cps.toList.Nodup → (∀ c ∈ sg.cps.toList, c ∈ alpha) → PenAt H' p c (n + many) → SameBut p H H' → Q (.str sg) H'
theorem sc_signs : FnScope ["pen", "many", "left", "found", "turn", "at"] ["pen", "many"] (defScope s__law_signs) := ⟨rfl, rfl, rfl, by decide +kernel, rfl, by decide +kernel, by decide +kernel⟩
theorem ok_signs (T : TxtL K mg L) : FnOk P w K mg base CX0 2 L.f1 L.d1 ["pen", "many"] spSigns := by
  have sc := sc_signs
  have G_draw : FnOk P w K mg base CX0 1 L.p2 L.q2 ["pen", "many"] spDraw := ok_draw T.pen
  refine T.D__law_signs.F.ok sc (fun vs H Q E h => ?_) (fun cdv A1 outer s H vs Q E hr h => ?_)
  · obtain ⟨_, _, _, _, rfl, _⟩ := h; rfl
  · obtain ⟨p, pc, many, n, rfl, hp, hn, h26, k⟩ := h
    refine ⟨_, (pss_cons (ps_asg (pe_tup (pa_cons pe_str (pa_cons pe_str pa_nil))) (pg_tup rfl (pgs_cons (pg_name (i := 2) sc.nd rfl (Or.inl rfl)) (pgs_cons (pg_name (i := 3) sc.nd rfl (Or.inl rfl)) pgs_nil))))
      (pss_cons (ps_for PassesOwn.never rfl (pi_range1 rfl T.n_range (pa_cons (pv 1) pa_nil)) (pg_name (i := 4) sc.nd rfl (Or.inl rfl))
        (pss_cons (ps_set (i := 5) sc.nd rfl (Or.inl rfl) (pe_call G_draw (hr.mono (by decide)) rfl T.pen.D__law_draw.g T.pen.D__law_draw.F.kp T.pen.D__law_draw.b .nil pass0 (pa_cons (pv 0) (pa_cons (pe_callB call_len (by rfl) T.n_len (by decide +kernel) (pa_cons (pv 2) pa_nil)) pa_nil))))
        (pss_one (ps_par (i := 3) (j := 2) rfl sc.nd rfl rfl (by decide) rfl rfl (pa_cons (pe_op op_add_str (pv 3) (pe_ix ix_str (pv 2) (pv 5) (fun _ _ => rfl))) (pa_cons (pe_op op_add_str (pe_slice sl_str (pv 2) po_none (po_some (pv 5))) (pe_slice sl_str (pv 2) (po_some (pe_op op_add (pv 5) pe_int)) po_none)) pa_nil)) rfl))))
      (pss_one (ps_ret (pv 3))))), ?_⟩
    have lt26 : alpha.length = 26 := rfl
    refine ⟨by show 2 ≤ sizeLine; decide, fun t0 ht0 => ⟨t0, _, rfl, SqT.of upd_same, rfl, _, _, rfl, _, _, rfl, rfl, ?_⟩⟩
    have hp0 : PenAt (upd H t0 (.tup [.str "abcdefghijklmnopqrstuvwxyz", .str ""])) p pc n := hp.keep (Same.upd ht0)
    have sb0 : SameBut p H (upd H t0 (.tup [.str "abcdefghijklmnopqrstuvwxyz", .str ""])) := .new ht0
    generalize upd H t0 (.tup [.str "abcdefghijklmnopqrstuvwxyz", .str ""]) = H0 at hp0 sb0 ⊢
    refine ⟨_, rfl, many, rfl, by omega, by omega, ?_⟩
    rw [Int.toNat_natCast]
    refine for_it walk_range (fun i σ H' => ∃ x4 x5, ∃ l f : Str, σ = [some (.ref p), some (.int many), some (.str l), some (.str f), x4, x5] ∧ PenAt H' p pc (n + i) ∧ SameBut p H H' ∧ (f.cps.toList ++ l.cps.toList).Perm alpha ∧ f.cps.size = i)
      ⟨_, _, _, _, rfl, hp0, sb0, by decide +kernel, rfl⟩ (fun _ _ _ _ _ => trivial) ?_ ?_
    · rintro i x σ _ H1 hi ⟨x4, x5, l, f, rfl, hp1, sb1, pm, fz⟩ ⟨rfl, rfl⟩
      have hlen : f.cps.size + l.cps.size = 26 := by
        have e := pm.length_eq
        rw [List.length_append, Array.length_toList, Array.length_toList] at e
        exact e
      have ll : l.length = l.cps.size := rfl
      have fl : f.length = f.cps.size := rfl
      refine ⟨_, rfl, _, rfl, .str l, l.length, rfl, ⟨by rw [sizeLine_eq]; omega, rfl⟩, p, pc, _, n + i, rfl, hp1, by omega, by omega, by omega, fun at1 H2 r0 r1 hp2 sb2 => ?_⟩
      obtain ⟨j, rfl⟩ := Int.eq_ofNat_of_zero_le r0
      have jl : j < l.cps.toList.length := by rw [Array.length_toList]; omega
      have hc : l.cps.toList[j]? = some l.cps.toList[j] := List.getElem?_eq_getElem jl
      generalize l.cps.toList[j] = c at hc
      refine ⟨_, rfl, _, rfl, _, rfl, l, _, c, rfl, rfl, by rw [sizeLine_eq]; omega, atI_nat hc, f, ⟨#[c]⟩, rfl, rfl, ?_, ?_⟩
      · show f.length + 1 ≤ sizeLine
        rw [sizeLine_eq]; omega
      refine ⟨_, rfl, _, rfl, _, rfl, l, rfl, by rw [sizeLine_eq]; omega, ?_⟩
      have e1 : cutS l none (some ((j : Nat) : Int)) = ⟨(l.cps.toList.take j).toArray⟩ := by
        unfold cutS
        rw [HT.sIx_none, HT.sIx_nat]
        have : min j l.length = j := by omega
        rw [this]
        simp
      have e2 : cutS l (some (((j : Nat) : Int) + 1)) none = ⟨(l.cps.toList.drop (j + 1)).toArray⟩ := by
        unfold cutS
        rw [show ((j : Nat) : Int) + 1 = ((j + 1 : Nat) : Int) from rfl, HT.sIx_none, HT.sIx_nat]
        have : min (j + 1) l.length = j + 1 := by omega
        rw [this, List.take_of_length_le]
        rw [List.length_drop, Array.length_toList]
        omega
      refine ⟨_, rfl, _, rfl, _, _, rfl, rfl, _, rfl, l, rfl, by rw [sizeLine_eq]; omega, _, _, rfl, rfl, ?_, _, _, rfl, ?_⟩
      · show (cutS l none (some ((j : Nat) : Int))).length + (cutS l (some (((j : Nat) : Int) + 1)) none).length ≤ sizeLine
        rw [e1, e2]
        show (l.cps.toList.take j).toArray.size + (l.cps.toList.drop (j + 1)).toArray.size ≤ sizeLine
        rw [List.size_toArray, List.size_toArray, List.length_take, List.length_drop, Array.length_toList, sizeLine_eq]
        omega
      · refine ⟨_, _, _, _, rfl, hp2, sb1.trans sb2, ?_, ?_⟩
        · show ((f.cps ++ #[c]).toList ++ ((cutS l none (some ((j : Nat) : Int))).cps ++ (cutS l (some (((j : Nat) : Int) + 1)) none).cps).toList).Perm alpha
          rw [e1, e2]
          refine List.Perm.trans ?_ pm
          have sp : l.cps.toList = l.cps.toList.take j ++ c :: l.cps.toList.drop (j + 1) := by
            have h1 := List.take_append_drop j l.cps.toList
            obtain ⟨hj, ec⟩ := List.getElem?_eq_some_iff.mp hc
            rw [List.drop_eq_getElem_cons hj, ec] at h1
            exact h1.symm
          have lhs : ((f.cps ++ #[c]).toList ++ ((⟨(l.cps.toList.take j).toArray⟩ : Str).cps ++ (⟨(l.cps.toList.drop (j + 1)).toArray⟩ : Str).cps).toList) = f.cps.toList ++ (c :: (l.cps.toList.take j ++ l.cps.toList.drop (j + 1))) := by simp
          rw [lhs]
          refine List.Perm.append_left _ ?_
          refine List.Perm.trans ?_ (List.Perm.of_eq sp.symm)
          exact List.perm_middle.symm
        · show (f.cps ++ #[c]).size = i + 1
          rw [Array.size_append, fz]
          rfl
    · rintro σ H1 ⟨x4, x5, l, f, rfl, hp1, sb1, pm, fz⟩
      refine ⟨_, rfl, k f H1 fz ?_ (fun c hc => pm.mem_iff.mp (List.mem_append_left _ hc)) hp1 sb1⟩
      have nd : (f.cps.toList ++ l.cps.toList).Nodup := pm.nodup_iff.mpr (by decide +kernel)
      exact (List.nodup_append.mp nd).1
end
end Kx

namespace Kx
open PySem L2 Own
section
variable {P : Program} {w : World} {K : PySem.W.Frag} {mg : Str → Option Value} {base : Heap} {L : LAd}
/-- up to two of the words, each once, in their order -/
def spKeys : Sp := fun vs H Q _ => ∃ (p c q : Addr) (n : Nat) (ws : List Str), vs = [.ref p, .ref q] ∧ PenAt H p c n ∧ n + 3 ≤ 1000000 ∧ H q = some (.lst (ws.map V.str)) ∧ 0 < ws.length ∧ ws.length ≤ 1000 ∧
  ∀ (t : Addr) (ks : List Str) (H' : Hp), H t = none → H' t = some (.lst (ks.map V.str)) → (∀ y ∈ ks, y ∈ ws) → ks.length ≤ 2 → kl ks = ks → PenAt H' p c (n + 3) → SameBut p H H' → Q (.ref t) H'
theorem sc_keys : FnScope ["pen", "words", "many", "k"] ["pen", "words"] (defScope s__law_keys) := ⟨rfl, rfl, rfl, by decide +kernel, rfl, by decide +kernel, by decide +kernel⟩
theorem ok_keys (T : TxtL K mg L) : FnOk P w K mg base CX0 3 L.f2 L.d2 ["pen", "words"] spKeys := by
  have sc := sc_keys
  have G_pick : FnOk P w K mg base CX0 2 L.p3 L.q3 ["pen", "items"] spPick := ok_pick T.pen
  refine T.D__law_keys.F.ok sc (fun vs H Q E h => ?_) (fun cdv A1 outer s H vs Q E hr h => ?_)
  · obtain ⟨_, _, _, _, _, rfl, _⟩ := h; rfl
  · obtain ⟨p, c, q, n, ws, rfl, hp, hn, hq, w0, w1, k⟩ := h
    refine ⟨_, (pss_cons (ps_set (i := 2) sc.nd rfl (Or.inl rfl) (pe_call G_pick (hr.mono (by decide)) rfl T.pen.D__law_pick.g T.pen.D__law_pick.F.kp T.pen.D__law_pick.b .nil pass0 (pa_cons (pv 0) (pa_cons (pe_lst (pa_cons pe_int (pa_cons pe_int (pa_cons pe_int (pa_cons pe_int (pa_cons pe_int (pa_cons pe_int pa_nil))))))) pa_nil))))
      (pss_one (ps_ret (pe_callB (cr_sortT rfl) (by rfl) T.n_sorted (by decide +kernel) (pa_cons (pe_callTy (cr_setT rfl) (by rfl) T.n_set (by decide +kernel) (pa_cons
        (pe_lc (own := [("k", 3)]) (g := gName 3) (tt := tYes) rfl sc.nd (pi_range1 rfl T.n_range (pa_cons (pv 2) pa_nil)) (blkOk_by (N := ["pen", "words", "many", "k"]) (sc := defScope s__law_keys) (own := [("k", 3)]) (by decide +kernel)) (fun _ _ _ _ _ => (pg_name (i := 3) sc.nd rfl (Or.inl rfl))) (fun _ _ _ _ _ => pts_nil)
          (fun _ _ _ _ _ => pe_call G_pick (hr.mono (by decide)) rfl T.pen.D__law_pick.g T.pen.D__law_pick.F.kp T.pen.D__law_pick.b .nil pass0 (pa_cons (pv 0) (pa_cons (pv 1) pa_nil)))) pa_nil)) pa_nil))))), ?_⟩
    refine ⟨_, rfl, by show 6 ≤ sizeLine; decide, fun l0 hl0 => ?_⟩
    have s0 : Same H (upd H l0 (.lst [.int 0, .int 0, .int 0, .int 1, .int 1, .int 2])) := Same.upd hl0
    have i0 : (upd H l0 (.lst [.int 0, .int 0, .int 0, .int 1, .int 1, .int 2])) l0 = some (.lst [.int 0, .int 0, .int 0, .int 1, .int 1, .int 2]) := upd_same
    generalize upd H l0 (.lst [.int 0, .int 0, .int 0, .int 1, .int 1, .int 2]) = H0 at s0 i0 ⊢
    refine ⟨p, c, l0, _, n, rfl, hp.keep s0, by omega, i0, by show 0 < 6; decide, by show 6 ≤ 1000000; decide, fun v i H1 hv hp1 sb1 => ?_⟩
    obtain ⟨m, m2, rfl⟩ : ∃ m : Nat, m ≤ 2 ∧ v = .int m := by
      have hi : i < 6 := (List.getElem?_eq_some_iff.mp hv).1
      match i, hi, hv with
      | 0, _, hv => exact ⟨0, by omega, (Option.some.inj hv).symm⟩
      | 1, _, hv => exact ⟨0, by omega, (Option.some.inj hv).symm⟩
      | 2, _, hv => exact ⟨0, by omega, (Option.some.inj hv).symm⟩
      | 3, _, hv => exact ⟨1, by omega, (Option.some.inj hv).symm⟩
      | 4, _, hv => exact ⟨1, by omega, (Option.some.inj hv).symm⟩
      | 5, _, hv => exact ⟨2, by omega, (Option.some.inj hv).symm⟩
    have sbH : SameBut p H H1 := (SameBut.of s0).trans sb1
    have nq : q ≠ p := hp.ne hq
    -- the display
    refine ⟨_, rfl, m, rfl, by omega, by omega, fun D hD => ?_⟩
    rw [Int.toNat_natCast]
    refine lcs_it [some (.ref p), some (.ref q), some (.int m), none] rfl walk_range (fun i H' => PenAt H' p c (n + 1 + i) ∧ SameBut p H H' ∧ ∃ xs : List Str, H' D = some (.lst (xs.map V.str)) ∧ xs.length = i ∧ ∀ y ∈ xs, y ∈ ws) ?_ (fun _ _ _ _ => trivial) ?_ ?_
    · exact ⟨hp1.keep (Same.upd hD), sbH.trans (.new hD), [], upd_same, rfl, fun y hy => nomatch hy⟩
    · rintro i x _ H2 hi ⟨hp2, sb2, xs, hxs, hl, hw⟩ ⟨rfl, rfl⟩
      have ap := hp1.apart hD
      have mw : (ws.map V.str).length = ws.length := List.length_map ..
      refine ⟨rfl, _, rfl, _, rfl, p, c, q, ws.map V.str, n + 1 + i, rfl, hp2, by omega, sb2 _ _ hq nq, by omega, by omega, fun v j H3 hv hp3 sb3 => ?_⟩
      rw [List.getElem?_map] at hv
      obtain ⟨y, hy, rfl⟩ := Option.map_eq_some_iff.mp hv
      have hD3 := sb3 _ _ hxs ap.1
      refine ⟨xs.map V.str, hD3, ?_, hp3.put ap.1 ap.2, fun b o e nb => ?_, xs ++ [y], by rw [upd_same, List.map_append]; rfl, by rw [List.length_append, hl]; rfl, fun z hz => ?_⟩
      · rw [List.length_map, sizeLine_eq]; omega
      · have nD : b ≠ D := ne_of_none (sbH _ _ e nb) hD
        rw [upd_ne nD]
        exact sb3 _ _ (sb2 _ _ e nb) nb
      · rcases List.mem_append.mp hz with hz | hz
        · exact hw z hz
        · rw [List.mem_singleton.mp hz]
          exact List.mem_of_getElem? hy
    · rintro H2 ⟨hp2, sb2, xs, hxs, hl, hw⟩
      refine ⟨.ref D, xs, rfl, .list (SqL.of hxs), by unfold scanBound; omega, fun s3 l hs3 nd hm ln => ?_⟩
      refine ⟨s3, l, rfl, upd_same, by unfold scanBound; omega, fun t ys ht pm so => ?_⟩
      have ek := kl_of pm so nd hm
      have s2 : Same H2 (upd (upd H2 s3 (SetT P w s3 l)) t (.lst (ys.map V.str))) := fun b o e => Same.upd ht _ _ (Same.upd hs3 _ _ e)
      refine k t ys _ ?_ upd_same (fun y hy => hw y ((hm y).mp (pm.mem_iff.mp hy))) ?_ ?_ ((hp2.keep s2).mono (by omega)) (sb2.trans (.of s2))
      · cases e : H t with
        | none => rfl
        | some o =>
          have ht2 : H2 t = none := (Same.upd hs3).free ht
          by_cases tp : t = p
          · obtain ⟨_, _, _, h1, _⟩ := hp2
            rw [tp, h1] at ht2
            cases ht2
          · have := sb2 _ _ e tp
            rw [this] at ht2
            cases ht2
      · rw [pm.length_eq]; omega
      · rw [ek]; exact kl_kl _
end
end Kx

namespace Kx
open PySem L2 Own
/-- drawn keys: words, each once, in order, at most two -/
def KeyOk (ws ks : List Str) : Prop := (∀ y ∈ ks, y ∈ ws) ∧ ks.length ≤ 2 ∧ kl ks = ks
/-- objects of H that G had not -/
def WayN (G H : Hp) (v : V) (w : Way) : Prop := ∃ a kv, v = .ref a ∧ H a = some (.tup [.int w.1, .ref kv]) ∧ H kv = some (.lst (w.2.map V.str)) ∧ G a = none ∧ G kv = none
def RowN (G H : Hp) (v : V) (r : List Way) : Prop := ∃ a vs, v = .ref a ∧ H a = some (.lst vs) ∧ G a = none ∧ Paired (WayN G H) vs r
def KeyN (G H : Hp) (v : V) (ks : List Str) : Prop := ∃ a, v = .ref a ∧ H a = some (.lst (ks.map V.str)) ∧ G a = none
def Nk (G H H' : Hp) : Prop := ∀ b o, H b = some o → G b = none → H' b = some o
theorem WayN.keep {G G' H H' : Hp} (k : Nk G H H') (g : ∀ b, G b = none → G' b = none) {v : V} {w : Way} (h : WayN G H v w) : WayN G' H' v w := by
  obtain ⟨a, kv, e, h1, h2, g1, g2⟩ := h
  exact ⟨a, kv, e, k _ _ h1 g1, k _ _ h2 g2, g _ g1, g _ g2⟩
theorem RowN.keep {G G' H H' : Hp} (k : Nk G H H') (g : ∀ b, G b = none → G' b = none) {v : V} {r : List Way} (h : RowN G H v r) : RowN G' H' v r := by
  obtain ⟨a, vs, e, h1, g1, pr⟩ := h
  exact ⟨a, vs, e, k _ _ h1 g1, g _ g1, L2.Paired.mapP pr fun _ _ z => z.keep k g⟩
theorem KeyN.keep {G G' H H' : Hp} (k : Nk G H H') (g : ∀ b, G b = none → G' b = none) {v : V} {ks : List Str} (h : KeyN G H v ks) : KeyN G' H' v ks := by
  obtain ⟨a, e, h1, g1⟩ := h
  exact ⟨a, e, k _ _ h1 g1, g _ g1⟩
def GoodW (many : Int) (ws : List Str) (w : Way) : Prop := 0 ≤ w.1 ∧ w.1 < many ∧ KeyOk ws w.2
theorem PenAt.some {H : Hp} {p c : Addr} {n : Nat} (h : PenAt H p c n) : ∃ o, H p = some o := by
  obtain ⟨_, _, _, h1, _⟩ := h
  exact ⟨_, h1⟩
/-- what is not there now was not there -/
theorem none_back {H H' : Hp} {p c : Addr} {n : Nat} (s : SameBut p H H') (hp : PenAt H' p c n) {b : Addr} (e : H' b = none) : H b = none := by
  cases h : H b with
  | none => rfl
  | some o =>
    by_cases z : b = p
    · obtain ⟨o', h'⟩ := hp.some
      rw [z, h'] at e
      cases e
    · rw [s _ _ h z] at e
      cases e
def rowTe : TE := tLc (iStr (tVar 1)) (gName 7) tYes (tTup (tCons (tCall spDraw [] E0 (tCons (tVar 0) (tCons (tVar 4) tNil))) (tCons (tCall spKeys [] E0 (tCons (tVar 0) (tCons (tVar 3) tNil))) tNil))) [7]
theorem row_drawn {H : Hp} {p c q : Addr} {n : Nat} {sg : Str} {v2 v6 : V} {many : Int} {ws : List Str} {Q : VK} (hp : PenAt H p c n) (hn : n + 4 * sg.cps.size ≤ 1000000) (zg : sg.cps.size ≤ 1000) (hq : H q = some (.lst (ws.map V.str))) (w0 : 0 < ws.length) (w1 : ws.length ≤ 1000) (m0 : 0 < many) (m1 : many < 1000)
    (k : ∀ (t : Addr) (r : List Way) (H' : Hp), RowN H H' (.ref t) r → r.length = sg.cps.size → (∀ w ∈ r, GoodW many ws w) → PenAt H' p c (n + 4 * sg.cps.size) → SameBut p H H' → Q (.ref t) H') :
    rowTe [some (.ref p), some (.str sg), some v2, some (.ref q), some (.int many), none, some v6, none] H Q := by
  refine ⟨_, rfl, sg, rfl, fun D hD => ?_⟩
  have ap := hp.apart hD
  have nq : q ≠ p := hp.ne hq
  have gD : (upd H D (.lst [])) D = some (.lst []) := upd_same
  have gH : ∀ b, (upd H D (.lst [])) b = none → H b = none ∧ b ≠ D := fun b e => by
    have nb : b ≠ D := fun z => by rw [z, gD] at e; cases e
    exact ⟨by rw [upd_ne nb] at e; exact e, nb⟩
  have gU : ∀ b, H b = none → b ≠ D → (upd H D (.lst [])) b = none := fun b e nb => by rw [upd_ne nb]; exact e
  refine lcs_it [some (.ref p), some (.str sg), some v2, some (.ref q), some (.int many), none, some v6, none] rfl walk_str
    (fun j H' => PenAt H' p c (n + 4 * j) ∧ SameBut p H H' ∧ ∃ (acc : List V) (r : List Way), H' D = some (.lst acc) ∧ acc.length = j ∧ Paired (WayN (upd H D (.lst [])) H') acc r ∧ ∀ w ∈ r, GoodW many ws w)
    ⟨hp.keep (Same.upd hD), .new hD, [], [], upd_same, rfl, .nil, fun w hw => nomatch hw⟩ (fun _ _ _ _ => trivial) ?_ ?_
  · rintro j x _ H1 hj ⟨hp1, sb1, acc, r, hacc, hl, pa, gd⟩ ⟨rfl, ch, hc, rfl⟩
    refine ⟨rfl, _, rfl, _, rfl, p, c, many, n + 4 * j, rfl, hp1, by omega, m0, by omega, fun to H2 t0 t1 hp2 sb2 => ?_⟩
    have q2 := sb2 _ _ (sb1 _ _ hq nq) nq
    refine ⟨_, rfl, _, rfl, p, c, q, n + 4 * j + 1, ws, rfl, hp2, by omega, q2, w0, w1, fun t ks H3 ht h3 hm hk2 hkk hp3 sb3 => ?_⟩
    refine ⟨by show 2 ≤ sizeLine; decide, fun a ha => ?_⟩
    have D1 := sb2 _ _ hacc ap.1
    have D3 := sb3 _ _ D1 ap.1
    have nta : t ≠ a := ne_of_none h3 ha
    have ntD : t ≠ D := fun z => by rw [z, D1] at ht; cases ht
    have naD : a ≠ D := fun z => by rw [z, D3] at ha; cases ha
    have apa := hp3.apart ha
    have s13 : SameBut p H H3 := (sb1.trans sb2).trans sb3
    have Ha : H a = none := none_back s13 hp3 ha
    have Ht : H t = none := none_back (sb1.trans sb2) hp2 ht
    refine ⟨acc, by rw [upd_ne naD.symm]; exact D3, by rw [hl, sizeLine_eq]; omega, ((hp3.put apa.1 apa.2).put ap.1 ap.2).mono (by omega), fun b o e nb => ?_, acc ++ [.ref a], r ++ [(to, ks)], upd_same, by rw [List.length_append, hl]; rfl, ?_, fun w hw => ?_⟩
    · have nD : b ≠ D := ne_of_none e hD
      have na : b ≠ a := ne_of_none e Ha
      rw [upd_ne nD, upd_ne na]
      exact s13 _ _ e nb
    · refine psnoc (L2.Paired.mapP pa fun _ _ z => z.keep (fun b o e g => ?_) fun _ g => g) ⟨a, t, rfl, by rw [upd_ne naD, upd_same], by rw [upd_ne ntD, upd_ne nta]; exact h3, gU _ Ha naD, gU _ Ht ntD⟩
      obtain ⟨g1, nD⟩ := gH b g
      have np : b ≠ p := fun z => by
        obtain ⟨o', h'⟩ := hp.some
        rw [z, h'] at g1
        cases g1
      have e3 := sb3 _ _ (sb2 _ _ e np) np
      rw [upd_ne nD, upd_ne (ne_of_none e3 ha)]
      exact e3
    · rcases List.mem_append.mp hw with hw | hw
      · exact gd w hw
      · rw [List.mem_singleton.mp hw]
        exact ⟨t0, t1, hm, hk2, hkk⟩
  · rintro H1 ⟨hp1, sb1, acc, r, hacc, hl, pa, gd⟩
    refine k D r H1 ⟨D, acc, rfl, hacc, hD, L2.Paired.mapP pa fun _ _ z => z.keep (fun _ _ e _ => e) fun b g => (gH b g).1⟩ ?_ gd hp1 sb1
    rw [← Paired.length pa, hl]
section
variable {P : Program} {w : World} {K : PySem.W.Frag} {mg : Str → Option Value} {base : Heap} {L : LAd}
def spTables : Sp := fun vs H Q _ => ∃ (p c q : Addr) (sg : Str) (most n : Nat) (ws : List Str), vs = [.ref p, .str sg, .int most, .ref q] ∧ PenAt H p c n ∧ n + 400 ≤ 1000000 ∧ sg.cps.size ≤ 4 ∧ 0 < most ∧ most ≤ 16 ∧ H q = some (.lst (ws.map V.str)) ∧ 0 < ws.length ∧ ws.length ≤ 1000 ∧
  ∀ (t r e : Addr) (rv ev : List V) (R : List (List Way)) (Es : List (List Str)) (many : Nat) (H' : Hp), 0 < many → many ≤ most → H' t = some (.tup [.ref r, .ref e]) → H' r = some (.lst rv) → Paired (RowN H H') rv R → H' e = some (.lst ev) → Paired (KeyN H H') ev Es → R.length = many → Es.length = many →
    (∀ row ∈ R, row.length = sg.cps.size ∧ ∀ w ∈ row, GoodW many ws w) → (∀ ks ∈ Es, KeyOk ws ks) → H t = none → H r = none → H e = none → PenAt H' p c (n + 400) → SameBut p H H' → Q (.ref t) H'
theorem sc_tables : FnScope ["pen", "signs", "most", "words", "many", "rows", "state", "sign"] ["pen", "signs", "most", "words"] (defScope s__law_tables) := ⟨rfl, rfl, rfl, by decide +kernel, rfl, by decide +kernel, by decide +kernel⟩
theorem ok_tables (T : TxtL K mg L) : FnOk P w K mg base CX0 4 L.f3 L.d3 ["pen", "signs", "most", "words"] spTables := by
  have sc := sc_tables
  have G_draw : FnOk P w K mg base CX0 1 L.p2 L.q2 ["pen", "many"] spDraw := ok_draw T.pen
  have G_keys : FnOk P w K mg base CX0 3 L.f2 L.d2 ["pen", "words"] spKeys := ok_keys T
  refine T.D__law_tables.F.ok sc (fun vs H Q E h => ?_) (fun cdv A1 outer s H vs Q E hr h => ?_)
  · obtain ⟨_, _, _, _, _, _, _, rfl, _⟩ := h; rfl
  · obtain ⟨p, c, q, sg, most, n, ws, rfl, hp, hn, z4, o0, o16, hq, w0, w1, k⟩ := h
    refine ⟨_, (pss_cons (ps_set (i := 4) sc.nd rfl (Or.inr rfl) (pe_op op_add pe_int (pe_call G_draw (hr.mono (by decide)) rfl T.pen.D__law_draw.g T.pen.D__law_draw.F.kp T.pen.D__law_draw.b .nil pass0 (pa_cons (pv 0) (pa_cons (pv 2) pa_nil)))))
      (pss_cons (ps_setLc (i := 5) (own := [("state", 6)]) (g := gName 6) (tt := tYes) (te := rowTe) rfl sc.nd rfl rfl (sw_true rfl rfl rfl (by decide +kernel)) (pi_range1 rfl T.n_range (pa_cons (pv 4) pa_nil)) (blkOk_by (N := ["pen", "signs", "most", "words", "many", "rows", "state", "sign"]) (sc := defScope s__law_tables) (own := [("state", 6)]) (by decide +kernel)) (fun _ _ _ _ _ => (pg_name (i := 6) sc.nd rfl (Or.inl rfl))) (fun _ _ _ _ _ => pts_nil)
        (fun _ _ _ _ _ => pe_lc (own := [("sign", 7)]) (tt := tYes) rfl sc.nd (pi_str (pv 1)) (blkOk_by (own := [("sign", 7)]) (by rfl)) (fun _ _ _ _ _ => pg_name (i := 7) sc.nd rfl (Or.inl rfl)) (fun _ _ _ _ _ => pts_nil)
          (fun _ _ _ _ _ => pe_tup (pa_cons (pe_call G_draw (hr.mono (by decide)) rfl T.pen.D__law_draw.g T.pen.D__law_draw.F.kp T.pen.D__law_draw.b .nil pass0 (pa_cons (pv 0) (pa_cons (pv 4) pa_nil))) (pa_cons (pe_call G_keys (hr.mono (by decide)) rfl T.D__law_keys.g T.D__law_keys.F.kp T.D__law_keys.b .nil pass0 (pa_cons (pv 0) (pa_cons (pv 3) pa_nil))) pa_nil)))))
      (pss_one (ps_ret (pe_tup (pa_cons (pv 5) (pa_cons (pe_lc (own := [("state", 6)]) (g := gName 6) (tt := tYes) rfl sc.nd (pi_range1 rfl T.n_range (pa_cons (pv 4) pa_nil)) (blkOk_by (N := ["pen", "signs", "most", "words", "many", "rows", "state", "sign"]) (sc := defScope s__law_tables) (own := [("state", 6)]) (by decide +kernel)) (fun _ _ _ _ _ => (pg_name (i := 6) sc.nd rfl (Or.inl rfl))) (fun _ _ _ _ _ => pts_nil)
          (fun _ _ _ _ _ => pe_call G_keys (hr.mono (by decide)) rfl T.D__law_keys.g T.D__law_keys.F.kp T.D__law_keys.b .nil pass0 (pa_cons (pv 0) (pa_cons (pv 3) pa_nil)))) pa_nil))))))), ?_⟩
    have nq : q ≠ p := hp.ne hq
    refine ⟨_, rfl, _, rfl, p, c, most, n, rfl, hp, by omega, by omega, by omega, fun r0 H1 r1 r2 hp1 sb1 => ?_⟩
    obtain ⟨m0, rfl⟩ := Int.eq_ofNat_of_zero_le r1
    refine ⟨_, _, rfl, rfl, ?_⟩
    have tn : (1 + ((m0 : Nat) : Int)).toNat = m0 + 1 := by omega
    -- rows
    refine ⟨_, rfl, 1 + ((m0 : Nat) : Int), rfl, by omega, by omega, fun D hD => ?_⟩
    rw [tn]
    have ap := hp1.apart hD
    have gD : (upd H1 D (.lst [])) D = some (.lst []) := upd_same
    have gU : ∀ {H' : Hp} {m : Nat}, SameBut p H1 H' → PenAt H' p c m → (∃ xs, H' D = some (.lst xs)) → ∀ b, H' b = none → (upd H1 D (.lst [])) b = none := fun {H' m} s0 h0 ⟨xs, d0⟩ b e => by
      have nb : b ≠ D := fun z => by rw [z, d0] at e; cases e
      rw [upd_ne nb]
      exact none_back s0 h0 e
    have gP : ∀ b, (upd H1 D (.lst [])) b = none → b ≠ p ∧ b ≠ D := fun b e => by
      refine ⟨fun z => ?_, fun z => by rw [z, gD] at e; cases e⟩
      obtain ⟨o, h⟩ := hp1.some
      rw [z, upd_ne ap.1.symm, h] at e
      cases e
    refine lcs_it [some (.ref p), some (.str sg), some (.int most), some (.ref q), some (.int (1 + ((m0 : Nat) : Int))), none, none, none] rfl walk_range
      (fun i H' => PenAt H' p c (n + 1 + 16 * i) ∧ SameBut p H1 H' ∧ ∃ (acc : List V) (R : List (List Way)), H' D = some (.lst acc) ∧ acc.length = i ∧ Paired (RowN (upd H1 D (.lst [])) H') acc R ∧ ∀ row ∈ R, row.length = sg.cps.size ∧ ∀ w ∈ row, GoodW (1 + ((m0 : Nat) : Int)) ws w)
      ⟨hp1.keep (Same.upd hD), .new hD, [], [], upd_same, rfl, .nil, fun w hw => nomatch hw⟩ (fun _ _ _ _ => trivial) ?_ ?_
    · rintro i x _ H2 hi ⟨hp2, sb2, acc, R, hacc, hl, pa, gd⟩ ⟨rfl, rfl⟩
      refine ⟨rfl, tyes ?_⟩
      simp only [if_true]
      refine row_drawn hp2 (by omega) (by omega) (sb2 _ _ (sb1 _ _ hq nq) nq) w0 w1 (by omega) (by omega) fun t r H3 hr3 lr g3 hp3 sb3 => ?_
      have D3 := sb3 _ _ hacc ap.1
      refine ⟨acc, D3, by rw [hl, sizeLine_eq]; omega, (hp3.put ap.1 ap.2).mono (by omega), fun b o e nb => ?_, acc ++ [.ref t], R ++ [r], upd_same, by rw [List.length_append, hl]; rfl, ?_, fun row hrow => ?_⟩
      · rw [upd_ne (ne_of_none e hD)]
        exact sb3 _ _ (sb2 _ _ e nb) nb
      · refine psnoc (L2.Paired.mapP pa fun _ _ z => z.keep (fun b o e g => ?_) fun _ g => g) (hr3.keep (fun b o e g => ?_) (gU sb2 hp2 ⟨_, hacc⟩))
        · rw [upd_ne (gP b g).2]
          exact sb3 _ _ e (gP b g).1
        · have nb : b ≠ D := fun z => by rw [z, hacc] at g; cases g
          rw [upd_ne nb]
          exact e
      · rcases List.mem_append.mp hrow with h | h
        · exact gd row h
        · rw [List.mem_singleton.mp h]
          exact ⟨lr, g3⟩
    rintro H2 ⟨hp2, sb2, rv, R, hrv, hl, pR, gR⟩
    -- ends
    refine ⟨_, rfl, _, rfl, 1 + ((m0 : Nat) : Int), rfl, by omega, by omega, fun D2 hD2 => ?_⟩
    rw [tn]
    have ap2 := hp2.apart hD2
    have nDD : D ≠ D2 := ne_of_none hrv hD2
    have gD2 : (upd H2 D2 (.lst [])) D2 = some (.lst []) := upd_same
    have gP2 : ∀ b, (upd H2 D2 (.lst [])) b = none → b ≠ p ∧ b ≠ D2 ∧ H2 b = none := fun b e => by
      have nb : b ≠ D2 := fun z => by rw [z, gD2] at e; cases e
      rw [upd_ne nb] at e
      refine ⟨fun z => ?_, nb, e⟩
      obtain ⟨o, h⟩ := hp2.some
      rw [z, h] at e
      cases e
    refine lcs_it [some (.ref p), some (.str sg), some (.int most), some (.ref q), some (.int (1 + ((m0 : Nat) : Int))), some (.ref D), none, none] rfl walk_range
      (fun i H' => PenAt H' p c (n + 1 + 16 * (m0 + 1) + 3 * i) ∧ SameBut p H2 H' ∧ ∃ (acc : List V) (Es : List (List Str)), H' D2 = some (.lst acc) ∧ acc.length = i ∧ Paired (KeyN (upd H2 D2 (.lst [])) H') acc Es ∧ ∀ ks ∈ Es, KeyOk ws ks)
      ⟨hp2.keep (Same.upd hD2), .new hD2, [], [], upd_same, rfl, .nil, fun w hw => nomatch hw⟩ (fun _ _ _ _ => trivial) ?_ ?_
    · rintro i x _ H3 hi ⟨hp3, sb3, acc, Es, hacc, hl3, pa, gd⟩ ⟨rfl, rfl⟩
      refine ⟨rfl, _, rfl, _, rfl, p, c, q, _, ws, rfl, hp3, by omega, sb3 _ _ (sb2 _ _ (sb1 _ _ hq nq) nq) nq, w0, w1, fun t ks H4 ht h4 hm hk2 hkk hp4 sb4 => ?_⟩
      have D4 := sb4 _ _ hacc ap2.1
      have nt : t ≠ D2 := fun z => by rw [z, hacc] at ht; cases ht
      refine ⟨acc, D4, by rw [hl3, sizeLine_eq]; omega, (hp4.put ap2.1 ap2.2).mono (by omega), fun b o e nb => ?_, acc ++ [.ref t], Es ++ [ks], upd_same, by rw [List.length_append, hl3]; rfl, ?_, fun k1 hk1 => ?_⟩
      · rw [upd_ne (ne_of_none e hD2)]
        exact sb4 _ _ (sb3 _ _ e nb) nb
      · refine psnoc (L2.Paired.mapP pa fun _ _ z => z.keep (fun b o e g => ?_) fun _ g => g) ⟨t, rfl, by rw [upd_ne nt]; exact h4, ?_⟩
        · rw [upd_ne (gP2 b g).2.1]
          exact sb4 _ _ e (gP2 b g).1
        · rw [upd_ne nt]
          exact none_back sb3 hp3 ht
      · rcases List.mem_append.mp hk1 with h | h
        · exact gd k1 h
        · rw [List.mem_singleton.mp h]
          exact ⟨hm, hk2, hkk⟩
    rintro H3 ⟨hp3, sb3, ev, Es, hev, hl3, pE, gE⟩
    refine ⟨by show 2 ≤ sizeLine; decide, fun t ht => ?_⟩
    have rD := sb3 _ _ hrv ap.1
    have ntD : D ≠ t := ne_of_none rD ht
    have ntE : D2 ≠ t := ne_of_none hev ht
    have s13 : SameBut p H H3 := (sb1.trans sb2).trans sb3
    have back1 : ∀ b, H1 b = none → H b = none := fun b e => none_back sb1 hp1 e
    have back2 : ∀ b, H2 b = none → H b = none := fun b e => none_back (sb1.trans sb2) hp2 e
    refine k t D D2 rv ev R Es (m0 + 1) _ (by omega) (by omega) upd_same (by rw [upd_ne ntD]; exact rD) ?_ (by rw [upd_ne ntE]; exact hev) ?_ ((Paired.length pR).symm.trans hl) ((Paired.length pE).symm.trans hl3) (fun row hrow => ⟨(gR row hrow).1, fun w hw => ?_⟩) gE (none_back s13 hp3 ht) (back1 D hD) (back2 D2 hD2) ((hp3.keep (Same.upd ht)).mono (by omega)) (s13.trans (.new ht))
    · refine L2.Paired.mapP pR fun _ _ z => z.keep (fun b o e g => ?_) fun b g => ?_
      · have e3 := sb3 _ _ e (gP b g).1
        rw [upd_ne (ne_of_none e3 ht)]
        exact e3
      · have nb := (gP b g).2
        rw [upd_ne nb] at g
        exact back1 b g
    · refine L2.Paired.mapP pE fun _ _ z => z.keep (fun b o e _ => ?_) fun b g => back2 b (gP2 b g).2.2
      rw [upd_ne (ne_of_none e ht)]
      exact e
    · have := (gR row hrow).2 w hw
      rw [show ((m0 + 1 : Nat) : Int) = 1 + ((m0 : Nat) : Int) by omega]
      exact this
end
end Kx

namespace Kx
open PySem L2 Own
abbrev s__law_step : Stmt := top 40
abbrev s__law_times : Stmt := top 41
abbrev s__law_due : Stmt := top 42
structure TxtSt (K : PySem.W.Frag) (mg : Str → Option Value) (fs ft fd : Addr) (ds dt dd : FuncData) : Prop where
  D__law_step : DefT K mg "_law_step" "_law_step" s__law_step ["signs", "tables", "state", "word"] fs ds
  D__law_times : DefT K mg "_law_times" "_law_times" s__law_times ["signs", "tables", "state", "word", "times"] ft dt
  D__law_due : DefT K mg "_law_due" "_law_due" s__law_due ["signs", "tables", "blocks"] fd dd
  n_range : mg "range" = none
  n_len : mg "len" = none
  n_int : mg "int" = none
  n_sorted : mg "sorted" = none
  n_set : mg "set" = none
  n_list : mg "list" = none
  n_tuple : mg "tuple" = none
section
variable {P : Program} {w : World} {K : PySem.W.Frag} {mg : Str → Option Value} {base : Heap} {fs ft fd : Addr} {ds dt dd : FuncData}
theorem inV_strs (y : Str) (l : List Str) : inV (.str y) (l.map V.str) = decide (y ∈ l) := by
  unfold inV
  induction l with
  | nil => rfl
  | cons a r ih =>
    rw [List.map_cons, List.any_cons, ih]
    show ((a == y) || decide (y ∈ r)) = _
    by_cases e : a = y
    · subst e
      simp
    · have e' : ¬ y = a := fun z => e z.symm
      simp [e, e']
theorem flat_strs (l : List Str) : (l.map V.str).all flatV = true := List.all_eq_true.mpr fun x hx => by
  obtain ⟨y, _, rfl⟩ := List.mem_map.mp hx
  rfl
abbrev Nstep : List Str := ["signs", "tables", "state", "word", "given", "sign", "keys", "key"]
/-- the law's tables, as they stand -/
structure Tbl (H : Hp) (t r e : Addr) (rv ev : List V) (R : List (List Way)) (Es : List (List Str)) : Prop where
  t : H t = some (.tup [.ref r, .ref e])
  r : H r = some (.lst rv)
  pr : Paired (RowE H) rv R
  e : H e = some (.lst ev)
  pe : Paired (KeyE H) ev Es
theorem Tbl.keep {H H' : Hp} {t r e : Addr} {rv ev : List V} {R : List (List Way)} {Es : List (List Str)} (s : Same H H') (h : Tbl H t r e rv ev R Es) : Tbl H' t r e rv ev R Es :=
  ⟨s _ _ h.t, s _ _ h.r, L2.Paired.mapP h.pr fun _ _ z => z.keep s, s _ _ h.e, L2.Paired.mapP h.pe fun _ _ z => z.keep s⟩
/-- _law_step(signs, tables, state, word) -/
def spStep : Sp := fun vs H Q _ => ∃ (t r e : Addr) (s : Nat) (y sg : Str) (rv ev : List V) (R : List (List Way)) (Es : List (List Str)), vs = [.str sg, .ref t, .int s, .str y] ∧ Tbl H t r e rv ev R Es ∧
  Rd2 sg R Es ∧ s < R.length ∧ y.cps.size ≤ 1000 ∧ (∀ c ∈ y.cps.toList, c ∈ sg.cps.toList) ∧ ∀ (p g : Addr) (l : List Str) H', Same H H' → H p = none → H g = none → H' p = some (.tup [.int (runW sg R s y.cps.toList).1, .ref g]) → H' g = some (.lst (l.map V.str)) →
    (∀ z, z ∈ l ↔ z ∈ (runW sg R s y.cps.toList).2) → l.length ≤ 2 * y.cps.size → Q (.ref p) H'
theorem sc_step : FnScope Nstep ["signs", "tables", "state", "word"] (defScope s__law_step) := ⟨rfl, rfl, rfl, by decide +kernel, rfl, by decide +kernel, by decide +kernel⟩
theorem ok_step (T : TxtSt K mg fs ft fd ds dt dd) : FnOk P w K mg base CX0 1 fs ds ["signs", "tables", "state", "word"] spStep := by
  have sc := sc_step
  refine T.D__law_step.F.ok sc (fun vs H Q E h => ?_) (fun cdv A1 outer s0 H vs Q E hr h => ?_)
  · obtain ⟨_, _, _, _, _, _, _, _, _, _, rfl, _⟩ := h; rfl
  · obtain ⟨t, r, e, s, y, sg, rv, ev, R, Es, rfl, ht, F, hs, yl, inn, k⟩ := h
    refine ⟨_, (pss_cons (ps_set (i := 4) sc.nd rfl (Or.inr rfl) (pe_lst pa_nil))
      (pss_cons (ps_for PassesOwn.never rfl (pi_str (pv 3)) (pg_name (i := 5) sc.nd rfl (Or.inl rfl))
        (pss_cons (ps_asg (pe_ix ix_list (pe_ix ix_list (pe_ix ix_tup (pv 1) pe_int (fun _ _ => rfl)) (pv 2) (fun _ _ => rfl)) (pe_bm PySem.F.plainAttrs_str PySem.F.slot_str_index PySem.F.type_str_index mt_signAt (pv 0) (pa_cons (pv 5) pa_nil)) (fun _ _ => rfl)) (pg_tup rfl (pgs_cons (pg_name (i := 2) sc.nd rfl (Or.inl rfl)) (pgs_cons (pg_name (i := 6) sc.nd rfl (Or.inl rfl)) pgs_nil))))
        (pss_one (ps_set (i := 4) sc.nd rfl (Or.inr rfl) (pe_op op_cat (pv 4) (pe_lc (own := [("key", 7)]) (g := gName 7) (tt := tTest (tOp (rIn K true) (tVar 7) (tVar 4))) (te := tVar 7) rfl sc.nd (pi_list (pv 6)) (blkOk_by (N := Nstep) (sc := defScope s__law_step) (own := [("key", 7)]) (by decide +kernel)) (fun _ _ _ _ _ => (pg_name (i := 7) sc.nd rfl (Or.inl rfl))) (fun _ _ _ _ _ => pts_one (pt_cmpR op_notIn_seq (pv 7) (pv 4) (by rfl))) (fun _ _ _ _ _ => pv 7)))))))
      (pss_one (ps_ret (pe_tup (pa_cons (pv 2) (pa_cons (pv 4) pa_nil))))))), ?_⟩
    have rl : rv.length = R.length := Paired.length ht.pr
    refine ⟨by decide, fun g0 hg0 => ?_⟩
    refine ⟨_, rfl, y, rfl, ?_⟩
    refine for_it walk_str (fun i σ H' => ∃ g x5 x6 l, σ = [some (.str sg), some (.ref t), some (.int (runW sg R s (y.cps.toList.take i)).1), some (.str y), some (.ref g), x5, x6, none] ∧ H g = none ∧ H' g = some (.lst (l.map V.str)) ∧ Same H H' ∧ (∀ z : Str, z ∈ l ↔ z ∈ (runW sg R s (y.cps.toList.take i)).2) ∧ l.length ≤ 2 * i)
      ⟨g0, _, _, [], rfl, hg0, upd_same, Same.upd hg0, fun z => Iff.rfl, Nat.zero_le _⟩ (fun _ _ _ _ _ => trivial) ?_ ?_
    · rintro i x σ _ H1 hi ⟨g, x5, x6, l, rfl, ng, hg, s1, mem, ll⟩ ⟨rfl, c, hc, rfl⟩
      have hct : y.cps.toList[i]? = some c := by rw [Array.getElem?_toList]; exact hc
      have cm := inn c (List.mem_of_getElem? hct)
      obtain ⟨j, hj⟩ := List.getElem?_of_mem cm
      rw [Array.getElem?_toList] at hj
      obtain ⟨run1, _⟩ := F.F.run hs (y.cps.toList.take i)
      obtain ⟨q, wy, hq, hw, hstep, okw⟩ := F.F.way run1 hj
      have hrun2 : runW sg R s (y.cps.toList.take (i + 1)) = (wy.1.toNat, (runW sg R s (y.cps.toList.take i)).2 ++ wy.2) := by
        rw [List.take_add_one, hct]
        show runW sg R s (y.cps.toList.take i ++ [c]) = _
        rw [runW_snoc]
        unfold acc1
        rw [hstep]
      generalize runW sg R s (y.cps.toList.take i) = rn at hrun2 run1 mem hstep hq ⊢
      have w2 := F.two.1 q (List.mem_of_getElem? hq) wy (List.mem_of_getElem? hw)
      have hx : rv[rn.1]? = some (rv[rn.1]'(by omega)) := List.getElem?_eq_getElem (by omega)
      obtain ⟨q', hq', a, vs, ea, ha, pq⟩ := pat ht.pr hx
      rw [hq] at hq'
      cases hq'
      rw [ea] at hx
      clear ea
      have lq : vs.length = q.length := Paired.length pq
      have hj2 : j < q.length := (List.getElem?_eq_some_iff.mp hw).1
      have hy : vs[j]? = some (vs[j]'(by omega)) := List.getElem?_eq_getElem (by omega)
      obtain ⟨w', hw', b, kv, eb, hb, hkv⟩ := pat pq hy
      rw [hw] at hw'
      cases hw'
      rw [eb] at hy
      clear eb
      have hfirst : ∀ k, k < j → sg.cps[k]? ≠ some c := fun k hk hc' => by
        obtain ⟨h1, e1⟩ := Array.getElem?_eq_some_iff.mp hc'
        obtain ⟨h2, e2⟩ := Array.getElem?_eq_some_iff.mp hj
        have nd := List.pairwise_iff_getElem.mp F.F.nd k j (by simpa using h1) (by simpa using h2) hk
        simp only [Array.getElem_toList] at nd
        exact nd (e1.trans e2.symm)
      have at0 : atI ([.ref r, .ref e] : List V) 0 = some (.ref r) := atI_nat (j := 0) rfl
      refine ⟨_, rfl, t, _, _, _, rfl, rfl, SqT.of (s1 _ _ ht.t), at0, _, rfl, r, rv, (rn.1 : Nat), _, rfl, rfl, SqL.of (s1 _ _ ht.r), atI_nat hx, _, rfl, ?_⟩
      refine ⟨rfl, _, rfl, sg, c, j, rfl, rfl, hj, hfirst, a, vs, (j : Nat), _, rfl, rfl, SqL.of (s1 _ _ ha), atI_nat hy, b, _, rfl, SqT.of (s1 _ _ hb), rfl, _, _, rfl, _, _, rfl, rfl, ?_⟩
      have hnn : 0 ≤ wy.1 := okw.1
      have e0 : (((runW sg R s (y.cps.toList.take (i + 1))).1 : Nat) : Int) = wy.1 := by
        rw [hrun2]
        exact Int.toNat_of_nonneg hnn
      refine ⟨_, rfl, _, rfl, kv, rfl, ⟨_, SqL.of (s1 _ _ hkv)⟩, fun D hD => ?_⟩
      have gD : g ≠ D := fun z => by rw [z, hD] at hg; cases hg
      refine lcs_it [some (.str sg), some (.ref t), some (.int wy.1), some (.str y), some (.ref g), some (.str (Froz.sing c)), some (.ref kv), none] rfl walk_list (fun m H' => Same H1 H' ∧ ∃ acc : List Str, H' D = some (.lst (acc.map V.str)) ∧ acc.length ≤ m ∧ ∀ z, z ∈ acc ↔ z ∈ wy.2.take m ∧ z ∉ l)
        ⟨Same.upd hD, [], upd_same, Nat.le_refl _, fun z => ⟨fun y => absurd y List.not_mem_nil, fun y => absurd y.1 List.not_mem_nil⟩⟩ (fun m H' _ z => SqL.of (z.1 _ _ (s1 _ _ hkv))) ?_ ?_
      · rintro m x _ H2 hm ⟨s2, acc, hacc, la, ma⟩ ⟨rfl, hx⟩
        rw [List.getElem?_map] at hx
        obtain ⟨key, hkey, rfl⟩ := Option.map_eq_some_iff.mp hx
        refine ⟨rfl, _, rfl, _, rfl, g, _, rfl, .inl (SqL.of (s2 _ _ hg)), rfl, flat_strs l, _, rfl, ?_⟩
        have put : ∀ {o : HO}, Same H1 (upd H2 D o) := fun {o} b u z => by rw [upd_ne (ne_of_none z hD)]; exact s2 b u z
        have mt : wy.2.take (m + 1) = wy.2.take m ++ [key] := by rw [List.take_add_one, hkey]; rfl
        rw [inV_strs]
        by_cases hin : key ∈ l
        · rw [decide_eq_true hin]
          refine iteF ⟨s2, acc, hacc, by omega, fun z => ?_⟩
          rw [ma, mt, List.mem_append, List.mem_singleton]
          constructor
          · exact fun ⟨a, b⟩ => ⟨.inl a, b⟩
          · rintro ⟨a | a, b⟩
            · exact ⟨a, b⟩
            · exact absurd (a ▸ hin) b
        · rw [decide_eq_false hin]
          refine iteT ⟨_, rfl, _, hacc, by rw [List.length_map, sizeLine_eq]; rw [List.length_map] at hm; omega, put, acc ++ [key], by rw [upd_same, List.map_append]; rfl, by rw [List.length_append]; exact Nat.succ_le_succ la, fun z => ?_⟩
          rw [List.mem_append, ma, mt, List.mem_append, List.mem_singleton]
          constructor
          · rintro (⟨a, b⟩ | a)
            · exact ⟨.inl a, b⟩
            · exact ⟨.inr a, a ▸ hin⟩
          · rintro ⟨a | a, b⟩
            · exact .inl ⟨a, b⟩
            · exact .inr a
      · rintro H2 ⟨s2, acc, hacc, la, ma⟩
        rw [List.length_map] at la ma
        rw [List.take_length] at ma
        refine ⟨g, D, _, _, rfl, rfl, s2 _ _ hg, hacc, ?_, fun p3 hp3 => ?_⟩
        · rw [List.length_map, List.length_map, sizeLine_eq]
          omega
        · refine ⟨p3, _, _, l ++ acc, by rw [e0]; rfl, (s1.trans s2).free hp3, by rw [upd_same, List.map_append], fun b o z => Same.upd hp3 _ _ (s2 _ _ (s1 _ _ z)), fun z => ?_, ?_⟩
          · rw [hrun2, List.mem_append, List.mem_append, ma, mem]
            constructor
            · exact fun h => h.imp id (·.1)
            · intro h
              by_cases c1 : z ∈ rn.2
              · exact .inl c1
              · exact .inr ⟨h.resolve_left c1, c1⟩
          · rw [List.length_append]
            omega
    · rintro σ H1 ⟨g, x5, x6, l, rfl, ng, hg, s1, mem, ll⟩
      have eT : y.cps.toList.take y.cps.size = y.cps.toList := List.take_of_length_le (by simp)
      rw [eT] at mem ⊢
      refine ⟨_, rfl, _, rfl, by show 2 ≤ sizeLine; decide, fun p7 hp7 => ?_⟩
      exact k p7 g l _ (fun b o z => Same.upd hp7 _ _ (s1 _ _ z)) (s1.free hp7) ng upd_same (Same.upd hp7 _ _ hg) mem ll
end
end Kx

namespace Kx
open PySem L2 Own
theorem ne_of_none' {H : Hp} {a b : Addr} {o : HO} (h : H b = some o) (n : H a = none) : a ≠ b := fun z => by rw [z, h] at n; cases n
section
variable {P : Program} {w : World} {K : PySem.W.Frag} {mg : Str → Option Value} {base : Heap} {fs ft fd : Addr} {ds dt dd : FuncData}
/-- where so many words lead from the state s: one row of the law's table, which is the list at D -/
def LdE (D : Addr) (f : Nat → Nat) (ky : Nat → List Str) (j : Nat) (H : Hp) (v : V) (s : Nat) : Prop := ∃ (a g : Addr) (l : List Str), v = .ref a ∧ a ≠ D ∧ g ≠ D ∧ H a = some (.tup [.int (goN f s j : Nat), .ref g]) ∧ H g = some (.lst (l.map V.str)) ∧ (∀ z, z ∈ l ↔ giv f ky s j z) ∧ l.length ≤ 10
theorem LdE.keep {D : Addr} {f : Nat → Nat} {ky : Nat → List Str} {j : Nat} {H H' : Hp} {v : V} {s : Nat} (k : ∀ b o, b ≠ D → H b = some o → H' b = some o) (h : LdE D f ky j H v s) : LdE D f ky j H' v s := by
  obtain ⟨a, g, l, e, na, ng, h1, h2, h3⟩ := h
  exact ⟨a, g, l, e, na, ng, k _ _ na h1, k _ _ ng h2, h3⟩
/-- the leads' table at D -/
def Leads (f : Nat → Nat) (ky : Nat → List Str) (j m : Nat) (H : Hp) (D : Addr) : Prop := ∃ lv, H D = some (.lst lv) ∧ Paired (LdE D f ky j H) lv (List.range m)
theorem Leads.keep {f : Nat → Nat} {ky : Nat → List Str} {j m : Nat} {D : Addr} {H H' : Hp} (k : Same H H') (h : Leads f ky j m H D) : Leads f ky j m H' D := by
  obtain ⟨lv, h1, h2⟩ := h
  exact ⟨lv, k _ _ h1, L2.Paired.mapP h2 fun _ _ z => z.keep fun b o _ e => k b o e⟩
/-- one row more -/
theorem leads_snoc {f : Nat → Nat} {ky : Nat → List Str} {j i : Nat} {D a g : Addr} {H H' : Hp} {lv : List V} {l : List Str} (k : ∀ b o, b ≠ D → H b = some o → H' b = some o) (pl : Paired (LdE D f ky j H) lv (List.range i)) (na : a ≠ D) (ng : g ≠ D)
    (h1 : H' a = some (.tup [.int (goN f i j : Nat), .ref g])) (h2 : H' g = some (.lst (l.map V.str))) (m : ∀ z, z ∈ l ↔ giv f ky i j z) (len : l.length ≤ 10) : Paired (LdE D f ky j H') (lv ++ [.ref a]) (List.range (i + 1)) := by
  rw [List.range_succ]
  exact psnoc (L2.Paired.mapP pl fun _ _ z => z.keep k) ⟨a, g, l, rfl, na, ng, h1, h2, m, len⟩
theorem leads_at {f : Nat → Nat} {ky : Nat → List Str} {j m s : Nat} {D : Addr} {H : Hp} {lv : List V} (pl : Paired (LdE D f ky j H) lv (List.range m)) (hs : s < m) : ∃ (a g : Addr) (l : List Str), lv[s]? = some (.ref a) ∧ H a = some (.tup [.int (goN f s j : Nat), .ref g]) ∧ H g = some (.lst (l.map V.str)) ∧ (∀ z, z ∈ l ↔ giv f ky s j z) ∧ l.length ≤ 10 := by
  have ll : lv.length = m := by
    have := Paired.length pl
    rw [List.length_range] at this
    exact this
  have hx : lv[s]? = some (lv[s]'(by omega)) := List.getElem?_eq_getElem (by omega)
  obtain ⟨s', hs', a, g, l, e, na, ng, h⟩ := pat pl hx
  rw [List.getElem?_range hs] at hs'
  cases hs'
  exact ⟨a, g, l, by rw [hx, e], h⟩
theorem bit_next (n j : Nat) : n % 2 ^ (j + 1) = n % 2 ^ j + 2 ^ j * (n / 2 ^ j % 2) := Nat.mod_pow_succ
theorem range_take (m i : Nat) (h : i ≤ m) : (List.range m).take i = List.range i := by
  rw [List.take_range, Nat.min_eq_left h]
abbrev Ntimes : List Str := ["signs", "tables", "state", "word", "times", "leads", "given", "left", "one", "goal", "keys"]
def spTimes : Sp := fun vs H Q _ => ∃ (t r e : Addr) (s n : Nat) (y sg : Str) (rv ev : List V) (R : List (List Way)) (Es : List (List Str)), vs = [.str sg, .ref t, .int s, .str y, .int n] ∧ Tbl H t r e rv ev R Es ∧
  Rd2 sg R Es ∧ R.length ≤ 16 ∧ (kl (keysOfRows R)).length ≤ 10 ∧ s < R.length ∧ y.cps.size ≤ 5 ∧ (∀ c ∈ y.cps.toList, c ∈ sg.cps.toList) ∧ n < 2 ^ 100 ∧ ∀ (p g : Addr) (l : List Str) H', Same H H' → H' p = some (.tup [.int (goN (stN sg R y.cps.toList) s n : Nat), .ref g]) → H' g = some (.lst (l.map V.str)) →
    (∀ z, z ∈ l ↔ giv (stN sg R y.cps.toList) (kyN sg R y.cps.toList) s n z) → l.length ≤ 1000 → Q (.ref p) H'
theorem sc_times : FnScope Ntimes ["signs", "tables", "state", "word", "times"] (defScope s__law_times) := ⟨rfl, rfl, rfl, by decide +kernel, rfl, by decide +kernel, by decide +kernel⟩
def teLead (P : Program) (w : World) (K : PySem.W.Frag) : TE := tTup (tCons (tOp (rIxT K) (tOp (rIxL K) (tVar 5) (tVar 9)) (tC (.int 0))) (tCons (tCB (rSortT P w) (tCons (tCB (rSetT P w K) (tCons (tOp rCat (tVar 10) (tOp (rIxT K) (tOp (rIxL K) (tVar 5) (tVar 9)) (tC (.int 1)))) tNil)) tNil)) tNil))
theorem ok_times (T : TxtSt K mg fs ft fd ds dt dd) : FnOk P w K mg base CX0 2 ft dt ["signs", "tables", "state", "word", "times"] spTimes := by
  have sc := sc_times
  have G_step : FnOk P w K mg base CX0 1 fs ds ["signs", "tables", "state", "word"] spStep := ok_step T
  refine T.D__law_times.F.ok sc (fun vs H Q E h => ?_) (fun cdv A1 outer s0 H vs Q E hr h => ?_)
  · obtain ⟨_, _, _, _, _, _, _, _, _, _, _, rfl, _⟩ := h; rfl
  · obtain ⟨t, r, e, s, n, y, sg, rv, ev, R, Es, rfl, ht, F, g16, k10, hs, yl, inn, n100, k⟩ := h
    refine ⟨_, (pss_cons (ps_set (i := 5) sc.nd rfl (Or.inr rfl) (pe_lc (own := [("one", 8)]) (g := gName 8) (tt := tYes) (te := tCall spStep [] E0 (tCons (tVar 0) (tCons (tVar 1) (tCons (tVar 8) (tCons (tVar 3) tNil))))) rfl sc.nd (pi_range1 rfl T.n_range (pa_cons (pe_callB call_len (by rfl) T.n_len (by decide +kernel) (pa_cons (pe_ix ix_tup (pv 1) pe_int (fun _ _ => rfl)) pa_nil)) pa_nil)) (blkOk_by (N := Ntimes) (sc := defScope s__law_times) (own := [("one", 8)]) (by decide +kernel)) (fun _ _ _ _ _ => (pg_name (i := 8) sc.nd rfl (Or.inl rfl))) (fun _ _ _ _ _ => pts_nil)
        (fun _ _ _ _ _ => pe_call G_step (hr.mono (by decide)) rfl T.D__law_step.g T.D__law_step.F.kp T.D__law_step.b .nil pass0 (pa_cons (pv 0) (pa_cons (pv 1) (pa_cons (pv 8) (pa_cons (pv 3) pa_nil)))))))
      (pss_cons (ps_par (i := 6) (j := 7) rfl sc.nd rfl rfl (by decide) rfl rfl (pa_cons (pe_lst pa_nil) (pa_cons (pv 4) pa_nil)) rfl)
      (pss_cons (ps_while PassesOwn.never (pt_cmpR op_gt (pv 7) pe_int (nomark _))
        (C8.pss_cut (ps_if (pt_cmpR op_eq (pe_op op_mod (pe_callTy call_int1 (by rfl) T.n_int (by decide +kernel) (pa_cons (pv 7) pa_nil)) pe_int) pe_int (nomark _))
          (pss_cons (ps_set (i := 6) sc.nd rfl (Or.inl rfl) (pe_op op_cat (pv 6) (pe_ix ix_tup (pe_ix ix_list (pv 5) (pv 2) (fun _ _ => rfl)) pe_int (fun _ _ => rfl))))
          (pss_one (ps_set (i := 2) sc.nd rfl (Or.inl rfl) (pe_ix ix_tup (pe_ix ix_list (pv 5) (pv 2) (fun _ _ => rfl)) pe_int (fun _ _ => rfl)))))
          pss_nil)
        (pss_cons (ps_set (i := 5) sc.nd rfl (Or.inr rfl) (pe_lc (own := [("goal", 9), ("keys", 10)]) (g := gTup K 2 (gCons (gName 9) (gCons (gName 10) gNil))) (tt := tYes) (te := teLead P w K) rfl sc.nd (pi_list (pv 5)) (blkOk_by (N := Ntimes) (sc := defScope s__law_times) (own := [("goal", 9), ("keys", 10)]) (by decide +kernel))
          (fun _ _ _ _ _ => (pg_tup rfl (pgs_cons (pg_name (i := 9) sc.nd rfl (Or.inl rfl)) (pgs_cons (pg_name (i := 10) sc.nd rfl (Or.inl rfl)) pgs_nil)))) (fun _ _ _ _ _ => pts_nil)
          (fun _ _ _ _ _ => pe_tup (pa_cons (pe_ix ix_tup (pe_ix ix_list (pv 5) (pv 9) (fun _ _ => rfl)) pe_int (fun _ _ => rfl)) (pa_cons (pe_callB (cr_sortT rfl) (by rfl) T.n_sorted (by decide +kernel) (pa_cons (pe_callTy (cr_setT rfl) (by rfl) T.n_set (by decide +kernel) (pa_cons (pe_op op_cat (pv 10) (pe_ix ix_tup (pe_ix ix_list (pv 5) (pv 9) (fun _ _ => rfl)) pe_int (fun _ _ => rfl))) pa_nil)) pa_nil)) pa_nil)))))
        (pss_one (ps_set (i := 7) sc.nd rfl (Or.inl rfl) (pe_op op_fdiv (pv 7) pe_int))))))
      (pss_one (ps_ret (pe_tup (pa_cons (pv 2) (pa_cons (pv 6) pa_nil)))))))), ?_⟩
    have rl : rv.length = R.length := Paired.length ht.pr
    have at0r : atI ([.ref r, .ref e] : List V) 0 = some (.ref r) := atI_nat (j := 0) rfl
    have bnd : ∀ (s m : Nat), s < R.length → goN (stN sg R y.cps.toList) s m < R.length := fun s m h => by
      induction m with
      | zero => exact h
      | succ m ih => exact (F.F.run ih y.cps.toList).1
    have low : ∀ (s m : Nat), s < R.length → ∀ z, giv (stN sg R y.cps.toList) (kyN sg R y.cps.toList) s m z → z ∈ keysOfRows R := fun s m h z ⟨a, _, ha⟩ => (F.F.run (bnd s a h) y.cps.toList).2 z ha
    generalize hf : stN sg R y.cps.toList = f at bnd low k
    generalize hk : kyN sg R y.cps.toList = ky at low k
    have few : ∀ (s m : Nat) (l : List Str), s < R.length → (∀ z, z ∈ l ↔ giv f ky s m z) → (kl l).length ≤ 10 := fun s m l h hl =>
      Nat.le_trans (nd_sub_len (kl_nodup _) fun x hx => kl_mem.mpr (low s m h x ((hl x).mp (kl_mem.mp hx)))) k10
    refine ⟨_, rfl, t, _, _, _, rfl, rfl, SqT.of ht.t, at0r, .ref r, rv.length, rfl, .inl ⟨_, SqL.of ht.r, rfl⟩, _, rfl, by omega, by omega, fun D hD => ?_⟩
    rw [Int.toNat_natCast]
    have putD : ∀ {H' : Hp} {o : HO}, Same H H' → Same H (upd H' D o) := fun {H' o} s1 b u z => by rw [upd_ne (ne_of_none z hD)]; exact s1 b u z
    refine lcs_it [some (.str sg), some (.ref t), some (.int s), some (.str y), some (.int n), none, none, none, none, none, none] rfl walk_range (fun i H' => Same H H' ∧ ∃ lv, H' D = some (.lst lv) ∧ lv.length = i ∧ Paired (LdE D f ky 1 H') lv (List.range i))
      ⟨Same.upd hD, [], upd_same, rfl, .nil⟩ (fun _ _ _ _ => trivial) ?_ ?_
    · rintro i x _ H2 hi ⟨s2, lv, hlv, ll, pl⟩ ⟨rfl, ex⟩
      subst ex
      refine ⟨rfl, _, rfl, _, rfl, _, rfl, _, rfl, t, r, e, i, y, sg, rv, ev, R, Es, by show [V.str sg, V.ref t, V.int (0 + (i : Int)), V.str y] = _; rw [Int.zero_add], ht.keep s2, F, by omega, by omega, inn, fun p g l H3 s3 np ng h1 h2 m2 l2 => ?_⟩
      refine ⟨lv, s3 _ _ hlv, by rw [ll, sizeLine_eq]; omega, putD (fun b o z => s3 _ _ (s2 _ _ z)), _, upd_same, by rw [List.length_append, ll]; rfl, ?_⟩
      have npD : p ≠ D := ne_of_none' hlv np
      have ngD : g ≠ D := ne_of_none' hlv ng
      have e1 : (runW sg R i y.cps.toList).1 = goN f i 1 := congrFun hf _
      have e2 : (runW sg R i y.cps.toList).2 = ky i := congrFun hk _
      rw [e1] at h1
      rw [e2] at m2
      exact leads_snoc (fun b o nb z => by rw [upd_ne nb]; exact s3 _ _ z) pl npD ngD (by rw [upd_ne npD]; exact h1) (by rw [upd_ne ngD]; exact h2) (fun z => by rw [m2, giv_one]) (by omega)
    rintro H1 ⟨s1, lv, hlv, ll, pl⟩
    rw [rl] at ll pl
    refine ⟨by decide, fun g0 hg0 => ⟨_, rfl, _, _, rfl, ?_⟩⟩
    have w0 : Leads f ky 1 R.length (upd H1 g0 (.lst [])) D := Leads.keep (Same.upd hg0) ⟨lv, hlv, pl⟩
    refine ⟨fun q σ H' => ∃ (j : Nat) (g D : Addr) (l : List Str), q = n / 2 ^ j ∧ σ = [some (.str sg), some (.ref t), some (.int (goN f s (n % 2 ^ j) : Nat)), some (.str y), some (.int n), some (.ref D), some (.ref g), some (.int (n / 2 ^ j : Nat)), none, none, none] ∧ j ≤ 100 ∧ Same H H' ∧ Leads f ky (2 ^ j) R.length H' D ∧ H' g = some (.lst (l.map V.str)) ∧ (∀ z, z ∈ l ↔ giv f ky s (n % 2 ^ j) z) ∧ l.length ≤ 10 * j,
      ⟨n, 0, g0, D, [], by rw [Nat.pow_zero, Nat.div_one], by rw [Nat.pow_zero, Nat.div_one, Nat.mod_one]; rfl, by omega, fun b o z => Same.upd hg0 _ _ (s1 _ _ z), w0, upd_same, fun z => by rw [Nat.pow_zero, Nat.mod_one]; exact ⟨fun y => absurd y List.not_mem_nil, fun y => absurd y (giv_zero _ _ _ _)⟩, Nat.zero_le _⟩, ?_⟩
    clear hg0 w0 pl hlv ll s1 hD putD
    rintro q σ H2 ⟨j, g, D, l, rfl, rfl, j100, s2, hL, hg, mem, ll⟩
    refine ⟨_, rfl, _, _, rfl, rfl, _, rfl, ?_⟩
    by_cases c : 0 < n / 2 ^ j
    · rw [decide_eq_true (by omega : ((n / 2 ^ j : Nat) : Int) > 0)]
      have jl : j < 100 := by
        have h1 : 2 ^ j ≤ n := by
          rcases Nat.lt_or_ge n (2 ^ j) with h | h
          · rw [Nat.div_eq_of_lt h] at c
            omega
          · exact h
        exact (Nat.pow_lt_pow_iff_right (by omega : 1 < 2)).mp (Nat.lt_of_le_of_lt h1 n100)
      have half : n / 2 ^ j / 2 = n / 2 ^ (j + 1) := by rw [Nat.div_div_eq_div_mul, Nat.pow_succ]
      refine ⟨fun σ H' => ∃ (g D : Addr) (l : List Str), σ = [some (.str sg), some (.ref t), some (.int (goN f s (n % 2 ^ (j + 1)) : Nat)), some (.str y), some (.int n), some (.ref D), some (.ref g), some (.int (n / 2 ^ (j + 1) : Nat)), none, none, none] ∧ Same H H' ∧ Leads f ky (2 ^ (j + 1)) R.length H' D ∧ H' g = some (.lst (l.map V.str)) ∧ (∀ z, z ∈ l ↔ giv f ky s (n % 2 ^ (j + 1)) z) ∧ l.length ≤ 10 * (j + 1),
        fun σ' H' ⟨g, D, l, z1, z2⟩ => ⟨n / 2 ^ (j + 1), by rw [← half]; omega, j + 1, g, D, l, rfl, z1, by omega, z2⟩, ?_⟩
      -- the lowest digit
      refine ⟨fun σ' H' => ∃ (g : Addr) (l : List Str), σ' = [some (.str sg), some (.ref t), some (.int (goN f s (n % 2 ^ (j + 1)) : Nat)), some (.str y), some (.int n), some (.ref D), some (.ref g), some (.int (n / 2 ^ j : Nat)), none, none, none] ∧ Same H H' ∧ Leads f ky (2 ^ j) R.length H' D ∧ H' g = some (.lst (l.map V.str)) ∧ (∀ z, z ∈ l ↔ giv f ky s (n % 2 ^ (j + 1)) z) ∧ l.length ≤ 10 * (j + 1), ?_, ?_⟩
      · refine ⟨_, rfl, .inl ⟨_, rfl, _, _, rfl, rfl, (show (0 : Int) < 2 by decide), rfl, _, rfl, ?_⟩⟩
        have bn := bit_next n j
        by_cases c1 : n / 2 ^ j % 2 = 1
        · have c1' : ((n / 2 ^ j : Nat) : Int) % 2 = 1 := by omega
          rw [c1, Nat.mul_one] at bn
          rw [decide_eq_true (show V.int (((n / 2 ^ j : Nat) : Int) % 2) = V.int 1 by rw [c1'])]
          refine iteT ?_
          obtain ⟨lv, hlv, pl⟩ := id hL
          have st1 := bnd s (n % 2 ^ j) hs
          obtain ⟨a, gk, l2, hx, ha, hgk, m2, ll2⟩ := leads_at pl st1
          have at1 : atI ([.int (goN f (goN f s (n % 2 ^ j)) (2 ^ j) : Nat), .ref gk] : List V) 1 = some (.ref gk) := atI_nat (j := 1) rfl
          have at0 : atI ([.int (goN f (goN f s (n % 2 ^ j)) (2 ^ j) : Nat), .ref gk] : List V) 0 = some (.int (goN f (goN f s (n % 2 ^ j)) (2 ^ j) : Nat)) := atI_nat (j := 0) rfl
          refine ⟨_, rfl, _, rfl, _, rfl, D, lv, _, _, rfl, rfl, SqL.of hlv, atI_nat hx, a, _, _, _, rfl, rfl, SqT.of ha, at1, g, gk, _, _, rfl, rfl, hg, hgk, ?_, fun p3 hp3 => ?_⟩
          · rw [List.length_map, List.length_map, sizeLine_eq]
            omega
          refine ⟨_, rfl, _, rfl, D, lv, _, _, rfl, rfl, SqL.of (Same.upd hp3 _ _ hlv), atI_nat hx, a, _, _, _, rfl, rfl, SqT.of (Same.upd hp3 _ _ ha), at0, ?_⟩
          refine ⟨p3, l ++ l2, by rw [bn, goN_add]; rfl, fun b o z => Same.upd hp3 _ _ (s2 _ _ z), hL.keep (Same.upd hp3), by rw [upd_same, List.map_append], fun z => ?_, by rw [List.length_append]; omega⟩
          rw [List.mem_append, bn, giv_add, mem, m2]
        · have c0 : n / 2 ^ j % 2 = 0 := by omega
          have c1' : ¬ ((n / 2 ^ j : Nat) : Int) % 2 = 1 := by omega
          have bn0 : n % 2 ^ (j + 1) = n % 2 ^ j := by rw [bn, c0, Nat.mul_zero]; rfl
          rw [decide_eq_false (show ¬ V.int (((n / 2 ^ j : Nat) : Int) % 2) = V.int 1 from fun z => c1' (V.int.inj z))]
          refine iteF ?_
          exact ⟨g, l, by rw [bn0], s2, hL, hg, fun z => by rw [bn0]; exact mem z, by omega⟩
      · clear hL hg mem ll s2
        rintro σ' H3 ⟨g, l, rfl, s3, hL, hg, mem, ll⟩
        obtain ⟨lv, hlv, pl⟩ := id hL
        have llv : lv.length = R.length := by
          have := Paired.length pl
          rw [List.length_range] at this
          exact this
        refine ⟨_, rfl, D, rfl, ⟨_, SqL.of hlv⟩, fun D2 hD2 => ?_⟩
        have dbl : 2 ^ j + 2 ^ j = 2 ^ (j + 1) := by rw [Nat.pow_succ]; omega
        refine lcs_it [some (.str sg), some (.ref t), some (.int (goN f s (n % 2 ^ (j + 1)) : Nat)), some (.str y), some (.int n), some (.ref D), some (.ref g), some (.int (n / 2 ^ j : Nat)), none, none, none] rfl walk_list (fun i H' => Same H3 H' ∧ ∃ lv2, H' D2 = some (.lst lv2) ∧ lv2.length = i ∧ Paired (LdE D2 f ky (2 ^ (j + 1)) H') lv2 (List.range i))
          ⟨Same.upd hD2, [], upd_same, rfl, .nil⟩ (fun i H' _ z => SqL.of (z.1 _ _ hlv)) ?_ ?_
        · rintro i x _ H4 hi ⟨s4, lv2, hlv2, ll2, pl2⟩ ⟨rfl, hx⟩
          have im : i < R.length := by omega
          obtain ⟨a, gk, l1, hx1, ha, hgk, m1, len1⟩ := leads_at pl im
          rw [hx1] at hx
          cases hx
          have i2 := bnd i (2 ^ j) im
          obtain ⟨a2, gk2, l2, hx2, ha2, hgk2, m2, len2⟩ := leads_at pl i2
          have at1 : atI ([.int (goN f (goN f i (2 ^ j)) (2 ^ j) : Nat), .ref gk2] : List V) 1 = some (.ref gk2) := atI_nat (j := 1) rfl
          have at0 : atI ([.int (goN f (goN f i (2 ^ j)) (2 ^ j) : Nat), .ref gk2] : List V) 0 = some (.int (goN f (goN f i (2 ^ j)) (2 ^ j) : Nat)) := atI_nat (j := 0) rfl
          refine ⟨a, _, rfl, SqT.of (s4 _ _ ha), rfl, _, _, rfl, _, _, rfl, rfl, rfl, ?_⟩
          refine ⟨_, rfl, _, rfl, D, lv, _, _, rfl, rfl, SqL.of (s4 _ _ hlv), atI_nat hx2, a2, _, _, _, rfl, rfl, SqT.of (s4 _ _ ha2), at0, ?_⟩
          refine ⟨_, rfl, _, rfl, _, rfl, D, lv, _, _, rfl, rfl, SqL.of (s4 _ _ hlv), atI_nat hx2, a2, _, _, _, rfl, rfl, SqT.of (s4 _ _ ha2), at1, gk, gk2, _, _, rfl, rfl, s4 _ _ hgk, s4 _ _ hgk2, ?_, fun p3 hp3 => ?_⟩
          · rw [List.length_map, List.length_map, sizeLine_eq]
            omega
          have f3 : Same H4 (upd H4 p3 (.lst (l1.map V.str ++ l2.map V.str))) := Same.upd hp3
          have h3 : (upd H4 p3 (.lst (l1.map V.str ++ l2.map V.str))) p3 = some (.lst ((l1 ++ l2).map V.str)) := by rw [upd_same, List.map_append]
          generalize upd H4 p3 (.lst (l1.map V.str ++ l2.map V.str)) = H5 at f3 h3 ⊢
          refine ⟨.ref p3, _, rfl, .list (SqL.of h3), by rw [List.length_append]; have e : scanBound = 4096 := rfl; omega, fun p4 l4 hp4 nd4 hm4 hl4 => ?_⟩
          refine ⟨p4, l4, rfl, upd_same, by rw [List.length_append] at hl4; have e : scanBound = 4096 := rfl; omega, fun p5 ys hp5 pm5 hs5 => ?_⟩
          rw [kl_of pm5 hs5 nd4 hm4] at *
          refine ⟨by show 2 ≤ sizeLine; decide, fun p6 hp6 => ?_⟩
          have mm : ∀ z, z ∈ l1 ++ l2 ↔ giv f ky i (2 ^ (j + 1)) z := fun z => by rw [List.mem_append, m1, m2, ← dbl, giv_add]
          have s5 : Same H4 (upd H5 p4 (SetT P w p4 l4)) := fun b o z => Same.upd hp4 _ _ (f3 _ _ z)
          have h5 : (upd (upd H5 p4 (SetT P w p4 l4)) p5 (.lst ((kl (l1 ++ l2)).map V.str))) p5 = some (.lst ((kl (l1 ++ l2)).map V.str)) := upd_same
          have s6 : Same H4 (upd (upd H5 p4 (SetT P w p4 l4)) p5 (.lst ((kl (l1 ++ l2)).map V.str))) := fun b o z => Same.upd hp5 _ _ (s5 _ _ z)
          have np5 : p5 ≠ D2 := ne_of_none' (s5 _ _ hlv2) hp5
          generalize upd (upd H5 p4 (SetT P w p4 l4)) p5 (.lst ((kl (l1 ++ l2)).map V.str)) = H6 at s6 h5 hp6 ⊢
          have np6 : p6 ≠ D2 := ne_of_none' (s6 _ _ hlv2) hp6
          have s7 := fun b o (z : H4 b = some o) => Same.upd (o := .tup [.int (goN f (goN f i (2 ^ j)) (2 ^ j) : Nat), .ref p5]) hp6 _ _ (s6 _ _ z)
          refine ⟨lv2, s7 _ _ hlv2, by rw [ll2, sizeLine_eq]; omega, fun b u z => ?_, _, upd_same, by rw [List.length_append, ll2]; rfl, ?_⟩
          · rw [upd_ne (ne_of_none z hD2)]
            exact s7 _ _ (s4 _ _ z)
          · refine leads_snoc (fun b o nb z => by rw [upd_ne nb]; exact s7 _ _ z) pl2 np6 np5 (by rw [upd_ne np6, upd_same, ← goN_add, dbl]) (by rw [upd_ne np5]; exact Same.upd hp6 _ _ h5) (fun z => by rw [kl_mem, mm]) (few i _ _ im mm)
        · rintro H4 ⟨s4, lv2, hlv2, ll2, pl2⟩
          rw [llv] at pl2
          refine ⟨_, rfl, _, _, rfl, rfl, ⟨by decide, by decide⟩, ?_⟩
          refine ⟨g, D2, l, ?_, fun b o z => s4 _ _ (s3 _ _ z), ⟨lv2, hlv2, pl2⟩, s4 _ _ hg, mem, ll⟩
          have e2 : ((n / 2 ^ j : Nat) : Int) / 2 = ((n / 2 ^ (j + 1) : Nat) : Int) := by rw [← half]; omega
          show ([some (V.str sg), some (V.ref t), some (V.int (goN f s (n % 2 ^ (j + 1)) : Nat)), some (V.str y), some (V.int n), some (V.ref D2), some (V.ref g), some (V.int (((n / 2 ^ j : Nat) : Int) / 2)), none, none, none] : L2.St) = _
          rw [e2]
    · rw [decide_eq_false (fun z => c (Int.ofNat_lt.mp z) : ¬ ((n / 2 ^ j : Nat) : Int) > 0)]
      have z0 : n / 2 ^ j = 0 := Nat.le_zero.mp (Nat.not_lt.mp c)
      have lt : n < 2 ^ j := by
        rcases Nat.lt_or_ge n (2 ^ j) with h | h
        · exact h
        · have := Nat.div_pos h (Nat.pow_pos (by omega : 0 < 2))
          omega
      rw [Nat.mod_eq_of_lt lt] at *
      refine ⟨_, rfl, _, rfl, by show 2 ≤ sizeLine; decide, fun p7 hp7 => ?_⟩
      exact k p7 g l _ (fun b o z => Same.upd hp7 _ _ (s2 _ _ z)) upd_same (Same.upd hp7 _ _ hg) mem (by omega)
end
end Kx

namespace Kx
open PySem L2 Own
abbrev s__law_text : Stmt := top 39
structure TxtTx (K : PySem.W.Frag) (mg : Str → Option Value) (f1 f2 f3 f : Addr) (d1 d2 d3 d : FuncData) : Prop where
  pen : TxtP K mg f1 f2 f3 d1 d2 d3
  D__law_text : DefT K mg "_law_text" "_law_text" s__law_text ["pen", "signs", "most"] f d
  n_range : mg "range" = none
section
variable {P : Program} {w : World} {K : PySem.W.Frag} {mg : Str → Option Value} {base : Heap} {f1 f2 f3 f : Addr} {d1 d2 d3 d : FuncData}
/-- items[..] of a text -/
def spPickS : Sp := fun vs H Q _ => ∃ (p c : Addr) (z : Str) (n : Nat), vs = [.ref p, .str z] ∧ PenAt H p c n ∧ n ≤ 1000000 ∧ 0 < z.cps.size ∧ z.cps.size ≤ 1000000 ∧
  ∀ (x i : Nat) H', z.cps[i]? = some x → PenAt H' p c (n + 1) → SameBut p H H' → Q (.str (Froz.sing x)) H'
theorem ok_pickS (T : TxtP K mg f1 f2 f3 d1 d2 d3) : FnOk P w K mg base CX0 2 f3 d3 ["pen", "items"] spPickS := by
  have sc := sc_pick
  have G_draw : FnOk P w K mg base CX0 1 f2 d2 ["pen", "many"] spDraw := ok_draw T
  refine T.D__law_pick.F.ok sc (fun vs H Q E h => ?_) (fun cdv A outer s H vs Q E hr h => ?_)
  · obtain ⟨_, _, _, _, rfl, _⟩ := h; rfl
  · obtain ⟨p, c, z, n, rfl, hp, hn, z0, z1, k⟩ := h
    refine ⟨_, (pss_one (ps_ret (pe_ix ix_str (pv 1) (pe_call G_draw (hr.mono (by decide)) rfl T.D__law_draw.g T.D__law_draw.F.kp T.D__law_draw.b .nil pass0 (pa_cons (pv 0) (pa_cons (pe_callB call_len (by rfl) T.n_len (by decide +kernel) (pa_cons (pv 1) pa_nil)) pa_nil))) (fun _ _ => rfl)))), ?_⟩
    have zl : z.length = z.cps.size := rfl
    refine ⟨_, rfl, _, rfl, _, rfl, .str z, z.length, rfl, ⟨by rw [sizeLine_eq]; omega, rfl⟩, p, c, _, n, rfl, hp, hn, by omega, by omega, fun r H' r0 r1 hp' sb => ?_⟩
    obtain ⟨r, rfl⟩ := Int.eq_ofNat_of_zero_le r0
    have hl : r < z.cps.toList.length := by rw [Array.length_toList]; omega
    have hx : z.cps.toList[r]? = some z.cps.toList[r] := List.getElem?_eq_getElem hl
    refine ⟨z, _, _, rfl, rfl, by rw [sizeLine_eq]; omega, atI_nat hx, k _ r H' ?_ hp' sb⟩
    rw [← Array.getElem?_toList]
    exact hx
theorem join_sings (cs : List Nat) : (Txt.join "" (cs.map Froz.sing)).cps.toList = cs := by
  have h : ∀ cs : List Nat, TL.joinL [] ((cs.map Froz.sing).map TL.tl) = cs := by
    intro cs
    induction cs with
    | nil => rfl
    | cons a r ih =>
      cases r with
      | nil => rfl
      | cons b r =>
        show [a] ++ ([] ++ TL.joinL [] ((((b :: r).map Froz.sing)).map TL.tl)) = _
        rw [ih]
        rfl
  have e := TL.tl_join "" (cs.map Froz.sing)
  rw [← TL.join_eq] at e
  exact e.trans (h cs)
/-- a text of up to so many signs -/
def spText : Sp := fun vs H Q _ => ∃ (p c : Addr) (z : Str) (most n : Nat), vs = [.ref p, .str z, .int most] ∧ PenAt H p c n ∧ most ≤ 1000 ∧ n + most + 1 ≤ 1000000 ∧ 0 < z.cps.size ∧ z.cps.size ≤ 1000 ∧
  ∀ (y : Str) H', y.cps.size ≤ most → (∀ c ∈ y.cps.toList, c ∈ z.cps.toList) → PenAt H' p c (n + most + 1) → SameBut p H H' → Q (.str y) H'
abbrev Ntext : List Str := ["pen", "signs", "most", "k"]
theorem sc_text : FnScope Ntext ["pen", "signs", "most"] (defScope s__law_text) := ⟨rfl, rfl, rfl, by decide +kernel, rfl, by decide +kernel, by decide +kernel⟩
theorem ok_text (T : TxtTx K mg f1 f2 f3 f d1 d2 d3 d) : FnOk P w K mg base CX0 3 f d ["pen", "signs", "most"] spText := by
  have sc := sc_text
  have G_draw : FnOk P w K mg base CX0 1 f2 d2 ["pen", "many"] spDraw := ok_draw T.pen
  have G_pick : FnOk P w K mg base CX0 2 f3 d3 ["pen", "items"] spPickS := ok_pickS T.pen
  refine T.D__law_text.F.ok sc (fun vs H Q E h => ?_) (fun cdv A1 outer s H vs Q E hr h => ?_)
  · obtain ⟨_, _, _, _, _, rfl, _⟩ := h; rfl
  · obtain ⟨p, c, z, most, n, rfl, hp, hm, hn, z0, z1, k⟩ := h
    refine ⟨_, (pss_one (ps_ret (pe_join pe_str (pe_lc (own := [("k", 3)]) (g := gName 3) (tt := tYes) (te := tCall spPickS [] E0 (tCons (tVar 0) (tCons (tVar 1) tNil))) rfl sc.nd (pi_range1 rfl T.n_range (pa_cons (pe_call G_draw (hr.mono (by decide)) rfl T.pen.D__law_draw.g T.pen.D__law_draw.F.kp T.pen.D__law_draw.b .nil pass0 (pa_cons (pv 0) (pa_cons (pe_op op_add (pv 2) pe_int) pa_nil))) pa_nil)) (blkOk_by (N := Ntext) (sc := defScope s__law_text) (own := [("k", 3)]) (by decide +kernel)) (fun _ _ _ _ _ => (pg_name (i := 3) sc.nd rfl (Or.inl rfl))) (fun _ _ _ _ _ => pts_nil)
      (fun _ _ _ _ _ => pe_call G_pick (hr.mono (by decide)) rfl T.pen.D__law_pick.g T.pen.D__law_pick.F.kp T.pen.D__law_pick.b .nil pass0 (pa_cons (pv 0) (pa_cons (pv 1) pa_nil))))))), ?_⟩
    refine ⟨⟨_, rfl⟩, _, rfl, _, rfl, _, _, rfl, rfl, p, c, _, n, rfl, hp, by omega, by omega, by omega, fun r H1 r0 r1 hp1 sb1 => ?_⟩
    obtain ⟨r, rfl⟩ := Int.eq_ofNat_of_zero_le r0
    refine ⟨_, rfl, by omega, by omega, fun D hD => ?_⟩
    rw [Int.toNat_natCast]
    have npD : D ≠ p ∧ D ≠ c := hp1.apart hD
    refine lcs_it [some (.ref p), some (.str z), some (.int (most : Nat)), none] rfl walk_range (fun i H' => PenAt H' p c (n + 1 + i) ∧ SameBut p H H' ∧ ∃ cs : List Nat, H' D = some (.lst ((cs.map Froz.sing).map V.str)) ∧ cs.length = i ∧ ∀ x ∈ cs, x ∈ z.cps.toList)
      ⟨hp1.keep (Same.upd hD), sb1.trans (.new hD), [], upd_same, rfl, fun _ z => nomatch z⟩ (fun _ _ _ _ => trivial) ?_ ?_
    · rintro i x _ H2 hi ⟨hp2, sb2, cs, hcs, lc, mc⟩ ⟨rfl, ex⟩
      refine ⟨rfl, _, rfl, _, rfl, p, c, z, n + 1 + i, rfl, hp2, by omega, z0, by omega, fun c1 j H3 hc1 hp3 sb3 => ?_⟩
      have h3 : H3 D = some (.lst ((cs.map Froz.sing).map V.str)) := sb3 _ _ hcs (hp2.ne hcs)
      refine ⟨_, h3, by rw [List.length_map, List.length_map, lc, sizeLine_eq]; omega, hp3.put npD.1 npD.2, fun b o e nb => ?_, cs ++ [c1], by rw [upd_same, List.map_append, List.map_append]; rfl, by rw [List.length_append, lc]; rfl, fun x hx => ?_⟩
      · have hH : H D = none := none_back sb1 hp1 hD
        rw [upd_ne (ne_of_none e hH)]
        exact sb3 b o (sb2 b o e nb) nb
      · rcases List.mem_append.mp hx with hx | hx
        · exact mc x hx
        · rw [List.mem_singleton.mp hx]
          exact List.mem_of_getElem? (by rw [Array.getElem?_toList]; exact hc1)
    rintro H2 ⟨hp2, sb2, cs, hcs, lc, mc⟩
    have zl : ∀ cs : List Nat, ((cs.map Froz.sing).map (·.length)).sum = cs.length := fun cs => by
      induction cs with
      | nil => rfl
      | cons a r ih =>
        rw [List.map_cons, List.map_cons, List.sum_cons, ih, List.length_cons]
        show 1 + r.length = r.length + 1
        omega
    refine ⟨"", D, cs.map Froz.sing, rfl, rfl, .inl (SqL.of hcs), ?_, ?_⟩
    · rw [zl, lc, List.length_map, lc]
      show r + r * 0 ≤ _
      omega
    · have e := join_sings cs
      refine k _ H2 ?_ (fun x hx => mc x (by rw [e] at hx; exact hx)) (hp2.mono (by omega)) sb2
      rw [← Array.length_toList, e, lc]
      omega
end
end Kx

namespace Kx
open PySem L2 Own
abbrev s__law_big : Stmt := top 43
structure TxtB (K : PySem.W.Frag) (mg : Str → Option Value) (f1 f2 f3 f : Addr) (d1 d2 d3 d : FuncData) : Prop where
  pen : TxtP K mg f1 f2 f3 d1 d2 d3
  D__law_big : DefT K mg "_law_big" "_law_big" s__law_big ["pen"] f d
  n_range : mg "range" = none
section
variable {P : Program} {w : World} {K : PySem.W.Frag} {mg : Str → Option Value} {base : Heap} {fs ft fd f1 f2 f3 f : Addr} {ds dt dd d1 d2 d3 d : FuncData}
/-- the blocks that the law draws -/
structure Blks (sg : Str) (bs : List (Str × Nat)) : Prop where
  inn : ∀ b ∈ bs, ∀ c ∈ b.1.cps.toList, c ∈ sg.cps.toList
  five : ∀ b ∈ bs, b.1.cps.size ≤ 5
  big : ∀ b ∈ bs, b.2 < 2 ^ 100
  four : bs.length ≤ 4
/-- _law_due(signs, tables, blocks) -/
def spDue : Sp := fun vs H Q _ => ∃ (t r e q : Addr) (bv : List V) (bs : List (Str × Nat)) (sg : Str) (rv ev : List V) (R : List (List Way)) (Es : List (List Str)), vs = [.str sg, .ref t, .ref q] ∧ Tbl H t r e rv ev R Es ∧
  Rd2 sg R Es ∧ R.length ≤ 16 ∧ (kl (keysOfRows R)).length ≤ 10 ∧ H q = some (.lst bv) ∧ Paired (BlkE H) bv bs ∧ Blks sg bs ∧ ∀ (p : Addr) (ks : List Str) H', Same H H' → H' p = some (.tup (ks.map V.str)) → FarK sg R Es bs ks → Q (.ref p) H'
theorem sc_due : FnScope ["signs", "tables", "blocks", "state", "found", "word", "times", "given"] ["signs", "tables", "blocks"] (defScope s__law_due) := ⟨rfl, rfl, rfl, by decide +kernel, rfl, by decide +kernel, by decide +kernel⟩
theorem ok_due (T : TxtSt K mg fs ft fd ds dt dd) : FnOk P w K mg base CX0 3 fd dd ["signs", "tables", "blocks"] spDue := by
  have sc := sc_due
  have G_times : FnOk P w K mg base CX0 2 ft dt ["signs", "tables", "state", "word", "times"] spTimes := ok_times T
  refine T.D__law_due.F.ok sc (fun vs H Q E h => ?_) (fun cdv A1 outer s0 H vs Q E hr h => ?_)
  · obtain ⟨_, _, _, _, _, _, _, _, _, _, _, rfl, _⟩ := h; rfl
  · obtain ⟨t, r, e, q, bv, bs, sg, rv, ev, R, Es, rfl, ht, F, g16, k10, hq, pb, B, k⟩ := h
    refine ⟨_, (pss_cons (ps_par (i := 3) (j := 4) rfl sc.nd rfl rfl (by decide) rfl rfl (pa_cons pe_int (pa_cons (pe_lst pa_nil) pa_nil)) rfl)
      (pss_cons (ps_for PassesOwn.never rfl (pi_list (pv 2)) (pg_tup rfl (pgs_cons (pg_name (i := 5) sc.nd rfl (Or.inl rfl)) (pgs_cons (pg_name (i := 6) sc.nd rfl (Or.inl rfl)) pgs_nil)))
        (pss_cons (ps_asg (pe_call G_times (hr.mono (by decide)) rfl T.D__law_times.g T.D__law_times.F.kp T.D__law_times.b .nil pass0 (pa_cons (pv 0) (pa_cons (pv 1) (pa_cons (pv 3) (pa_cons (pv 5) (pa_cons (pv 6) pa_nil)))))) (pg_tup rfl (pgs_cons (pg_name (i := 3) sc.nd rfl (Or.inl rfl)) (pgs_cons (pg_name (i := 7) sc.nd rfl (Or.inl rfl)) pgs_nil))))
        (pss_one (ps_set (i := 4) sc.nd rfl (Or.inl rfl) (pe_op op_cat (pv 4) (pv 7))))))
      (pss_one (ps_ret (pe_tupleOf rfl T.n_tuple (pe_callB (cr_sortT rfl) (by rfl) T.n_sorted (by decide +kernel) (pa_cons (pe_callTy (cr_setT rfl) (by rfl) T.n_set (by decide +kernel) (pa_cons (pe_op op_cat (pv 4) (pe_callTy call_list_of (by rfl) T.n_list (by decide +kernel) (pa_cons (pe_ix ix_list (pe_ix ix_tup (pv 1) pe_int (fun _ _ => rfl)) (pv 3) (fun _ _ => rfl)) pa_nil))) pa_nil)) pa_nil))))))), ?_⟩
    have lbv : bv.length = bs.length := Paired.length pb
    have b4 := B.four
    refine ⟨by decide, fun g0 hg0 => ⟨_, _, rfl, ?_⟩⟩
    refine ⟨_, rfl, q, rfl, ⟨_, SqL.of (Same.upd hg0 _ _ hq)⟩, ?_⟩
    refine for_it walk_list (fun i σ H' => (∃ g x5 x6 x7, σ = [some (.str sg), some (.ref t), some (.ref q), some (.int (farS sg R 0 (bs.take i) : Nat)), some (.ref g), x5, x6, x7] ∧ ∃ l : List Str, H' g = some (.lst (l.map V.str)) ∧ (∀ z, z ∈ l ↔ farG sg R 0 (bs.take i) z) ∧ l.length ≤ 1000 * i) ∧ Same H H')
      ⟨⟨g0, _, _, _, rfl, [], upd_same, fun z => ⟨fun y => absurd y List.not_mem_nil, fun y => y.elim⟩, Nat.zero_le _⟩, Same.upd hg0⟩ (fun i σ H' _ z => SqL.of (z.2 _ _ hq)) ?_ ?_
    · rintro i x σ _ H1 hi ⟨⟨g, x5, x6, x7, rfl, l, hg, mem, ll⟩, s1⟩ ⟨rfl, hx⟩
      obtain ⟨b, hb, a, rfl, ha⟩ := pat pb hx
      have bm := List.mem_of_getElem? hb
      have take1 : bs.take (i + 1) = bs.take i ++ [b] := by rw [List.take_add_one, hb]; rfl
      have st1 := farS_lt F.F (bs.take i) F.F.pos
      refine ⟨a, _, rfl, SqT.of (s1 _ _ ha), rfl, _, _, rfl, _, _, rfl, rfl, ?_⟩
      refine ⟨_, rfl, _, rfl, _, rfl, _, rfl, _, rfl, t, r, e, _, b.2, b.1, sg, rv, ev, R, Es, rfl, ht.keep s1, F, g16, k10, st1, B.five b bm, B.inn b bm, B.big b bm, fun p g2 l2 H2 s2 h1 h2 m2 len2 => ?_⟩
      refine ⟨p, _, rfl, SqT.of h1, rfl, _, _, rfl, _, _, rfl, rfl, ?_⟩
      refine ⟨_, rfl, _, rfl, g, g2, _, _, rfl, rfl, s2 _ _ hg, h2, ?_, fun p3 hp3 => ?_⟩
      · rw [List.length_map, List.length_map, sizeLine_eq]
        omega
      · refine ⟨⟨p3, _, _, _, by rw [take1, farS_snoc]; rfl, l ++ l2, by rw [upd_same, List.map_append], fun z => ?_, by rw [List.length_append]; omega⟩, fun b o z => Same.upd hp3 _ _ (s2 _ _ (s1 _ _ z))⟩
        rw [take1, farG_snoc, List.mem_append, mem, m2]
    · rintro σ H1 ⟨⟨g, x5, x6, x7, rfl, l, hg, mem, ll⟩, s1⟩
      have eT : bs.take bv.length = bs := List.take_of_length_le (by omega)
      rw [eT] at mem ⊢
      have st1 := farS_lt F.F bs F.F.pos
      have ee := F.F.ends
      have lev : ev.length = Es.length := Paired.length ht.pe
      have hev : ev[farS sg R 0 bs]? = some (ev[farS sg R 0 bs]'(by omega)) := List.getElem?_eq_getElem (by omega)
      obtain ⟨ks, hks, a, eka, ha⟩ := pat ht.pe hev
      rw [eka] at hev
      clear eka
      have ek : Es.getD (farS sg R 0 bs) [] = ks := by rw [List.getD_eq_getElem?_getD, hks]; rfl
      have k2 := F.two.2 ks (List.mem_of_getElem? hks)
      have at1 : atI ([.ref r, .ref e] : List V) 1 = some (.ref e) := atI_nat (j := 1) rfl
      refine ⟨_, rfl, _, rfl, t, _, _, _, rfl, rfl, SqT.of (s1 _ _ ht.t), at1, _, rfl, e, ev, _, _, rfl, rfl, SqL.of (s1 _ _ ht.e), atI_nat hev, a, _, rfl, .inl (SqL.of (s1 _ _ ha)), fun l1 hl1 => ⟨g, l1, _, _, rfl, rfl, Same.upd hl1 _ _ hg, upd_same, ?_, fun p3 hp3 => ?_⟩⟩
      · rw [List.length_map, List.length_map, sizeLine_eq]
        omega
      have h3 : (upd (upd H1 l1 (.lst (ks.map V.str))) p3 (.lst (l.map V.str ++ ks.map V.str))) p3 = some (.lst ((l ++ ks).map V.str)) := by
        rw [upd_same, ← List.map_append]
      have s3 : Same H (upd (upd H1 l1 (.lst (ks.map V.str))) p3 (.lst (l.map V.str ++ ks.map V.str))) := fun b o z => Same.upd hp3 _ _ (Same.upd hl1 _ _ (s1 _ _ z))
      generalize upd (upd H1 l1 (.lst (ks.map V.str))) p3 (.lst (l.map V.str ++ ks.map V.str)) = H3 at h3 s3 ⊢
      refine ⟨.ref p3, _, rfl, .list (SqL.of h3), by rw [List.length_append]; have e : scanBound = 4096 := rfl; omega, fun p4 l4 hp4 nd4 hm4 hl4 => ?_⟩
      refine ⟨p4, l4, rfl, upd_same, by rw [List.length_append] at hl4; have e : scanBound = 4096 := rfl; omega, fun p5 ys hp5 pm5 hs5 => ?_⟩
      refine .inl ⟨p5, _, rfl, SqL.of upd_same, fun p6 hp6 => ?_⟩
      rw [kl_of pm5 hs5 nd4 hm4] at *
      exact k p6 _ _ (fun b o z => Same.upd hp6 _ _ (Same.upd hp5 _ _ (Same.upd hp4 _ _ (s3 _ _ z)))) upd_same ⟨_, rfl, fun y => by rw [List.mem_append, mem, ek]⟩
/-! ### a large number -/
theorem big_of {a : Int} (h0 : 0 ≤ a) (h1 : a ≤ 10 ^ 30) : ∃ r : Nat, V.int a = V.int r ∧ r ≤ 10 ^ 30 := ⟨a.toNat, by rw [Int.toNat_of_nonneg h0], by omega⟩
def spBig : Sp := fun vs H Q _ => ∃ (p c : Addr) (n : Nat), vs = [.ref p] ∧ PenAt H p c n ∧ n + 7 ≤ 1000000 ∧ ∀ (r : Nat) H', r ≤ 10 ^ 30 → PenAt H' p c (n + 7) → SameBut p H H' → Q (.int r) H'
theorem sc_big : FnScope ["pen", "told", "digit"] ["pen"] (defScope s__law_big) := ⟨rfl, rfl, rfl, by decide +kernel, rfl, by decide +kernel, by decide +kernel⟩
theorem ok_big (T : TxtB K mg f1 f2 f3 f d1 d2 d3 d) : FnOk P w K mg base CX0 3 f d ["pen"] spBig := by
  have sc := sc_big
  have G_draw : FnOk P w K mg base CX0 1 f2 d2 ["pen", "many"] spDraw := ok_draw T.pen
  have G_pick : FnOk P w K mg base CX0 2 f3 d3 ["pen", "items"] spPick := ok_pick T.pen
  refine T.D__law_big.F.ok sc (fun vs H Q E h => ?_) (fun cdv A1 outer s0 H vs Q E hr h => ?_)
  · obtain ⟨_, _, _, rfl, _⟩ := h; rfl
  · obtain ⟨p, c, n, rfl, hp, hn, k⟩ := h
    refine ⟨_, (pss_cons (ps_set (i := 1) sc.nd rfl (Or.inl rfl) pe_int)
      (pss_cons (ps_for PassesOwn.never rfl (pi_range1 rfl T.n_range (pa_cons pe_int pa_nil)) (pg_name (i := 2) sc.nd rfl (Or.inl rfl))
        (pss_one (ps_set (i := 1) sc.nd rfl (Or.inl rfl) (pe_op op_add (pe_op op_mul (pv 1) pe_int) (pe_call G_draw (hr.mono (by decide)) rfl T.pen.D__law_draw.g T.pen.D__law_draw.F.kp T.pen.D__law_draw.b .nil pass0 (pa_cons (pv 0) (pa_cons pe_int pa_nil)))))))
      (pss_one (ps_ret (pe_call G_pick (hr.mono (by decide)) rfl T.pen.D__law_pick.g T.pen.D__law_pick.F.kp T.pen.D__law_pick.b .nil pass0 (pa_cons (pv 0) (pa_cons (pe_lst (pa_cons pe_int (pa_cons pe_int (pa_cons pe_int (pa_cons pe_int (pa_cons pe_int (pa_cons (pe_op op_pow pe_int pe_int)
        (pa_cons (pe_op op_mod (pv 1) pe_int) (pa_cons (pe_op op_mod (pv 1) (pe_op op_pow pe_int pe_int)) (pa_cons (pe_op op_mod (pv 1) (pe_op op_pow pe_int pe_int)) pa_nil)))))))))) pa_nil))))))), ?_⟩
    refine ⟨_, rfl, by decide, by decide, ?_⟩
    refine for_it walk_range (fun i σ H' => ∃ (a : Nat) (x2 : Option V), σ = [some (.ref p), some (.int a), x2] ∧ PenAt H' p c (n + i) ∧ SameBut p H H') ⟨0, _, rfl, hp, .of (Same.refl _)⟩ (fun _ _ _ _ _ => trivial) ?_ ?_
    · rintro i x σ _ H1 hi ⟨a, x2, rfl, hp1, sb1⟩ ⟨rfl, ex⟩
      have hi6 : i < 6 := hi
      refine ⟨_, rfl, _, _, rfl, rfl, .inr ⟨by decide, by decide⟩, _, rfl, p, c, _, n + i, rfl, hp1, by omega, by decide, by decide, fun r H2 r0 r1 hp2 sb2 => ?_⟩
      obtain ⟨r, rfl⟩ := Int.eq_ofNat_of_zero_le r0
      refine ⟨_, _, rfl, rfl, a * 1000003 + r, some x, ?_, hp2, sb1.trans sb2⟩
      have e : ((a : Int) * 1000003 + r) = ((a * 1000003 + r : Nat) : Int) := by omega
      show ([some (V.ref p), some (V.int ((a : Int) * 1000003 + r)), some x] : L2.St) = _
      rw [e]
    · rintro σ H1 ⟨a, x2, rfl, hp1, sb1⟩
      have P30 : CPow 10 30 := ⟨by decide, by decide, by decide⟩
      have P9 : CPow 10 9 := ⟨by decide, by decide, by decide⟩
      refine ⟨_, rfl, _, _, rfl, rfl, P30, _, rfl, _, _, rfl, rfl, (show (0 : Int) < 100 by decide), _, rfl, _, _, rfl, rfl, P30, _, _, rfl, rfl, (show (0 : Int) < 10 ^ (30 : Int).toNat by decide +kernel), _, rfl, _, _, rfl, rfl, P9, _, _, rfl, rfl, (show (0 : Int) < 10 ^ (9 : Int).toNat by decide +kernel), ?_⟩
      refine ⟨by show 9 ≤ sizeLine; decide, fun q hq => ?_⟩
      refine ⟨p, c, q, _, n + 6, rfl, hp1.keep (Same.upd hq), by omega, upd_same, by show 0 < 9; decide, by show 9 ≤ 1000000; decide, fun v i H3 hv hp3 sb3 => ?_⟩
      have e30 : (10 : Int) ^ (30 : Int).toNat = 10 ^ 30 := rfl
      have e9 : (10 : Int) ^ (9 : Int).toNat = 10 ^ 9 := rfl
      rw [e30, e9] at hv
      have a0 : (0 : Int) ≤ a := Int.natCast_nonneg a
      obtain ⟨r, rfl, hr⟩ : ∃ r : Nat, v = V.int r ∧ r ≤ 10 ^ 30 := by
        have m := List.mem_of_getElem? hv
        simp only [List.mem_cons, List.not_mem_nil, or_false] at m
        rcases m with rfl | rfl | rfl | rfl | rfl | rfl | rfl | rfl | rfl
        all_goals exact big_of (by omega) (by omega)
      exact k r H3 hr hp3 ((sb1.trans (.new hq)).trans sb3)
end
end Kx

namespace Kx
open PySem L2 Own
variable {P : Program} {w : World} {K : PySem.W.Frag} {A : EAd} {Z : CAd}
theorem PenAt.neT {H : Hp} {p c : Addr} {n : Nat} (h : PenAt H p c n) {b : Addr} {xs : List V} (e : H b = Option.some (.tup xs)) : b ≠ p := by
  obtain ⟨ns, a, l, h1, _⟩ := h
  exact ne_of e h1 (by intro z; cases z)
theorem kvUp_other {sg : Str} {vs : List V} {y : Str} (h : ∀ c, (Sum.inr y : Key) ≠ lk c) : ∀ i, valV (kvUp sg vs i) (Sum.inr y) = none
  | 0 => rfl
  | i + 1 => by
    have ih := kvUp_other h (sg := sg) (vs := vs) i
    unfold kvUp
    split
    · rw [valV_put, if_neg (h _), ih]
    · exact ih
theorem cells_not (c : Nat) : kCells ≠ lk c := fun e => by
  have h1 : ("cells" : Str) = Froz.sing c := Sum.inr.inj e
  have h2 : (5 : Nat) = 1 := congrArg (fun z : Str => z.cps.size) h1
  cases h2
theorem MachAt.keepN {C : Addr} {H H' : Hp} {p c : Addr} {n : Nat} {m : Addr} {sg : Str} {R : List (List Way)} {Es : List (List Str)} (hp : PenAt H p c n) (k : ∀ b o, H b = some o → (∀ xs, o ≠ .lst xs) → b ≠ p → H' b = some o) (h : MachAt C H m sg R Es) : MachAt C H' m sg R Es := by
  obtain ⟨dx, r, e, k0, w, rv, ev, wv, hm0, hr0, pr, he0, pe, hk0, hw0, pw⟩ := h
  have kt : ∀ b xs, H b = some (.tup xs) → H' b = some (.tup xs) := fun b xs z => k b _ z (fun _ y => by cases y) (hp.neT z)
  have np : ∀ {b : Addr} {C dx : Addr} {fs : List (Str × V)}, H b = some (.ins C dx fs) → b ≠ p := fun {b C dx fs} z => by
    obtain ⟨ns, a, l, h1, _⟩ := hp
    exact ne_of z h1 (by intro y; cases y)
  refine ⟨dx, r, e, k0, w, rv, ev, wv, k _ _ hm0 (fun _ y => by cases y) (np hm0), kt _ _ hr0, L2.Paired.mapP pr fun _ _ z => z.keep kt, kt _ _ he0, L2.Paired.mapP pe fun _ _ z => z.keep kt, kt _ _ hk0, kt _ _ hw0, L2.Paired.mapP pw fun _ _ ⟨a, b, vs, e1, e2, e3, e4⟩ => ⟨a, b, vs, e1, e2, kt _ _ e3, k _ _ e4 (fun _ y => by cases y) fun z => ?_⟩⟩
  subst z
  obtain ⟨ns, x, l, h1, _⟩ := hp
  rw [h1] at e4
  injection e4 with e4
  injection e4 with e4
  have h2 := pen_cells c x l
  rw [e4, kvUp_other cells_not] at h2
  cases h2
theorem MachAt.keepS {C : Addr} {H H' : Hp} {p c : Addr} {n : Nat} {m : Addr} {sg : Str} {R : List (List Way)} {Es : List (List Str)} (hp : PenAt H p c n) (s : SameBut p H H') (h : MachAt C H m sg R Es) : MachAt C H' m sg R Es := h.keepN hp fun b o e _ nb => s b o e nb
def keysD (ks : List Str) : PyData := .tuple (ks.map .str)
theorem sh_keys {ks : List Str} (h : ∀ y ∈ ks, PyData.strOk y = true) : Sh 1 (keysD ks) := Sh.tup fun x hx => by
  obtain ⟨y, hy, rfl⟩ := List.mem_map.mp hx
  exact Sh.str (h y hy)
theorem dp_strs (K : PySem.W.Frag) (H : Hp) : ∀ ks : List Str, DpAll K H (ks.map V.str) (ks.map PyData.str)
  | [] => .nil
  | k :: ks => .cons (.str k) (dp_strs K H ks)
theorem passX {P : Program} {w : World} {X : Cx} {E : XK} (hE : ∀ c d H, ¬ E c d H) : Passes (L2.CX P w) X E := fun _ _ _ _ _ _ _ ⟨_, _, _, _, _, _, _, _, _, _, _, _, h⟩ => (hE _ _ _ h).elim
theorem tabs_small {R : List (List Way)} {Es : List (List Str)} (row : ∀ q ∈ R, q.length ≤ 4 ∧ ∀ w ∈ q, w.2.length ≤ 4) (l16 : R.length ≤ 16) (e16 : Es.length ≤ 16) (ends : ∀ ks ∈ Es, ks.length ≤ 4) : (keysOfRows R ++ Es.flatten).length + 1 < scanBound := by
  have fb : ∀ {α : Type} (f : α → List Str) (m : Nat) {l : List α}, (∀ x ∈ l, (f x).length ≤ m) → (l.flatMap f).length ≤ m * l.length := by
    intro α f m l
    induction l with
    | nil => intro _; simp
    | cons x l ih =>
      intro h
      have := ih fun y hy => h y (List.mem_cons_of_mem _ hy)
      have := h x List.mem_cons_self
      rw [List.flatMap_cons, List.length_append, List.length_cons, Nat.mul_succ]
      omega
  have a : (keysOfRows R).length ≤ 16 * R.length := fb _ 16 fun q hq => by
    have := fb (fun w : Way => w.2) 4 (l := q) fun w hw => (row q hq).2 w hw
    have := (row q hq).1
    omega
  have b : (Es.flatMap id).length ≤ 4 * Es.length := fb _ 4 ends
  rw [List.flatMap_id] at b
  rw [List.length_append]
  have e : scanBound = 4096 := rfl
  omega
theorem init_ok {H1 : Hp} {m dx r e : Addr} {sg : Str} {rv ev : List V} {R : List (List Way)} {Es : List (List Str)} {Q : VK} {E : XK} (hm : H1 m = none) (hdx : H1 dx = none) (hr : H1 r = some (.lst rv)) (pr : Paired (RowE H1) rv R) (he : H1 e = some (.lst ev)) (pe : Paired (KeyE H1) ev Es)
    (asc : sg.cps.all (· < 128) = true) (z4 : sg.cps.size ≤ 4) (row : ∀ q ∈ R, q.length = sg.cps.size ∧ ∀ w ∈ q, Okw R.length w ∧ w.2.length ≤ 4) (l16 : R.length ≤ 16) (e16 : Es.length ≤ 16) (ends : ∀ ks ∈ Es, ks.length ≤ 4) (few : (kl (keysOfRows R ++ Es.flatten)).length ≤ 12)
    (q : ∀ H', Same H1 H' → MachAt Z.C H' m sg (R.map nrm) (Es.map kl) → Q .non H') : spInit K A Z [.ref m, .str sg, .ref r, .ref e] (upd (upd H1 dx (.own m)) m (.ins Z.C dx [])) Q E := by
  have s0 : Same H1 (upd (upd H1 dx (.own m)) m (.ins Z.C dx [])) := fun b o z => by
    rw [upd_ne (ne_of_none z hm), upd_ne (ne_of_none z hdx)]
    exact z
  have a : (keysOfRows R).length ≤ 16 * R.length := by
    have fb : ∀ {α : Type} (f : α → List Str) (m : Nat) {l : List α}, (∀ x ∈ l, (f x).length ≤ m) → (l.flatMap f).length ≤ m * l.length := by
      intro α f m l
      induction l with
      | nil => intro _; simp
      | cons x l ih =>
        intro h
        have := ih fun y hy => h y (List.mem_cons_of_mem _ hy)
        have := h x List.mem_cons_self
        rw [List.flatMap_cons, List.length_append, List.length_cons, Nat.mul_succ]
        omega
    refine fb _ 16 fun q hq => ?_
    have := fb (fun w : Way => w.2) 4 (l := q) fun w hw => ((row q hq).2 w hw).2
    have := (row q hq).1
    omega
  have b : Es.flatten.length ≤ 4 * Es.length := by
    clear pe few q
    induction Es with
    | nil => simp
    | cons x l ih =>
      have := ih (by simp at e16; omega) fun ks hk => ends ks (List.mem_cons_of_mem _ hk)
      have := ends x List.mem_cons_self
      rw [List.flatten_cons, List.length_append, List.length_cons]
      omega
  have bound : (keysOfRows R ++ Es.flatten).length + 1 < scanBound := by
    rw [List.length_append]
    have e : scanBound = 4096 := rfl
    omega
  refine ⟨m, r, e, dx, sg, rv, ev, R, Es, rfl, upd_same, s0 _ _ hr, L2.Paired.mapP pr fun _ _ z => toRow (z.keep s0), s0 _ _ he, L2.Paired.mapP pe fun _ _ z => toTexts (z.keep s0), asc, by omega, fun q hq => ⟨by rw [(row q hq).1]; exact Nat.le_refl _, by rw [(row q hq).1]; omega⟩, by omega, by omega, bound, ?_, ?_⟩
  · intro i j q w d H' hq hw nb
    exact absurd ((row q (List.mem_of_getElem? hq)).2 w (List.mem_of_getElem? hw)).1 nb
  · intro _ H' kd
    refine ⟨fun big => absurd big (by omega), fun _ ma => q H' (fun b o z => ?_) ma⟩
    exact kd.2 b o (s0 _ _ z) (ne_of_none z hm)
theorem nrm_same {q : List Way} (h : ∀ w ∈ q, kl w.2 = w.2) : nrm q = q := by
  unfold nrm
  conv => rhs; rw [← List.map_id q]
  exact List.map_congr_left fun w hw => by
    unfold nw
    rw [h w hw]
    rfl
theorem map_same {α : Type} {f : α → α} {l : List α} (h : ∀ x ∈ l, f x = x) : l.map f = l := by
  conv => rhs; rw [← List.map_id l]
  exact List.map_congr_left h
theorem keysW_in {sg : Str} {R : List (List Way)} {Es : List (List Str)} (F : Full sg R Es) (cs : List Nat) : ∀ y ∈ keysW sg R Es cs, y ∈ keysOfRows R ++ Es.flatten := fun y hy => by
  unfold keysW at hy
  rcases List.mem_append.mp (kl_mem.mp hy) with h | h
  · exact List.mem_append_left _ ((F.run F.pos cs).2 y h)
  · refine List.mem_append_right _ (List.mem_flatten.mpr ?_)
    rw [List.getD_eq_getElem?_getD] at h
    cases e : Es[(runW sg R 0 cs).1]? with
    | none =>
      rw [e] at h
      cases h
    | some ks =>
      rw [e] at h
      exact ⟨ks, List.mem_of_getElem? e, h⟩
end Kx

namespace Kx
open PySem L2 Own
theorem Tbl.keepB {H H' : Hp} {p c : Addr} {n : Nat} {t r e : Addr} {rv ev : List V} {R : List (List Way)} {Es : List (List Str)} (hp : PenAt H p c n) (s : SameBut p H H') (h : Tbl H t r e rv ev R Es) : Tbl H' t r e rv ev R Es :=
  ⟨s _ _ h.t (hp.neT h.t), s _ _ h.r (hp.ne h.r), L2.Paired.mapP h.pr fun _ _ ⟨a, vs, e1, e2, k⟩ => ⟨a, vs, e1, s _ _ e2 (hp.ne e2), L2.Paired.mapP k fun _ _ ⟨b, kv, e3, e4, e5⟩ => ⟨b, kv, e3, s _ _ e4 (hp.neT e4), s _ _ e5 (hp.ne e5)⟩⟩,
    s _ _ h.e (hp.ne h.e), L2.Paired.mapP h.pe fun _ _ ⟨a, e1, e2⟩ => ⟨a, e1, s _ _ e2 (hp.ne e2)⟩⟩
theorem BlkE.keepT {H H' : Hp} (s : ∀ b xs, H b = some (.tup xs) → H' b = some (.tup xs)) {v : V} {b : Str × Nat} (h : BlkE H v b) : BlkE H' v b := by
  obtain ⟨a, e, h⟩ := h
  exact ⟨a, e, s _ _ h⟩
theorem SameBut.tups {p c : Addr} {n : Nat} {H H' : Hp} (hp : PenAt H p c n) (s : SameBut p H H') : ∀ b xs, H b = some (.tup xs) → H' b = some (.tup xs) := fun b xs e => s _ _ e (hp.neT e)
theorem upd_tups {H : Hp} {D : Addr} {xs : List V} {o : HO} (h : H D = some (.lst xs)) : ∀ b ys, H b = some (.tup ys) → (upd H D o) b = some (.tup ys) := fun b ys e => by
  rw [upd_ne (ne_of e h (fun z => by cases z))]
  exact e
theorem farG_low {sg : Str} {R : List (List Way)} {Es : List (List Str)} (F : Full sg R Es) (y : Str) : ∀ (bs : List (Str × Nat)) {s : Nat}, s < R.length → farG sg R s bs y → y ∈ keysOfRows R
  | [], _, _, h => h.elim
  | b :: r, s, hs, h => by
    have bnd : ∀ m, goN (stN sg R b.1.cps.toList) s m < R.length := fun m => by
      induction m with
      | zero => exact hs
      | succ m ih => exact (F.run ih _).1
    rcases h with ⟨m, _, h⟩ | h
    · exact (F.run (bnd m) _).2 y h
    · exact farG_low F y r (bnd b.2) h
theorem FarK.low {sg : Str} {R : List (List Way)} {Es : List (List Str)} (F : Full sg R Es) {bs : List (Str × Nat)} {ks : List Str} (h : FarK sg R Es bs ks) : ∀ y ∈ ks, y ∈ keysOfRows R ++ Es.flatten := fun y hy => by
  obtain ⟨l, rfl, m⟩ := h
  rcases (m y).mp (kl_mem.mp hy) with h | h
  · exact List.mem_append_left _ (farG_low F y bs F.pos h)
  · refine List.mem_append_right _ (List.mem_flatten.mpr ?_)
    rw [List.getD_eq_getElem?_getD] at h
    cases e : Es[farS sg R 0 bs]? with
    | none =>
      rw [e] at h
      cases h
    | some ks =>
      rw [e] at h
      exact ⟨ks, List.mem_of_getElem? e, h⟩
theorem cutB_append (d : Nat) : ∀ a b : List (Str × Nat), cutB d (a ++ b) = cutB d a ++ cutB d b
  | [], _ => rfl
  | x :: r, b => by
    show _ :: _ :: cutB d (r ++ b) = _
    rw [cutB_append d r b]
    rfl
theorem cutB_len (d : Nat) : ∀ a : List (Str × Nat), (cutB d a).length = 2 * a.length
  | [] => rfl
  | x :: r => by
    show (cutB d r).length + 1 + 1 = _
    rw [cutB_len d r, List.length_cons]
    omega
theorem cutB_in {d : Nat} {P : Str → Prop} : ∀ {a : List (Str × Nat)}, (∀ b ∈ a, P b.1) → ∀ b ∈ cutB d a, P b.1
  | [], _, b, h => nomatch h
  | x :: r, k, b, h => by
    rcases List.mem_cons.mp h with rfl | h
    · exact k x List.mem_cons_self
    · rcases List.mem_cons.mp h with rfl | h
      · exact k x List.mem_cons_self
      · exact cutB_in (fun b hb => k b (List.mem_cons_of_mem _ hb)) b h
theorem joinL_flat : ∀ ls : List (List Nat), TL.joinL [] ls = ls.flatten
  | [] => rfl
  | [a] => by simp [TL.joinL]
  | a :: b :: r => by
    show a ++ ([] ++ TL.joinL [] (b :: r)) = _
    rw [joinL_flat (b :: r)]
    rfl
theorem join_flat (xs : List Str) : (Txt.join "" xs).cps.toList = (xs.map fun x => x.cps.toList).flatten := by
  have e := TL.tl_join "" xs
  rw [← TL.join_eq] at e
  exact e.trans (joinL_flat _)
/-- the texts of the blocks that have a word -/
def texts (bs : List (Str × Nat)) : List Str := (bs.filter fun b => !decide (V.str b.1 = V.str "")).map fun b => repS b.1 b.2
theorem empty_of {x : Str} (h : V.str x = V.str "") : x.cps.toList = [] := by
  have e : x = "" := V.str.inj h
  subst e
  rfl
theorem texts_flat : ∀ bs : List (Str × Nat), ((texts bs).map fun x => x.cps.toList).flatten = flatB bs
  | [] => rfl
  | b :: r => by
    have ih := texts_flat r
    unfold texts at ih ⊢
    have e : flatB (b :: r) = (List.replicate b.2 b.1.cps.toList).flatten ++ flatB r := rfl
    rw [e, ← ih]
    by_cases c : V.str b.1 = V.str ""
    · rw [List.filter_cons_of_neg (by simp [c]), empty_of c]
      simp
    · rw [List.filter_cons_of_pos (by simp [c]), List.map_cons, List.map_cons, List.flatten_cons]
      congr 1
/-- how long the blocks are -/
def lenB (bs : List (Str × Nat)) : Nat := (bs.map fun b => b.1.cps.size * b.2).sum
theorem lenB_flat : ∀ bs : List (Str × Nat), (flatB bs).length = lenB bs
  | [] => rfl
  | b :: r => by
    have e : flatB (b :: r) = (List.replicate b.2 b.1.cps.toList).flatten ++ flatB r := rfl
    have e2 : lenB (b :: r) = b.1.cps.size * b.2 + lenB r := by unfold lenB; rw [List.map_cons, List.sum_cons]
    rw [e, e2, List.length_append, lenB_flat r]
    congr 1
    generalize b.2 = n
    induction n with
    | zero => rfl
    | succ n ih =>
      rw [List.replicate_succ, List.flatten_cons, List.length_append, ih, Array.length_toList, Nat.mul_succ]
      omega
theorem lenB_at : ∀ {bs : List (Str × Nat)} {b : Str × Nat}, b ∈ bs → b.1.cps.size * b.2 ≤ lenB bs
  | x :: r, b, h => by
    have e2 : lenB (x :: r) = x.1.cps.size * x.2 + lenB r := by unfold lenB; rw [List.map_cons, List.sum_cons]
    rw [e2]
    rcases List.mem_cons.mp h with rfl | h
    · omega
    · have := lenB_at h
      omega
theorem sum_cast : ∀ l : List Nat, (l.map fun n : Nat => (n : Int)).sum = ((l.sum : Nat) : Int)
  | [] => rfl
  | a :: r => by
    rw [List.map_cons, List.sum_cons, sum_cast r, List.sum_cons]
    omega
theorem five_ok : ∀ y ∈ (["x", "y", "z1", "z2", "w"] : List Str), PyData.strOk y = true := by decide +kernel
end Kx

namespace Kx
open PySem L2 Own
abbrev s_law : Stmt := top 44
structure TxtW (K : PySem.W.Frag) (mg : Str → Option Value) (A : EAd) (B : MAd) (Z : CAd) (S : SAd) (O : OAd) (L : LAd) (fs ft fd fr fx fb f : Addr) (ds dt dd dr dx db d : FuncData) : Prop where
  M : TxtM K mg B
  E : TxtE K mg A
  C : TxtC K mg Z
  Sg : TxtS K mg A Z S
  O : TxtO K mg Z O
  St : TxtSt K mg fs ft fd ds dt dd
  R : TxtR K mg fr dr
  Tx : TxtTx K mg L.p1 L.p2 L.p3 fx L.q1 L.q2 L.q3 dx
  Bg : TxtB K mg L.p1 L.p2 L.p3 fb L.q1 L.q2 L.q3 db
  L : TxtL K mg L
  D_law : DefT K mg "law" "law" s_law ["script"] f d
  n_range : mg "range" = none
  n_min : mg "min" = none
  n_len : mg "len" = none
  n_sum : mg "sum" = none
  n_int : mg "int" = none
  n_tuple : mg "tuple" = none
def spLaw (K : PySem.W.Frag) : Sp := fun vs H Q _ => ∃ (a : Addr) (ns : List Int), vs = [.ref a] ∧ SqL K H a (ns.map V.int) ∧ ns.length ≤ 63 ∧ ∀ H', Q (.bl true) H'
abbrev Nlaw : List Str := ["script", "pen", "turn", "signs", "tables", "machine", "again", "blocks", "told", "word", "times", "text", "cut", "at", "k"]
theorem sc_law : FnScope Nlaw ["script"] (defScope s_law) := ⟨rfl, rfl, rfl, by decide +kernel, rfl, by decide +kernel, by decide +kernel⟩
def teBlk : TE := tTup (tCons (tCall spText [] E0 (tCons (tVar 1) (tCons (tVar 3) (tCons (tC (.int 5)) tNil)))) (tCons (tCall spBig [] E0 (tCons (tVar 1) tNil)) tNil))
def teLen (K : PySem.W.Frag) : TE := tOp (rI CMul fun i j => .int (i * j)) (tCB (fun xs H Q => ∃ x n, xs = [x] ∧ LenV K x H n ∧ Q (.int n) H) (tCons (tVar 9) tNil)) (tVar 10)
def teRep : TE := tOp rRepS (tVar 9) (tVar 10)
section
variable {P : Program} {w : World} {K : PySem.W.Frag} {mg : Str → Option Value} {base : Heap} {A : EAd} {B : MAd} {Z : CAd} {S : SAd} {O : OAd} {L : LAd} {fs ft fd fr fx fb f : Addr} {ds dt dd dr dx db d : FuncData}
theorem ok_law (T : TxtW K mg A B Z S O L fs ft fd fr fx fb f ds dt dd dr dx db d) : FnOk P w K mg base CX0 9 f d ["script"] (spLaw K) := by
  have sc := sc_law
  have G_pen : FnOk P w K mg base CX0 1 L.p1 L.q1 ["script"] (spPen K) := ok_pen T.L.pen
  have G_draw : FnOk P w K mg base CX0 1 L.p2 L.q2 ["pen", "many"] spDraw := ok_draw T.L.pen
  have G_signs : FnOk P w K mg base CX0 2 L.f1 L.d1 ["pen", "many"] spSigns := ok_signs T.L
  have G_tables : FnOk P w K mg base CX0 4 L.f3 L.d3 ["pen", "signs", "most", "words"] spTables := ok_tables T.L
  have G_text : FnOk P w K mg base CX0 3 fx dx ["pen", "signs", "most"] spText := ok_text T.Tx
  have G_big : FnOk P w K mg base CX0 3 fb db ["pen"] spBig := ok_big T.Bg
  have G_read : FnOk P w K mg base CX0 1 fr dr ["signs", "tables", "text"] spRead := ok_read T.R
  have G_due : FnOk P w K mg base CX0 3 fd dd ["signs", "tables", "blocks"] spDue := ok_due T.St
  have G_far : FnOk P w K mg base (L2.CX P w) 6 O.ff O.df ["self", "blocks"] (spFar Z) := ok_far T.M T.E T.C T.Sg T.O
  have G_keys : FnOk P w K mg base (L2.CX P w) 5 S.fk S.dk ["self", "text"] (spAsk Z S ansKeys) := ok_keys_of T.M T.E T.C T.Sg
  have G_init : FnOk P w K mg base (L2.CX P w) 5 Z.f Z.d ["self", "signs", "rows", "ends"] (spInit K A Z) := ok_init T.M T.E T.C
  refine T.D_law.F.ok sc (fun vs H Q E h => ?_) (fun cdv A1 outer s H vs Q E hr h => ?_)
  · obtain ⟨_, _, rfl, _⟩ := h; rfl
  · obtain ⟨sa, ns, rfl, hS, hl, kQ⟩ := h
    refine ⟨_, (pss_cons (ps_set (i := 1) sc.nd rfl (Or.inr rfl) (pe_call G_pen (hr.mono (by decide)) rfl T.L.pen.D__law_pen.g T.L.pen.D__law_pen.F.kp T.L.pen.D__law_pen.b .nil pass0 (pa_cons (pv 0) pa_nil)))
      (pss_cons (ps_for PassesOwn.never rfl (pi_range1 rfl T.n_range (pa_cons (pe_op op_add pe_int (pe_callB (call_min2 rfl) (by rfl) T.n_min (by decide +kernel) (pa_cons pe_int (pa_cons (pe_callB call_len (by rfl) T.n_len (by decide +kernel) (pa_cons (pv 0) pa_nil)) pa_nil)))) pa_nil)) (pg_name (i := 2) sc.nd rfl (Or.inl rfl))
      (pss_cons (ps_set (i := 3) sc.nd rfl (Or.inr rfl) (pe_call G_signs (hr.mono (by decide)) rfl T.L.D__law_signs.g T.L.D__law_signs.F.kp T.L.D__law_signs.b .nil pass0 (pa_cons (pv 1) (pa_cons (pe_op op_add pe_int (pe_call G_draw (hr.mono (by decide)) rfl T.L.pen.D__law_draw.g T.L.pen.D__law_draw.F.kp T.L.pen.D__law_draw.b .nil pass0 (pa_cons (pv 1) (pa_cons pe_int pa_nil)))) pa_nil))))
      (pss_cons (ps_set (i := 4) sc.nd rfl (Or.inl rfl) (pe_call G_tables (hr.mono (by decide)) rfl T.L.D__law_tables.g T.L.D__law_tables.F.kp T.L.D__law_tables.b .nil pass0 (pa_cons (pv 1) (pa_cons (pv 3) (pa_cons pe_int (pa_cons (pe_lst (pa_cons pe_str (pa_cons pe_str (pa_cons pe_str (pa_cons pe_str (pa_cons pe_str pa_nil)))))) pa_nil))))))
      (pss_cons (ps_set (i := 5) sc.nd rfl (Or.inl rfl) (pe_make T.C.make G_init (hr.mono (by decide)) rfl T.C.g T.C.b .nil (passX fun _ _ _ h => h) (pa_cons (pv 3) (pa_cons (pe_ix ix_tup (pv 4) pe_int (fun _ _ => rfl)) (pa_cons (pe_ix ix_tup (pv 4) pe_int (fun _ _ => rfl)) pa_nil)))))
      (pss_one (ps_for PassesOwn.never rfl (pi_range1 rfl T.n_range (pa_cons pe_int pa_nil)) (pg_name (i := 6) sc.nd rfl (Or.inl rfl))
      (pss_cons (ps_setLc (i := 7) (own := [("k", 14)]) (g := gName 14) (tt := tYes) (te := teBlk) rfl sc.nd rfl rfl (sw_true rfl rfl rfl (by decide +kernel)) (pi_range1 rfl T.n_range (pa_cons (pe_call G_draw (hr.mono (by decide)) rfl T.L.pen.D__law_draw.g T.L.pen.D__law_draw.F.kp T.L.pen.D__law_draw.b .nil pass0 (pa_cons (pv 1) (pa_cons pe_int pa_nil))) pa_nil)) (blkOk_by (N := Nlaw) (sc := defScope s_law) (own := [("k", 14)]) (by decide +kernel)) (fun _ _ _ _ _ => (pg_name (i := 14) sc.nd rfl (Or.inl rfl))) (fun _ _ _ _ _ => pts_nil) (fun _ _ _ _ _ => (pe_tup (pa_cons (pe_call G_text (hr.mono (by decide)) rfl T.Tx.D__law_text.g T.Tx.D__law_text.F.kp T.Tx.D__law_text.b .nil pass0 (pa_cons (pv 1) (pa_cons (pv 3) (pa_cons pe_int pa_nil)))) (pa_cons (pe_call G_big (hr.mono (by decide)) rfl T.Bg.D__law_big.g T.Bg.D__law_big.F.kp T.Bg.D__law_big.b .nil pass0 (pa_cons (pv 1) pa_nil)) pa_nil)))))
      (pss_cons (ps_set (i := 8) sc.nd rfl (Or.inl rfl) (pe_meth (pv 5) T.C.cl T.O.M_far_keys G_far (hr.mono (by decide)) T.O.b_far_keys .nil (passX fun _ _ _ h => h) (pa_cons (pv 7) pa_nil)))
      (pss_cons (ps_if (pt_cmpR (op_neD hr.units) (pv 8) (pe_call G_due (hr.mono (by decide)) rfl T.St.D__law_due.g T.St.D__law_due.F.kp T.St.D__law_due.b .nil pass0 (pa_cons (pv 3) (pa_cons (pv 4) (pa_cons (pv 7) pa_nil)))) (nomark _)) (pss_one (ps_ret pe_bl)) pss_nil)
      (C8.pss_cut (ps_if (pt_cmpR op_lt (pe_callB (cr_sum rfl) (by rfl) T.n_sum (by decide +kernel) (pa_cons (pe_lc (own := [("word", 9), ("times", 10)]) (g := gTup K 2 (gCons (gName 9) (gCons (gName 10) gNil))) (tt := tYes) (te := teLen K) rfl sc.nd (pi_list (pv 7)) (blkOk_by (N := Nlaw) (sc := defScope s_law) (own := [("word", 9), ("times", 10)]) (by decide +kernel)) (fun _ _ _ _ _ => (pg_tup rfl (pgs_cons (pg_name (i := 9) sc.nd rfl (Or.inl rfl)) (pgs_cons (pg_name (i := 10) sc.nd rfl (Or.inl rfl)) pgs_nil)))) (fun _ _ _ _ _ => pts_nil) (fun _ _ _ _ _ => pe_op op_mul (pe_callB call_len (by rfl) T.n_len (by decide +kernel) (pa_cons (pv 9) pa_nil)) (pv 10))) pa_nil)) pe_int (nomark _)) (pss_cons (ps_set (i := 11) sc.nd rfl (Or.inl rfl) (pe_join pe_str (pe_lc (own := [("word", 9), ("times", 10)]) (g := gTup K 2 (gCons (gName 9) (gCons (gName 10) gNil))) (tt := tTest (tOp rNe (tVar 9) (tC (.str (Str.ofString ""))))) (te := teRep) rfl sc.nd (pi_list (pv 7)) (blkOk_by (N := Nlaw) (sc := defScope s_law) (own := [("word", 9), ("times", 10)]) (by decide +kernel)) (fun _ _ _ _ _ => (pg_tup rfl (pgs_cons (pg_name (i := 9) sc.nd rfl (Or.inl rfl)) (pgs_cons (pg_name (i := 10) sc.nd rfl (Or.inl rfl)) pgs_nil)))) (fun _ _ _ _ _ => pts_one (pt_cmpR op_ne (pv 9) pe_str (nomark _))) (fun _ _ _ _ _ => pe_op op_repS (pv 9) (pv 10)))))
      (pss_one (ps_if (PW.pt (pw_or (pt_cmpR (op_neD hr.units) (pv 8) (pe_ix ix_tup (pe_call G_read (hr.mono (by decide)) rfl T.R.D__law_read.g T.R.D__law_read.F.kp T.R.D__law_read.b .nil pass0 (pa_cons (pv 3) (pa_cons (pv 4) (pa_cons (pv 11) pa_nil)))) pe_int (fun _ _ => rfl)) (nomark _)) (pw_or1 (pt_cmpR (op_neD hr.units) (pv 8) (pe_meth (pv 5) T.C.cl T.Sg.M_keys_of G_keys (hr.mono (by decide)) T.Sg.b_keys_of .nil (passX fun _ _ _ h => h) (pa_cons (pv 11) pa_nil)) (nomark _))))) (pss_one (ps_ret pe_bl)) pss_nil))) pss_nil)
      (pss_cons (ps_par (i := 12) (j := 13) rfl sc.nd rfl rfl (by decide) rfl rfl (pa_cons (pe_lst pa_nil) (pa_cons (pe_call G_draw (hr.mono (by decide)) rfl T.L.pen.D__law_draw.g T.L.pen.D__law_draw.F.kp T.L.pen.D__law_draw.b .nil pass0 (pa_cons (pv 1) (pa_cons pe_int pa_nil))) pa_nil)) rfl)
      (pss_cons (ps_for PassesOwn.never rfl (pi_list (pv 7)) (pg_tup rfl (pgs_cons (pg_name (i := 9) sc.nd rfl (Or.inl rfl)) (pgs_cons (pg_name (i := 10) sc.nd rfl (Or.inl rfl)) pgs_nil)))
      (pss_one (ps_set (i := 12) sc.nd rfl (Or.inl rfl) (pe_op op_cat (pv 12) (pe_lst (pa_cons (pe_tup (pa_cons (pv 9) (pa_cons (pe_op op_mod (pe_callTy call_int1 (by rfl) T.n_int (by decide +kernel) (pa_cons (pv 13) pa_nil)) (pe_op op_add (pv 10) pe_int)) pa_nil))) (pa_cons (pe_tup (pa_cons (pv 9) (pa_cons (pe_op op_sub (pv 10) (pe_op op_mod (pe_callTy call_int1 (by rfl) T.n_int (by decide +kernel) (pa_cons (pv 13) pa_nil)) (pe_op op_add (pv 10) pe_int))) pa_nil))) pa_nil)))))))
      (pss_one (ps_if (PW.pt (pw_or (pt_cmpR (op_neD hr.units) (pe_meth (pv 5) T.C.cl T.O.M_far_keys G_far (hr.mono (by decide)) T.O.b_far_keys .nil (passX fun _ _ _ h => h) (pa_cons (pv 12) pa_nil)) (pv 8) (nomark _)) (pw_or1 (pt_cmpR (op_neD hr.units) (pe_meth (pv 5) T.C.cl T.O.M_far_keys G_far (hr.mono (by decide)) T.O.b_far_keys .nil (passX fun _ _ _ h => h) (pa_cons (pe_tupleOf rfl T.n_tuple (pv 7)) pa_nil)) (pv 8) (nomark _))))) (pss_one (ps_ret pe_bl)) pss_nil))))))))))))))
      (pss_one (ps_ret pe_bl)))), ?_⟩
    refine ⟨_, rfl, sa, ns, rfl, hS, hl, fun p c H1 hp s1 pen1 => ?_⟩
    have hS1 := s1.seq hS
    refine ⟨_, rfl, .ref sa, ns.length, rfl, .inl ⟨_, hS1, by rw [List.length_map]⟩, _, _, rfl, _, _, rfl, rfl, ?_⟩
    have hm0 : 0 ≤ (if (ns.length : Int) < 6 then (ns.length : Int) else 6) ∧ (if (ns.length : Int) < 6 then (ns.length : Int) else 6) ≤ 6 := by
      split <;> omega
    generalize (if (ns.length : Int) < 6 then (ns.length : Int) else 6) = m at hm0 ⊢
    refine ⟨_, rfl, by omega, by omega, ?_⟩
    refine for_range (lo := 0) (n := (4 + m).toNat) (fun i σ H' => ∃ o2 o3 o4 o5 o6 o7 o8 o9 o10 o11 o12 o13 o14 : Option V, σ = [some (.ref sa), some (.ref p), o2, o3, o4, o5, o6, o7, o8, o9, o10, o11, o12, o13, o14] ∧ PenAt H' p c (3000 * i)) ⟨none, none, none, none, none, none, none, none, none, none, none, none, none, rfl, pen1⟩ ?_ ?_
    · rintro i σ H2 hi ⟨o2, o3, o4, o5, o6, o7, o8, o9, o10, o11, o12, o13, o14, rfl, pen2⟩
      refine ⟨_, rfl, _, rfl, p, c, 4, 3000 * i, rfl, pen2, by omega, by decide, by decide, fun r H3 r0 r1 pen3 sb3 => ?_⟩
      obtain ⟨r, rfl⟩ := Int.eq_ofNat_of_zero_le r0
      refine ⟨_, _, rfl, rfl, p, c, 1 + r, 3000 * i + 1, by rw [Int.natCast_add]; rfl, pen3, by omega, by omega, fun sg H4 zs nd al pen4 sb4 => ?_⟩
      have asc : sg.cps.all (· < 128) = true := by
        rw [← Array.all_toList, List.all_eq_true]
        intro x hx
        have := al x hx
        unfold alpha at this
        simp only [List.mem_map, List.mem_range] at this
        obtain ⟨i, hi, rfl⟩ := this
        exact decide_eq_true (by omega)
      have z4 : sg.cps.size ≤ 4 := by omega
      have z1 : 1 ≤ sg.cps.size := by omega
      refine ⟨_, rfl, _, rfl, by show 5 ≤ sizeLine; decide, fun q5 hq5 => ?_⟩
      refine ⟨p, c, q5, sg, 16, 3000 * i + 1 + (1 + r), ["x", "y", "z1", "z2", "w"], rfl, pen4.keep (Same.upd hq5), by omega, by omega, by decide, by decide, upd_same, by decide, by decide, fun t r e rv ev R Es many Hs m0 m16 ht hrv pR hev pE lR lE gR gE nt nr ne penS sbS => ?_⟩
      have w5 : (["x", "y", "z1", "z2", "w"] : List Str).length ≤ 5 := by decide
      have so := five_ok
      generalize (["x", "y", "z1", "z2", "w"] : List Str) = ws at w5 so gR gE
      have pR0 : Paired (RowE Hs) rv R := L2.Paired.mapP pR fun _ _ ⟨a, vs, e1, e2, _, k⟩ => ⟨a, vs, e1, e2, L2.Paired.mapP k fun _ _ ⟨b, kv, e3, e4, e5, _⟩ => ⟨b, kv, e3, e4, e5⟩⟩
      have pE0 : Paired (KeyE Hs) ev Es := L2.Paired.mapP pE fun _ _ ⟨a, e1, e2, _⟩ => ⟨a, e1, e2⟩
      have T0 : Tbl Hs t r e rv ev R Es := ⟨ht, hrv, pR0, hev, pE0⟩
      have hR : ∀ q ∈ R, q.length = sg.cps.size ∧ ∀ w ∈ q, Okw R.length w ∧ w.2.length ≤ 2 ∧ kl w.2 = w.2 ∧ ∀ y ∈ w.2, y ∈ ws := fun q hq => ⟨(gR q hq).1, fun w hw => by
        obtain ⟨h1, h2, h3, h4, h5⟩ := (gR q hq).2 w hw
        exact ⟨⟨h1, by rw [lR]; exact h2⟩, h4, h5, h3⟩⟩
      have hE : ∀ ks ∈ Es, ks.length ≤ 2 ∧ kl ks = ks ∧ ∀ y ∈ ks, y ∈ ws := fun ks hks => by
        obtain ⟨h3, h4, h5⟩ := gE ks hks
        exact ⟨h4, h5, h3⟩
      have inW : ∀ y ∈ keysOfRows R ++ Es.flatten, y ∈ ws := fun y hy => by
        rcases List.mem_append.mp hy with hy | hy
        · obtain ⟨q, hq, hy⟩ := List.mem_flatMap.mp hy
          obtain ⟨w, hw, hy⟩ := List.mem_flatMap.mp hy
          exact ((hR q hq).2 w hw).2.2.2 y hy
        · obtain ⟨ks, hks, hy⟩ := List.mem_flatten.mp hy
          exact (hE ks hks).2.2 y hy
      have few5 : ∀ X : List Str, (∀ y ∈ X, y ∈ ws) → (kl X).length ≤ 5 := fun X hX => Nat.le_trans (nd_sub_len (kl_nodup _) fun y hy => hX y (kl_mem.mp hy)) w5
      have k5 := few5 (keysOfRows R) fun y hy => inW y (List.mem_append_left _ hy)
      have at0 : atI ([.ref r, .ref e] : List V) 0 = some (.ref r) := atI_nat (j := 0) rfl
      have at1 : atI ([.ref r, .ref e] : List V) 1 = some (.ref e) := atI_nat (j := 1) rfl
      have okrow : ∀ q ∈ R, q.length = sg.cps.size ∧ ∀ w ∈ q, Okw R.length w ∧ w.2.length ≤ 4 := fun q hq => ⟨(hR q hq).1, fun w hw => ⟨((hR q hq).2 w hw).1, Nat.le_trans ((hR q hq).2 w hw).2.1 (by decide)⟩⟩
      have nrR : R.map nrm = R := map_same fun q hq => nrm_same fun w hw => ((hR q hq).2 w hw).2.2.1
      have nrE : Es.map kl = Es := map_same fun ks hks => (hE ks hks).2.1
      have F : Full sg R Es := ⟨nd, fun q hq => ⟨(hR q hq).1, fun w hw => ((hR q hq).2 w hw).1⟩, by rw [lE, lR], by omega, tabs_small (fun q hq => ⟨by rw [(hR q hq).1]; exact z4, fun w hw => Nat.le_trans ((hR q hq).2 w hw).2.1 (by decide)⟩) (by omega) (by omega) (fun ks hks => Nat.le_trans (hE ks hks).1 (by decide))⟩
      have F2 : Rd2 sg R Es := ⟨F, fun q hq w hw => ((hR q hq).2 w hw).2.1, fun ks hks => (hE ks hks).1⟩
      have FO : FarOk R := ⟨by omega, by omega⟩
      -- the machine
      refine ⟨_, rfl, _, rfl, t, _, 0, _, rfl, rfl, SqT.of ht, at0, _, rfl, t, _, 1, _, rfl, rfl, SqT.of ht, at1, fun m9 dx9 hm9 hdx9 ne9 => ?_⟩
      refine init_ok hm9 hdx9 hrv pR0 hev pE0 asc z4 okrow (by omega) (by omega) (fun ks hks => Nat.le_trans (hE ks hks).1 (by decide)) (Nat.le_trans (few5 _ inW) (by decide)) fun H9 s9 ma9 => ⟨rfl, ?_⟩
      rw [nrR, nrE] at ma9
      have penS' : PenAt Hs p c (3000 * i + 410) := penS.mono (by omega)
      clear penS
      refine ⟨4, rfl, by decide, by decide, ?_⟩
      refine for_range (lo := 0) (n := 4) (fun j σ H' => (∃ x6 x7 x8 x9 x10 x11 x12 x13 x14, σ = [some (.ref sa), some (.ref p), some (.int (0 + (i : Nat))), some (.str sg), some (.ref t), some (.ref m9), x6, x7, x8, x9, x10, x11, x12, x13, x14]) ∧ SameBut p Hs H' ∧ PenAt H' p c (3000 * i + 410 + 60 * j) ∧ MachAt Z.C H' m9 sg R Es)
        ⟨⟨_, _, _, _, _, _, _, _, _, rfl⟩, .of s9, penS'.keep s9, ma9⟩ ?_ ?_
      · rintro j σ H10 hj ⟨⟨x6, x7, x8, x9, x10, x11, x12, x13, x14, rfl⟩, sb10, pen10, ma10⟩
        -- blocks
        refine ⟨_, rfl, p, c, 5, _, rfl, pen10, by omega, by decide, by decide, fun r1 H11 r10 r11 pen11 sb11 => ?_⟩
        obtain ⟨r1, rfl⟩ := Int.eq_ofNat_of_zero_le r10
        have ma11 := ma10.keepS pen10 sb11
        have sbS11 := sb10.trans sb11
        refine ⟨_, rfl, by omega, by omega, fun D hD => ?_⟩
        rw [Int.toNat_natCast]
        obtain ⟨npD, ncD⟩ := pen11.apart hD
        refine lcs_it [some (.ref sa), some (.ref p), some (.int (0 + (i : Nat))), some (.str sg), some (.ref t), some (.ref m9), some (.int (0 + (j : Nat))), x7, x8, x9, x10, x11, x12, x13, none] rfl walk_range (fun i2 H' => PenAt H' p c (3000 * i + 410 + 60 * j + 1 + 13 * i2) ∧ SameBut p H11 H' ∧ ∃ (acc : List V) (bs : List (Str × Nat)), H' D = some (.lst acc) ∧ acc.length = i2 ∧ Paired (BlkE H') acc bs ∧ (∀ b ∈ bs, ∀ c ∈ b.1.cps.toList, c ∈ sg.cps.toList) ∧ (∀ b ∈ bs, b.1.cps.size ≤ 5) ∧ ∀ b ∈ bs, b.2 < 2 ^ 100)
          ⟨pen11.keep (Same.upd hD), .new hD, [], [], upd_same, rfl, .nil, fun _ z => absurd z List.not_mem_nil, fun _ z => absurd z List.not_mem_nil, fun _ z => absurd z List.not_mem_nil⟩ (fun _ _ _ _ => trivial) ?_ ?_
        · rintro i2 x _ H12 hi2 ⟨pen12, sb12, acc, bs, hacc, la, pb, b1, b2, b3⟩ ⟨rfl, ex⟩
          refine ⟨rfl, _, rfl, _, rfl, p, c, sg, 5, _, rfl, pen12, by decide, by omega, z1, by omega, fun y H13 ly inn pen13 sb13 => ?_⟩
          refine ⟨_, rfl, p, c, _, rfl, pen13, by omega, fun r2 H14 h30 pen14 sb14 => ?_⟩
          refine ⟨by show 2 ≤ sizeLine; decide, fun q6 hq6 => ?_⟩
          have sb14' := sb13.trans sb14
          have hacc14 := sb14' _ _ hacc (pen12.ne hacc)
          have npq : q6 ≠ D := ne_of_none' hacc14 hq6
          refine ⟨acc, Same.upd hq6 _ _ hacc14, by rw [la, sizeLine_eq]; omega, (pen14.keep (Same.upd hq6)).put npD ncD |>.mono (by omega), fun b o z nb => ?_, acc ++ [.ref q6], bs ++ [(y, r2)], upd_same, by rw [List.length_append, la]; rfl, ?_, ?_, ?_, ?_⟩
          · rw [upd_ne (ne_of_none z hD)]
            exact Same.upd hq6 _ _ (sb14' _ _ (sb12 _ _ z nb) nb)
          · refine psnoc (L2.Paired.mapP pb fun _ _ z => z.keepT fun b ys e => ?_) ⟨q6, rfl, by rw [upd_ne npq, upd_same]⟩
            exact upd_tups (Same.upd hq6 _ _ hacc14) _ _ (Same.upd hq6 _ _ (sb14'.tups pen12 _ _ e))
          · intro b hb
            rcases List.mem_append.mp hb with hb | hb
            · exact b1 b hb
            · rw [List.mem_singleton.mp hb]
              exact inn
          · intro b hb
            rcases List.mem_append.mp hb with hb | hb
            · exact b2 b hb
            · rw [List.mem_singleton.mp hb]
              exact ly
          · intro b hb
            rcases List.mem_append.mp hb with hb | hb
            · exact b3 b hb
            · rw [List.mem_singleton.mp hb]
              exact Nat.lt_of_le_of_lt h30 (by decide +kernel)
        rintro H12 ⟨pen12, sb12, bv, bs, hbv, lbv, pb, b1, b2, b3⟩
        have lbs : bv.length = bs.length := Paired.length pb
        have BB : Blks sg bs := ⟨b1, b2, b3, by omega⟩
        have ma12 := ma11.keepS pen11 sb12
        have sbS12 := sbS11.trans sb12
        have T12 := T0.keepB penS' sbS12
        have pen12' : PenAt H12 p c (3000 * i + 410 + 60 * j + 53) := pen12.mono (by omega)
        clear pen12
        -- far_keys(blocks)
        obtain ⟨dx, _, _, _, _, _, _, _, hm0', _⟩ := id ma12
        refine ⟨_, rfl, m9, dx, _, rfl, hm0', rfl, _, rfl, m9, D, bv, bs, sg, R, Es, rfl, ma12, F, FO, .inl hbv, pb, b1, by omega, fun ks hks => Nat.le_trans (hE ks hks).1 (by decide), fun k8 ks H13 s13 h13 fk => ?_⟩
        have shK : Sh 1 (keysD ks) := sh_keys fun x hx => so x (inW x (fk.low F x hx))
        -- against the law's own
        refine ⟨_, rfl, _, rfl, _, rfl, _, rfl, t, r, e, D, bv, bs, sg, rv, ev, R, Es, rfl, T12.keep s13, F2, by omega, by omega, s13 _ _ hbv, L2.Paired.mapP pb fun _ _ z => z.keep s13, BB, fun p14 ks2 H14 s14 h14 fk2 => ?_⟩
        have ek := fk.one fk2
        subst ek
        refine ⟨keysD ks, keysD ks, .tup (SqT.of (s14 _ _ h13)) (dp_strs K _ _), .tup (SqT.of h14) (dp_strs K _ _), shK.ok (by decide), shK.ok (by decide), _, rfl, ?_⟩
        rw [shK.refl]
        have s14' : Same H12 H14 := fun b o z => s14 _ _ (s13 _ _ z)
        have h14k := s14 _ _ h13
        have ma14 := mach_same s14' ma12
        have T14 := T12.keep s14'
        have hbv14 := s14' _ _ hbv
        have pb14 : Paired (BlkE H14) bv bs := L2.Paired.mapP pb fun _ _ z => z.keep s14'
        have pen14 := pen12'.keep s14'
        have sbS14 := sbS12.trans (.of s14')
        clear s14 h14 h13 s13 ma12 T12 hbv pb pen12' sbS12 s14' sb12 fk2 sb11 pen11 sbS11 ma11
        -- short ones by reading
        refine ⟨fun σ' H' => ∃ x9 x10 x11, σ' = [some (.ref sa), some (.ref p), some (.int (0 + (i : Nat))), some (.str sg), some (.ref t), some (.ref m9), some (.int (0 + (j : Nat))), some (.ref D), some (.ref k8), x9, x10, x11, x12, x13, x14] ∧ Same H14 H', ?_, ?_⟩
        · refine ⟨_, rfl, D, rfl, ⟨_, SqL.of hbv14⟩, fun D2 hD2 => ?_⟩
          refine lcs_it [some (.ref sa), some (.ref p), some (.int (0 + (i : Nat))), some (.str sg), some (.ref t), some (.ref m9), some (.int (0 + (j : Nat))), some (.ref D), some (.ref k8), none, none, x11, x12, x13, x14] rfl walk_list (fun i2 H' => Same H14 H' ∧ ∃ ls : List Nat, H' D2 = some (.lst ((ls.map fun n : Nat => (n : Int)).map V.int)) ∧ ls = ((bs.take i2).map fun b => b.1.cps.size * b.2))
            ⟨Same.upd hD2, [], upd_same, rfl⟩ (fun i2 H' _ z => SqL.of (z.1 _ _ hbv14)) ?_ ?_
          · rintro i2 x _ H15 hi2 ⟨s15, ls, hls, els⟩ ⟨rfl, hx⟩
            obtain ⟨b, hb, a, rfl, ha⟩ := pat pb14 hx
            have bm := List.mem_of_getElem? hb
            have b5 := b2 b bm
            refine ⟨a, _, rfl, SqT.of (s15 _ _ ha), rfl, _, _, rfl, _, _, rfl, rfl, rfl, ?_⟩
            refine ⟨_, rfl, .str b.1, b.1.cps.size, rfl, ⟨by show b.1.cps.size ≤ _; rw [sizeLine_eq]; omega, rfl⟩, _, rfl, _, _, rfl, rfl, .inl ⟨by omega, by omega⟩, ?_⟩
            refine ⟨_, hls, ?_, fun b' o z => ?_, ls ++ [b.1.cps.size * b.2], ?_, ?_⟩
            · rw [List.length_map, List.length_map, els, List.length_map, List.length_take, sizeLine_eq]
              omega
            · rw [upd_ne (ne_of_none z hD2)]
              exact s15 _ _ z
            · rw [upd_same, List.map_append, List.map_append]
              show some (HO.lst (_ ++ [V.int ((b.1.cps.size : Int) * (b.2 : Int))])) = some (HO.lst (_ ++ [V.int ((b.1.cps.size * b.2 : Nat) : Int)]))
              rw [Int.natCast_mul]
            · rw [els, List.take_add_one, hb, List.map_append]
              rfl
          · rintro H15 ⟨s15, ls, hls, els⟩
            have eT : bs.take bv.length = bs := List.take_of_length_le (by omega)
            rw [eT] at els
            refine ⟨D2, _, rfl, SqL.of hls, _, _, rfl, rfl, _, rfl, ?_⟩
            have esum : (ls.map fun n : Nat => (n : Int)).sum = ((lenB bs : Nat) : Int) := by rw [sum_cast, els]; rfl
            rw [esum]
            by_cases c2 : lenB bs < 200
            · rw [decide_eq_true (by omega : ((lenB bs : Nat) : Int) < 200)]
              refine iteT ?_
              refine ⟨⟨_, rfl⟩, _, rfl, D, rfl, ⟨_, SqL.of (s15 _ _ hbv14)⟩, fun D3 hD3 => ?_⟩
              refine lcs_it [some (.ref sa), some (.ref p), some (.int (0 + (i : Nat))), some (.str sg), some (.ref t), some (.ref m9), some (.int (0 + (j : Nat))), some (.ref D), some (.ref k8), none, none, x11, x12, x13, x14] rfl walk_list (fun i2 H' => Same H15 H' ∧ H' D3 = some (.lst ((texts (bs.take i2)).map V.str)))
                ⟨Same.upd hD3, upd_same⟩ (fun i2 H' _ z => SqL.of (z.1 _ _ (s15 _ _ hbv14))) ?_ ?_
              · rintro i2 x _ H16 hi2 ⟨s16, h16⟩ ⟨rfl, hx⟩
                obtain ⟨b, hb, a, rfl, ha⟩ := pat pb14 hx
                have bm := List.mem_of_getElem? hb
                have take1 : bs.take (i2 + 1) = bs.take i2 ++ [b] := by rw [List.take_add_one, hb]; rfl
                have lt := lenB_at bm
                have put : ∀ {o : HO}, Same H15 (upd H16 D3 o) := fun {o} b' u z => by rw [upd_ne (ne_of_none z hD3)]; exact s16 _ _ z
                refine ⟨a, _, rfl, SqT.of (s16 _ _ (s15 _ _ ha)), rfl, _, _, rfl, _, _, rfl, rfl, rfl, ?_⟩
                refine ⟨_, rfl, rfl, _, rfl, ?_⟩
                by_cases c3 : V.str b.1 = V.str ""
                · refine ifFn c3 ⟨s16, ?_⟩
                  rw [h16, take1]
                  unfold texts
                  rw [List.filter_append, List.filter_cons_of_neg (by simp [c3]), List.filter_nil, List.append_nil]
                · refine ifTn c3 ?_
                  have sz : 1 ≤ b.1.cps.size := by
                    rcases Nat.eq_zero_or_pos b.1.cps.size with z | z
                    · refine absurd ?_ c3
                      have : b.1.cps = #[] := Array.size_eq_zero_iff.mp z
                      have e2 : b.1 = "" := by
                        cases hb1 : b.1
                        rw [hb1] at this
                        subst this
                        rfl
                      rw [e2]
                    · exact z
                  have n200 : b.2 < 200 := by
                    have := Nat.mul_le_mul sz (Nat.le_refl b.2)
                    omega
                  refine ⟨_, rfl, _, rfl, b.1, b.2, rfl, rfl, by omega, by omega, _, h16, ?_, put, ?_⟩
                  · rw [List.length_map, sizeLine_eq]
                    unfold texts
                    rw [List.length_map]
                    have := List.length_filter_le (fun b : Str × Nat => !decide (V.str b.1 = V.str "")) (bs.take i2)
                    rw [List.length_take] at this
                    omega
                  · rw [upd_same, take1]
                    unfold texts
                    rw [List.filter_append, List.filter_cons_of_pos (by simp [c3]), List.filter_nil, List.map_append, List.map_append]
                    rfl
              · rintro H16 ⟨s16, h16⟩
                rw [eT] at h16
                have jf : (Txt.join "" (texts bs)).cps.toList = flatB bs := (join_flat _).trans (texts_flat bs)
                have lens : ((texts bs).map (·.length)).sum = lenB bs := by
                  rw [← lenB_flat, ← texts_flat, List.length_flatten, List.map_map]
                  congr 1
                refine ⟨"", D3, texts bs, rfl, rfl, .inl (SqL.of h16), ?_, ?_⟩
                · rw [lens]
                  show lenB bs + (texts bs).length * 0 ≤ 16777216
                  omega
                generalize Txt.join "" (texts bs) = y at jf ⊢
                have ysz : y.cps.size < 200 := by rw [← Array.length_toList, jf, lenB_flat]; exact c2
                have inn : ∀ c ∈ y.cps.toList, c ∈ sg.cps.toList := fun c hc => by
                  rw [jf] at hc
                  obtain ⟨l, hl, hc⟩ := List.mem_flatten.mp hc
                  obtain ⟨b, hb, rfl⟩ := List.mem_map.mp hl
                  obtain ⟨l2, hl2, hc⟩ := List.mem_flatten.mp hc
                  rw [(List.mem_replicate.mp hl2).2] at hc
                  exact b1 b hb c hc
                have eks : ks = keysW sg R Es y.cps.toList := by rw [jf]; exact fk.text
                have s16' : Same H14 H16 := fun b o z => s16 _ _ (s15 _ _ z)
                have T16 := T14.keep s16'
                refine ⟨_, rfl, _, rfl, _, rfl, _, rfl, t, r, e, y, sg, rv, ev, R, Es, rfl, T16.t, T16.r, T16.pr, T16.e, T16.pe, F2, by omega, inn, fun p17 k17 H17 s17 h17 hk17 => ?_⟩
                have at17 : atI ([.int (runW sg R 0 y.cps.toList).1, .ref k17] : List V) 1 = some (.ref k17) := atI_nat (j := 1) rfl
                refine ⟨p17, _, 1, _, rfl, rfl, SqT.of h17, at17, ?_⟩
                rw [← eks] at hk17
                have s17' : Same H14 H17 := fun b o z => s17 _ _ (s16' _ _ z)
                refine ⟨keysD ks, keysD ks, .tup (SqT.of (s17' _ _ h14k)) (dp_strs K _ _), .tup (SqT.of hk17) (dp_strs K _ _), shK.ok (by decide), shK.ok (by decide), _, rfl, ?_⟩
                rw [shK.refl]
                have ma17 := mach_same s17' ma14
                obtain ⟨dx, _, _, _, _, _, _, _, hm0', _⟩ := id ma17
                refine ⟨_, rfl, _, rfl, m9, dx, _, rfl, hm0', rfl, _, rfl, m9, y, sg, R, Es, rfl, ma17, F, fun _ v18 H18 s18 a18 => ?_, fun i2 c2 d2 H2 hc2 nc2 _ _ _ _ => absurd (inn c2 (List.mem_of_getElem? (by rw [Array.getElem?_toList]; exact hc2))) nc2⟩
                obtain ⟨k18, rfl, hk18⟩ := a18
                rw [← eks] at hk18
                have s18' : Same H14 H18 := fun b o z => s18 _ _ (s17' _ _ z)
                refine ⟨keysD ks, keysD ks, .tup (SqT.of (s18' _ _ h14k)) (dp_strs K _ _), .tup (SqT.of hk18) (dp_strs K _ _), shK.ok (by decide), shK.ok (by decide), _, rfl, ?_⟩
                rw [shK.refl]
                exact ⟨_, _, _, rfl, s18'⟩
            · rw [decide_eq_false (by omega : ¬ ((lenB bs : Nat) : Int) < 200)]
              refine iteF ?_
              exact ⟨_, _, _, rfl, s15⟩
        · rintro σ' H15 ⟨x9, x10, x11, rfl, s15⟩
          have ma15 := mach_same s15 ma14
          have pen15 := pen14.keep s15
          -- cut in two
          refine ⟨by decide, fun g0 hg0 => ⟨_, rfl, p, c, _, _, rfl, pen15.keep (Same.upd hg0), by omega, by decide, by decide, fun d0 H16 d00 d01 pen16 sb16 => ⟨_, _, rfl, ?_⟩⟩⟩
          obtain ⟨d0, rfl⟩ := Int.eq_ofNat_of_zero_le d00
          have ma16 := (mach_same (Same.upd hg0) ma15).keepS (pen15.keep (Same.upd hg0)) sb16
          have sb16' : SameBut p H14 H16 := ((SameBut.of s15).trans (.new hg0)).trans sb16
          have hbv16 := sb16' _ _ hbv14 (pen14.ne hbv14)
          have pb16 : Paired (BlkE H16) bv bs := L2.Paired.mapP pb14 fun _ _ z => z.keepT (sb16'.tups pen14)
          have hk16 := sb16'.tups pen14 _ _ h14k
          have hg16 : H16 g0 = some (.lst []) := sb16 _ _ upd_same ((pen15.apart hg0).1)
          have sbS16 := sbS14.trans sb16'
          refine ⟨_, rfl, D, rfl, ⟨_, SqL.of hbv16⟩, ?_⟩
          refine for_it walk_list (fun i2 σ H' => (∃ g x9 x10 acc, σ = [some (.ref sa), some (.ref p), some (.int (0 + (i : Nat))), some (.str sg), some (.ref t), some (.ref m9), some (.int (0 + (j : Nat))), some (.ref D), some (.ref k8), x9, x10, x11, some (.ref g), some (.int d0), x14] ∧ H' g = some (.lst acc) ∧ Paired (BlkE H') acc (cutB d0 (bs.take i2))) ∧ Same H16 H')
            ⟨⟨g0, _, _, [], rfl, hg16, .nil⟩, Same.refl _⟩ (fun i2 σ H' _ z => SqL.of (z.2 _ _ hbv16)) ?_ ?_
          · rintro i2 x σ _ H17 hi2 ⟨⟨g, x9, x10, acc, rfl, hg, pc⟩, s17⟩ ⟨rfl, hx⟩
            obtain ⟨b, hb, a, rfl, ha⟩ := pat pb16 hx
            have take1 : bs.take (i2 + 1) = bs.take i2 ++ [b] := by rw [List.take_add_one, hb]; rfl
            have lacc : acc.length = 2 * (bs.take i2).length := (Paired.length pc).trans (cutB_len _ _)
            have md : ((d0 : Int) % ((b.2 : Int) + 1)) = ((d0 % (b.2 + 1) : Nat) : Int) := by
              rw [show ((b.2 : Int) + 1) = ((b.2 + 1 : Nat) : Int) by omega]
              exact (Int.natCast_emod _ _).symm
            have mlt := Nat.mod_lt d0 (show 0 < b.2 + 1 by omega)
            have sd : (b.2 : Int) - ((d0 % (b.2 + 1) : Nat) : Int) = ((b.2 - d0 % (b.2 + 1) : Nat) : Int) := by omega
            have pos : (0 : Int) < (b.2 : Int) + 1 := by omega
            refine ⟨a, _, rfl, SqT.of (s17 _ _ ha), rfl, _, _, rfl, _, _, rfl, rfl, ?_⟩
            refine ⟨_, rfl, _, rfl, _, rfl, .inl ⟨_, rfl, _, rfl, _, _, rfl, rfl, _, _, rfl, rfl, pos, ?_⟩⟩
            dsimp only
            rw [md]
            refine ⟨by show 2 ≤ sizeLine; decide, fun a1 ha1 => ?_⟩
            refine ⟨_, rfl, _, rfl, _, rfl, .inl ⟨_, rfl, _, rfl, _, _, rfl, rfl, _, _, rfl, rfl, pos, _, _, rfl, rfl, ?_⟩⟩
            dsimp only
            rw [md, sd]
            refine ⟨by show 2 ≤ sizeLine; decide, fun a2 ha2 => ?_⟩
            refine ⟨by show 2 ≤ sizeLine; decide, fun l3 hl3 => ?_⟩
            have t1 : Same H17 (upd (upd (upd H17 a1 (.tup [.str b.1, .int (d0 % (b.2 + 1) : Nat)])) a2 (.tup [.str b.1, .int (b.2 - d0 % (b.2 + 1) : Nat)])) l3 (.lst [.ref a1, .ref a2])) := fun b' o z => Same.upd hl3 _ _ (Same.upd ha2 _ _ (Same.upd ha1 _ _ z))
            have t2 : (upd (upd (upd H17 a1 (.tup [.str b.1, .int (d0 % (b.2 + 1) : Nat)])) a2 (.tup [.str b.1, .int (b.2 - d0 % (b.2 + 1) : Nat)])) l3 (.lst [.ref a1, .ref a2])) a1 = some (.tup [.str b.1, .int (d0 % (b.2 + 1) : Nat)]) := Same.upd hl3 _ _ (Same.upd ha2 _ _ upd_same)
            have t3 : (upd (upd (upd H17 a1 (.tup [.str b.1, .int (d0 % (b.2 + 1) : Nat)])) a2 (.tup [.str b.1, .int (b.2 - d0 % (b.2 + 1) : Nat)])) l3 (.lst [.ref a1, .ref a2])) a2 = some (.tup [.str b.1, .int (b.2 - d0 % (b.2 + 1) : Nat)]) := Same.upd hl3 _ _ upd_same
            have t4 : (upd (upd (upd H17 a1 (.tup [.str b.1, .int (d0 % (b.2 + 1) : Nat)])) a2 (.tup [.str b.1, .int (b.2 - d0 % (b.2 + 1) : Nat)])) l3 (.lst [.ref a1, .ref a2])) l3 = some (.lst [.ref a1, .ref a2]) := upd_same
            generalize upd (upd (upd H17 a1 (.tup [.str b.1, .int (d0 % (b.2 + 1) : Nat)])) a2 (.tup [.str b.1, .int (b.2 - d0 % (b.2 + 1) : Nat)])) l3 (.lst [.ref a1, .ref a2]) = H18 at t1 t2 t3 t4 ⊢
            refine ⟨g, l3, _, _, rfl, rfl, t1 _ _ hg, t4, ?_, fun g2 hg2 => ?_⟩
            · rw [lacc, List.length_take, sizeLine_eq]
              show _ + 2 ≤ _
              omega
            refine ⟨⟨g2, _, _, _, rfl, upd_same, ?_⟩, fun b' o z => Same.upd hg2 _ _ (t1 _ _ (s17 _ _ z))⟩
            rw [take1, cutB_append]
            show Paired _ (acc ++ [.ref a1, .ref a2]) (cutB d0 (bs.take i2) ++ [(b.1, d0 % (b.2 + 1)), (b.1, b.2 - d0 % (b.2 + 1))])
            have s18 : Same H17 (upd H18 g2 (.lst (acc ++ [.ref a1, .ref a2]))) := fun b' o z => Same.upd hg2 _ _ (t1 _ _ z)
            have p1 := psnoc (L2.Paired.mapP pc fun _ _ z => z.keep s18) (show BlkE (upd H18 g2 (.lst (acc ++ [.ref a1, .ref a2]))) (.ref a1) (b.1, d0 % (b.2 + 1)) from ⟨a1, rfl, Same.upd hg2 _ _ t2⟩)
            have p2 := psnoc p1 (show BlkE (upd H18 g2 (.lst (acc ++ [.ref a1, .ref a2]))) (.ref a2) (b.1, b.2 - d0 % (b.2 + 1)) from ⟨a2, rfl, Same.upd hg2 _ _ t3⟩)
            rw [List.append_assoc, List.append_assoc] at p2
            exact p2
          · rintro σ H17 ⟨⟨g, x9, x10, acc, rfl, hg, pc⟩, s17⟩
            have eT : bs.take bv.length = bs := List.take_of_length_le (by omega)
            rw [eT] at pc
            have ma17 := mach_same s17 ma16
            obtain ⟨dx, _, _, _, _, _, _, _, hm0', _⟩ := id ma17
            refine ⟨_, rfl, m9, dx, _, rfl, hm0', rfl, _, rfl, m9, g, acc, cutB d0 bs, sg, R, Es, rfl, ma17, F, FO, .inl hg, pc, fun b hb => cutB_in (P := fun z => ∀ c ∈ z.cps.toList, c ∈ sg.cps.toList) b1 b hb, by rw [cutB_len]; omega, fun ks hks => Nat.le_trans (hE ks hks).1 (by decide), fun k18 ks2 H18 s18 h18 fk2 => ?_⟩
            have ek := fk.one fk2.cut
            subst ek
            have hk18 := s18 _ _ (s17 _ _ hk16)
            refine ⟨_, rfl, keysD ks, keysD ks, .tup (SqT.of h18) (dp_strs K _ _), .tup (SqT.of hk18) (dp_strs K _ _), shK.ok (by decide), shK.ok (by decide), _, rfl, ?_⟩
            rw [shK.refl]
            have s18' : Same H16 H18 := fun b o z => s18 _ _ (s17 _ _ z)
            refine ⟨_, rfl, m9, dx, _, rfl, s18 _ _ hm0', rfl, _, rfl, .inl ⟨D, _, rfl, SqL.of (s18' _ _ hbv16), fun q19 hq19 => ?_⟩⟩
            have ma19 := mach_same (Same.upd (o := .tup bv) hq19) (mach_same s18 ma17)
            refine ⟨m9, q19, bv, bs, sg, R, Es, rfl, ma19, F, FO, .inr upd_same, L2.Paired.mapP pb16 fun _ _ z => z.keep fun b o y => Same.upd hq19 _ _ (s18' _ _ y), b1, by omega, fun ks hks => Nat.le_trans (hE ks hks).1 (by decide), fun k20 ks3 H20 s20 h20 fk3 => ?_⟩
            have ek := fk.one fk3
            subst ek
            refine ⟨_, rfl, keysD ks, keysD ks, .tup (SqT.of h20) (dp_strs K _ _), .tup (SqT.of (s20 _ _ (Same.upd hq19 _ _ hk18))) (dp_strs K _ _), shK.ok (by decide), shK.ok (by decide), _, rfl, ?_⟩
            rw [shK.refl]
            have s20' : Same H16 H20 := fun b o z => s20 _ _ (Same.upd hq19 _ _ (s18' _ _ z))
            exact ⟨⟨_, _, _, _, _, _, _, _, _, rfl⟩, sbS16.trans (.of s20'), (pen16.keep s20').mono (by omega), mach_same s20' ma16⟩
      · rintro σ H10 ⟨⟨x6, x7, x8, x9, x10, x11, x12, x13, x14, rfl⟩, sb10, pen10, ma10⟩
        exact ⟨_, _, _, _, _, _, _, _, _, _, _, _, _, rfl, pen10.mono (by omega)⟩
    · rintro σ H2 ⟨o2, o3, o4, o5, o6, o7, o8, o9, o10, o11, o12, o13, o14, rfl, pen2⟩
      exact kQ _
end
end Kx

namespace Kx
open PySem L2 Own
theorem err_mk {K : PySem.W.Frag} {mg : Str → Option Value} {name : Str} {C M : Addr} {nm q : Str} {N : Addr} {bs : List Value} {sn : List Str} {sub : List Value} {ab : Bool} {col : Option Bool} {dd : Option Addr} {m0 m1 m2 m3 m5 : Option Value}
    (g : mg name = some (.ref C)) (xL : K.lookup C = some (excClassObj nm q C N bs (tailM M) true sn sub ab col dd m0 m1 m2 m3 m5 "ValueError.__new__"))
    (sa : PySem.W.findIn K (.ref C) "__setattr__" = some (some (.builtin "object.__setattr__"))) (ga : PySem.W.findIn K (.ref C) "__getattribute__" = some (some (.builtin "BaseException.__getattribute__"))) (gg : PySem.W.findIn K (.ref C) "__getattr__" = some none)
    (ha : PySem.W.findIn K (.ref C) "__class__" = some (some (.builtin "object.__class__"))) (hn : PySem.W.specialIn K (.builtin "object.__class__") "__get__" = some (some (.builtin "getset_descriptor.__get__"))) (ht : PySem.W.takesIn K (.builtin "object.__class__") = some true)
    (kC : PySem.W.keepIn K (.ref C) = true) : ErrC K mg name C M := by
  have hc : PySem.W.clsIn K C = some { name := nm, bases := bs, mro := .ref C :: tailM M, ns := N, qualname := q, hasDict := true, slotNames := sn, subclasses := sub, abstract := ab, collection := col, hasDel := false } := by unfold PySem.W.clsIn; rw [xL] <;> rfl
  have hs : ∀ b : Value, PySem.W.subIn K (.ref C) b = some ((Value.ref C :: tailM M).contains b) := fun b => by
    show PySem.W.mroIn K C b = _
    unfold PySem.W.mroIn
    rw [hc]
    rfl
  have ty : PySem.W.typeIn K (.ref C) = some (.type "type") := by
    show (K.lookup C).map (·.cls) = _
    rw [xL]
    rfl
  have hd : PySem.W.hasDictIn K C = true := by unfold PySem.W.hasDictIn; rw [hc]; rfl
  have eB : PySem.W.subIn K (.ref C) (.type "BaseException") = some true := by rw [hs]; rfl
  have eO : PySem.W.mroIn K C (.type "object") = some true := (hs (.type "object")).trans rfl
  refine ⟨g, ⟨⟨nm, q, N, bs, _, sn, sub, ab, col, dd, m0, m1, m2, m3, m5, xL, by rfl⟩, sa, eB, ty, kC⟩, ⟨ga, gg, eB, hd, ha, hn, ht, eO⟩, by unfold PySem.W.isClsIn; rw [hc]; rfl, hs⟩
theorem kit_M {K : PySem.W.Frag} {t : Value} {C : Addr} (hd : PySem.W.hasDictIn K C = true) (ty : PySem.W.typeIn K (.ref C) = some (.type "type")) (h : PySem.W.subIn K t (.ref C) = some true) : PySem.W.kitOne K t (.ref C) = some true := by
  unfold PySem.W.kitOne
  by_cases c : (t == Value.ref C) = true
  · rw [if_pos c]
  · rw [if_neg c]
    show (if ((PySem.W.clsIn K C).isSome && PySem.W.typeIn K (.ref C) == some (.type "type")) = true then PySem.W.subIn K t (.ref C) else none) = _
    have z : (PySem.W.clsIn K C).isSome = true := by
      unfold PySem.W.hasDictIn at hd
      cases e : PySem.W.clsIn K C with
      | none => rw [e] at hd; cases hd
      | some _ => rfl
    rw [z, ty, if_pos (by rfl), h]
theorem all_mk {l : PySem.W.OpenLaw} {w : World} {K : PySem.W.Frag} {h : Heap} {mg : Str → Option Value} {fa : Addr} (X : K.In h) (G : h.Ns mainGlobals mg) (hfa : mg "law" = some (.ref fa))
    {M : Addr}
    {CBadMachine NBadMachine : Addr} {nmBadMachine qBadMachine : Str} {bsBadMachine subBadMachine : List Value} {snBadMachine : List Str} {abBadMachine : Bool} {colBadMachine : Option Bool} {ddBadMachine : Option Addr} {maBadMachine mbBadMachine mcBadMachine mdBadMachine meBadMachine : Option Value}
    {IBadMachine : Addr} {odiBadMachine aniBadMachine : Option Addr} {sliBadMachine : Array (Option Value)} {ociBadMachine kViBadMachine dciBadMachine pmiBadMachine cdiBadMachine ctiBadMachine : Value}
    {CTooMany NTooMany : Addr} {nmTooMany qTooMany : Str} {bsTooMany subTooMany : List Value} {snTooMany : List Str} {abTooMany : Bool} {colTooMany : Option Bool} {ddTooMany : Option Addr} {maTooMany mbTooMany mcTooMany mdTooMany meTooMany : Option Value}
    {ITooMany : Addr} {odiTooMany aniTooMany : Option Addr} {sliTooMany : Array (Option Value)} {ociTooMany kViTooMany dciTooMany pmiTooMany cdiTooMany ctiTooMany : Value}
    {CBadSign NBadSign : Addr} {nmBadSign qBadSign : Str} {bsBadSign subBadSign : List Value} {snBadSign : List Str} {abBadSign : Bool} {colBadSign : Option Bool} {ddBadSign : Option Addr} {maBadSign mbBadSign mcBadSign mdBadSign meBadSign : Option Value}
    {IBadSign : Addr} {odiBadSign aniBadSign : Option Addr} {sliBadSign : Array (Option Value)} {ociBadSign kViBadSign dciBadSign pmiBadSign cdiBadSign ctiBadSign : Value}
    {CMachine : Addr}
    {fMachine_init : Addr} {odMachine_init anMachine_init : Option Addr} {slMachine_init : Array (Option Value)} {ocMachine_init kVMachine_init dcMachine_init pmMachine_init cdMachine_init ctMachine_init : Value}
    {fMachine_walk : Addr} {odMachine_walk anMachine_walk : Option Addr} {slMachine_walk : Array (Option Value)} {ocMachine_walk kVMachine_walk dcMachine_walk pmMachine_walk cdMachine_walk ctMachine_walk : Value}
    {fMachine_keys_of : Addr} {odMachine_keys_of anMachine_keys_of : Option Addr} {slMachine_keys_of : Array (Option Value)} {ocMachine_keys_of kVMachine_keys_of dcMachine_keys_of pmMachine_keys_of cdMachine_keys_of ctMachine_keys_of : Value}
    {fMachine_after : Addr} {odMachine_after anMachine_after : Option Addr} {slMachine_after : Array (Option Value)} {ocMachine_after kVMachine_after dcMachine_after pmMachine_after cdMachine_after ctMachine_after : Value}
    {fMachine_far_keys : Addr} {odMachine_far_keys anMachine_far_keys : Option Addr} {slMachine_far_keys : Array (Option Value)} {ocMachine_far_keys kVMachine_far_keys dcMachine_far_keys pmMachine_far_keys cdMachine_far_keys ctMachine_far_keys : Value}
    {fMachine_walk_often : Addr} {odMachine_walk_often anMachine_walk_often : Option Addr} {slMachine_walk_often : Array (Option Value)} {ocMachine_walk_often kVMachine_walk_often dcMachine_walk_often pmMachine_walk_often cdMachine_walk_often ctMachine_walk_often : Value}
    {fis_whole : Addr} {odis_whole anis_whole : Option Addr} {slis_whole : Array (Option Value)} {ocis_whole kVis_whole dcis_whole pmis_whole cdis_whole ctis_whole : Value}
    {fkey_list : Addr} {odkey_list ankey_list : Option Addr} {slkey_list : Array (Option Value)} {ockey_list kVkey_list dckey_list pmkey_list cdkey_list ctkey_list : Value}
    {fcheck_ways : Addr} {odcheck_ways ancheck_ways : Option Addr} {slcheck_ways : Array (Option Value)} {occheck_ways kVcheck_ways dccheck_ways pmcheck_ways cdcheck_ways ctcheck_ways : Value}
    {fkeys_in : Addr} {odkeys_in ankeys_in : Option Addr} {slkeys_in : Array (Option Value)} {ockeys_in kVkeys_in dckeys_in pmkeys_in cdkeys_in ctkeys_in : Value}
    {fcopied : Addr} {odcopied ancopied : Option Addr} {slcopied : Array (Option Value)} {occopied kVcopied dccopied pmcopied cdcopied ctcopied : Value}
    {f_law_pen : Addr} {od_law_pen an_law_pen : Option Addr} {sl_law_pen : Array (Option Value)} {oc_law_pen kV_law_pen dc_law_pen pm_law_pen cd_law_pen ct_law_pen : Value}
    {f_law_draw : Addr} {od_law_draw an_law_draw : Option Addr} {sl_law_draw : Array (Option Value)} {oc_law_draw kV_law_draw dc_law_draw pm_law_draw cd_law_draw ct_law_draw : Value}
    {f_law_pick : Addr} {od_law_pick an_law_pick : Option Addr} {sl_law_pick : Array (Option Value)} {oc_law_pick kV_law_pick dc_law_pick pm_law_pick cd_law_pick ct_law_pick : Value}
    {f_law_signs : Addr} {od_law_signs an_law_signs : Option Addr} {sl_law_signs : Array (Option Value)} {oc_law_signs kV_law_signs dc_law_signs pm_law_signs cd_law_signs ct_law_signs : Value}
    {f_law_keys : Addr} {od_law_keys an_law_keys : Option Addr} {sl_law_keys : Array (Option Value)} {oc_law_keys kV_law_keys dc_law_keys pm_law_keys cd_law_keys ct_law_keys : Value}
    {f_law_tables : Addr} {od_law_tables an_law_tables : Option Addr} {sl_law_tables : Array (Option Value)} {oc_law_tables kV_law_tables dc_law_tables pm_law_tables cd_law_tables ct_law_tables : Value}
    {f_law_read : Addr} {od_law_read an_law_read : Option Addr} {sl_law_read : Array (Option Value)} {oc_law_read kV_law_read dc_law_read pm_law_read cd_law_read ct_law_read : Value}
    {f_law_text : Addr} {od_law_text an_law_text : Option Addr} {sl_law_text : Array (Option Value)} {oc_law_text kV_law_text dc_law_text pm_law_text cd_law_text ct_law_text : Value}
    {f_law_step : Addr} {od_law_step an_law_step : Option Addr} {sl_law_step : Array (Option Value)} {oc_law_step kV_law_step dc_law_step pm_law_step cd_law_step ct_law_step : Value}
    {f_law_times : Addr} {od_law_times an_law_times : Option Addr} {sl_law_times : Array (Option Value)} {oc_law_times kV_law_times dc_law_times pm_law_times cd_law_times ct_law_times : Value}
    {f_law_due : Addr} {od_law_due an_law_due : Option Addr} {sl_law_due : Array (Option Value)} {oc_law_due kV_law_due dc_law_due pm_law_due cd_law_due ct_law_due : Value}
    {f_law_big : Addr} {od_law_big an_law_big : Option Addr} {sl_law_big : Array (Option Value)} {oc_law_big kV_law_big dc_law_big pm_law_big cd_law_big ct_law_big : Value}
    {flaw : Addr} {odlaw anlaw : Option Addr} {sllaw : Array (Option Value)} {oclaw kVlaw dclaw pmlaw cdlaw ctlaw : Value}
    {tMOST_KEYS : Tok}
    (hn : PySem.W.specialIn K (.builtin "object.__class__") "__get__" = some (some (.builtin "getset_descriptor.__get__")))
    (ht : PySem.W.takesIn K (.builtin "object.__class__") = some true)
    (aM : PySem.W.nsIn K mainGlobals "MissError" = some (some (.ref M)))
    (m1 : PySem.W.subIn K (.ref M) (.type "BaseException") = some true)
    (m2 : PySem.W.hasDictIn K M = true)
    (m3 : PySem.W.typeIn K (.ref M) = some (.type "type"))
    (aCBadMachine : PySem.W.nsIn K mainGlobals "BadMachine" = some (some (.ref CBadMachine)))
    (xLBadMachine : K.lookup CBadMachine = some (excClassObj nmBadMachine qBadMachine CBadMachine NBadMachine bsBadMachine (tailM M) true snBadMachine subBadMachine abBadMachine colBadMachine ddBadMachine maBadMachine mbBadMachine mcBadMachine mdBadMachine meBadMachine "ValueError.__new__"))
    (saBadMachine : PySem.W.findIn K (.ref CBadMachine) "__setattr__" = some (some (.builtin "object.__setattr__")))
    (gaBadMachine : PySem.W.findIn K (.ref CBadMachine) "__getattribute__" = some (some (.builtin "BaseException.__getattribute__")))
    (ggBadMachine : PySem.W.findIn K (.ref CBadMachine) "__getattr__" = some none)
    (hcBadMachine : PySem.W.findIn K (.ref CBadMachine) "__class__" = some (some (.builtin "object.__class__")))
    (kCBadMachine : PySem.W.keepIn K (.ref CBadMachine) = true)
    (iCBadMachine : PySem.W.findIn K (.ref CBadMachine) "__init__" = some (some (.ref IBadMachine)))
    (tIBadMachine : PySem.W.typeIn K (.ref IBadMachine) = some (.type "function"))
    (lIBadMachine : K.lookup IBadMachine = some ⟨ociBadMachine, odiBadMachine, .func (PySem.W.fnOf "__init__" "BadMachine.__init__" (defArgs s_BadMachine) (defBody s_BadMachine) (defScope s_BadMachine) .none kViBadMachine dciBadMachine pmiBadMachine aniBadMachine cdiBadMachine ctiBadMachine), sliBadMachine⟩)
    (cIBadMachine : PySem.W.codeIn K cdiBadMachine "BadMachine.__init__" = true)
    (kIBadMachine : PySem.W.keepIn K (.ref IBadMachine) = true)
    (nfBadMachine_state : PySem.W.findIn K (.ref CBadMachine) "state" = some none)
    (nfBadMachine_place : PySem.W.findIn K (.ref CBadMachine) "place" = some none)
    (aCTooMany : PySem.W.nsIn K mainGlobals "TooMany" = some (some (.ref CTooMany)))
    (xLTooMany : K.lookup CTooMany = some (excClassObj nmTooMany qTooMany CTooMany NTooMany bsTooMany (tailM M) true snTooMany subTooMany abTooMany colTooMany ddTooMany maTooMany mbTooMany mcTooMany mdTooMany meTooMany "ValueError.__new__"))
    (saTooMany : PySem.W.findIn K (.ref CTooMany) "__setattr__" = some (some (.builtin "object.__setattr__")))
    (gaTooMany : PySem.W.findIn K (.ref CTooMany) "__getattribute__" = some (some (.builtin "BaseException.__getattribute__")))
    (ggTooMany : PySem.W.findIn K (.ref CTooMany) "__getattr__" = some none)
    (hcTooMany : PySem.W.findIn K (.ref CTooMany) "__class__" = some (some (.builtin "object.__class__")))
    (kCTooMany : PySem.W.keepIn K (.ref CTooMany) = true)
    (iCTooMany : PySem.W.findIn K (.ref CTooMany) "__init__" = some (some (.ref ITooMany)))
    (tITooMany : PySem.W.typeIn K (.ref ITooMany) = some (.type "function"))
    (lITooMany : K.lookup ITooMany = some ⟨ociTooMany, odiTooMany, .func (PySem.W.fnOf "__init__" "TooMany.__init__" (defArgs s_TooMany) (defBody s_TooMany) (defScope s_TooMany) .none kViTooMany dciTooMany pmiTooMany aniTooMany cdiTooMany ctiTooMany), sliTooMany⟩)
    (cITooMany : PySem.W.codeIn K cdiTooMany "TooMany.__init__" = true)
    (kITooMany : PySem.W.keepIn K (.ref ITooMany) = true)
    (nfTooMany_what : PySem.W.findIn K (.ref CTooMany) "what" = some none)
    (aCBadSign : PySem.W.nsIn K mainGlobals "BadSign" = some (some (.ref CBadSign)))
    (xLBadSign : K.lookup CBadSign = some (excClassObj nmBadSign qBadSign CBadSign NBadSign bsBadSign (tailM M) true snBadSign subBadSign abBadSign colBadSign ddBadSign maBadSign mbBadSign mcBadSign mdBadSign meBadSign "ValueError.__new__"))
    (saBadSign : PySem.W.findIn K (.ref CBadSign) "__setattr__" = some (some (.builtin "object.__setattr__")))
    (gaBadSign : PySem.W.findIn K (.ref CBadSign) "__getattribute__" = some (some (.builtin "BaseException.__getattribute__")))
    (ggBadSign : PySem.W.findIn K (.ref CBadSign) "__getattr__" = some none)
    (hcBadSign : PySem.W.findIn K (.ref CBadSign) "__class__" = some (some (.builtin "object.__class__")))
    (kCBadSign : PySem.W.keepIn K (.ref CBadSign) = true)
    (iCBadSign : PySem.W.findIn K (.ref CBadSign) "__init__" = some (some (.ref IBadSign)))
    (tIBadSign : PySem.W.typeIn K (.ref IBadSign) = some (.type "function"))
    (lIBadSign : K.lookup IBadSign = some ⟨ociBadSign, odiBadSign, .func (PySem.W.fnOf "__init__" "BadSign.__init__" (defArgs s_BadSign) (defBody s_BadSign) (defScope s_BadSign) .none kViBadSign dciBadSign pmiBadSign aniBadSign cdiBadSign ctiBadSign), sliBadSign⟩)
    (cIBadSign : PySem.W.codeIn K cdiBadSign "BadSign.__init__" = true)
    (kIBadSign : PySem.W.keepIn K (.ref IBadSign) = true)
    (nfBadSign_place : PySem.W.findIn K (.ref CBadSign) "place" = some none)
    (aCMachine : PySem.W.nsIn K mainGlobals "Machine" = some (some (.ref CMachine)))
    (pgMachine : PySem.W.plainGet K CMachine Str.empty = true)
    (hdMachine : PySem.W.hasDictIn K CMachine = true)
    (poMachine : PySem.W.plainOver K CMachine = true)
    (saMachine : PySem.W.findIn K (.ref CMachine) "__setattr__" = some (some (.builtin "object.__setattr__")))
    (mkMachine : PySem.W.makesIn K CMachine = true)
    (kcMachine : PySem.W.keepIn K (.ref CMachine) = true)
    (naMachine_signs : PySem.W.findIn K (.ref CMachine) "signs" = some none)
    (naMachine_rows : PySem.W.findIn K (.ref CMachine) "rows" = some none)
    (naMachine_ends : PySem.W.findIn K (.ref CMachine) "ends" = some none)
    (naMachine_all_keys : PySem.W.findIn K (.ref CMachine) "all_keys" = some none)
    (naMachine__ways : PySem.W.findIn K (.ref CMachine) "_ways" = some none)
    (aMachine_init : PySem.W.findIn K (.ref CMachine) "__init__" = some (some (.ref fMachine_init)))
    (iMachine_init : PySem.W.isFn K (.ref fMachine_init) = true)
    (lMachine_init : K.lookup fMachine_init = some ⟨ocMachine_init, odMachine_init, .func (PySem.W.fnOf "__init__" "Machine.__init__" (defArgs s_init) (defBody s_init) (defScope s_init) .none kVMachine_init dcMachine_init pmMachine_init anMachine_init cdMachine_init ctMachine_init), slMachine_init⟩)
    (cMachine_init : PySem.W.codeIn K cdMachine_init "Machine.__init__" = true)
    (kMachine_init : PySem.W.keepIn K (.ref fMachine_init) = true)
    (aMachine_walk : PySem.W.findIn K (.ref CMachine) "walk" = some (some (.ref fMachine_walk)))
    (iMachine_walk : PySem.W.isFn K (.ref fMachine_walk) = true)
    (lMachine_walk : K.lookup fMachine_walk = some ⟨ocMachine_walk, odMachine_walk, .func (PySem.W.fnOf "walk" "Machine.walk" (defArgs s_Machine_walk) (defBody s_Machine_walk) (defScope s_Machine_walk) .none kVMachine_walk dcMachine_walk pmMachine_walk anMachine_walk cdMachine_walk ctMachine_walk), slMachine_walk⟩)
    (cMachine_walk : PySem.W.codeIn K cdMachine_walk "Machine.walk" = true)
    (kMachine_walk : PySem.W.keepIn K (.ref fMachine_walk) = true)
    (aMachine_keys_of : PySem.W.findIn K (.ref CMachine) "keys_of" = some (some (.ref fMachine_keys_of)))
    (iMachine_keys_of : PySem.W.isFn K (.ref fMachine_keys_of) = true)
    (lMachine_keys_of : K.lookup fMachine_keys_of = some ⟨ocMachine_keys_of, odMachine_keys_of, .func (PySem.W.fnOf "keys_of" "Machine.keys_of" (defArgs s_Machine_keys_of) (defBody s_Machine_keys_of) (defScope s_Machine_keys_of) .none kVMachine_keys_of dcMachine_keys_of pmMachine_keys_of anMachine_keys_of cdMachine_keys_of ctMachine_keys_of), slMachine_keys_of⟩)
    (cMachine_keys_of : PySem.W.codeIn K cdMachine_keys_of "Machine.keys_of" = true)
    (kMachine_keys_of : PySem.W.keepIn K (.ref fMachine_keys_of) = true)
    (aMachine_after : PySem.W.findIn K (.ref CMachine) "after" = some (some (.ref fMachine_after)))
    (iMachine_after : PySem.W.isFn K (.ref fMachine_after) = true)
    (lMachine_after : K.lookup fMachine_after = some ⟨ocMachine_after, odMachine_after, .func (PySem.W.fnOf "after" "Machine.after" (defArgs s_Machine_after) (defBody s_Machine_after) (defScope s_Machine_after) .none kVMachine_after dcMachine_after pmMachine_after anMachine_after cdMachine_after ctMachine_after), slMachine_after⟩)
    (cMachine_after : PySem.W.codeIn K cdMachine_after "Machine.after" = true)
    (kMachine_after : PySem.W.keepIn K (.ref fMachine_after) = true)
    (aMachine_far_keys : PySem.W.findIn K (.ref CMachine) "far_keys" = some (some (.ref fMachine_far_keys)))
    (iMachine_far_keys : PySem.W.isFn K (.ref fMachine_far_keys) = true)
    (lMachine_far_keys : K.lookup fMachine_far_keys = some ⟨ocMachine_far_keys, odMachine_far_keys, .func (PySem.W.fnOf "far_keys" "Machine.far_keys" (defArgs s_Machine_far_keys) (defBody s_Machine_far_keys) (defScope s_Machine_far_keys) .none kVMachine_far_keys dcMachine_far_keys pmMachine_far_keys anMachine_far_keys cdMachine_far_keys ctMachine_far_keys), slMachine_far_keys⟩)
    (cMachine_far_keys : PySem.W.codeIn K cdMachine_far_keys "Machine.far_keys" = true)
    (kMachine_far_keys : PySem.W.keepIn K (.ref fMachine_far_keys) = true)
    (aMachine_walk_often : PySem.W.findIn K (.ref CMachine) "walk_often" = some (some (.ref fMachine_walk_often)))
    (iMachine_walk_often : PySem.W.isFn K (.ref fMachine_walk_often) = true)
    (lMachine_walk_often : K.lookup fMachine_walk_often = some ⟨ocMachine_walk_often, odMachine_walk_often, .func (PySem.W.fnOf "walk_often" "Machine.walk_often" (defArgs s_Machine_walk_often) (defBody s_Machine_walk_often) (defScope s_Machine_walk_often) .none kVMachine_walk_often dcMachine_walk_often pmMachine_walk_often anMachine_walk_often cdMachine_walk_often ctMachine_walk_often), slMachine_walk_often⟩)
    (cMachine_walk_often : PySem.W.codeIn K cdMachine_walk_often "Machine.walk_often" = true)
    (kMachine_walk_often : PySem.W.keepIn K (.ref fMachine_walk_often) = true)
    (ais_whole : PySem.W.nsIn K mainGlobals "is_whole" = some (some (.ref fis_whole)))
    (lis_whole : K.lookup fis_whole = some ⟨ocis_whole, odis_whole, .func (PySem.W.fnOf "is_whole" "is_whole" (defArgs s_is_whole) (defBody s_is_whole) (defScope s_is_whole) .none kVis_whole dcis_whole pmis_whole anis_whole cdis_whole ctis_whole), slis_whole⟩)
    (cis_whole : PySem.W.codeIn K cdis_whole "is_whole" = true)
    (kis_whole : PySem.W.keepIn K (.ref fis_whole) = true)
    (akey_list : PySem.W.nsIn K mainGlobals "key_list" = some (some (.ref fkey_list)))
    (lkey_list : K.lookup fkey_list = some ⟨ockey_list, odkey_list, .func (PySem.W.fnOf "key_list" "key_list" (defArgs s_key_list) (defBody s_key_list) (defScope s_key_list) .none kVkey_list dckey_list pmkey_list ankey_list cdkey_list ctkey_list), slkey_list⟩)
    (ckey_list : PySem.W.codeIn K cdkey_list "key_list" = true)
    (kkey_list : PySem.W.keepIn K (.ref fkey_list) = true)
    (acheck_ways : PySem.W.nsIn K mainGlobals "check_ways" = some (some (.ref fcheck_ways)))
    (lcheck_ways : K.lookup fcheck_ways = some ⟨occheck_ways, odcheck_ways, .func (PySem.W.fnOf "check_ways" "check_ways" (defArgs s_check_ways) (defBody s_check_ways) (defScope s_check_ways) .none kVcheck_ways dccheck_ways pmcheck_ways ancheck_ways cdcheck_ways ctcheck_ways), slcheck_ways⟩)
    (ccheck_ways : PySem.W.codeIn K cdcheck_ways "check_ways" = true)
    (kcheck_ways : PySem.W.keepIn K (.ref fcheck_ways) = true)
    (akeys_in : PySem.W.nsIn K mainGlobals "keys_in" = some (some (.ref fkeys_in)))
    (lkeys_in : K.lookup fkeys_in = some ⟨ockeys_in, odkeys_in, .func (PySem.W.fnOf "keys_in" "keys_in" (defArgs s_keys_in) (defBody s_keys_in) (defScope s_keys_in) .none kVkeys_in dckeys_in pmkeys_in ankeys_in cdkeys_in ctkeys_in), slkeys_in⟩)
    (ckeys_in : PySem.W.codeIn K cdkeys_in "keys_in" = true)
    (kkeys_in : PySem.W.keepIn K (.ref fkeys_in) = true)
    (acopied : PySem.W.nsIn K mainGlobals "copied" = some (some (.ref fcopied)))
    (lcopied : K.lookup fcopied = some ⟨occopied, odcopied, .func (PySem.W.fnOf "copied" "copied" (defArgs s_copied) (defBody s_copied) (defScope s_copied) .none kVcopied dccopied pmcopied ancopied cdcopied ctcopied), slcopied⟩)
    (ccopied : PySem.W.codeIn K cdcopied "copied" = true)
    (kcopied : PySem.W.keepIn K (.ref fcopied) = true)
    (a_law_pen : PySem.W.nsIn K mainGlobals "_law_pen" = some (some (.ref f_law_pen)))
    (l_law_pen : K.lookup f_law_pen = some ⟨oc_law_pen, od_law_pen, .func (PySem.W.fnOf "_law_pen" "_law_pen" (defArgs s__law_pen) (defBody s__law_pen) (defScope s__law_pen) .none kV_law_pen dc_law_pen pm_law_pen an_law_pen cd_law_pen ct_law_pen), sl_law_pen⟩)
    (c_law_pen : PySem.W.codeIn K cd_law_pen "_law_pen" = true)
    (k_law_pen : PySem.W.keepIn K (.ref f_law_pen) = true)
    (a_law_draw : PySem.W.nsIn K mainGlobals "_law_draw" = some (some (.ref f_law_draw)))
    (l_law_draw : K.lookup f_law_draw = some ⟨oc_law_draw, od_law_draw, .func (PySem.W.fnOf "_law_draw" "_law_draw" (defArgs s__law_draw) (defBody s__law_draw) (defScope s__law_draw) .none kV_law_draw dc_law_draw pm_law_draw an_law_draw cd_law_draw ct_law_draw), sl_law_draw⟩)
    (c_law_draw : PySem.W.codeIn K cd_law_draw "_law_draw" = true)
    (k_law_draw : PySem.W.keepIn K (.ref f_law_draw) = true)
    (a_law_pick : PySem.W.nsIn K mainGlobals "_law_pick" = some (some (.ref f_law_pick)))
    (l_law_pick : K.lookup f_law_pick = some ⟨oc_law_pick, od_law_pick, .func (PySem.W.fnOf "_law_pick" "_law_pick" (defArgs s__law_pick) (defBody s__law_pick) (defScope s__law_pick) .none kV_law_pick dc_law_pick pm_law_pick an_law_pick cd_law_pick ct_law_pick), sl_law_pick⟩)
    (c_law_pick : PySem.W.codeIn K cd_law_pick "_law_pick" = true)
    (k_law_pick : PySem.W.keepIn K (.ref f_law_pick) = true)
    (a_law_signs : PySem.W.nsIn K mainGlobals "_law_signs" = some (some (.ref f_law_signs)))
    (l_law_signs : K.lookup f_law_signs = some ⟨oc_law_signs, od_law_signs, .func (PySem.W.fnOf "_law_signs" "_law_signs" (defArgs s__law_signs) (defBody s__law_signs) (defScope s__law_signs) .none kV_law_signs dc_law_signs pm_law_signs an_law_signs cd_law_signs ct_law_signs), sl_law_signs⟩)
    (c_law_signs : PySem.W.codeIn K cd_law_signs "_law_signs" = true)
    (k_law_signs : PySem.W.keepIn K (.ref f_law_signs) = true)
    (a_law_keys : PySem.W.nsIn K mainGlobals "_law_keys" = some (some (.ref f_law_keys)))
    (l_law_keys : K.lookup f_law_keys = some ⟨oc_law_keys, od_law_keys, .func (PySem.W.fnOf "_law_keys" "_law_keys" (defArgs s__law_keys) (defBody s__law_keys) (defScope s__law_keys) .none kV_law_keys dc_law_keys pm_law_keys an_law_keys cd_law_keys ct_law_keys), sl_law_keys⟩)
    (c_law_keys : PySem.W.codeIn K cd_law_keys "_law_keys" = true)
    (k_law_keys : PySem.W.keepIn K (.ref f_law_keys) = true)
    (a_law_tables : PySem.W.nsIn K mainGlobals "_law_tables" = some (some (.ref f_law_tables)))
    (l_law_tables : K.lookup f_law_tables = some ⟨oc_law_tables, od_law_tables, .func (PySem.W.fnOf "_law_tables" "_law_tables" (defArgs s__law_tables) (defBody s__law_tables) (defScope s__law_tables) .none kV_law_tables dc_law_tables pm_law_tables an_law_tables cd_law_tables ct_law_tables), sl_law_tables⟩)
    (c_law_tables : PySem.W.codeIn K cd_law_tables "_law_tables" = true)
    (k_law_tables : PySem.W.keepIn K (.ref f_law_tables) = true)
    (a_law_read : PySem.W.nsIn K mainGlobals "_law_read" = some (some (.ref f_law_read)))
    (l_law_read : K.lookup f_law_read = some ⟨oc_law_read, od_law_read, .func (PySem.W.fnOf "_law_read" "_law_read" (defArgs s__law_read) (defBody s__law_read) (defScope s__law_read) .none kV_law_read dc_law_read pm_law_read an_law_read cd_law_read ct_law_read), sl_law_read⟩)
    (c_law_read : PySem.W.codeIn K cd_law_read "_law_read" = true)
    (k_law_read : PySem.W.keepIn K (.ref f_law_read) = true)
    (a_law_text : PySem.W.nsIn K mainGlobals "_law_text" = some (some (.ref f_law_text)))
    (l_law_text : K.lookup f_law_text = some ⟨oc_law_text, od_law_text, .func (PySem.W.fnOf "_law_text" "_law_text" (defArgs s__law_text) (defBody s__law_text) (defScope s__law_text) .none kV_law_text dc_law_text pm_law_text an_law_text cd_law_text ct_law_text), sl_law_text⟩)
    (c_law_text : PySem.W.codeIn K cd_law_text "_law_text" = true)
    (k_law_text : PySem.W.keepIn K (.ref f_law_text) = true)
    (a_law_step : PySem.W.nsIn K mainGlobals "_law_step" = some (some (.ref f_law_step)))
    (l_law_step : K.lookup f_law_step = some ⟨oc_law_step, od_law_step, .func (PySem.W.fnOf "_law_step" "_law_step" (defArgs s__law_step) (defBody s__law_step) (defScope s__law_step) .none kV_law_step dc_law_step pm_law_step an_law_step cd_law_step ct_law_step), sl_law_step⟩)
    (c_law_step : PySem.W.codeIn K cd_law_step "_law_step" = true)
    (k_law_step : PySem.W.keepIn K (.ref f_law_step) = true)
    (a_law_times : PySem.W.nsIn K mainGlobals "_law_times" = some (some (.ref f_law_times)))
    (l_law_times : K.lookup f_law_times = some ⟨oc_law_times, od_law_times, .func (PySem.W.fnOf "_law_times" "_law_times" (defArgs s__law_times) (defBody s__law_times) (defScope s__law_times) .none kV_law_times dc_law_times pm_law_times an_law_times cd_law_times ct_law_times), sl_law_times⟩)
    (c_law_times : PySem.W.codeIn K cd_law_times "_law_times" = true)
    (k_law_times : PySem.W.keepIn K (.ref f_law_times) = true)
    (a_law_due : PySem.W.nsIn K mainGlobals "_law_due" = some (some (.ref f_law_due)))
    (l_law_due : K.lookup f_law_due = some ⟨oc_law_due, od_law_due, .func (PySem.W.fnOf "_law_due" "_law_due" (defArgs s__law_due) (defBody s__law_due) (defScope s__law_due) .none kV_law_due dc_law_due pm_law_due an_law_due cd_law_due ct_law_due), sl_law_due⟩)
    (c_law_due : PySem.W.codeIn K cd_law_due "_law_due" = true)
    (k_law_due : PySem.W.keepIn K (.ref f_law_due) = true)
    (a_law_big : PySem.W.nsIn K mainGlobals "_law_big" = some (some (.ref f_law_big)))
    (l_law_big : K.lookup f_law_big = some ⟨oc_law_big, od_law_big, .func (PySem.W.fnOf "_law_big" "_law_big" (defArgs s__law_big) (defBody s__law_big) (defScope s__law_big) .none kV_law_big dc_law_big pm_law_big an_law_big cd_law_big ct_law_big), sl_law_big⟩)
    (c_law_big : PySem.W.codeIn K cd_law_big "_law_big" = true)
    (k_law_big : PySem.W.keepIn K (.ref f_law_big) = true)
    (alaw : PySem.W.nsIn K mainGlobals "law" = some (some (.ref flaw)))
    (llaw : K.lookup flaw = some ⟨oclaw, odlaw, .func (PySem.W.fnOf "law" "law" (defArgs s_law) (defBody s_law) (defScope s_law) .none kVlaw dclaw pmlaw anlaw cdlaw ctlaw), sllaw⟩)
    (claw : PySem.W.codeIn K cdlaw "law" = true)
    (klaw : PySem.W.keepIn K (.ref flaw) = true)
    (gMOST_KEYS : PySem.W.nsIn K mainGlobals "MOST_KEYS" = some (some (.int 12 tMOST_KEYS)))
    (z_isinstance : PySem.W.nsIn K mainGlobals "isinstance" = some none)
    (z_list : PySem.W.nsIn K mainGlobals "list" = some none)
    (z_tuple : PySem.W.nsIn K mainGlobals "tuple" = some none)
    (z_dict : PySem.W.nsIn K mainGlobals "dict" = some none)
    (z_int : PySem.W.nsIn K mainGlobals "int" = some none)
    (z_bool : PySem.W.nsIn K mainGlobals "bool" = some none)
    (z_len : PySem.W.nsIn K mainGlobals "len" = some none)
    (z_set : PySem.W.nsIn K mainGlobals "set" = some none)
    (z_sorted : PySem.W.nsIn K mainGlobals "sorted" = some none)
    (z_zip : PySem.W.nsIn K mainGlobals "zip" = some none)
    (z_enumerate : PySem.W.nsIn K mainGlobals "enumerate" = some none)
    (z_range : PySem.W.nsIn K mainGlobals "range" = some none)
    (z_sum : PySem.W.nsIn K mainGlobals "sum" = some none)
    (z_min : PySem.W.nsIn K mainGlobals "min" = some none)
    : ∃ fd : FuncData, (∀ (s : Shared) (v : Value), BindsTo s fd ⟨[v], []⟩ [("script", v)]) ∧ ∀ base : Heap, K.In base → base.Ns mainGlobals mg → FnOk l.prog w K mg base CX0 9 fa fd ["script"] (spLaw K) := by
  have e : flaw = fa := Value.ref.inj (Option.some.inj ((PySem.W.mg_of X G alaw).symm.trans hfa))
  subst e
  have E_BadMachine : ErrC K mg "BadMachine" CBadMachine M := err_mk (PySem.W.mg_of X G aCBadMachine) xLBadMachine saBadMachine gaBadMachine ggBadMachine hcBadMachine hn ht kCBadMachine
  have FI_BadMachine := fun_mk (st := s_BadMachine) lIBadMachine cIBadMachine kIBadMachine
  have I_BadMachine : IniT K "BadMachine.__init__" s_BadMachine CBadMachine IBadMachine _ ["self", "state", "place"] := ⟨iCBadMachine, tIBadMachine, FI_BadMachine, FI_BadMachine.binds (ps := ["self", "state", "place"]) fun _ _ _ _ _ _ us hl => match us, hl with | [_, _, _], _ => rfl⟩
  have E_TooMany : ErrC K mg "TooMany" CTooMany M := err_mk (PySem.W.mg_of X G aCTooMany) xLTooMany saTooMany gaTooMany ggTooMany hcTooMany hn ht kCTooMany
  have FI_TooMany := fun_mk (st := s_TooMany) lITooMany cITooMany kITooMany
  have I_TooMany : IniT K "TooMany.__init__" s_TooMany CTooMany ITooMany _ ["self", "what"] := ⟨iCTooMany, tITooMany, FI_TooMany, FI_TooMany.binds (ps := ["self", "what"]) fun _ _ _ _ _ _ us hl => match us, hl with | [_, _], _ => rfl⟩
  have E_BadSign : ErrC K mg "BadSign" CBadSign M := err_mk (PySem.W.mg_of X G aCBadSign) xLBadSign saBadSign gaBadSign ggBadSign hcBadSign hn ht kCBadSign
  have FI_BadSign := fun_mk (st := s_BadSign) lIBadSign cIBadSign kIBadSign
  have I_BadSign : IniT K "BadSign.__init__" s_BadSign CBadSign IBadSign _ ["self", "place"] := ⟨iCBadSign, tIBadSign, FI_BadSign, FI_BadSign.binds (ps := ["self", "place"]) fun _ _ _ _ _ _ us hl => match us, hl with | [_, _], _ => rfl⟩
  have cl_Machine : Cls K CMachine := ⟨pgMachine, hdMachine, poMachine, saMachine⟩
  have F_Machine_init := fun_mk (st := s_init) lMachine_init cMachine_init kMachine_init
  have b_Machine_init := F_Machine_init.binds (ps := ["self", "signs", "rows", "ends"]) fun _ _ _ _ _ _ us hl => match us, hl with | [_, _, _, _], _ => rfl
  have mk_Machine : Mk K CMachine fMachine_init := ⟨mkMachine, aMachine_init, iMachine_init, kcMachine⟩
  have F_Machine_walk := fun_mk (st := s_Machine_walk) lMachine_walk cMachine_walk kMachine_walk
  have b_Machine_walk := F_Machine_walk.binds (ps := ["self", "state", "text"]) fun _ _ _ _ _ _ us hl => match us, hl with | [_, _, _], _ => rfl
  have m_Machine_walk : Meth K CMachine "walk" fMachine_walk := ⟨aMachine_walk, iMachine_walk, kMachine_walk⟩
  have F_Machine_keys_of := fun_mk (st := s_Machine_keys_of) lMachine_keys_of cMachine_keys_of kMachine_keys_of
  have b_Machine_keys_of := F_Machine_keys_of.binds (ps := ["self", "text"]) fun _ _ _ _ _ _ us hl => match us, hl with | [_, _], _ => rfl
  have m_Machine_keys_of : Meth K CMachine "keys_of" fMachine_keys_of := ⟨aMachine_keys_of, iMachine_keys_of, kMachine_keys_of⟩
  have F_Machine_after := fun_mk (st := s_Machine_after) lMachine_after cMachine_after kMachine_after
  have b_Machine_after := F_Machine_after.binds (ps := ["self", "text"]) fun _ _ _ _ _ _ us hl => match us, hl with | [_, _], _ => rfl
  have m_Machine_after : Meth K CMachine "after" fMachine_after := ⟨aMachine_after, iMachine_after, kMachine_after⟩
  have F_Machine_far_keys := fun_mk (st := s_Machine_far_keys) lMachine_far_keys cMachine_far_keys kMachine_far_keys
  have b_Machine_far_keys := F_Machine_far_keys.binds (ps := ["self", "blocks"]) fun _ _ _ _ _ _ us hl => match us, hl with | [_, _], _ => rfl
  have m_Machine_far_keys : Meth K CMachine "far_keys" fMachine_far_keys := ⟨aMachine_far_keys, iMachine_far_keys, kMachine_far_keys⟩
  have F_Machine_walk_often := fun_mk (st := s_Machine_walk_often) lMachine_walk_often cMachine_walk_often kMachine_walk_often
  have b_Machine_walk_often := F_Machine_walk_often.binds (ps := ["self", "state", "word", "times"]) fun _ _ _ _ _ _ us hl => match us, hl with | [_, _, _, _], _ => rfl
  have m_Machine_walk_often : Meth K CMachine "walk_often" fMachine_walk_often := ⟨aMachine_walk_often, iMachine_walk_often, kMachine_walk_often⟩
  have Fis_whole := fun_mk (st := s_is_whole) lis_whole cis_whole kis_whole
  have Dis_whole : DefT K mg "is_whole" "is_whole" s_is_whole ["value"] fis_whole _ := ⟨PySem.W.mg_of X G ais_whole, Fis_whole, Fis_whole.binds (ps := ["value"]) fun _ _ _ _ _ _ us hl => match us, hl with | [_], _ => rfl⟩
  have Fkey_list := fun_mk (st := s_key_list) lkey_list ckey_list kkey_list
  have Dkey_list : DefT K mg "key_list" "key_list" s_key_list ["given"] fkey_list _ := ⟨PySem.W.mg_of X G akey_list, Fkey_list, Fkey_list.binds (ps := ["given"]) fun _ _ _ _ _ _ us hl => match us, hl with | [_], _ => rfl⟩
  have Fcheck_ways := fun_mk (st := s_check_ways) lcheck_ways ccheck_ways kcheck_ways
  have Dcheck_ways : DefT K mg "check_ways" "check_ways" s_check_ways ["rows"] fcheck_ways _ := ⟨PySem.W.mg_of X G acheck_ways, Fcheck_ways, Fcheck_ways.binds (ps := ["rows"]) fun _ _ _ _ _ _ us hl => match us, hl with | [_], _ => rfl⟩
  have Fkeys_in := fun_mk (st := s_keys_in) lkeys_in ckeys_in kkeys_in
  have Dkeys_in : DefT K mg "keys_in" "keys_in" s_keys_in ["rows", "ends"] fkeys_in _ := ⟨PySem.W.mg_of X G akeys_in, Fkeys_in, Fkeys_in.binds (ps := ["rows", "ends"]) fun _ _ _ _ _ _ us hl => match us, hl with | [_, _], _ => rfl⟩
  have Fcopied := fun_mk (st := s_copied) lcopied ccopied kcopied
  have Dcopied : DefT K mg "copied" "copied" s_copied ["field"] fcopied _ := ⟨PySem.W.mg_of X G acopied, Fcopied, Fcopied.binds (ps := ["field"]) fun _ _ _ _ _ _ us hl => match us, hl with | [_], _ => rfl⟩
  have F_law_pen := fun_mk (st := s__law_pen) l_law_pen c_law_pen k_law_pen
  have D_law_pen : DefT K mg "_law_pen" "_law_pen" s__law_pen ["script"] f_law_pen _ := ⟨PySem.W.mg_of X G a_law_pen, F_law_pen, F_law_pen.binds (ps := ["script"]) fun _ _ _ _ _ _ us hl => match us, hl with | [_], _ => rfl⟩
  have F_law_draw := fun_mk (st := s__law_draw) l_law_draw c_law_draw k_law_draw
  have D_law_draw : DefT K mg "_law_draw" "_law_draw" s__law_draw ["pen", "many"] f_law_draw _ := ⟨PySem.W.mg_of X G a_law_draw, F_law_draw, F_law_draw.binds (ps := ["pen", "many"]) fun _ _ _ _ _ _ us hl => match us, hl with | [_, _], _ => rfl⟩
  have F_law_pick := fun_mk (st := s__law_pick) l_law_pick c_law_pick k_law_pick
  have D_law_pick : DefT K mg "_law_pick" "_law_pick" s__law_pick ["pen", "items"] f_law_pick _ := ⟨PySem.W.mg_of X G a_law_pick, F_law_pick, F_law_pick.binds (ps := ["pen", "items"]) fun _ _ _ _ _ _ us hl => match us, hl with | [_, _], _ => rfl⟩
  have F_law_signs := fun_mk (st := s__law_signs) l_law_signs c_law_signs k_law_signs
  have D_law_signs : DefT K mg "_law_signs" "_law_signs" s__law_signs ["pen", "many"] f_law_signs _ := ⟨PySem.W.mg_of X G a_law_signs, F_law_signs, F_law_signs.binds (ps := ["pen", "many"]) fun _ _ _ _ _ _ us hl => match us, hl with | [_, _], _ => rfl⟩
  have F_law_keys := fun_mk (st := s__law_keys) l_law_keys c_law_keys k_law_keys
  have D_law_keys : DefT K mg "_law_keys" "_law_keys" s__law_keys ["pen", "words"] f_law_keys _ := ⟨PySem.W.mg_of X G a_law_keys, F_law_keys, F_law_keys.binds (ps := ["pen", "words"]) fun _ _ _ _ _ _ us hl => match us, hl with | [_, _], _ => rfl⟩
  have F_law_tables := fun_mk (st := s__law_tables) l_law_tables c_law_tables k_law_tables
  have D_law_tables : DefT K mg "_law_tables" "_law_tables" s__law_tables ["pen", "signs", "most", "words"] f_law_tables _ := ⟨PySem.W.mg_of X G a_law_tables, F_law_tables, F_law_tables.binds (ps := ["pen", "signs", "most", "words"]) fun _ _ _ _ _ _ us hl => match us, hl with | [_, _, _, _], _ => rfl⟩
  have F_law_read := fun_mk (st := s__law_read) l_law_read c_law_read k_law_read
  have D_law_read : DefT K mg "_law_read" "_law_read" s__law_read ["signs", "tables", "text"] f_law_read _ := ⟨PySem.W.mg_of X G a_law_read, F_law_read, F_law_read.binds (ps := ["signs", "tables", "text"]) fun _ _ _ _ _ _ us hl => match us, hl with | [_, _, _], _ => rfl⟩
  have F_law_text := fun_mk (st := s__law_text) l_law_text c_law_text k_law_text
  have D_law_text : DefT K mg "_law_text" "_law_text" s__law_text ["pen", "signs", "most"] f_law_text _ := ⟨PySem.W.mg_of X G a_law_text, F_law_text, F_law_text.binds (ps := ["pen", "signs", "most"]) fun _ _ _ _ _ _ us hl => match us, hl with | [_, _, _], _ => rfl⟩
  have F_law_step := fun_mk (st := s__law_step) l_law_step c_law_step k_law_step
  have D_law_step : DefT K mg "_law_step" "_law_step" s__law_step ["signs", "tables", "state", "word"] f_law_step _ := ⟨PySem.W.mg_of X G a_law_step, F_law_step, F_law_step.binds (ps := ["signs", "tables", "state", "word"]) fun _ _ _ _ _ _ us hl => match us, hl with | [_, _, _, _], _ => rfl⟩
  have F_law_times := fun_mk (st := s__law_times) l_law_times c_law_times k_law_times
  have D_law_times : DefT K mg "_law_times" "_law_times" s__law_times ["signs", "tables", "state", "word", "times"] f_law_times _ := ⟨PySem.W.mg_of X G a_law_times, F_law_times, F_law_times.binds (ps := ["signs", "tables", "state", "word", "times"]) fun _ _ _ _ _ _ us hl => match us, hl with | [_, _, _, _, _], _ => rfl⟩
  have F_law_due := fun_mk (st := s__law_due) l_law_due c_law_due k_law_due
  have D_law_due : DefT K mg "_law_due" "_law_due" s__law_due ["signs", "tables", "blocks"] f_law_due _ := ⟨PySem.W.mg_of X G a_law_due, F_law_due, F_law_due.binds (ps := ["signs", "tables", "blocks"]) fun _ _ _ _ _ _ us hl => match us, hl with | [_, _, _], _ => rfl⟩
  have F_law_big := fun_mk (st := s__law_big) l_law_big c_law_big k_law_big
  have D_law_big : DefT K mg "_law_big" "_law_big" s__law_big ["pen"] f_law_big _ := ⟨PySem.W.mg_of X G a_law_big, F_law_big, F_law_big.binds (ps := ["pen"]) fun _ _ _ _ _ _ us hl => match us, hl with | [_], _ => rfl⟩
  have Flaw := fun_mk (st := s_law) llaw claw klaw
  have Dlaw : DefT K mg "law" "law" s_law ["script"] flaw _ := ⟨PySem.W.mg_of X G alaw, Flaw, Flaw.binds (ps := ["script"]) fun _ _ _ _ _ _ us hl => match us, hl with | [_], _ => rfl⟩
  have g_MOST_KEYS := PySem.W.mg_of X G gMOST_KEYS
  have n_isinstance := PySem.W.mg_none_of X G z_isinstance
  have n_list := PySem.W.mg_none_of X G z_list
  have n_tuple := PySem.W.mg_none_of X G z_tuple
  have n_dict := PySem.W.mg_none_of X G z_dict
  have n_int := PySem.W.mg_none_of X G z_int
  have n_bool := PySem.W.mg_none_of X G z_bool
  have n_len := PySem.W.mg_none_of X G z_len
  have n_set := PySem.W.mg_none_of X G z_set
  have n_sorted := PySem.W.mg_none_of X G z_sorted
  have n_zip := PySem.W.mg_none_of X G z_zip
  have n_enumerate := PySem.W.mg_none_of X G z_enumerate
  have n_range := PySem.W.mg_none_of X G z_range
  have n_sum := PySem.W.mg_none_of X G z_sum
  have n_min := PySem.W.mg_none_of X G z_min
  let A : EAd := { M := M, c1 := CBadMachine, c2 := CTooMany, i1 := IBadMachine, i2 := ITooMany, e1 := PySem.W.fnOf "__init__" "BadMachine.__init__" (defArgs s_BadMachine) (defBody s_BadMachine) (defScope s_BadMachine) .none kViBadMachine dciBadMachine pmiBadMachine aniBadMachine cdiBadMachine ctiBadMachine, e2 := PySem.W.fnOf "__init__" "TooMany.__init__" (defArgs s_TooMany) (defBody s_TooMany) (defScope s_TooMany) .none kViTooMany dciTooMany pmiTooMany aniTooMany cdiTooMany ctiTooMany, fc := fcopied, dc := PySem.W.fnOf "copied" "copied" (defArgs s_copied) (defBody s_copied) (defScope s_copied) .none kVcopied dccopied pmcopied ancopied cdcopied ctcopied }
  have TE : TxtE K mg A := ⟨E_BadMachine, I_BadMachine, nfBadMachine_state, nfBadMachine_place, E_TooMany, I_TooMany, nfTooMany_what, Dcopied, n_isinstance, n_list, n_tuple, n_dict⟩
  let B : MAd := { f1 := fis_whole, f2 := fkey_list, f3 := fcheck_ways, f4 := fkeys_in, d1 := PySem.W.fnOf "is_whole" "is_whole" (defArgs s_is_whole) (defBody s_is_whole) (defScope s_is_whole) .none kVis_whole dcis_whole pmis_whole anis_whole cdis_whole ctis_whole, d2 := PySem.W.fnOf "key_list" "key_list" (defArgs s_key_list) (defBody s_key_list) (defScope s_key_list) .none kVkey_list dckey_list pmkey_list ankey_list cdkey_list ctkey_list, d3 := PySem.W.fnOf "check_ways" "check_ways" (defArgs s_check_ways) (defBody s_check_ways) (defScope s_check_ways) .none kVcheck_ways dccheck_ways pmcheck_ways ancheck_ways cdcheck_ways ctcheck_ways, d4 := PySem.W.fnOf "keys_in" "keys_in" (defArgs s_keys_in) (defBody s_keys_in) (defScope s_keys_in) .none kVkeys_in dckeys_in pmkeys_in ankeys_in cdkeys_in ctkeys_in }
  have TM : TxtM K mg B := ⟨Dis_whole, Dkey_list, Dcheck_ways, Dkeys_in, n_isinstance, n_int, n_bool, n_len, n_set, n_sorted, n_tuple, n_zip, n_enumerate⟩
  let Z : CAd := { C := CMachine, f := fMachine_init, d := PySem.W.fnOf "__init__" "Machine.__init__" (defArgs s_init) (defBody s_init) (defScope s_init) .none kVMachine_init dcMachine_init pmMachine_init anMachine_init cdMachine_init ctMachine_init }
  have TC : TxtC K mg Z := ⟨cl_Machine, mk_Machine, F_Machine_init, b_Machine_init, PySem.W.mg_of X G aCMachine, naMachine_signs, naMachine_rows, naMachine_ends, naMachine_all_keys, naMachine__ways, ⟨_, g_MOST_KEYS⟩⟩
  let S : SAd := { c := CBadSign, i := IBadSign, e := PySem.W.fnOf "__init__" "BadSign.__init__" (defArgs s_BadSign) (defBody s_BadSign) (defScope s_BadSign) .none kViBadSign dciBadSign pmiBadSign aniBadSign cdiBadSign ctiBadSign, fw := fMachine_walk, fk := fMachine_keys_of, fa := fMachine_after, dw := PySem.W.fnOf "walk" "Machine.walk" (defArgs s_Machine_walk) (defBody s_Machine_walk) (defScope s_Machine_walk) .none kVMachine_walk dcMachine_walk pmMachine_walk anMachine_walk cdMachine_walk ctMachine_walk, dk := PySem.W.fnOf "keys_of" "Machine.keys_of" (defArgs s_Machine_keys_of) (defBody s_Machine_keys_of) (defScope s_Machine_keys_of) .none kVMachine_keys_of dcMachine_keys_of pmMachine_keys_of anMachine_keys_of cdMachine_keys_of ctMachine_keys_of, da := PySem.W.fnOf "after" "Machine.after" (defArgs s_Machine_after) (defBody s_Machine_after) (defScope s_Machine_after) .none kVMachine_after dcMachine_after pmMachine_after anMachine_after cdMachine_after ctMachine_after }
  have TS : TxtS K mg A Z S := ⟨E_BadSign, I_BadSign, nfBadSign_place, m_Machine_walk, F_Machine_walk, b_Machine_walk, m_Machine_keys_of, F_Machine_keys_of, b_Machine_keys_of, m_Machine_after, F_Machine_after, b_Machine_after⟩
  let O : OAd := { fo := fMachine_walk_often, ff := fMachine_far_keys, dO := PySem.W.fnOf "walk_often" "Machine.walk_often" (defArgs s_Machine_walk_often) (defBody s_Machine_walk_often) (defScope s_Machine_walk_often) .none kVMachine_walk_often dcMachine_walk_often pmMachine_walk_often anMachine_walk_often cdMachine_walk_often ctMachine_walk_often, df := PySem.W.fnOf "far_keys" "Machine.far_keys" (defArgs s_Machine_far_keys) (defBody s_Machine_far_keys) (defScope s_Machine_far_keys) .none kVMachine_far_keys dcMachine_far_keys pmMachine_far_keys anMachine_far_keys cdMachine_far_keys ctMachine_far_keys }
  have TO : TxtO K mg Z O := ⟨m_Machine_walk_often, F_Machine_walk_often, b_Machine_walk_often, m_Machine_far_keys, F_Machine_far_keys, b_Machine_far_keys⟩
  let L : LAd := { f1 := f_law_signs, f2 := f_law_keys, f3 := f_law_tables, d1 := PySem.W.fnOf "_law_signs" "_law_signs" (defArgs s__law_signs) (defBody s__law_signs) (defScope s__law_signs) .none kV_law_signs dc_law_signs pm_law_signs an_law_signs cd_law_signs ct_law_signs, d2 := PySem.W.fnOf "_law_keys" "_law_keys" (defArgs s__law_keys) (defBody s__law_keys) (defScope s__law_keys) .none kV_law_keys dc_law_keys pm_law_keys an_law_keys cd_law_keys ct_law_keys, d3 := PySem.W.fnOf "_law_tables" "_law_tables" (defArgs s__law_tables) (defBody s__law_tables) (defScope s__law_tables) .none kV_law_tables dc_law_tables pm_law_tables an_law_tables cd_law_tables ct_law_tables, p1 := f_law_pen, p2 := f_law_draw, p3 := f_law_pick, q1 := PySem.W.fnOf "_law_pen" "_law_pen" (defArgs s__law_pen) (defBody s__law_pen) (defScope s__law_pen) .none kV_law_pen dc_law_pen pm_law_pen an_law_pen cd_law_pen ct_law_pen, q2 := PySem.W.fnOf "_law_draw" "_law_draw" (defArgs s__law_draw) (defBody s__law_draw) (defScope s__law_draw) .none kV_law_draw dc_law_draw pm_law_draw an_law_draw cd_law_draw ct_law_draw, q3 := PySem.W.fnOf "_law_pick" "_law_pick" (defArgs s__law_pick) (defBody s__law_pick) (defScope s__law_pick) .none kV_law_pick dc_law_pick pm_law_pick an_law_pick cd_law_pick ct_law_pick }
  have TP : TxtP K mg f_law_pen f_law_draw f_law_pick (PySem.W.fnOf "_law_pen" "_law_pen" (defArgs s__law_pen) (defBody s__law_pen) (defScope s__law_pen) .none kV_law_pen dc_law_pen pm_law_pen an_law_pen cd_law_pen ct_law_pen) (PySem.W.fnOf "_law_draw" "_law_draw" (defArgs s__law_draw) (defBody s__law_draw) (defScope s__law_draw) .none kV_law_draw dc_law_draw pm_law_draw an_law_draw cd_law_draw ct_law_draw) (PySem.W.fnOf "_law_pick" "_law_pick" (defArgs s__law_pick) (defBody s__law_pick) (defScope s__law_pick) .none kV_law_pick dc_law_pick pm_law_pick an_law_pick cd_law_pick ct_law_pick) := ⟨D_law_pen, D_law_draw, D_law_pick, n_list, n_int, n_len⟩
  have TL : TxtL K mg L := ⟨TP, D_law_signs, D_law_keys, D_law_tables, n_len, n_range, n_set, n_sorted⟩
  have TR : TxtR K mg f_law_read (PySem.W.fnOf "_law_read" "_law_read" (defArgs s__law_read) (defBody s__law_read) (defScope s__law_read) .none kV_law_read dc_law_read pm_law_read an_law_read cd_law_read ct_law_read) := ⟨D_law_read, n_list, n_set, n_sorted, n_tuple⟩
  have TSt : TxtSt K mg f_law_step f_law_times f_law_due (PySem.W.fnOf "_law_step" "_law_step" (defArgs s__law_step) (defBody s__law_step) (defScope s__law_step) .none kV_law_step dc_law_step pm_law_step an_law_step cd_law_step ct_law_step) (PySem.W.fnOf "_law_times" "_law_times" (defArgs s__law_times) (defBody s__law_times) (defScope s__law_times) .none kV_law_times dc_law_times pm_law_times an_law_times cd_law_times ct_law_times) (PySem.W.fnOf "_law_due" "_law_due" (defArgs s__law_due) (defBody s__law_due) (defScope s__law_due) .none kV_law_due dc_law_due pm_law_due an_law_due cd_law_due ct_law_due) := ⟨D_law_step, D_law_times, D_law_due, n_range, n_len, n_int, n_sorted, n_set, n_list, n_tuple⟩
  have T : TxtW K mg A B Z S O L f_law_step f_law_times f_law_due f_law_read f_law_text f_law_big flaw (PySem.W.fnOf "_law_step" "_law_step" (defArgs s__law_step) (defBody s__law_step) (defScope s__law_step) .none kV_law_step dc_law_step pm_law_step an_law_step cd_law_step ct_law_step) (PySem.W.fnOf "_law_times" "_law_times" (defArgs s__law_times) (defBody s__law_times) (defScope s__law_times) .none kV_law_times dc_law_times pm_law_times an_law_times cd_law_times ct_law_times) (PySem.W.fnOf "_law_due" "_law_due" (defArgs s__law_due) (defBody s__law_due) (defScope s__law_due) .none kV_law_due dc_law_due pm_law_due an_law_due cd_law_due ct_law_due) (PySem.W.fnOf "_law_read" "_law_read" (defArgs s__law_read) (defBody s__law_read) (defScope s__law_read) .none kV_law_read dc_law_read pm_law_read an_law_read cd_law_read ct_law_read) (PySem.W.fnOf "_law_text" "_law_text" (defArgs s__law_text) (defBody s__law_text) (defScope s__law_text) .none kV_law_text dc_law_text pm_law_text an_law_text cd_law_text ct_law_text) (PySem.W.fnOf "_law_big" "_law_big" (defArgs s__law_big) (defBody s__law_big) (defScope s__law_big) .none kV_law_big dc_law_big pm_law_big an_law_big cd_law_big ct_law_big) (PySem.W.fnOf "law" "law" (defArgs s_law) (defBody s_law) (defScope s_law) .none kVlaw dclaw pmlaw anlaw cdlaw ctlaw) :=
    ⟨TM, TE, TC, TS, TO, TSt, TR, ⟨TP, D_law_text, n_range⟩, ⟨TP, D_law_big, n_range⟩, TL, Dlaw, n_range, n_min, n_len, n_sum, n_int, n_tuple⟩
  exact ⟨PySem.W.fnOf "law" "law" (defArgs s_law) (defBody s_law) (defScope s_law) .none kVlaw dclaw pmlaw anlaw cdlaw ctlaw, fun s v => .of_eq rfl, fun base _ _ => ok_law T⟩
theorem walk {l : PySem.W.OpenLaw} {q : Program} {loose : List Str} {XP : (Str → Option Value) → Heap → Prop} {YP : World → Heap → Prop} {d : DefRec} {K : Params → PySem.W.Frag} (hn : l.most = some 63) (hdf : d.params.defaults = [])
    (hY : ∀ (w : World) (h : Heap), YP w h → (K w.params).In h)
    (F : ∀ (w : World) (mg : Str → Option Value) (fa : Addr) (h : Heap), (K w.params).In h → h.Ns mainGlobals mg → mg d.name = some (.ref fa) → ∃ fd : FuncData, (∀ (s : Shared) (u : Value), BindsTo s fd ⟨[u], []⟩ [("script", u)]) ∧ ∀ base : Heap, (K w.params).In base → base.Ns mainGlobals mg →
      FnOk l.prog w (K w.params) mg base CX0 9 fa fd ["script"] (spLaw (K w.params))) :
    PySem.W.WalkO q loose XP YP l.row.toRowW d [] (fun f vs => PySem.call f vs) :=
  L2.walk_of (n := 63) (k := 9) (x := "script") (CX := fun _ => CX0) (sp := fun w => spLaw (K w.params)) hn (by decide) hdf ⟨rfl, by decide, by decide⟩ hY F (fun _ _ a ns hl _ hS => ⟨a, ns, rfl, hS, hl, fun _ => rfl⟩) fun _ _ _ _ _ z => z
end Kx

open PySem PySem.W PyProof.Rows
set_option maxRecDepth 100000 in
set_option maxHeartbeats 0 in
theorem PySem.Challenge.cw_nevermiss_k04_far_texts_holds : PySem.Challenge.rw_nevermiss_k04_far_texts.Holds := by
  w_on; o_law; k_head; (case hw => w_witness2)
  k_fill
  refine Kx.walk (l := PySem.Challenge.rw_nevermiss_k04_far_texts) rfl rfl (fun w h Y => PySem.W.kIn_of Y) ?F
  case F =>
    intro w mg fa h KX G hmg
    refine' Kx.all_mk KX G hmg ?hn ?ht ?aM ?m1 ?m2 ?m3 ?aCBadMachine ?xLBadMachine ?saBadMachine ?gaBadMachine ?ggBadMachine ?hcBadMachine ?kCBadMachine ?iCBadMachine ?tIBadMachine ?lIBadMachine ?cIBadMachine ?kIBadMachine ?nfBadMachine_state ?nfBadMachine_place ?aCTooMany ?xLTooMany ?saTooMany ?gaTooMany ?ggTooMany ?hcTooMany ?kCTooMany ?iCTooMany ?tITooMany ?lITooMany ?cITooMany ?kITooMany ?nfTooMany_what ?aCBadSign ?xLBadSign ?saBadSign ?gaBadSign ?ggBadSign ?hcBadSign ?kCBadSign ?iCBadSign ?tIBadSign ?lIBadSign ?cIBadSign ?kIBadSign ?nfBadSign_place ?aCMachine ?pgMachine ?hdMachine ?poMachine ?saMachine ?mkMachine ?kcMachine ?naMachine_signs ?naMachine_rows ?naMachine_ends ?naMachine_all_keys ?naMachine__ways ?aMachine_init ?iMachine_init ?lMachine_init ?cMachine_init ?kMachine_init ?aMachine_walk ?iMachine_walk ?lMachine_walk ?cMachine_walk ?kMachine_walk ?aMachine_keys_of ?iMachine_keys_of ?lMachine_keys_of ?cMachine_keys_of ?kMachine_keys_of ?aMachine_after ?iMachine_after ?lMachine_after ?cMachine_after ?kMachine_after ?aMachine_far_keys ?iMachine_far_keys ?lMachine_far_keys ?cMachine_far_keys ?kMachine_far_keys ?aMachine_walk_often ?iMachine_walk_often ?lMachine_walk_often ?cMachine_walk_often ?kMachine_walk_often ?ais_whole ?lis_whole ?cis_whole ?kis_whole ?akey_list ?lkey_list ?ckey_list ?kkey_list ?acheck_ways ?lcheck_ways ?ccheck_ways ?kcheck_ways ?akeys_in ?lkeys_in ?ckeys_in ?kkeys_in ?acopied ?lcopied ?ccopied ?kcopied ?a_law_pen ?l_law_pen ?c_law_pen ?k_law_pen ?a_law_draw ?l_law_draw ?c_law_draw ?k_law_draw ?a_law_pick ?l_law_pick ?c_law_pick ?k_law_pick ?a_law_signs ?l_law_signs ?c_law_signs ?k_law_signs ?a_law_keys ?l_law_keys ?c_law_keys ?k_law_keys ?a_law_tables ?l_law_tables ?c_law_tables ?k_law_tables ?a_law_read ?l_law_read ?c_law_read ?k_law_read ?a_law_text ?l_law_text ?c_law_text ?k_law_text ?a_law_step ?l_law_step ?c_law_step ?k_law_step ?a_law_times ?l_law_times ?c_law_times ?k_law_times ?a_law_due ?l_law_due ?c_law_due ?k_law_due ?a_law_big ?l_law_big ?c_law_big ?k_law_big ?alaw ?llaw ?claw ?klaw ?gMOST_KEYS ?z_isinstance ?z_list ?z_tuple ?z_dict ?z_int ?z_bool ?z_len ?z_set ?z_sorted ?z_zip ?z_enumerate ?z_range ?z_sum ?z_min
    (case hn => k_is)
    (case ht => k_is)
    (case aM => k_is)
    (case m1 => k_is)
    (case m2 => k_is)
    (case m3 => k_is)
    (case aCBadMachine => k_is)
    (case xLBadMachine => k_is)
    (case saBadMachine => k_is)
    (case gaBadMachine => k_is)
    (case ggBadMachine => k_is)
    (case hcBadMachine => k_is)
    (case kCBadMachine => k_is)
    (case iCBadMachine => k_is)
    (case tIBadMachine => k_is)
    (case lIBadMachine => k_is)
    (case cIBadMachine => k_is)
    (case kIBadMachine => k_is)
    (case nfBadMachine_state => k_is)
    (case nfBadMachine_place => k_is)
    (case aCTooMany => k_is)
    (case xLTooMany => k_is)
    (case saTooMany => k_is)
    (case gaTooMany => k_is)
    (case ggTooMany => k_is)
    (case hcTooMany => k_is)
    (case kCTooMany => k_is)
    (case iCTooMany => k_is)
    (case tITooMany => k_is)
    (case lITooMany => k_is)
    (case cITooMany => k_is)
    (case kITooMany => k_is)
    (case nfTooMany_what => k_is)
    (case aCBadSign => k_is)
    (case xLBadSign => k_is)
    (case saBadSign => k_is)
    (case gaBadSign => k_is)
    (case ggBadSign => k_is)
    (case hcBadSign => k_is)
    (case kCBadSign => k_is)
    (case iCBadSign => k_is)
    (case tIBadSign => k_is)
    (case lIBadSign => k_is)
    (case cIBadSign => k_is)
    (case kIBadSign => k_is)
    (case nfBadSign_place => k_is)
    (case aCMachine => k_is)
    (case pgMachine => k_is)
    (case hdMachine => k_is)
    (case poMachine => k_is)
    (case saMachine => k_is)
    (case mkMachine => k_is)
    (case kcMachine => k_is)
    (case naMachine_signs => k_is)
    (case naMachine_rows => k_is)
    (case naMachine_ends => k_is)
    (case naMachine_all_keys => k_is)
    (case naMachine__ways => k_is)
    (case aMachine_init => k_is)
    (case iMachine_init => k_is)
    (case lMachine_init => k_is)
    (case cMachine_init => k_is)
    (case kMachine_init => k_is)
    (case aMachine_walk => k_is)
    (case iMachine_walk => k_is)
    (case lMachine_walk => k_is)
    (case cMachine_walk => k_is)
    (case kMachine_walk => k_is)
    (case aMachine_keys_of => k_is)
    (case iMachine_keys_of => k_is)
    (case lMachine_keys_of => k_is)
    (case cMachine_keys_of => k_is)
    (case kMachine_keys_of => k_is)
    (case aMachine_after => k_is)
    (case iMachine_after => k_is)
    (case lMachine_after => k_is)
    (case cMachine_after => k_is)
    (case kMachine_after => k_is)
    (case aMachine_far_keys => k_is)
    (case iMachine_far_keys => k_is)
    (case lMachine_far_keys => k_is)
    (case cMachine_far_keys => k_is)
    (case kMachine_far_keys => k_is)
    (case aMachine_walk_often => k_is)
    (case iMachine_walk_often => k_is)
    (case lMachine_walk_often => k_is)
    (case cMachine_walk_often => k_is)
    (case kMachine_walk_often => k_is)
    (case ais_whole => k_is)
    (case lis_whole => k_is)
    (case cis_whole => k_is)
    (case kis_whole => k_is)
    (case akey_list => k_is)
    (case lkey_list => k_is)
    (case ckey_list => k_is)
    (case kkey_list => k_is)
    (case acheck_ways => k_is)
    (case lcheck_ways => k_is)
    (case ccheck_ways => k_is)
    (case kcheck_ways => k_is)
    (case akeys_in => k_is)
    (case lkeys_in => k_is)
    (case ckeys_in => k_is)
    (case kkeys_in => k_is)
    (case acopied => k_is)
    (case lcopied => k_is)
    (case ccopied => k_is)
    (case kcopied => k_is)
    (case a_law_pen => k_is)
    (case l_law_pen => k_is)
    (case c_law_pen => k_is)
    (case k_law_pen => k_is)
    (case a_law_draw => k_is)
    (case l_law_draw => k_is)
    (case c_law_draw => k_is)
    (case k_law_draw => k_is)
    (case a_law_pick => k_is)
    (case l_law_pick => k_is)
    (case c_law_pick => k_is)
    (case k_law_pick => k_is)
    (case a_law_signs => k_is)
    (case l_law_signs => k_is)
    (case c_law_signs => k_is)
    (case k_law_signs => k_is)
    (case a_law_keys => k_is)
    (case l_law_keys => k_is)
    (case c_law_keys => k_is)
    (case k_law_keys => k_is)
    (case a_law_tables => k_is)
    (case l_law_tables => k_is)
    (case c_law_tables => k_is)
    (case k_law_tables => k_is)
    (case a_law_read => k_is)
    (case l_law_read => k_is)
    (case c_law_read => k_is)
    (case k_law_read => k_is)
    (case a_law_text => k_is)
    (case l_law_text => k_is)
    (case c_law_text => k_is)
    (case k_law_text => k_is)
    (case a_law_step => k_is)
    (case l_law_step => k_is)
    (case c_law_step => k_is)
    (case k_law_step => k_is)
    (case a_law_times => k_is)
    (case l_law_times => k_is)
    (case c_law_times => k_is)
    (case k_law_times => k_is)
    (case a_law_due => k_is)
    (case l_law_due => k_is)
    (case c_law_due => k_is)
    (case k_law_due => k_is)
    (case a_law_big => k_is)
    (case l_law_big => k_is)
    (case c_law_big => k_is)
    (case k_law_big => k_is)
    (case alaw => k_is)
    (case llaw => k_is)
    (case claw => k_is)
    (case klaw => k_is)
    (case gMOST_KEYS => k_is)
    (case z_isinstance => k_is)
    (case z_list => k_is)
    (case z_tuple => k_is)
    (case z_dict => k_is)
    (case z_int => k_is)
    (case z_bool => k_is)
    (case z_len => k_is)
    (case z_set => k_is)
    (case z_sorted => k_is)
    (case z_zip => k_is)
    (case z_enumerate => k_is)
    (case z_range => k_is)
    (case z_sum => k_is)
    (case z_min => k_is)

