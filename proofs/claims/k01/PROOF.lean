import PyProof.Rows.All
import Wide.All
import OpenK.AllK
import Wide.FinOn
import HandS.ForMost
import HandS.ForExc
import HandS.ExcInit
import HandS.ExcField
import HandS.ExcIs
import HandS.ExcValue
import HandS.HotCalls
import HandS.MakeKwOnly
import HandS.IsInst
import HandS.Conv
import HandS.Wide
import HandS.Codes
import KE.KExcIs
import PySem.Challenge.RW_nevermiss_k01_errors
set_option Elab.async false
set_option linter.all false
set_option maxRecDepth 100000
set_option maxHeartbeats 4000000
/-! An own exception class called with keywords: its own __init__ sees them. -/
namespace Own
open PySem PySem.Calls PySem.HandSPX
section
variable {prog : Program} {wo : World} {Ar : Around} {hp : Heap} {gs : Array GenState} {dr : Drawn} {tk : Nat} {os : OsState} {kw : List (Str × Value)}
variable {nm qn : Str} {Cl Ns : Addr} {bases tail full : List Value} {slots : List Str} {subs : List Value} {abst : Bool} {coll : Option Bool} {dict : Option Addr} {s0 s1 s2 s3 s5 : Option Value} {hd : Bool} {Base new ini : String}
local macro_rules | `(tactic| walk_at "stp") => `(tactic| first | with_reducible refine wpAny_loadPart_at (by assumption) ?_ | with_reducible refine wpAny_madeBy_exc (by assumption) ?_ | wp_step)
/-- what stands of the class at Cl -/
abbrev Has (hp : Heap) (nm qn : Str) (Cl Ns : Addr) (bases tail : List Value) (hd : Bool) (slots : List Str) (subs : List Value) (abst : Bool) (coll : Option Bool) (dict : Option Addr) (s0 s1 s2 s3 s5 : Option Value) (new : String) : Prop :=
  hp.get? Cl = some (excClassObj nm qn Cl Ns bases tail hd slots subs abst coll dict s0 s1 s2 s3 s5 new)
theorem inTail (F : ExcBaseFacts Base new ini full) (same : ∀ T : String, tail.contains (.type T) = full.contains (.type T)) : (Value.ref Cl :: tail).contains (.type Base) = true := by
  rw [List.contains_cons, same, F.hasB]
  exact Bool.or_true _
theorem seen {Q : Unit → Shared → Prop} {E : Value → Shared → Prop} (F : ExcBaseFacts Base new ini full) (same : ∀ T : String, tail.contains (.type T) = full.contains (.type T)) (h : Has hp nm qn Cl Ns bases tail hd slots subs abst coll dict s0 s1 s2 s3 s5 new)
    (k : Q () ⟨hp, gs, dr, tk, os⟩) : wpAny (model prog wo) Ar (checkBuiltinCall new ⟨[.ref Cl], kw⟩) Q E ⟨hp, gs, dr, tk, os⟩ := by
  have within := inTail (Cl := Cl) F same
  have ns := F.noStar
  unfold checkBuiltinCall
  simp only [F.newKind, F.newSplit, F.newRow]
  repeat (first | (refine wpAny_isSubtype_exc h ?_; rw [within]) | refine wpAny_staticBase_exc h ?_ | refine wpAny_madeBy_exc h ?_ | refine wpAny_loadPart_at h ?_ | simp only [Bool.false_eq_true, bne_self_eq_false, if_false] | wp_step)
  exact k
theorem bare {R : Result → Shared → Prop} (F : ExcBaseFacts Base new ini full) (same : ∀ T : String, tail.contains (.type T) = full.contains (.type T)) (h : Has hp nm qn Cl Ns bases tail hd slots subs abst coll dict s0 s1 s2 s3 s5 new)
    (k : R (.ok (.ret (.ref (hp.objs.size + 1)))) ⟨(hp.push (W.kdv_tup [])).push (excO Cl hp.objs.size), gs, dr, tk, os⟩) : codeAny (model prog wo) Ar (.builtin new ⟨[.ref Cl], kw⟩) R ⟨hp, gs, dr, tk, os⟩ := by
  have i1 := inTail (Cl := Cl) F same
  have i2 : (Value.ref Cl :: tail).contains (.type "AttributeError") = false := by rw [List.contains_cons, same, F.noAttr] <;> rfl
  have i3 : (Value.ref Cl :: tail).contains (.type "NameError") = false := by rw [List.contains_cons, same, F.noName] <;> rfl
  have en := F.ends
  apply codeAny_builtinAt F.entry
  unfold Builtin.«BaseException.__new__»
  apply wpAt_bind
  apply wpAt_bind
  apply wpAt_stack
  intro top below
  apply wpAt_of_wpAny
  wp_walk
  apply wpAt_of_wpAny
  rw [F.owner]
  repeat (first | with_reducible refine wpAny_madeHere_exc F.canon h ?_ | (with_reducible refine wpAny_isSubtype_exc h ?_; first | rw [i1] | rw [i2] | rw [i3]) | walk_at "stp")
  show R _ _
  rw [Heap.size_push]
  exact k
theorem called {Q : Fin → Shared → Prop} {E : Value → Shared → Prop} {fi : Addr} (F : ExcBaseFacts Base new ini full) (same : ∀ T : String, tail.contains (.type T) = full.contains (.type T)) (h : Has hp nm qn Cl Ns bases tail hd slots subs abst coll dict s0 s1 s2 s3 s5 new)
    (find : W.Looks (model prog wo) hp (typeLookup (.ref Cl) "__init__") (some (.ref fi))) (bound : ∀ me, W.Looks (model prog wo) hp (bindSpecial (.ref fi) me) (.ref fi, [me]))
    (run : codeAny (model prog wo) Ar (.call (.ref fi) ⟨[.ref (hp.objs.size + 1)], kw⟩) (fun r s' => match r with
      | .error e => E e s'
      | .ok (.ret u) => u = .none ∧ Q (.done (.ret (.ref (hp.objs.size + 1)))) s'
      | .ok _ => False) ⟨(hp.push (W.kdv_tup [])).push (excO Cl hp.objs.size), gs, dr, tk, os⟩) :
    wpAny (model prog wo) Ar (Builtin.«type.__call__» ⟨[.ref Cl], kw⟩) Q E ⟨hp, gs, dr, tk, os⟩ := by
  repeat walk_at "stp"
  apply codeAny_call_builtin_code (Code.quiet_builtin _ F.quiet) (seen F same h _)
  apply bare F same h
  show wpAny _ _ _ _ _ _
  have stay : ∀ b o, hp.get? b = some o → ((hp.push (W.kdv_tup [])).push (excO Cl hp.objs.size)).get? b = some o := fun b o e => Heap.get?_push_of_some _ (Heap.get?_push_of_some _ e)
  have cls := stay _ _ h
  have obj : ((hp.push (W.kdv_tup [])).push (excO Cl hp.objs.size)).get? (hp.objs.size + 1) = some (excO Cl hp.objs.size) := by heap_get
  have self : (Value.ref Cl :: tail).contains (.ref Cl) = true := by simp
  have find' := find.keeps stay
  have bound' := (bound (.ref (hp.objs.size + 1))).keeps stay
  unfold isInstance
  repeat (first | with_reducible refine wpAny_loadPart_at obj ?_ | (with_reducible refine wpAny_isSubtype_exc cls ?_; rw [self]) | wp_step)
  apply find'.at
  apply wpAny_holding
  apply wpAny_bind
  apply bound'.at
  apply wpAny_bind
  apply wpAny_call
  refine codeAny_mono run fun r s' q => ?_
  match r, q with
  | .error _, q => exact q
  | .ok (.ret u), ⟨e, q⟩ =>
    subst e
    first
      | exact wpAny_pure (wpAny_pure q)
      | (wp_walk; exact q)
theorem made {R : Result → Shared → Prop} {fi : Addr} (F : ExcBaseFacts Base new ini full) (same : ∀ T : String, tail.contains (.type T) = full.contains (.type T)) (h : Has hp nm qn Cl Ns bases tail hd slots subs abst coll dict s0 s1 s2 s3 s5 new)
    (find : W.Looks (model prog wo) hp (typeLookup (.ref Cl) "__init__") (some (.ref fi))) (bound : ∀ me, W.Looks (model prog wo) hp (bindSpecial (.ref fi) me) (.ref fi, [me]))
    (run : codeAny (model prog wo) (Ar.under (.builtin "type.__call__" ⟨[.ref Cl], kw⟩)) (.call (.ref fi) ⟨[.ref (hp.objs.size + 1)], kw⟩) (W.InitBack (hp.objs.size + 1) R) ⟨(hp.push (W.kdv_tup [])).push (excO Cl hp.objs.size), gs, dr, tk, os⟩) :
    codeAny (model prog wo) Ar (.call (.ref Cl) ⟨[], kw⟩) R ⟨hp, gs, dr, tk, os⟩ := by
  have t1 := tc_lookup
  have t2 := tc_bind (.ref Cl)
  have ty : (⟨hp, gs, dr, tk, os⟩ : Shared).TypeIs (.ref Cl) "type" := ⟨_, h, rfl⟩
  apply codeAny_of_tree
  show wpAny _ _ (callAny (.ref Cl) _) _ _ _
  repeat (any_goals (first | assumption | walk_at "stp"))
  refine ⟨rfl, codeAny_call_builtin_at (Code.quiet_builtin _ (by decide +kernel)) entry_typeCall (wpAny_check_type_call_sub h (called F same h find bound (codeAny_mono run ?_)))⟩
  intro r s' q
  cases r with
  | error _ => exact q
  | ok f => cases f <;> exact q
end
end Own

namespace L2
open PySem PySem.Spec PyProof.Rows
/-! ### exceptions as tracked objects -/
/-- an exception of the class at C stands at a, d its own dict's place -/
def xob (a C : Addr) (d : Option Addr) : HO := .ext fun h => ∃ (oe : Obj) (vs : Array Value), h.get? a = some oe ∧ Zc (.ref C) d oe ∧ oe.data = .fields vs
theorem xob_ok {P : Program} {w : World} {H : Hp} {h : Heap} {a C : Addr} {d : Option Addr} {oe : Obj} {vs : Array Value} (e : h.get? a = some oe) (z : Zc (.ref C) d oe) (hd : oe.data = .fields vs) : ObjOk P w H h a (xob a C d) :=
  ⟨⟨oe, vs, e, z, hd⟩, ⟨_, e⟩, fun _ _ ⟨o, vs, e, z, q⟩ k => ⟨o, vs, k _ e, z, q⟩⟩
theorem xob_at {P : Program} {w : World} {H : Hp} {h : Heap} {a C : Addr} {d : Option Addr} (hok : HOk P w H h) (he : H a = some (xob a C d)) : ∃ (oe : Obj) (vs : Array Value), h.get? a = some oe ∧ Zc (.ref C) d oe ∧ oe.data = .fields vs :=
  (show ObjOk P w H h a (.ext fun h => ∃ (oe : Obj) (vs : Array Value), h.get? a = some oe ∧ Zc (.ref C) d oe ∧ oe.data = .fields vs) from hok a _ he).1
/-- it is an instance in the library's sense; what its dict holds -/
theorem xob_inst {P : Program} {w : World} {H : Hp} {h : Heap} {a C dd : Addr} {fs : List (Str × V)} (hok : HOk P w H h) (he : H a = some (xob a C (some dd))) (hd : H dd = some (.xd fs)) :
    ∃ (oe od : Obj), PySem.W.InstAt h a oe C (some od) ∧ ∀ (f : Str) (v : V), fs.lookup f = some v → ∃ u, PySem.W.lookIn f od = some (some u) ∧ RelV v u := by
  obtain ⟨oe, vs, at_, hz, dat⟩ := xob_at hok he
  obtain ⟨mA, nsp, rel⟩ := show ObjOk P w H h dd (.xd fs) from hok dd _ hd
  obtain ⟨od, atd, look⟩ := lookIn_ns nsp
  refine ⟨oe, od, ⟨at_, hz.1, by simp only [PySem.W.notCls, dat], by rw [hz.2]; exact atd⟩, fun f v e => ?_⟩
  obtain ⟨u, hu, ru⟩ := RelO.some_of (v := v) (o := mA f) (e ▸ rel f)
  exact ⟨u, (look f).trans (congrArg some hu), ru⟩
theorem xob_inst0 {P : Program} {w : World} {H : Hp} {h : Heap} {a C : Addr} (hok : HOk P w H h) (he : H a = some (xob a C none)) : ∃ oe : Obj, PySem.W.InstAt h a oe C none := by
  obtain ⟨oe, vs, at_, hz, dat⟩ := xob_at hok he
  exact ⟨oe, at_, hz.1, by simp only [PySem.W.notCls, dat], by rw [hz.2]; exact True.intro⟩
/-- the kinds that may be told anew -/
def Loose : HO → Prop
  | .ext _ => True
  | .xd _ => True
  | _ => False
theorem Loose.no {o : HO} (h : Loose o) : (∀ x, o ≠ .own x) ∧ (∀ xs, o ≠ .tup xs) ∧ (∀ b u, o ≠ .frz b u) ∧ (∀ ps, o ≠ .tbl ps) := by
  cases o <;> first | exact h.elim | exact ⟨(fun _ z => nomatch z), (fun _ z => nomatch z), (fun _ _ z => nomatch z), (fun _ z => nomatch z)⟩
section
variable {X : Cx} {pins : List (Addr × Obj)} {σ : St} {H : Hp} {s : Shared} {a : Addr} {o o' : HO}
theorem Inv.retell (I : Inv X pins σ H s) (e : H a = some o) (l : Loose o) (ok : ObjOk X.prog X.w (upd H a o') s.heap a o') : Inv X pins σ (upd H a o') s := by
  obtain ⟨nw, nt, nf, nb⟩ := l.no
  have ne : ∀ {b u}, H b = some u → o ≠ u → b ≠ a := fun {b u} q d z => by rw [z, e] at q; exact d (Option.some.inj q)
  have na : ∀ {b}, H b = none → b ≠ a := fun {b} q z => by rw [z, e] at q; cases q
  have U : Un X.fs [] H (upd H a o') s.heap s.heap := {
    keep := fun b o q _ _ _ => q
    slot := fun b o q _ _ _ => ⟨o.slots, q⟩
    free := fun b o q n _ => by rw [upd_ne (na n)]; exact n
    there := fun b o q _ => ⟨o, q⟩
    tups := fun b xs q => by rw [upd_ne (ne q (nt xs))]; exact q
    frzs := fun b o v q => by rw [upd_ne (ne q (nf o v))]; exact q
    tbls := fun b ps q => ⟨#[], by rw [upd_ne (ne q (nb ps)), q]; simp⟩ }
  exact I.un (t' := s.toks) U fun b u q => by
    by_cases hb : b = a
    · subst hb
      rw [upd_same] at q
      cases q
      exact ok
    · rw [upd_ne hb] at q
      exact (I.hok b u q).stay (fun c v _ z => z) (fun c hc => by rw [upd_ne (ne hc (nw b))]; exact hc) fun c xs hc => by rw [upd_ne (ne hc (nt xs))]; exact hc
/-- an object that was made behind the entry, not tracked as yet, is tracked -/
theorem Inv.track (I : Inv X pins σ H s) (na : H a = none) (n0 : X.s_0.heap.get? a = none) (nL : a ≠ X.env.locals) (nC : ∀ x c, X.env.cells.lookup x = some c → c ≠ a) (nP : ∀ p ∈ X.pn ++ pins, p.1 ≠ a)
    (new : ObjOk X.prog X.w (upd H a o) s.heap a o) : Inv X pins σ (upd H a o) s where
  ok := I.ok
  os := I.os
  bare := I.bare
  loc := I.loc
  cell := I.cell
  len := I.len
  free := (upd_ne nL.symm).trans I.free
  freeC := fun x c e => (upd_ne (nC x c e)).trans (I.freeC x c e)
  pin := fun p hp => let ⟨p1, p2, r⟩ := I.pin p hp; ⟨p1, (upd_ne (nP p hp)).trans p2, r⟩
  base := {
    keep := I.base.keep
    slot := I.base.slot
    there := I.base.there
    free := fun b ob e n hx => (upd_ne fun z => by rw [z, n0] at e; cases e).trans (I.base.free b ob e n hx)
    tups := fun b xs q => (upd_ne (ne_of_none (I.base.tups b xs q) na)).trans (I.base.tups b xs q)
    frzs := fun b ob u q => (upd_ne (ne_of_none (I.base.frzs b ob u q) na)).trans (I.base.frzs b ob u q)
    tbls := fun b ps q => let ⟨m, y⟩ := I.base.tbls b ps q; ⟨m, (upd_ne (ne_of_none y na)).trans y⟩ }
  hok := fun b u e => by
    by_cases hb : b = a
    · cases hb
      rw [upd_same] at e
      cases e
      exact new
    · rw [upd_ne hb] at e
      exact (I.hok b u e).stay (fun c v _ z => z) (fun c hc => (upd_ne (ne_of_none hc na)).trans hc) fun c xs hc => (upd_ne (ne_of_none hc na)).trans hc
end
/-! ### e.f, isinstance(e, c), e such an exception -/
def tXfT (K : PySem.W.Frag) (f : Str) (te : TE) : TE := fun σ H Q => te σ H fun x H1 => ∃ (a C dd : Addr) (fs : List (Str × V)) (v : V), x = .ref a ∧ XfC K C ∧ PySem.W.findIn K (.ref C) f = some none ∧ H1 a = some (xob a C (some dd)) ∧ H1 dd = some (.xd fs) ∧ fs.lookup f = some v ∧ Q v H1
theorem pe_xfT {X : Cx} {e : Expr} {te : TE} {pos : Pos} {n : Str} (he : PE X e te) (hb : attributeBase e n X.env (eval e X.env) = eval e X.env := by rfl) : PE X (.Attribute e n pos) (tXfT X.K n te) where
  run := fun pins s σ H Q I h => attr_of hb (thn (he.run pins s σ H _ I h) fun u s1 ⟨x, H1, I1, rx, a, C, dd, fs, v, ex, T, no, ea, ed, lk, q⟩ => by
    cases ex
    cases rx
    obtain ⟨oe, od, J, look⟩ := xob_inst I1.hok ea ed
    obtain ⟨u, hu, ru⟩ := look n v lk
    exact HandSPX.exc_get I1.kIn J T.ga T.gg T.exC (PySem.W.findObj_own T.hdC no rfl hu) (handed_of ru) ⟨v, H1, I1.tok _, ru, q⟩)
/-- an exception's dict: none, or told -/
def OdAt (H : Hp) (d : Option Addr) : Prop := d = none ∨ ∃ dd fs, d = some dd ∧ H dd = some (.xd fs)
def rIsT (K : PySem.W.Frag) : List V → Hp → VK → Prop := fun xs H Q => ∃ (a C : Addr) (d : Option Addr) (c : V) (cv : Value) (b : Bool), xs = [.ref a, c] ∧ H a = some (xob a C d) ∧ OdAt H d ∧ ExcC K C ∧ (∀ u, RelV c u → u = cv) ∧ PySem.W.kitOne K (.ref C) cv = some b ∧ Q (.bl b) H
theorem call_isT {X : Cx} : CallR X (.builtin "isinstance") (rIsT X.K) := fun pins s σ H xs us Q I r ⟨a, D, d, c, cv, b, ex, ea, hd, C, hcv, e, q⟩ => by
  cases ex
  obtain ⟨u, v, rfl, ru, rv⟩ := vals2 r
  cases ru
  cases hcv v rv
  have some_cls : (PySem.W.clsIn X.K D).isSome = true := by
    obtain ⟨cd, h1, _⟩ := PySem.W.any_some C.hd
    rw [h1]; rfl
  have inst : ∃ oe od, PySem.W.InstAt s.heap a oe D od := by
    rcases hd with rfl | ⟨dd, fs, rfl, hdd⟩
    · obtain ⟨oe, J⟩ := xob_inst0 I.hok ea
      exact ⟨oe, _, J⟩
    · obtain ⟨oe, od, J, _⟩ := xob_inst I.hok ea hdd
      exact ⟨oe, _, J⟩
  obtain ⟨oe, od, J⟩ := inst
  exact PySem.W.kia_one (PySem.W.kitx_exc some_cls C.hg C.hk C.hs C.ha C.hn C.ht C.hm) I.kIn J e (fun z => nomatch z) fun tk => ⟨.bl b, H, I.kept (t' := tk) fun _ _ z => z, rfl, q⟩

/-! ### defs that may be called where an exception is handled -/
abbrev RoomW := L2H.RoomH
theorem roomW {k : Nat} {A : Around} (r : Room k A) : RoomW k A := L2H.roomH_of r
structure FnW (P : Program) (w : World) (K : PySem.W.Frag) (mg : Str → Option Value) (base : Heap) (CX : CXT) (k : Nat) (f : Addr) (fd : FuncData) (ps : List Str) (sp : Sp) : Prop where
  arity : ∀ vs H Q E, sp vs H Q E → vs.length = ps.length
  go : ∀ (A : Around) (outer : List Env) (s : Shared) (H : Hp) (args : Args) (us : List Value) (vs : List V) (Q : VK) (E : XK), RoomW k A → Env0 P w K mg base A outer s H → BindsTo s fd args (ps.zip us) → Vals vs us → sp vs H Q E → codeAny (model P w) A (.call (.ref f) args) (CR CX outer P w H s Q E) s
theorem FnW.ok {P : Program} {w : World} {K : PySem.W.Frag} {mg : Str → Option Value} {base : Heap} {CX : CXT} {k : Nat} {f : Addr} {fd : FuncData} {ps : List Str} {sp : Sp} (F : FnW P w K mg base CX k f fd ps sp) : FnOk P w K mg base CX k f fd ps sp :=
  ⟨F.arity, fun A outer s H args us vs Q E hr => F.go A outer s H args us vs Q E (roomW hr)⟩
/-- the context of such a def's body: nothing is said of what is handled -/
abbrev Cx.warm (X : Cx) (A : Around) (xe : Value → Shared → Prop) : Cx := { X with A := A, calm := false, xe := xe }
theorem Inv.warm {X : Cx} {pins : List (Addr × Obj)} {σ : St} {H : Hp} {s : Shared} {A : Around} {xe : Value → Shared → Prop} (I : Inv X pins σ H s) (hA : A.frames = some X.stack) : Inv (X.warm A xe) pins σ H s where
  ok := { I.ok with hd := fun z => (Bool.false_ne_true z).elim, frames := hA }
  os := I.os
  bare := I.bare
  base := I.base
  loc := I.loc
  cell := I.cell
  free := I.free
  freeC := I.freeC
  pin := I.pin
  hok := I.hok
  len := I.len
/-- the body's context -/
abbrev cxW (CX : CXT) (P : Program) (w : World) (K : PySem.W.Frag) (mg : Str → Option Value) (base : Heap) (N : List Str) (qual : Str) (scope : Scope) (f : Addr) (cd : Value) (A : Around) (outer : List Env) (s : Shared) (H : Hp) (E : XK) : Cx :=
  { cxOf CX P w K mg base N qual scope f cd A outer s H E with calm := false }
theorem Fun.okW {P : Program} {w : World} {K : PySem.W.Frag} {mg : Str → Option Value} {base : Heap} {x qual : Str} {st : Stmt} {f : Addr} {fd : FuncData} {N ps : List Str} {k : Nat} {sp : Sp} (F : Fun K x qual st f fd) (S : FnScope N ps (defScope st)) (hps : ∀ vs H Q E, sp vs H Q E → vs.length = ps.length)
    (body : ∀ (cdv : Value) (A : Around) (outer : List Env) (s : Shared) (H : Hp) (vs : List V) (Q : VK) (E : XK), RoomW k (A.deeper (envOfC qual (defScope st) s.heap.objs.size f cdv)) → sp vs H Q E →
      ∃ t, PSs (cxW CX0 P w K mg base N qual (defScope st) f cdv A outer s H E).nox (defBody st) t ∧ t { nx := fun _ H' => Q .non H', rt := Q } (start N vs) H) : FnW P w K mg base CX0 (k + 1) f fd ps sp := by
  obtain ⟨_, _, kV, doc, pm, an, cdv, ct, _, rfl, here, code⟩ := F.ex
  refine ⟨hps, fun A outer s H args us vs Q E room e0 bind r h => ?_⟩
  have KX : K.In s.heap := e0.mod.kin.keeps fun _ _ e => (e0.bs _ _ e).1
  have many := hps _ _ _ _ h
  refine Att.call_fn KX (e0.mod.nolimit.keeps fun _ _ e => (e0.bs _ _ e).1) here code room.depth bind ?_ (fun s1 ic => ?_) S.co S.gen S.kind
  · refine List.all_eq_true.mpr fun y hy => ?_
    rcases S.par y.1 (List.of_mem_zip (show (y.1, y.2) ∈ ps.zip us from hy)).1 with z | z <;> simp [z]
  · obtain ⟨t, ht, q⟩ := body cdv A outer s H vs Q E (room.deeper _) h
    have e1 : Env0 P w K mg base { A with handled := none } outer s H := ⟨e0.frames, e0.mod, e0.bs, e0.bsz, e0.funs, e0.frf, e0.hok, e0.bare⟩
    have I0 := inv_start (CX := CX0) (P := P) (w := w) (mg := mg) (base := base) (f := f) (cd := cdv) (A := { A with handled := none }) (E := E) S rfl e1 many r ic
    have I : Inv (cxW CX0 P w K mg base N qual (defScope st) f cdv A outer s H E) [] (start N vs) H s1 := I0.warm (A := A.deeper (envOfC qual (defScope st) s.heap.objs.size f cdv)) (Around.frames_deeper e0.frames)
    refine wpAny_mono (ht.nox.run [] s1 _ H _ I q) (fun fl s2 hs => ?_) fun _ _ z => z
    cases fl with
    | ret u =>
      obtain ⟨v, _, H', J, rv, q'⟩ := hs
      exact ⟨v, H', J.os, J.bare, J.base, J.hok, rv, q'⟩
    | next =>
      obtain ⟨_, H', J, q'⟩ := hs
      exact ⟨.non, H', J.os, J.bare, J.base, J.hok, rfl, q'⟩
    | brk => exact hs.elim fun _ z => z.elim fun _ z => z.2.elim
    | cont => exact hs.elim fun _ z => z.elim fun _ z => z.2.elim
/-- f(e, ..) of such a def -/
theorem pe_callW {X : Cx} {CX : CXT} {k : Nat} {f : Addr} {fd : FuncData} {ps : List Str} {sp : Sp} {E : XK} {x : Str} {q pos : Pos} {e : Expr} {es : List Expr} {t : TA}
    (F : FnW X.prog X.w X.K X.mg X.base CX k f fd ps sp) (room : RoomW k X.A) (gl : Gl X x) (is : X.mg x = some (.ref f)) (kp : PySem.W.keepIn X.K (.ref f) = true) (bind : Binds X.K fd ps []) (pass : Passes CX X E) (args : PA X (e :: es) t)
    (nodebug : (x == ("__debug__" : Str)) = false := by decide) (first : starEach (e :: es) X.env = (false, eval e X.env) :: starEach es X.env := by rfl) (nostar : (backTo pos (starEach es X.env)).any (·.1) = false := by rfl) :
    PE X (.Call (.Name x q) (e :: es) [] pos) (fun σ H Q => t σ H fun vs H1 => sp vs H1 Q E) where
  run := fun pins s σ H Q I h => wpAny_Call_Name_kw (ld_glob I gl is (PySem.W.callWith_K (h₀ := X.base) I.ok.mod.kin kp (thn (args.run pos pins s σ H _ I h) fun us s1 ⟨vs, H1, I1, r, y⟩ => ⟨I1.kIn, by
    have n : us.length = ps.length := r.length.symm.trans (F.arity _ _ _ _ y)
    have b := bind s1 us I1.kIn (by simpa using n)
    simp only [List.append_nil] at b
    refine wpAny_call (codeAny_mono (F.go X.A X.stack s1 H1 ⟨us, []⟩ us vs Q E room I1.env0 b r y) fun res s2 z => ?_)
    match res, z with
    | .error er, z => exact pass pins σ H1 s1 er s2 I1 z
    | .ok (.ret _), z => exact I1.after z⟩) first nostar) nodebug)

/-! ### try: body, except M as n: suite, where every exception of the body is an own one that M names -/
section
variable {X : Cx} {pins : List (Addr × Obj)} {σ : St} {H : Hp} {s : Shared}
/-- the suite's context, the exception tracked, not pinned -/
theorem Inv.inSuite (I : Inv X pins σ H s) (a : Addr) : Inv (X.suite a (X.pn ++ pins)) [] σ H s where
  ok := I.ok.suite a _
  os := I.os
  bare := I.bare
  base := I.base
  loc := I.loc
  cell := I.cell
  free := I.free
  freeC := I.freeC
  pin := fun p hp => I.pin p ((List.append_nil (X.pn ++ pins)) ▸ hp)
  hok := I.hok
  len := I.len
theorem Inv.outSuite {a : Addr} (I : Inv (X.suite a (X.pn ++ pins)) [] σ H s) (ok : X.Ok) : Inv X pins σ H s where
  ok := ok
  os := I.os
  bare := I.bare
  base := I.base
  loc := I.loc
  cell := I.cell
  free := I.free
  freeC := I.freeC
  pin := fun p hp => I.pin p ((List.append_nil (X.pn ++ pins)).symm ▸ hp)
  hok := I.hok
  len := I.len
end
/-- the ends of a suite: slot i is emptied -/
def Ends.less (D : Ends) (i : Nat) : Ends := { nx := fun σ H => D.nx (σ.set i none) H, rt := D.rt, bk := fun σ H => D.bk (σ.set i none) H, ct := fun σ H => D.ct (σ.set i none) H }
/-- what is wished of an exception of the body -/
def wAsT (K : PySem.W.Frag) (c : Value) (i : Nat) (ts : TS) (D : Ends) : WX := fun cls d σ H => PySem.W.exmOne K cls c = some true ∧ ∃ C : Addr, cls = .ref C ∧ ∀ a, H a = none → ts (D.less i) (σ.set i (some (.ref a))) (upd H a (xob a C d))
section
variable {X : Cx} {x n : Str} {c : Value} {i : Nat} {body suite : List Stmt} {b0 : Stmt} {p1 p2 p3 : Pos} {tb : WX → TS} {ts : TS}
/-- what came behind the state I is none of its things -/
theorem newcomer {pins : List (Addr × Obj)} {σ : St} {H : Hp} {s : Shared} {a : Addr} (I : Inv X pins σ H s) (alone : X.ex = []) (no : s.heap.get? a = none) :
    X.s_0.heap.get? a = none ∧ a ≠ X.env.locals ∧ (∀ x c, X.env.cells.lookup x = some c → c ≠ a) ∧ ∀ p ∈ X.pn ++ pins, p.1 ≠ a := by
  have some_not : ∀ {b : Addr} {o : Obj}, s.heap.get? b = some o → b ≠ a := fun {b o} e z => by rw [z, no] at e; cases e
  refine ⟨Option.eq_none_iff_forall_ne_some.mpr fun o e => ?_, ?_, fun x c e => ?_, fun p hp => some_not (I.pin p hp).1⟩
  · obtain ⟨o', z⟩ := I.base.there a o e (by simp [alone])
    exact some_not z rfl
  · obtain ⟨m, ⟨o, _, _, e, _⟩, _⟩ := I.loc
    exact (some_not e).symm
  · obtain ⟨v, o, e', _⟩ := I.cell x c e
    exact some_not e'
/-- an exception has come to the try: its suite runs -/
theorem caught {pins : List (Addr × Obj)} {D : Ends} {u : Value} {s : Shared} {xe : Value → Shared → Prop} (alone : X.ex = []) (top : X.stack = X.env :: X.outer) (frame : X.env.frame = some X.env.locals) (nodup : X.N.Nodup) (slot : X.N[i]? = some n) (loc : X.env.kindOf n = some .local) (names : Names X x c) (ok : X.Ok)
    (run : ∀ (a : Addr) (pn : List (Addr × Obj)), PSs (X.suite a pn) (b0 :: suite) ts) (fly : XE (X.tr (X.pn ++ pins) xe) (wAsT X.K c i ts D) u s) :
    wpAny (model X.prog X.w) X.A (noteFrame u X.env) (fun _ s2 => wpAny (model X.prog X.w) X.A (setFlight u none) (fun _ s3 => wpAny (model X.prog X.w) X.A (handleBy u X.env [.ExceptHandler (some (.Name x p1)) (some n) (b0 :: suite) p2]) (SP X pins D) X.xe s3) X.xe s2) X.xe s := by
  obtain ⟨a, ground, sI, _, σ1, H1, cls, d, rfl, Jt, stays, slots, sky, free, os, gens, named, C, rfl, wish⟩ := fly
  have J : Inv X pins σ1 H1 sI := Jt.ofTry ok
  refine Sky.land Zc.steady (ok.frames.trans (congrArg some top)) frame (top ▸ sky) fun h3 f3 up3 => ?_
  obtain ⟨o3, v3, g3, z3, d3⟩ := f3.there
  have notFrame : a ∉ frs X.stack := fun hm => by
    obtain ⟨_, o, e, other⟩ := f3.2.2.1.mem (top ▸ hm)
    exact other v3 (Option.some.inj (e.symm.trans g3) ▸ d3)
  have absent : sI.heap.get? a = none := Option.eq_none_iff_forall_ne_some.mpr fun o e => by
    have z := stays a o e notFrame
    rw [f3.2.1] at z
    cases z
  obtain ⟨n0, nL, nC, nP⟩ := newcomer J alone absent
  have J3 : Inv X pins σ1 H1 { s with heap := h3 } := J.landed stays f3.1 (slots.trans up3) os gens
  have clause : ∀ {Q : Value → Shared → Prop} {E : Value → Shared → Prop}, Q c { s with heap := h3 } → wpAny (model X.prog X.w) (X.A.mark (some (.ref a))) (eval (.Name x p1) X.env) Q E { s with heap := h3 } := fun {Q E} q => by
    rcases names with ⟨gl, dbg, is | ⟨no, boot, other⟩⟩
    · exact ld_glob (J3.inSuite a) gl is q dbg
    · exact ld_blt (J3.inSuite a) gl no boot q other dbg
  have cls3 : PySem.W.Looks (model X.prog X.w) h3 (typeOf (.ref a)) (.ref C) := fun _ _ _ _ keep q => wpAny_typeOf_ref (keep _ _ g3) (z3.1.symm ▸ q)
  refine wpAny_handleBy_cons (codeAny_handlers_test (clause ((PySem.W.exm_one (M := model X.prog X.w) J3.kIn cls3 named).here ?_))) (fun z => nomatch z)
  refine codeAny_handlers_suite_as (HandSPX.lands_againZ f3 fun h4 f4 up4 => ?_)
  obtain ⟨o4, v4, g4, z4, d4⟩ := f4.there
  have J4 : Inv X pins σ1 H1 { s with heap := h4 } := J.landed stays f4.1 ((slots.trans up3).trans up4) os gens
  have J5 := (J4.track free n0 nL nC nP (xob_ok g4 z4 d4)).inSuite a
  refine store_ok (X := X.suite a (X.pn ++ pins)) (v := .ref a) J5 nodup slot (.inl loc) rfl (fun s5 S5 => ?_) (.inr loc)
  have leave : ∀ {σ6 : St} {H6 : Hp} {s6 : Shared} {Q : Shared → Prop}, Inv (X.suite a (X.pn ++ pins)) [] σ6 H6 s6 → (∀ s7, Inv X pins (σ6.set i none) H6 s7 → Q s7) → wpAny (model X.prog X.w) X.A (do bindName X.env n .none; unbindBehindTheSuite X.env n p2) (fun _ s7 => Q s7) X.xe s6 :=
    fun S6 q => gone_ok (S6.outSuite ok) nodup slot loc q
  refine wpAny_mono ((run a (X.pn ++ pins)).run [] s5 _ _ _ S5 (wish a free)) (fun fl s6 q => ?_) fun _ _ z => z.elim
  match fl, q with
  | .next, ⟨_, _, S6, q⟩ => exact leave S6 fun _ J7 => ⟨_, _, J7, q⟩
  | .brk, ⟨_, _, S6, q⟩ => exact leave S6 fun _ J7 => ⟨_, _, J7, q⟩
  | .cont, ⟨_, _, S6, q⟩ => exact leave S6 fun _ J7 => ⟨_, _, J7, q⟩
  | .ret _, ⟨_, _, _, S6, r, q⟩ => exact leave S6 fun _ J7 => ⟨_, _, _, J7, r, q⟩
theorem ps_try_asT (alone : X.ex = []) (top : X.stack = X.env :: X.outer) (frame : X.env.frame = some X.env.locals) (nodup : X.N.Nodup) (slot : X.N[i]? = some n) (loc : X.env.kindOf n = some .local) (names : Names X x c)
    (try_ : ∀ (W : WX) (pn : List (Addr × Obj)) (xe : Value → Shared → Prop), Takes (X.tr pn xe) W → PSs (X.tr pn xe) body (tb W)) (run : ∀ (a : Addr) (pn : List (Addr × Obj)), PSs (X.suite a pn) (b0 :: suite) ts) :
    PS X (.Try body [.ExceptHandler (some (.Name x p1)) (some n) (b0 :: suite) p2] [] [] p3) (fun D σ H => tb (wAsT X.K c i ts D) D σ H) where
  run := fun pins s σ H D I h => by
    have ok := I.ok
    refine wpAny_Try_except (wpAny_mono ((try_ (wAsT X.K c i ts D) (X.pn ++ pins) _ fun u s' y => caught alone top frame nodup slot loc names ok run y).run [] s σ H D (I.toTry _) h) (fun fl s1 q => ?_) fun _ _ z => z)
    match fl, q with
    | .next, ⟨_, _, J, q⟩ => exact wpAny_execs_nil ⟨_, _, J.ofTry ok, q⟩
    | .brk, ⟨_, _, J, q⟩ => exact ⟨_, _, J.ofTry ok, q⟩
    | .cont, ⟨_, _, J, q⟩ => exact ⟨_, _, J.ofTry ok, q⟩
    | .ret _, ⟨_, _, _, J, r, q⟩ => exact ⟨_, _, _, J.ofTry ok, r, q⟩
end
end L2

namespace L2
open PySem PySem.Spec PyProof.Rows
/-! ### an own exception made as a value -/
/-- C(k = v, ..), C's own __init__ keeping sp -/
def tXMk (C : Addr) (n : Nat) (sp : Sp) (gV : List V → List V → List V) (tk : TA) : TE := fun σ H Q => tk σ H fun zs H1 => zs.length = n ∧ ∀ a, H1 a = none → sp (gV [.ref a] zs) (upd H1 a (exo a C none))
  (fun v H2 => v = .non ∧ ∃ (d : Addr) (fs : List (Str × V)), H2 a = some (exo a C (some d)) ∧ H2 d = some (exd d fs) ∧ d ≠ a ∧ Q (.ref a) (upd (upd H2 d (.xd fs)) a (xob a C (some d)))) (fun _ _ _ => False)
section
variable {X : Cx} {CX : CXT} {k : Nat} {C fI : Addr} {fd : FuncData} {ps ks : List Str} {sp : Sp} {x : Str} {p pos : Pos} {kws : List Keyword} {tk : TA} {g : List Value → List Value → List Value} {gV : List V → List V → List V}
/-- behind __init__ the exception stands as a made one -/
theorem Inv.finished {pins : List (Addr × Obj)} {σ : St} {H : Hp} {s : Shared} {a d : Addr} {fs : List (Str × V)} (I : Inv X pins σ H s) (ea : H a = some (exo a C (some d))) (ed : H d = some (exd d fs)) (ne : d ≠ a) : Inv X pins σ (upd (upd H d (.xd fs)) a (xob a C (some d))) s := by
  have J : Inv X pins σ (upd H d (.xd fs)) s := I.retell ed True.intro (exd_at I.hok ed)
  have ea' : (upd H d (.xd fs)) a = some (exo a C (some d)) := (upd_ne ne.symm).trans ea
  obtain ⟨t, at_⟩ := exo_at J.hok ea'
  exact J.retell ea' True.intro (xob_ok at_ ⟨rfl, rfl⟩ rfl)
theorem pe_xmk (T : OexC X.K C) (ini : PySem.W.findIn X.K (.ref C) "__init__" = some (some (.ref fI))) (fn : PySem.W.typeIn X.K (.ref fI) = some (.type "function"))
    (fnok : FnOk X.prog X.w X.K X.mg X.base CX k fI fd ps sp) (room : Room (k + 1) X.A) (bind : KBn X.K fd ps 1 ks g gV) (pass : Passes CX X (fun _ _ _ => False)) (gl : Gl X x) (is : X.mg x = some (.ref C)) (vals : PK X kws tk)
    (named : (backToKw pos (keywordEach kws X.env)).all (·.1.isSome) = true := by rfl) (names : (backToKw pos (keywordEach kws X.env)).filterMap (·.1) = ks := by rfl) (nodebug : (x == ("__debug__" : Str)) = false := by decide)
    (plain : ((backTo pos (starEach [] X.env)).any (·.1) || (backToKw pos (keywordEach kws X.env)).any (·.1.isNone)) = false := by rfl) : PE X (.Call (.Name x p) [] kws pos) (tXMk C ks.length sp gV tk) where
  run := fun pins s σ H Q I h => by
    obtain ⟨_, _, _, _, bm, _, _, _, _, _, _, _, _, _, _, cls, mro⟩ := T.cls
    refine wpAny_Call_Name_kw (ld_glob I gl is (PySem.W.callWith_KW0 (h₀ := X.base) I.ok.mod.kin T.kC named (thn (vals.run pos pins s σ H _ I h) fun ws s1 ⟨zs, H1, I1, rz, hz, q1⟩ => ⟨I1.kIn, ?_⟩) plain) nodebug)
    obtain ⟨hp, gs, dr, tks, os⟩ := s1
    have new : H1 (hp.objs.size + 1) = none := I1.hok.fresh (Nat.le_succ _)
    have I2 : Inv X pins σ (upd H1 (hp.objs.size + 1) (exo (hp.objs.size + 1) C none)) ⟨(hp.push (PySem.W.kdv_tup [])).push (PySem.HandSPX.excO C hp.objs.size), gs, dr, tks, os⟩ :=
      I1.laid (t' := tks) (o := exo (hp.objs.size + 1) C none) (fun _ _ e => Heap.get?_push_of_some _ (Heap.get?_push_of_some _ e)) (Nat.le_succ _) (exo_ok (by heap_get))
    have q2 := q1 _ new
    rw [names]
    show wpAny _ _ (call (.ref C) [] (ks.zip ws)) _ _ _
    refine wpAny_call (Own.made (kw := ks.zip ws) PySem.F.excBase_ValueError (fun Y => PySem.HandSPX.refsVE_contains Y bm mro) (I1.kIn _ _ cls) (PySem.W.looks_findIn I1.kIn ini) (fun me => PySem.W.bind_fn I1.kIn me fn)
      (codeAny_mono (fnok.run _ X.stack _ _ ⟨[.ref (hp.objs.size + 1)], ks.zip ws⟩ (g [.ref (hp.objs.size + 1)] ws) _ _ (fun _ _ _ => False) (room.make C [] (ks.zip ws)) (I2.env0.make C [] (ks.zip ws))
        (bind.to _ [.ref (hp.objs.size + 1)] ws I2.kIn rfl (rz.length.symm.trans hz)) (bind.rel (show Vals [V.ref (hp.objs.size + 1)] [Value.ref (hp.objs.size + 1)] from .cons rfl .nil) rz) q2) fun r s2 y => ?_))
    match r, y with
    | .error er, y => exact pass pins σ _ _ er s2 I2 y
    | .ok (.ret u), y =>
      obtain ⟨_, H3, I3, rv, rfl, d, fs, ea, ed, ne, q3⟩ := I2.after y
      exact ⟨rv, .ref (hp.objs.size + 1), _, I3.finished ea ed ne, rfl, q3⟩
/-- C(), C without own __init__, as a value; raised -/
theorem pe_xmk0 {full : List Value} {Base new ini : String} (F : ExcBaseFacts Base new ini full) (own : PySem.W.excIn X.K C full new = true) (is : X.mg x = some (.ref C)) (kp : PySem.W.keepIn X.K (.ref C) = true) (gl : Gl X x) (nodebug : (x == ("__debug__" : Str)) = false := by decide) :
    PE X (.Call (.Name x p) [] [] pos) (fun _ H Q => ∀ a, H a = none → Q (.ref a) (upd H a (xob a C none))) where
  run := fun pins s σ H Q I h => wpAny_Call_Name_kw (ld_glob I gl is (PySem.W.callWith_K0 I.kIn kp (by
    obtain ⟨_, _, _, _, _, _, _, _, _, _, _, _, _, _, _, _, _, cls, ns, no, tl⟩ := exc_obj I.kIn own
    refine wpAny_call_exc_subT F tl cls ns no (fun h' a m => ?_) (Nat.zero_le _)
    have free := I.hok.gone m.new
    obtain ⟨_, at_, _⟩ := m.there
    exact ⟨.ref a, _, I.laidN m.keeps m.new free (xob_ok at_ ⟨rfl, rfl⟩ rfl), rfl, h a free⟩)) nodebug)
theorem pmk_own0 {full : List Value} {Base new ini : String} (F : ExcBaseFacts Base new ini full) (own : PySem.W.excIn X.K C full new = true) (is : X.mg x = some (.ref C)) (kp : PySem.W.keepIn X.K (.ref C) = true) (r : Raises X (.ref C)) (gl : Gl X x) (nodebug : (x == ("__debug__" : Str)) = false := by decide) :
    PMk X (.Call (.Name x p) [] [] pos) (fun _ H Q => Q (.ref C) none H) := fun pins s σ H Q I h => wpAny_Call_Name_kw (ld_glob I gl is (PySem.W.callWith_K0 I.kIn kp (by
    obtain ⟨_, _, _, _, _, _, _, _, _, _, _, _, _, _, _, _, _, cls, ns, no, tl⟩ := exc_obj I.kIn own
    exact wpAny_call_exc_subT F tl cls ns no (fun h' e m => mk_of I m r h (I.hok.gone m.new)) (Nat.zero_le _))) nodebug)
end
end L2

namespace Kx
open PySem L2
def top (i : Nat) : Stmt := PySem.Challenge.pw_nevermiss_k01_errors.main.body.getD i (.Pass ⟨0, 0, 0, 0⟩)
abbrev s__law_pen : Stmt := top 16
abbrev s__law_draw : Stmt := top 17
abbrev s__law_pick : Stmt := top 18
/-- a def of the text, as it stands behind the top -/
structure DefT (K : PySem.W.Frag) (mg : Str → Option Value) (name qual : Str) (st : Stmt) (ps : List Str) (f : Addr) (fd : FuncData) : Prop where
  g : mg name = some (.ref f)
  F : Fun K name qual st f fd
  b : Binds K fd ps []
/-! ### the pen -/
/-- all but what stands at p is as it was -/
def SameBut (p : Addr) (H H' : Hp) : Prop := ∀ b o, H b = some o → b ≠ p → H' b = some o
theorem SameBut.refl (p : Addr) (H : Hp) : SameBut p H H := fun _ _ h _ => h
theorem SameBut.trans {p : Addr} {H H1 H2 : Hp} (a : SameBut p H H1) (b : SameBut p H1 H2) : SameBut p H H2 := fun c o h n => b c o (a c o h n) n
theorem SameBut.of {p : Addr} {H H' : Hp} (a : Same H H') : SameBut p H H' := fun c o h _ => a c o h
theorem Same.upd {H : Hp} {p : Addr} {o : HO} (h : H p = none) : Same H (upd H p o) := fun b u e => by rw [upd_ne (ne_of_none e h)]; exact e
theorem SameBut.upd {H : Hp} {p : Addr} {o : HO} : SameBut p H (upd H p o) := fun b u e n => by rw [upd_ne n]; exact e
theorem SameBut.new {H : Hp} {p q : Addr} {o : HO} (h : H q = none) : SameBut p H (L2.upd H q o) := .of (Same.upd h)
abbrev kCells : Key := Sum.inr "cells"
abbrev kAt : Key := Sum.inr "at"
abbrev kLeft : Key := Sum.inr "left"
def penKvs (c : Addr) (a l : Int) : List (Key × V) := [(kCells, .ref c), (kAt, .int a), (kLeft, .int l)]
theorem n_ca : ¬ (kCells = kAt) := by decide +kernel
theorem n_cl : ¬ (kCells = kLeft) := by decide +kernel
theorem n_al : ¬ (kAt = kLeft) := by decide +kernel
theorem pen_cells (c : Addr) (a l : Int) : valV (penKvs c a l) kCells = some (.ref c) := valV_pos rfl
theorem pen_at (c : Addr) (a l : Int) : valV (penKvs c a l) kAt = some (.int a) := by
  unfold penKvs
  rw [valV_neg n_ca]
  exact valV_pos rfl
theorem pen_left (c : Addr) (a l : Int) : valV (penKvs c a l) kLeft = some (.int l) := by
  unfold penKvs
  rw [valV_neg n_cl, valV_neg n_al]
  exact valV_pos rfl
theorem put_at (c : Addr) (a l x : Int) : putK (penKvs c a l) kAt (.int x) = penKvs c x l := by
  have h : ((penKvs c a l).any fun kv => decide (kv.1 = kAt)) = true := by
    rw [valV_any, pen_at]; rfl
  unfold putK
  rw [if_pos h]
  show [if kCells = kAt then (kCells, V.int x) else (kCells, V.ref c), if kAt = kAt then (kAt, V.int x) else (kAt, V.int a), if kLeft = kAt then (kLeft, V.int x) else (kLeft, V.int l)] = _
  rw [if_neg n_ca, if_pos rfl, if_neg (Ne.symm n_al)]
  rfl
theorem put_left (c : Addr) (a l x : Int) : putK (penKvs c a l) kLeft (.int x) = penKvs c a x := by
  have h : ((penKvs c a l).any fun kv => decide (kv.1 = kLeft)) = true := by
    rw [valV_any, pen_left]; rfl
  unfold putK
  rw [if_pos h]
  show [if kCells = kLeft then (kCells, V.int x) else (kCells, V.ref c), if kAt = kLeft then (kAt, V.int x) else (kAt, V.int a), if kLeft = kLeft then (kLeft, V.int x) else (kLeft, V.int l)] = _
  rw [if_neg n_cl, if_neg n_al, if_pos rfl]
  rfl
/-- a pen at p: n bounds the places that were read -/
def PenAt (H : Hp) (p : Addr) (n : Nat) : Prop := ∃ (c : Addr) (ns : List Int) (a l : Int), H p = some (.dK (penKvs c a l)) ∧ H c = some (.lst (ns.map V.int)) ∧ ns.length ≤ 63 ∧ 0 ≤ a ∧ a ≤ n
theorem PenAt.ne {H : Hp} {p : Addr} {n : Nat} (h : PenAt H p n) {b : Addr} {xs : List V} (e : H b = some (.lst xs)) : b ≠ p := by
  obtain ⟨c, ns, a, l, h1, _⟩ := h
  exact ne_of e h1 (by intro z; cases z)
theorem PenAt.keep {H H' : Hp} {p : Addr} {n : Nat} (h : PenAt H p n) (s : Same H H') : PenAt H' p n := by
  obtain ⟨c, ns, a, l, h1, h2, r⟩ := h
  exact ⟨c, ns, a, l, s _ _ h1, s _ _ h2, r⟩
theorem PenAt.mono {H : Hp} {p : Addr} {n m : Nat} (h : PenAt H p n) (s : n ≤ m) : PenAt H p m := by
  obtain ⟨c, ns, a, l, h1, h2, h3, h4, h5⟩ := h
  exact ⟨c, ns, a, l, h1, h2, h3, h4, by omega⟩
def spPen (K : PySem.W.Frag) : Sp := fun vs H Q _ => ∃ (s : Addr) (ns : List Int), vs = [.ref s] ∧ SqL K H s (ns.map V.int) ∧ ns.length ≤ 63 ∧ ∀ p H', H p = none → Same H H' → PenAt H' p 0 → Q (.ref p) H'
def spDraw : Sp := fun vs H Q _ => ∃ (p : Addr) (many : Int) (n : Nat), vs = [.ref p, .int many] ∧ PenAt H p n ∧ n ≤ 1000000 ∧ 0 < many ∧ many < 1073741824 ∧
  ∀ (r : Int) H', 0 ≤ r → r < many → PenAt H' p (n + 1) → SameBut p H H' → Q (.int r) H'
def spPick : Sp := fun vs H Q _ => ∃ (p q : Addr) (xs : List V) (n : Nat), vs = [.ref p, .ref q] ∧ PenAt H p n ∧ n ≤ 1000000 ∧ H q = some (.lst xs) ∧ 0 < xs.length ∧ xs.length ≤ 1000000 ∧
  ∀ (v : V) (i : Nat) H', xs[i]? = some v → PenAt H' p (n + 1) → SameBut p H H' → Q v H'
structure TxtP (K : PySem.W.Frag) (mg : Str → Option Value) (f1 f2 f3 : Addr) (d1 d2 d3 : FuncData) : Prop where
  D__law_pen : DefT K mg "_law_pen" "_law_pen" s__law_pen ["script"] f1 d1
  D__law_draw : DefT K mg "_law_draw" "_law_draw" s__law_draw ["pen", "many"] f2 d2
  D__law_pick : DefT K mg "_law_pick" "_law_pick" s__law_pick ["pen", "items"] f3 d3
  n_list : mg "list" = none
  n_int : mg "int" = none
  n_len : mg "len" = none
local macro_rules | `(tactic| walk_at "g") => `(tactic| first | refine ⟨_, _, rfl, rfl, ?_⟩ | refine ⟨_, rfl, ?_⟩ | refine ⟨rfl, ?_⟩)
theorem cut63 (ns : List Int) : ∃ ms : List Int, cutV (ns.map V.int) none (some 63) = ms.map V.int ∧ ms.length ≤ ns.length := by
  refine ⟨(ns.drop (HT.sIx (ns.map V.int).length 0 none)).take (HT.sIx (ns.map V.int).length (ns.map V.int).length (some 63) - HT.sIx (ns.map V.int).length 0 none), ?_, ?_⟩
  · unfold cutV
    rw [List.map_take, List.map_drop]
  · rw [List.length_take, List.length_drop]; omega
section
variable {P : Program} {w : World} {K : PySem.W.Frag} {mg : Str → Option Value} {base : Heap} {f1 f2 f3 : Addr} {d1 d2 d3 : FuncData}
theorem sc_pen : FnScope ["script"] ["script"] (defScope s__law_pen) := ⟨rfl, rfl, rfl, by decide +kernel, rfl, by decide +kernel, by decide +kernel⟩
theorem ok_pen (T : TxtP K mg f1 f2 f3 d1 d2 d3) : FnOk P w K mg base CX0 1 f1 d1 ["script"] (spPen K) := by
  have sc := sc_pen
  refine T.D__law_pen.F.ok sc (fun vs H Q E h => ?_) (fun cdv A outer s H vs Q E hr h => ?_)
  · obtain ⟨_, _, rfl, _⟩ := h; rfl
  · obtain ⟨a, ns, rfl, hs, hl, k⟩ := h
    have hu := hu_of hr
    refine ⟨_, (pss_one (ps_ret (pe_disp (pps_cons pe_str (pe_callTy call_list_of (by rfl) T.n_list (by decide +kernel) (pa_cons (pe_slice sl_list (pv 0) po_none (po_some pe_int)) pa_nil)) (pps_cons pe_str pe_int (pps_cons pe_str pe_int pps_nil))) (by rfl) (by rfl) (fun z => by cases z) (by decide)))), ?_⟩
    intro p hp
    have s1 : Same H (upd H p (.dK [])) := Same.upd hp
    obtain ⟨ms, em, lm⟩ := cut63 ns
    refine ⟨_, rfl, _, rfl, a, _, rfl, s1.seq hs, fun q hq => ?_⟩
    rw [em]
    refine ⟨q, ms.map V.int, rfl, .inl (SqL.of upd_same), fun l hl2 => ?_⟩
    have npq : p ≠ q := ne_of_none upd_same hq
    have npl : p ≠ l := ne_of_none (by rw [upd_ne npq]; exact upd_same) hl2
    refine ⟨by rw [upd_ne npl, upd_ne npq, upd_same], penKvs l 0 0, rfl, (by show 3 ≤ 15; decide), ?_⟩
    refine k p _ hp (fun b o e => ?_) ⟨l, ms, 0, 0, ?_, ?_, by omega, by omega, by omega⟩
    · have e1 : upd H p (.dK []) b = some o := s1 b o e
      have e2 : upd (upd H p (.dK [])) q (.lst (ms.map V.int)) b = some o := Same.upd hq b o e1
      rw [upd_ne (ne_of_none e hp)]
      exact Same.upd hl2 b o e2
    · rw [upd_same]
      rfl
    · rw [upd_ne npl.symm, upd_same]
theorem dg_left {H : Hp} {p c : Addr} {a l : Int} (h : H p = some (.dK (penKvs c a l))) : DGet H p (.str "left") (some (.int l)) := by
  have q := DGet.k (k := kLeft) h
  rw [pen_left] at q
  exact q
theorem dg_at {H : Hp} {p c : Addr} {a l : Int} (h : H p = some (.dK (penKvs c a l))) : DGet H p (.str "at") (some (.int a)) := by
  have q := DGet.k (k := kAt) h
  rw [pen_at] at q
  exact q
theorem dg_cells {H : Hp} {p c : Addr} {a l : Int} (h : H p = some (.dK (penKvs c a l))) : DGet H p (.str "cells") (some (.ref c)) := by
  have q := DGet.k (k := kCells) h
  rw [pen_cells] at q
  exact q
theorem dp_left {H : Hp} {p c : Addr} {a l x : Int} (h : H p = some (.dK (penKvs c a l))) : DPut H p (.str "left") (.int x) (upd H p (.dK (penKvs c a x))) := by
  have q := DPut.k (k := kLeft) (v := .int x) h (by show 3 < sizeLine; decide)
  rw [put_left] at q
  exact q
theorem dp_at {H : Hp} {p c : Addr} {a l x : Int} (h : H p = some (.dK (penKvs c a l))) : DPut H p (.str "at") (.int x) (upd H p (.dK (penKvs c x l))) := by
  have q := DPut.k (k := kAt) (v := .int x) h (by show 3 < sizeLine; decide)
  rw [put_at] at q
  exact q
theorem dpInts (K : PySem.W.Frag) (H : Hp) : ∀ ns : List Int, DpAll K H (ns.map V.int) (ns.map PyData.int)
  | [] => .nil
  | n :: ns => .cons (.int n) (dpInts K H ns)
/-- data of a small depth -/
def Sh (n : Nat) (d : PyData) : Prop := d.canLay0 = true ∧ d.depth ≤ n
theorem Sh.int {n : Nat} (i : Int) : Sh n (.int i) := ⟨by simp [PyData.canLay0], by rw [PyData.depth]; omega⟩
theorem Sh.bl {n : Nat} (b : Bool) : Sh n (.bool b) := ⟨by simp [PyData.canLay0], by rw [PyData.depth]; omega⟩
theorem Sh.str {n : Nat} {x : Str} (h : PyData.strOk x = true) : Sh n (.str x) := ⟨by simp [PyData.canLay0, h], by rw [PyData.depth]; omega⟩
theorem Sh.all {n : Nat} : ∀ {xs : List PyData}, (∀ x ∈ xs, Sh n x) → PyData.canLayAll0 xs = true ∧ PyData.depthAll xs ≤ n
  | [], _ => ⟨by simp [PyData.canLayAll0], by rw [PyData.depthAll]; omega⟩
  | x :: xs, h => by
    obtain ⟨a, b⟩ := Sh.all (xs := xs) fun y hy => h y (List.mem_cons_of_mem _ hy)
    obtain ⟨c, d⟩ := h x List.mem_cons_self
    refine ⟨by rw [PyData.canLayAll0, c, a]; rfl, ?_⟩
    rw [PyData.depthAll]
    exact Nat.max_le.mpr ⟨d, b⟩
theorem Sh.list {n : Nat} {xs : List PyData} (h : ∀ x ∈ xs, Sh n x) : Sh (n + 1) (.list xs) := by
  obtain ⟨a, b⟩ := Sh.all h
  exact ⟨by rw [PyData.canLay0]; exact a, by rw [PyData.depth]; omega⟩
theorem Sh.tup {n : Nat} {xs : List PyData} (h : ∀ x ∈ xs, Sh n x) : Sh (n + 1) (.tuple xs) := by
  obtain ⟨a, b⟩ := Sh.all h
  exact ⟨by rw [PyData.canLay0]; exact a, by rw [PyData.depth]; omega⟩
theorem Sh.ok {n : Nat} {d : PyData} (h : Sh n d) (hn : n ≤ 64) : SeqAt.shaped d = true := by
  unfold SeqAt.shaped
  rw [h.1, decide_eq_true (Nat.le_trans h.2 hn)]
  rfl
theorem Sh.refl {n : Nat} {d : PyData} (h : Sh n d) : PyData.eqv d d = true := PySem.SeqAt.eqv_refl d h.1
theorem ifT {c A B : Prop} [Decidable c] (h : c) (a : A) : if decide c = true then A else B := by rw [if_pos (decide_eq_true h)]; exact a
theorem ifF {c A B : Prop} [Decidable c] (h : ¬ c) (b : B) : if decide c = true then A else B := by rw [if_neg (by simpa using h)]; exact b
theorem ifTn {c A B : Prop} [Decidable c] (h : ¬ c) (a : A) : if (!decide c) = true then A else B := by rw [if_pos (by simpa using h)]; exact a
theorem ifFn {c A B : Prop} [Decidable c] (h : c) (b : B) : if (!decide c) = true then A else B := by rw [if_neg (by simpa using h)]; exact b
theorem shInts (ns : List Int) : SeqAt.shaped (.list (ns.map PyData.int)) = true := (Sh.list (n := 0) fun x hx => by
  obtain ⟨i, _, rfl⟩ := List.mem_map.mp hx
  exact Sh.int i).ok (by decide)
theorem eqv_ints_nil (ns : List Int) : PyData.eqv (.list (ns.map PyData.int)) (.list []) = decide (ns = []) := by
  cases ns with
  | nil => rw [List.map_nil, PyData.eqv, PyData.eqvAll]; rfl
  | cons a r => rw [List.map_cons, PyData.eqv, PyData.eqvAll]; rfl
theorem sc_draw : FnScope ["pen", "many", "digit", "at", "cell", "mixed"] ["pen", "many"] (defScope s__law_draw) := ⟨rfl, rfl, rfl, by decide +kernel, rfl, by decide +kernel, by decide +kernel⟩
theorem ok_draw (T : TxtP K mg f1 f2 f3 d1 d2 d3) : FnOk P w K mg base CX0 1 f2 d2 ["pen", "many"] spDraw := by
  have sc := sc_draw
  refine T.D__law_draw.F.ok sc (fun vs H Q E h => ?_) (fun cdv A outer s H vs Q E hr h => ?_)
  · obtain ⟨_, _, _, rfl, _⟩ := h; rfl
  · obtain ⟨p, many, n, rfl, ⟨c, ns, a, l, h1, h2, h3, h4, h5⟩, hn, m0, m1, k⟩ := h
    have hu := hu_of hr
    have ncp : c ≠ p := ne_of h2 h1 (by intro z; cases z)
    refine ⟨_, (pss_cons (ps_if (pt_cmpR op_ge (pe_dget hu (pv 0) pe_str (fun _ _ => rfl)) (pv 1) (nomark _)) (pss_cons (ps_set (i := 2) sc.nd rfl (Or.inl rfl) (pe_op op_mod (pe_callTy call_int1 (by rfl) T.n_int (by decide +kernel) (pa_cons (pe_dget hu (pv 0) pe_str (fun _ _ => rfl)) pa_nil)) (pv 1)))
      (pss_cons (ps_dput hu (pv 0) pe_str (pe_op op_fdiv (pe_dget hu (pv 0) pe_str (fun _ _ => rfl)) (pv 1)) rfl)
      (pss_one (ps_ret (pv 2)))))
        pss_nil)
      (pss_cons (ps_set (i := 3) sc.nd rfl (Or.inl rfl) (pe_dget hu (pv 0) pe_str (fun _ _ => rfl)))
      (pss_cons (ps_dput hu (pv 0) pe_str (pe_op op_add (pv 3) pe_int) rfl)
      (pss_cons (ps_set (i := 4) sc.nd rfl (Or.inl rfl) (pe_op op_add (pe_op op_mul pe_int (pv 3)) pe_int))
      (C8.pss_cut (ps_if (pt_cmpR (op_neD hr.units) (pe_dget hu (pv 0) pe_str (fun _ _ => rfl)) (pe_lst pa_nil) (nomark _)) (pss_one (ps_set (i := 4) sc.nd rfl (Or.inl rfl) (pe_ix ix_list (pe_dget hu (pv 0) pe_str (fun _ _ => rfl)) (pe_op op_mod (pe_callTy call_int1 (by rfl) T.n_int (by decide +kernel) (pa_cons (pv 3) pa_nil)) (pe_callB call_len (by rfl) T.n_len (by decide +kernel) (pa_cons (pe_dget hu (pv 0) pe_str (fun _ _ => rfl)) pa_nil))) (fun _ _ => rfl))))
        pss_nil)
      (pss_cons (ps_if (PW.pt (pw_and (pt_cmpR op_lt (pv 3) (pe_callB call_len (by rfl) T.n_len (by decide +kernel) (pa_cons (pe_dget hu (pv 0) pe_str (fun _ _ => rfl)) pa_nil)) (nomark _)) (pw_and1 (pt_cmpR op_ge (pv 4) (pe_op op_pow pe_int pe_int) (nomark _))))) (pss_cons (ps_dput hu (pv 0) pe_str (pe_op op_fdiv (pe_op op_sub (pv 4) (pe_op op_pow pe_int pe_int)) (pv 1)) rfl)
      (pss_one (ps_ret (pe_op op_mod (pe_callTy call_int1 (by rfl) T.n_int (by decide +kernel) (pa_cons (pe_op op_sub (pv 4) (pe_op op_pow pe_int pe_int)) pa_nil)) (pv 1)))))
        pss_nil)
      (pss_cons (ps_set (i := 5) sc.nd rfl (Or.inl rfl) (pe_op op_add (pe_op op_add (pe_op op_add (pe_op op_mul (pe_op op_mod (pe_callTy call_int1 (by rfl) T.n_int (by decide +kernel) (pa_cons (pv 4) pa_nil)) pe_int) pe_int) (pe_op op_mul (pe_op op_mul pe_int (pv 3)) (pv 3))) (pe_op op_mul pe_int (pv 3))) pe_int))
      (pss_cons (ps_set (i := 5) sc.nd rfl (Or.inl rfl) (pe_op op_mod (pe_callTy call_int1 (by rfl) T.n_int (by decide +kernel) (pa_cons (pv 5) pa_nil)) pe_int))
      (pss_cons (ps_set (i := 5) sc.nd rfl (Or.inl rfl) (pe_op op_mod (pe_callTy call_int1 (by rfl) T.n_int (by decide +kernel) (pa_cons (pe_op op_mul (pv 5) (pe_op op_add (pv 5) pe_int)) pa_nil)) pe_int))
      (pss_one (ps_ret (pe_op op_mod (pe_callTy call_int1 (by rfl) T.n_int (by decide +kernel) (pa_cons (pe_op op_fdiv (pe_op op_mod (pe_callTy call_int1 (by rfl) T.n_int (by decide +kernel) (pa_cons (pe_op op_mul (pv 5) (pv 5)) pa_nil)) pe_int) pe_int) pa_nil)) (pv 1))))))))))))), ?_⟩
    refine ⟨_, rfl, p, .int l, rfl, dg_left h1, _, rfl, _, _, rfl, rfl, _, rfl, ?_⟩
    by_cases c1 : many ≤ l
    · refine ifT c1 ?_
      refine ⟨_, rfl, p, .int l, rfl, dg_left h1, .inl ⟨_, rfl, _, rfl, _, _, rfl, rfl, m0, ?_⟩⟩
      refine ⟨_, rfl, p, .int l, rfl, dg_left h1, _, rfl, _, _, rfl, rfl, ⟨m0, m1⟩, _, rfl, p, _, rfl, dp_left h1, ?_⟩
      refine ⟨_, rfl, ?_⟩
      refine k _ _ (Int.emod_nonneg _ (by omega)) (Int.emod_lt_of_pos _ m0) ⟨c, ns, a, _, upd_same, by rw [upd_ne ncp]; exact h2, h3, h4, by omega⟩ .upd
    · refine ifF c1 ?_
      refine ⟨_, rfl, p, .int a, rfl, dg_at h1, ?_⟩
      refine ⟨_, rfl, _, _, rfl, rfl, _, rfl, p, _, rfl, dp_at h1, ?_⟩
      have g1 : upd H p (.dK (penKvs c (a + 1) l)) p = some (.dK (penKvs c (a + 1) l)) := upd_same
      have g2 : upd H p (.dK (penKvs c (a + 1) l)) c = some (.lst (ns.map V.int)) := by rw [upd_ne ncp]; exact h2
      have g3 : SameBut p H (upd H p (.dK (penKvs c (a + 1) l))) := .upd
      generalize upd H p (.dK (penKvs c (a + 1) l)) = H1 at g1 g2 g3 ⊢
      refine ⟨_, rfl, _, _, rfl, rfl, .inl ⟨by decide, by decide⟩, _, _, rfl, rfl, ?_⟩
      -- if pen['cells'] != []
      refine ⟨fun σ' H' => ∃ cell : Int, σ' = [some (.ref p), some (.int many), none, some (.int a), some (.int cell), none] ∧ Same H1 H', ?_, ?_⟩
      · refine ⟨_, rfl, p, .ref c, rfl, dg_cells g1, (by decide), fun lz hz => ?_⟩
        refine ⟨.list (ns.map PyData.int), .list [], .lst (SqL.of (Same.upd hz _ _ g2)) (dpInts _ _ _), .lst (SqL.of upd_same) .nil, shInts ns, shInts [], _, rfl, ?_⟩
        rw [eqv_ints_nil]
        by_cases c2 : ns = []
        · refine ifFn c2 ?_
          exact ⟨_, rfl, Same.upd hz⟩
        · refine ifTn c2 ?_
          have hpos : 0 < ns.length := List.length_pos_iff.mpr c2
          have hsu := Same.upd (o := .lst ([] : List V)) hz
          have e2 := hsu _ _ g2
          have e1 := hsu _ _ g1
          have hm0 : 0 ≤ a % (ns.length : Int) := Int.emod_nonneg _ (by omega)
          have hm1 : a % (ns.length : Int) < ns.length := Int.emod_lt_of_pos _ (by omega)
          obtain ⟨x, hx⟩ : ∃ x, ns[(a % (ns.length : Int)).toNat]? = some x := ⟨_, List.getElem?_eq_getElem (by omega)⟩
          refine ⟨_, rfl, p, .ref c, rfl, dg_cells e1, _, rfl, .inl ⟨_, rfl, ?_⟩⟩
          refine ⟨_, rfl, p, .ref c, rfl, dg_cells e1, .ref c, ns.length, rfl, .inl ⟨_, SqL.of e2, by rw [List.length_map]⟩, _, _, rfl, rfl, by omega, ?_⟩
          refine ⟨c, ns.map V.int, _, .int x, rfl, rfl, SqL.of e2, ?_, ?_⟩
          · have q := atI_nat (xs := ns.map V.int) (j := (a % (ns.length : Int)).toNat) (v := .int x) (by rw [List.getElem?_map, hx]; rfl)
            rw [Int.toNat_of_nonneg hm0] at q
            exact q
          · exact ⟨x, rfl, hsu⟩
      · rintro σ' H' ⟨cell, rfl, s1⟩
        have e1 := s1 _ _ g1
        have e2 := s1 _ _ g2
        refine ⟨_, rfl, _, rfl, p, .ref c, rfl, dg_cells e1, .ref c, ns.length, rfl, .inl ⟨_, SqL.of e2, by rw [List.length_map]⟩, _, _, rfl, rfl, _, rfl, ?_⟩
        have P18 : CPow 10 18 := ⟨by decide, by decide, by decide⟩
        have fin : ∀ (r : Int) (H2 : Hp) (l2 : Int), 0 ≤ r → r < many → H2 = upd H' p (.dK (penKvs c (a + 1) l2)) ∨ H2 = H' → Q (.int r) H2 := by
          intro r H2 l2 r0 r1 e
          have g3' : SameBut p H H' := g3.trans (.of s1)
          rcases e with rfl | rfl
          · exact k r _ r0 r1 ⟨c, ns, a + 1, l2, upd_same, by rw [upd_ne ncp]; exact e2, h3, by omega, by omega⟩ (g3'.trans .upd)
          · exact k r _ r0 r1 ⟨c, ns, a + 1, l, e1, e2, h3, by omega, by omega⟩ g3'
        have last : (tSeq (tAsg (tOp (rI0 fun i j => .int (i + j)) (tOp (rI0 fun i j => .int (i + j)) (tOp (rI0 fun i j => .int (i + j)) (tOp (rI CMul fun i j => .int (i * j)) (tOp (rI (fun _ j => 0 < j) fun i j => .int (i % j)) (tCB (fun xs H Q => (∃ i, xs = [V.int i] ∧ Q (.int i) H) ∨ ∃ k, xs = [V.bl k] ∧ Q (.int (if k then 1 else 0)) H) (tCons (tVar 4) tNil)) (tC (.int 2147483587))) (tC (.int 48271))) (tOp (rI CMul fun i j => .int (i * j)) (tOp (rI CMul fun i j => .int (i * j)) (tC (.int 40014)) (tVar 3)) (tVar 3))) (tOp (rI CMul fun i j => .int (i * j)) (tC (.int 59)) (tVar 3))) (tC (.int 17))) (gName 5))
            (tSeq (tAsg (tOp (rI (fun _ j => 0 < j) fun i j => .int (i % j)) (tCB (fun xs H Q => (∃ i, xs = [V.int i] ∧ Q (.int i) H) ∨ ∃ k, xs = [V.bl k] ∧ Q (.int (if k then 1 else 0)) H) (tCons (tVar 5) tNil)) (tC (.int 2147483629))) (gName 5))
            (tSeq (tAsg (tOp (rI (fun _ j => 0 < j) fun i j => .int (i % j)) (tCB (fun xs H Q => (∃ i, xs = [V.int i] ∧ Q (.int i) H) ∨ ∃ k, xs = [V.bl k] ∧ Q (.int (if k then 1 else 0)) H) (tCons (tOp (rI CMul fun i j => .int (i * j)) (tVar 5) (tOp (rI0 fun i j => .int (i + j)) (tVar 5) (tC (.int 69621)))) tNil)) (tC (.int 2147483549))) (gName 5))
            (tRet (tOp (rI (fun _ j => 0 < j) fun i j => .int (i % j)) (tCB (fun xs H Q => (∃ i, xs = [V.int i] ∧ Q (.int i) H) ∨ ∃ k, xs = [V.bl k] ∧ Q (.int (if k then 1 else 0)) H) (tCons (tOp (rI CDiv fun i j => .int (i / j)) (tOp (rI (fun _ j => 0 < j) fun i j => .int (i % j)) (tCB (fun xs H Q => (∃ i, xs = [V.int i] ∧ Q (.int i) H) ∨ ∃ k, xs = [V.bl k] ∧ Q (.int (if k then 1 else 0)) H) (tCons (tOp (rI CMul fun i j => .int (i * j)) (tVar 5) (tVar 5)) tNil)) (tC (.int 2147483579))) (tC (.int 32))) tNil)) (tVar 1))))))
            { nx := fun _ H' => Q .non H', rt := Q } [some (.ref p), some (.int many), none, some (.int a), some (.int cell), none] H' := by
          refine ⟨_, rfl, .inl ⟨_, rfl, _, _, rfl, rfl, (show (0 : Int) < 2147483587 by decide), _, _, rfl, rfl, .inr ⟨by decide, by decide⟩, _, rfl, _, _, rfl, rfl, .inl ⟨by decide, by decide⟩, _, rfl, _, _, rfl, rfl, .inr ⟨by omega, by omega⟩, _, _, rfl, rfl, _, rfl, _, _, rfl, rfl, .inl ⟨by decide, by decide⟩, _, _, rfl, rfl, _, _, rfl, rfl, ?_⟩⟩
          refine ⟨_, rfl, .inl ⟨_, rfl, _, _, rfl, rfl, (show (0 : Int) < 2147483629 by decide), ?_⟩⟩
          have x0 := Int.emod_nonneg (cell % 2147483587 * 48271 + 40014 * a * a + 59 * a + 17) (show (2147483629 : Int) ≠ 0 by decide)
          have x1 := Int.emod_lt_of_pos (cell % 2147483587 * 48271 + 40014 * a * a + 59 * a + 17) (show (0 : Int) < 2147483629 by decide)
          generalize (cell % 2147483587 * 48271 + 40014 * a * a + 59 * a + 17) % 2147483629 = x at x0 x1 ⊢
          refine ⟨_, rfl, _, rfl, _, _, rfl, rfl, _, _, rfl, rfl, .inl ⟨by omega, by omega⟩, .inl ⟨_, rfl, _, _, rfl, rfl, (show (0 : Int) < 2147483549 by decide), ?_⟩⟩
          have y0 := Int.emod_nonneg (x * (x + 69621)) (show (2147483549 : Int) ≠ 0 by decide)
          have y1 := Int.emod_lt_of_pos (x * (x + 69621)) (show (0 : Int) < 2147483549 by decide)
          generalize (x * (x + 69621)) % 2147483549 = y at y0 y1 ⊢
          refine ⟨_, rfl, _, rfl, _, _, rfl, rfl, .inl ⟨by omega, by omega⟩, .inl ⟨_, rfl, _, _, rfl, rfl, (show (0 : Int) < 2147483579 by decide), _, _, rfl, rfl, ⟨by decide, by decide⟩, .inl ⟨_, rfl, _, rfl, _, _, rfl, rfl, m0, ?_⟩⟩⟩
          exact fin _ _ l (Int.emod_nonneg _ (by omega)) (Int.emod_lt_of_pos _ m0) (.inr rfl)
        by_cases c3 : a < ns.length
        · refine ifT c3 ?_
          refine ⟨_, rfl, _, _, rfl, rfl, P18, _, _, rfl, rfl, _, rfl, ?_⟩
          by_cases c4 : (10 : Int) ^ (18 : Int).toNat ≤ cell
          · refine ifT c4 ?_
            refine ⟨_, rfl, _, _, rfl, rfl, P18, _, _, rfl, rfl, _, rfl, _, _, rfl, rfl, ⟨m0, m1⟩, _, rfl, p, _, rfl, dp_left e1, ?_⟩
            refine ⟨_, rfl, _, _, rfl, rfl, P18, _, _, rfl, rfl, .inl ⟨_, rfl, _, rfl, _, _, rfl, rfl, m0, ?_⟩⟩
            exact fin _ _ _ (Int.emod_nonneg _ (by omega)) (Int.emod_lt_of_pos _ m0) (.inl rfl)
          · refine ifF c4 ?_
            exact last
        · refine ifF c3 ?_
          exact last
theorem sc_pick : FnScope ["pen", "items"] ["pen", "items"] (defScope s__law_pick) := ⟨rfl, rfl, rfl, by decide +kernel, rfl, by decide +kernel, by decide +kernel⟩
theorem ok_pick (T : TxtP K mg f1 f2 f3 d1 d2 d3) : FnOk P w K mg base CX0 2 f3 d3 ["pen", "items"] spPick := by
  have sc := sc_pick
  have G__law_draw : FnOk P w K mg base CX0 1 f2 d2 ["pen", "many"] spDraw := ok_draw T
  refine T.D__law_pick.F.ok sc (fun vs H Q E h => ?_) (fun cdv A outer s H vs Q E hr h => ?_)
  · obtain ⟨_, _, _, _, rfl, _⟩ := h; rfl
  · obtain ⟨p, q, xs, n, rfl, hp, hn, hq, x0, x1, k⟩ := h
    refine ⟨_, (pss_one (ps_ret (pe_ix ix_list (pv 1) (pe_call G__law_draw (hr.mono (by decide)) rfl T.D__law_draw.g T.D__law_draw.F.kp T.D__law_draw.b .nil pass0 (pa_cons (pv 0) (pa_cons (pe_callB call_len (by rfl) T.n_len (by decide +kernel) (pa_cons (pv 1) pa_nil)) pa_nil))) (fun _ _ => rfl)))), ?_⟩
    refine ⟨_, rfl, _, rfl, _, rfl, .ref q, xs.length, rfl, .inl ⟨_, SqL.of hq, rfl⟩, p, _, n, rfl, hp, hn, by omega, by omega, fun r H' r0 r1 hp' sb => ?_⟩
    obtain ⟨x, hx⟩ : ∃ x, xs[r.toNat]? = some x := ⟨_, List.getElem?_eq_getElem (by omega)⟩
    refine ⟨q, xs, r, x, rfl, rfl, SqL.of (sb _ _ hq (hp.ne hq)), ?_, k x _ H' hx hp' sb⟩
    have z := atI_nat hx
    rw [Int.toNat_of_nonneg r0] at z
    exact z
end
end Kx

namespace Kx
open PySem L2

abbrev s_copied : Stmt := top 14
abbrev s__law_first : Stmt := top 19
abbrev s__law_second : Stmt := top 20
abbrev s__law_named : Stmt := top 21
abbrev s__law_named_too : Stmt := top 22
abbrev s__law_kinds : Stmt := top 23
abbrev s__law_fields : Stmt := top 24
abbrev s__law_caught : Stmt := top 25
abbrev s_law : Stmt := top 26
abbrev s_BadText : Stmt := inClass (top 2) 0
abbrev s_BadMachine : Stmt := inClass (top 3) 0
abbrev s_BadSign : Stmt := inClass (top 4) 0
abbrev s_BadEdit : Stmt := inClass (top 5) 0
abbrev s_BadColumn : Stmt := inClass (top 6) 0
abbrev s_BadBound : Stmt := inClass (top 7) 0
abbrev s_BadKeys : Stmt := inClass (top 8) 0
abbrev s_BadName : Stmt := inClass (top 9) 0
abbrev s_TooMany : Stmt := inClass (top 10) 0
abbrev s_Misses : Stmt := inClass (top 12) 0

/-! ### the data in the fields of errors -/
def Fl (H : Hp) : Nat → V → PyData → Prop
  | 0, v, d => (∃ i, v = .int i ∧ d = .int i) ∨ ∃ x, v = .str x ∧ d = .str x ∧ PyData.strOk x = true
  | n + 1, v, d => ((∃ i, v = .int i ∧ d = .int i) ∨ ∃ x, v = .str x ∧ d = .str x ∧ PyData.strOk x = true) ∨
      ∃ (a : Addr) (xs : List V) (ds : List PyData), v = .ref a ∧ d = .tuple ds ∧ H a = some (.tup xs) ∧ xs.length ≤ 1000 ∧ Paired (Fl H n) xs ds
theorem Fl.up {H : Hp} : ∀ {n : Nat} {v : V} {d : PyData}, Fl H n v d → Fl H (n + 1) v d
  | 0, _, _, h => .inl h
  | n + 1, v, d, h => by
    rcases h with h | ⟨a, xs, ds, e1, e2, e3, e4, e5⟩
    · exact .inl h
    · exact .inr ⟨a, xs, ds, e1, e2, e3, e4, L2.Paired.mapP e5 fun _ _ z => Fl.up z⟩
theorem Fl.keep {H H' : Hp} (s : ∀ b xs, H b = some (.tup xs) → H' b = some (.tup xs)) : ∀ {n : Nat} {v : V} {d : PyData}, Fl H n v d → Fl H' n v d
  | 0, _, _, h => h
  | n + 1, v, d, h => by
    rcases h with h | ⟨a, xs, ds, e1, e2, e3, e4, e5⟩
    · exact .inl h
    · exact .inr ⟨a, xs, ds, e1, e2, s _ _ e3, e4, L2.Paired.mapP e5 fun _ _ z => Fl.keep s z⟩
theorem Fl.same {H H' : Hp} (s : Same H H') {n : Nat} {v : V} {d : PyData} (h : Fl H n v d) : Fl H' n v d := h.keep fun b xs e => s b _ e
theorem Paired.mem2 {α β : Type} {F : α → β → Prop} : ∀ {l : List α} {m : List β}, Paired F l m → ∀ y ∈ m, ∃ x ∈ l, F x y
  | _, _, .nil, y, h => by cases h
  | _, _, .cons r t, y, h => by
    rcases List.mem_cons.mp h with rfl | h
    · exact ⟨_, List.mem_cons_self, r⟩
    · obtain ⟨x, hx, hr⟩ := Paired.mem2 t y h
      exact ⟨x, List.mem_cons_of_mem _ hx, hr⟩
theorem Fl.sh {H : Hp} : ∀ {n : Nat} {v : V} {d : PyData}, Fl H n v d → Sh n d
  | 0, _, _, h => by
    rcases h with ⟨i, _, rfl⟩ | ⟨x, _, rfl, hx⟩
    · exact Sh.int i
    · exact Sh.str hx
  | n + 1, v, d, h => by
    rcases h with h | ⟨a, xs, ds, e1, rfl, e3, e4, e5⟩
    · rcases h with ⟨i, _, rfl⟩ | ⟨x, _, rfl, hx⟩
      · exact Sh.int i
      · exact Sh.str hx
    · refine Sh.tup fun y hy => ?_
      obtain ⟨x, _, hx⟩ := Paired.mem2 e5 y hy
      exact Fl.sh hx
theorem dpAll_of {K : PySem.W.Frag} {H : Hp} {F : V → PyData → Prop} (f : ∀ v d, F v d → Dp K H v d) : ∀ {xs : List V} {ds : List PyData}, Paired F xs ds → DpAll K H xs ds
  | _, _, .nil => .nil
  | _, _, .cons r t => .cons (f _ _ r) (dpAll_of f t)
theorem Fl.dp {K : PySem.W.Frag} {H : Hp} : ∀ {n : Nat} {v : V} {d : PyData}, Fl H n v d → Dp K H v d
  | 0, _, _, h => by
    rcases h with ⟨i, rfl, rfl⟩ | ⟨x, rfl, rfl, hx⟩
    · exact .int i
    · exact .str x
  | n + 1, v, d, h => by
    rcases h with h | ⟨a, xs, ds, rfl, rfl, e3, e4, e5⟩
    · rcases h with ⟨i, rfl, rfl⟩ | ⟨x, rfl, rfl, hx⟩
      · exact .int i
      · exact .str x
    · exact .tup (SqT.of e3) (dpAll_of (fun _ _ z => Fl.dp z) e5)
/-! ### the classes of errors -/
abbrev tailM (M : Addr) : List Value := [.ref M, .type "ValueError", .type "Exception", .type "BaseException", .type "object"]
structure ErrC (K : PySem.W.Frag) (mg : Str → Option Value) (name : Str) (C M : Addr) : Prop where
  g : mg name = some (.ref C)
  oex : OexC K C
  exc : ExcC K C
  cls : PySem.W.isClsIn K C = true
  sub : ∀ b : Value, PySem.W.subIn K (.ref C) b = some ((Value.ref C :: tailM M).contains b)
theorem ErrC.xf {K : PySem.W.Frag} {mg : Str → Option Value} {name : Str} {C M : Addr} (e : ErrC K mg name C M) : XfC K C := ⟨e.exc.hg, e.exc.hk, e.exc.hs, e.exc.hd⟩
theorem err_mk {K : PySem.W.Frag} {mg : Str → Option Value} {name : Str} {C M : Addr} {nm q : Str} {N : Addr} {bs : List Value} {sn : List Str} {sub : List Value} {ab : Bool} {col : Option Bool} {dd : Option Addr} {m0 m1 m2 m3 m5 : Option Value}
    (g : mg name = some (.ref C)) (xL : K.lookup C = some (excClassObj nm q C N bs (tailM M) true sn sub ab col dd m0 m1 m2 m3 m5 "ValueError.__new__"))
    (sa : PySem.W.findIn K (.ref C) "__setattr__" = some (some (.builtin "object.__setattr__"))) (ga : PySem.W.findIn K (.ref C) "__getattribute__" = some (some (.builtin "BaseException.__getattribute__"))) (gg : PySem.W.findIn K (.ref C) "__getattr__" = some none)
    (ha : PySem.W.findIn K (.ref C) "__class__" = some (some (.builtin "object.__class__"))) (hn : PySem.W.specialIn K (.builtin "object.__class__") "__get__" = some (some (.builtin "getset_descriptor.__get__"))) (ht : PySem.W.takesIn K (.builtin "object.__class__") = some true)
    (kC : PySem.W.keepIn K (.ref C) = true) : ErrC K mg name C M := by
  have hc : PySem.W.clsIn K C = some { name := nm, bases := bs, mro := .ref C :: tailM M, ns := N, qualname := q, hasDict := true, slotNames := sn, subclasses := sub, abstract := ab, collection := col, hasDel := false } := by unfold PySem.W.clsIn; rw [xL] <;> rfl
  have hs : ∀ b : Value, PySem.W.subIn K (.ref C) b = some ((Value.ref C :: tailM M).contains b) := fun b => by
    show PySem.W.mroIn K C b = _
    unfold PySem.W.mroIn
    rw [hc]
    rfl
  have ty : PySem.W.typeIn K (.ref C) = some (.type "type") := by
    show (K.lookup C).map (·.cls) = _
    rw [xL]
    rfl
  have hd : PySem.W.hasDictIn K C = true := by unfold PySem.W.hasDictIn; rw [hc]; rfl
  have eB : PySem.W.subIn K (.ref C) (.type "BaseException") = some true := by rw [hs]; rfl
  have eO : PySem.W.mroIn K C (.type "object") = some true := (hs (.type "object")).trans rfl
  refine ⟨g, ⟨⟨nm, q, N, bs, _, sn, sub, ab, col, dd, m0, m1, m2, m3, m5, xL, by rfl⟩, sa, eB, ty, kC⟩, ⟨ga, gg, eB, hd, ha, hn, ht, eO⟩, by unfold PySem.W.isClsIn; rw [hc]; rfl, hs⟩
theorem kit_err {K : PySem.W.Frag} {mg : Str → Option Value} {n1 n2 : Str} {C1 C2 M : Addr} (e1 : ErrC K mg n1 C1 M) (e2 : ErrC K mg n2 C2 M) (h : C2 ≠ M) : PySem.W.kitOne K (.ref C1) (.ref C2) = some (decide (C1 = C2)) := by
  unfold PySem.W.kitOne
  by_cases c : C1 = C2
  · subst c
    rw [if_pos (by simp), decide_eq_true rfl]
  · rw [if_neg (by simpa using c), decide_eq_false c]
    show (if ((PySem.W.clsIn K C2).isSome && PySem.W.typeIn K (.ref C2) == some (.type "type")) = true then PySem.W.subIn K (.ref C1) (.ref C2) else none) = _
    have z : (PySem.W.clsIn K C2).isSome = true := e2.cls
    rw [z, e2.oex.tyC, if_pos (by rfl), e1.sub]
    congr 1
    have a1 : (Value.ref C2 == Value.ref C1) = false := by simpa using Ne.symm c
    have a2 : (Value.ref C2 == Value.ref M) = false := by simpa using h
    simp [List.contains, List.elem, a1, a2]
    rfl
theorem kit_VE {K : PySem.W.Frag} {mg : Str → Option Value} {n1 : Str} {C1 M : Addr} (e1 : ErrC K mg n1 C1 M) : PySem.W.kitOne K (.ref C1) (.type "ValueError") = some true := by
  unfold PySem.W.kitOne
  rw [if_neg (by simp)]
  show (if PySem.W.kitMeta "ValueError" = true then PySem.W.subIn K (.ref C1) (.type "ValueError") else none) = _
  rw [if_pos (by decide +kernel), e1.sub]
  rfl
/-- where all stands -/
structure Ad where
  M : Addr
  c : Nat → Addr
  i : Nat → Addr
  di : Nat → FuncData

  f_copied : Addr
  d_copied : FuncData
  f__law_first : Addr
  d__law_first : FuncData
  f__law_second : Addr
  d__law_second : FuncData
  f__law_named : Addr
  d__law_named : FuncData
  f__law_named_too : Addr
  d__law_named_too : FuncData
  f__law_kinds : Addr
  d__law_kinds : FuncData
  f__law_fields : Addr
  d__law_fields : FuncData
  f__law_caught : Addr
  d__law_caught : FuncData
  f_law : Addr
  d_law : FuncData
  p1 : Addr
  p2 : Addr
  p3 : Addr
  q1 : FuncData
  q2 : FuncData
  q3 : FuncData
structure IniT (K : PySem.W.Frag) (qual : Str) (st : Stmt) (C f : Addr) (fd : FuncData) (ps ks : List Str) (g : {α : Type} → List α → List α → List α) : Prop where
  iC : PySem.W.findIn K (.ref C) "__init__" = some (some (.ref f))
  tI : PySem.W.typeIn K (.ref f) = some (.type "function")
  F : Fun K "__init__" qual st f fd
  b : Binds K fd ps []
  kb : KBn K fd ps 1 ks g g
structure Txt (K : PySem.W.Frag) (mg : Str → Option Value) (A : Ad) : Prop where
  pen : TxtP K mg A.p1 A.p2 A.p3 A.q1 A.q2 A.q3
  gM : mg "MissError" = some (.ref A.M)
  exM : ∀ C : Addr, PySem.W.subIn K (.ref C) (.ref A.M) = some true → PySem.W.exmOne K (.ref C) (.ref A.M) = some true
  inj : ∀ i j, i < 12 → j < 12 → A.c i = A.c j → i = j
  cM : ∀ i, i < 12 → A.c i ≠ A.M
  E_BadText : ErrC K mg "BadText" (A.c 0) A.M
  I_BadText : IniT K "BadText.__init__" s_BadText (A.c 0) (A.i 0) (A.di 0) ["self", "line"] ["line"] (fun us ws => us ++ ws.reverse)
  N_BadText_line : PySem.W.findIn K (.ref (A.c 0)) "line" = some none
  E_BadMachine : ErrC K mg "BadMachine" (A.c 1) A.M
  I_BadMachine : IniT K "BadMachine.__init__" s_BadMachine (A.c 1) (A.i 1) (A.di 1) ["self", "state", "place"] ["place", "state"] (fun us ws => us ++ ws.reverse)
  N_BadMachine_state : PySem.W.findIn K (.ref (A.c 1)) "state" = some none
  N_BadMachine_place : PySem.W.findIn K (.ref (A.c 1)) "place" = some none
  E_BadSign : ErrC K mg "BadSign" (A.c 2) A.M
  I_BadSign : IniT K "BadSign.__init__" s_BadSign (A.c 2) (A.i 2) (A.di 2) ["self", "place"] ["place"] (fun us ws => us ++ ws.reverse)
  N_BadSign_place : PySem.W.findIn K (.ref (A.c 2)) "place" = some none
  E_BadEdit : ErrC K mg "BadEdit" (A.c 3) A.M
  I_BadEdit : IniT K "BadEdit.__init__" s_BadEdit (A.c 3) (A.i 3) (A.di 3) ["self", "index"] ["index"] (fun us ws => us ++ ws.reverse)
  N_BadEdit_index : PySem.W.findIn K (.ref (A.c 3)) "index" = some none
  E_BadColumn : ErrC K mg "BadColumn" (A.c 4) A.M
  I_BadColumn : IniT K "BadColumn.__init__" s_BadColumn (A.c 4) (A.i 4) (A.di 4) ["self", "index"] ["index"] (fun us ws => us ++ ws.reverse)
  N_BadColumn_index : PySem.W.findIn K (.ref (A.c 4)) "index" = some none
  E_BadBound : ErrC K mg "BadBound" (A.c 5) A.M
  I_BadBound : IniT K "BadBound.__init__" s_BadBound (A.c 5) (A.i 5) (A.di 5) ["self", "bound"] ["bound"] (fun us ws => us ++ ws.reverse)
  N_BadBound_bound : PySem.W.findIn K (.ref (A.c 5)) "bound" = some none
  E_BadKeys : ErrC K mg "BadKeys" (A.c 6) A.M
  I_BadKeys : IniT K "BadKeys.__init__" s_BadKeys (A.c 6) (A.i 6) (A.di 6) ["self", "key"] ["key"] (fun us ws => us ++ ws.reverse)
  N_BadKeys_key : PySem.W.findIn K (.ref (A.c 6)) "key" = some none
  E_BadName : ErrC K mg "BadName" (A.c 7) A.M
  I_BadName : IniT K "BadName.__init__" s_BadName (A.c 7) (A.i 7) (A.di 7) ["self", "name"] ["name"] (fun us ws => us ++ ws.reverse)
  N_BadName_name : PySem.W.findIn K (.ref (A.c 7)) "name" = some none
  E_TooMany : ErrC K mg "TooMany" (A.c 8) A.M
  I_TooMany : IniT K "TooMany.__init__" s_TooMany (A.c 8) (A.i 8) (A.di 8) ["self", "what"] ["what"] (fun us ws => us ++ ws.reverse)
  N_TooMany_what : PySem.W.findIn K (.ref (A.c 8)) "what" = some none
  E_Unlike : ErrC K mg "Unlike" (A.c 9) A.M
  X_Unlike : PySem.W.excIn K (A.c 9) [.type "ValueError", .type "Exception", .type "BaseException", .type "object"] "ValueError.__new__" = true
  E_Misses : ErrC K mg "Misses" (A.c 10) A.M
  I_Misses : IniT K "Misses.__init__" s_Misses (A.c 10) (A.i 10) (A.di 10) ["self", "columns"] ["columns"] (fun us ws => us ++ ws.reverse)
  N_Misses_columns : PySem.W.findIn K (.ref (A.c 10)) "columns" = some none
  E_NothingLeft : ErrC K mg "NothingLeft" (A.c 11) A.M
  X_NothingLeft : PySem.W.excIn K (A.c 11) [.type "ValueError", .type "Exception", .type "BaseException", .type "object"] "ValueError.__new__" = true
  D_copied : DefT K mg "copied" "copied" s_copied ["field"] A.f_copied A.d_copied
  D__law_first : DefT K mg "_law_first" "_law_first" s__law_first ["k", "a", "b"] A.f__law_first A.d__law_first
  D__law_second : DefT K mg "_law_second" "_law_second" s__law_second ["k", "a"] A.f__law_second A.d__law_second
  D__law_named : DefT K mg "_law_named" "_law_named" s__law_named ["k", "a", "b"] A.f__law_named A.d__law_named
  D__law_named_too : DefT K mg "_law_named_too" "_law_named_too" s__law_named_too ["k", "a"] A.f__law_named_too A.d__law_named_too
  D__law_kinds : DefT K mg "_law_kinds" "_law_kinds" s__law_kinds ["e"] A.f__law_kinds A.d__law_kinds
  D__law_fields : DefT K mg "_law_fields" "_law_fields" s__law_fields ["k", "e"] A.f__law_fields A.d__law_fields
  D__law_caught : DefT K mg "_law_caught" "_law_caught" s__law_caught ["k", "a", "b"] A.f__law_caught A.d__law_caught
  D_law : DefT K mg "law" "law" s_law ["script"] A.f_law A.d_law
  n_isinstance : mg "isinstance" = none
  n_range : mg "range" = none
  n_min : mg "min" = none
  n_len : mg "len" = none
  n_list : mg "list" = none
  n_tuple : mg "tuple" = none
  n_dict : mg "dict" = none
  n_ValueError : mg "ValueError" = none
section
variable {P : Program} {w : World} {K : PySem.W.Frag} {mg : Str → Option Value} {base : Heap} {A : Ad}

local macro_rules | `(tactic| walk_at "g") => `(tactic| first | refine ⟨_, _, rfl, rfl, ?_⟩ | refine ⟨_, rfl, ?_⟩ | refine ⟨rfl, ?_⟩)
local macro_rules | `(tactic| walk_at "ck") => `(tactic| (refine ⟨_, rfl, rfl, _, rfl, ?_⟩; first | refine ifT (by decide) ?_ | refine ifF (by decide) ?_))
/-! ### copied -/
theorem pget {α β : Type} {F : α → β → Prop} : ∀ {l : List α} {m : List β} {i : Nat} {x : α}, Paired F l m → l[i]? = some x → ∃ y, m[i]? = some y ∧ F x y
  | _, _, _, _, .nil, h => by simp at h
  | _, _, 0, _, .cons r _, h => by simp at h; subst h; exact ⟨_, rfl, r⟩
  | _, _, i + 1, _, .cons _ t, h => by
    obtain ⟨y, h1, h2⟩ := pget (i := i) t (by simpa using h)
    exact ⟨y, by simpa using h1, h2⟩
def spCopied (n : Nat) : Sp := fun vs H Q _ => ∃ (v : V) (d : PyData), vs = [v] ∧ Fl H n v d ∧ ∀ v' H', Same H H' → Fl H' n v' d → Q v' H'
/-- the type of such a datum -/
theorem Fl.ty {K : PySem.W.Frag} {H : Hp} {n : Nat} {v : V} {d : PyData} (h : Fl H n v d) : ((TyX K H v (.type "int") ∨ TyX K H v (.type "str"))) ∨ (TyX K H v (.type "tuple") ∧ ∃ (a : Addr) (xs : List V) (ds : List PyData) (m : Nat), n = m + 1 ∧ v = .ref a ∧ d = .tuple ds ∧ H a = some (.tup xs) ∧ xs.length ≤ 1000 ∧ Paired (Fl H m) xs ds) := by
  cases n with
  | zero =>
    rcases h with ⟨i, rfl, rfl⟩ | ⟨x, rfl, rfl, _⟩
    · exact .inl (.inl (.base (.int i)))
    · exact .inl (.inr (.base (.str x)))
  | succ n =>
    rcases h with h | ⟨a, xs, ds, rfl, rfl, e3, e4, e5⟩
    · rcases h with ⟨i, rfl, rfl⟩ | ⟨x, rfl, rfl, _⟩
      · exact .inl (.inl (.base (.int i)))
      · exact .inl (.inr (.base (.str x)))
    · exact .inr ⟨.base (.tup e3), a, xs, ds, n, rfl, rfl, rfl, e3, e4, e5⟩
theorem k_int_list : PySem.W.kitOne K (.type "int") (.type "list") = some false := kit_ty (by decide +kernel)
theorem k_int_tuple : PySem.W.kitOne K (.type "int") (.type "tuple") = some false := kit_ty (by decide +kernel)
theorem k_int_dict : PySem.W.kitOne K (.type "int") (.type "dict") = some false := kit_ty (by decide +kernel)
theorem k_str_list : PySem.W.kitOne K (.type "str") (.type "list") = some false := kit_ty (by decide +kernel)
theorem k_str_tuple : PySem.W.kitOne K (.type "str") (.type "tuple") = some false := kit_ty (by decide +kernel)
theorem k_str_dict : PySem.W.kitOne K (.type "str") (.type "dict") = some false := kit_ty (by decide +kernel)
theorem k_tuple_list : PySem.W.kitOne K (.type "tuple") (.type "list") = some false := kit_ty (by decide +kernel)
theorem k_tuple_tuple : PySem.W.kitOne K (.type "tuple") (.type "tuple") = some true := kit_ty (by decide +kernel)
theorem sc_copied : FnScope ["field", "part", "key"] ["field"] (defScope s_copied) := ⟨rfl, rfl, rfl, by decide +kernel, rfl, by decide +kernel, by decide +kernel⟩
theorem ok_copied (T : Txt K mg A) : ∀ n : Nat, FnOk P w K mg base CX0 (n + 1) A.f_copied A.d_copied ["field"] (spCopied n)
  | 0 => by
    have sc := sc_copied
    refine T.D_copied.F.ok sc (fun vs H Q E h => ?_) (fun cdv A1 outer s H vs Q E hr h => ?_)
    · obtain ⟨_, _, rfl, _⟩ := h; rfl
    · obtain ⟨v, d, rfl, hf, k⟩ := h
      refine ⟨_, (pss_cons (ps_if (pt_val (pe_callB call_isi (by rfl) T.n_isinstance (by decide +kernel) (pa_cons (pv 0) (pa_cons (pe_bltn (v := .ty "list") rfl T.n_list (by decide +kernel) rfl) pa_nil)))) (pss_one ps_never)
        pss_nil)
      (pss_cons (ps_if (pt_val (pe_callB call_isi (by rfl) T.n_isinstance (by decide +kernel) (pa_cons (pv 0) (pa_cons (pe_bltn (v := .ty "tuple") rfl T.n_tuple (by decide +kernel) rfl) pa_nil)))) (pss_one ps_never)
        pss_nil)
      (pss_cons (ps_if (pt_val (pe_callB call_isi (by rfl) T.n_isinstance (by decide +kernel) (pa_cons (pv 0) (pa_cons (pe_bltn (v := .ty "dict") rfl T.n_dict (by decide +kernel) rfl) pa_nil)))) (pss_one ps_never)
        pss_nil)
      (pss_one (ps_ret (pv 0)))))), ?_⟩
      rcases hf.ty (K := K) with (ty | ty) | ⟨_, _, _, _, m, e, _⟩
      · refine ⟨_, rfl, _, _, _, _, _, rfl, ClsV.ty _, ty, k_int_list, _, rfl, iteF ?_⟩
        refine ⟨_, rfl, _, _, _, _, _, rfl, ClsV.ty _, ty, k_int_tuple, _, rfl, iteF ?_⟩
        refine ⟨_, rfl, _, _, _, _, _, rfl, ClsV.ty _, ty, k_int_dict, _, rfl, iteF ?_⟩
        exact ⟨_, rfl, k _ _ (Same.refl _) hf⟩
      · refine ⟨_, rfl, _, _, _, _, _, rfl, ClsV.ty _, ty, k_str_list, _, rfl, iteF ?_⟩
        refine ⟨_, rfl, _, _, _, _, _, rfl, ClsV.ty _, ty, k_str_tuple, _, rfl, iteF ?_⟩
        refine ⟨_, rfl, _, _, _, _, _, rfl, ClsV.ty _, ty, k_str_dict, _, rfl, iteF ?_⟩
        exact ⟨_, rfl, k _ _ (Same.refl _) hf⟩
      · exact absurd e (Nat.succ_ne_zero m).symm
  | n + 1 => by
    have G_copied : FnOk P w K mg base CX0 (n + 1) A.f_copied A.d_copied ["field"] (spCopied n) := ok_copied T n
    have sc := sc_copied
    refine T.D_copied.F.ok sc (fun vs H Q E h => ?_) (fun cdv A1 outer s H vs Q E hr h => ?_)
    · obtain ⟨_, _, rfl, _⟩ := h; rfl
    · obtain ⟨v, d, rfl, hf, k⟩ := h
      refine ⟨_, (pss_cons (ps_if (pt_val (pe_callB call_isi (by rfl) T.n_isinstance (by decide +kernel) (pa_cons (pv 0) (pa_cons (pe_bltn (v := .ty "list") rfl T.n_list (by decide +kernel) rfl) pa_nil)))) (pss_one ps_never)
        pss_nil)
      (pss_cons (ps_if (pt_val (pe_callB call_isi (by rfl) T.n_isinstance (by decide +kernel) (pa_cons (pv 0) (pa_cons (pe_bltn (v := .ty "tuple") rfl T.n_tuple (by decide +kernel) rfl) pa_nil)))) (pss_one (ps_ret (pe_tupleOf rfl T.n_tuple (pe_lc (own := [("part", 1)]) (g := (gName 1)) (tt := tYes) rfl sc.nd (pi_tup (pv 0)) (blkOk_by (N := ["field", "part", "key"]) (sc := defScope s_copied) (own := [("part", 1)]) (by decide +kernel)) (fun _ _ _ _ _ => (pg_name (i := 1) sc.nd rfl (Or.inl rfl))) (fun _ _ _ _ _ => pts_nil) (fun _ _ _ _ _ => (pe_call G_copied (hr.mono (by first | decide | omega)) rfl T.D_copied.g T.D_copied.F.kp T.D_copied.b .nil pass0 (pa_cons (pv 1) pa_nil)))))))
        pss_nil)
      (pss_cons (ps_if (pt_val (pe_callB call_isi (by rfl) T.n_isinstance (by decide +kernel) (pa_cons (pv 0) (pa_cons (pe_bltn (v := .ty "dict") rfl T.n_dict (by decide +kernel) rfl) pa_nil)))) (pss_one ps_never)
        pss_nil)
      (pss_one (ps_ret (pv 0)))))), ?_⟩
      rcases hf.ty (K := K) with (ty | ty) | ⟨ty, a, xs, ds, m, e, rfl, rfl, ha, hx, hp⟩
      · refine ⟨_, rfl, _, _, _, _, _, rfl, ClsV.ty _, ty, k_int_list, _, rfl, iteF ?_⟩
        refine ⟨_, rfl, _, _, _, _, _, rfl, ClsV.ty _, ty, k_int_tuple, _, rfl, iteF ?_⟩
        refine ⟨_, rfl, _, _, _, _, _, rfl, ClsV.ty _, ty, k_int_dict, _, rfl, iteF ?_⟩
        exact ⟨_, rfl, k _ _ (Same.refl _) hf⟩
      · refine ⟨_, rfl, _, _, _, _, _, rfl, ClsV.ty _, ty, k_str_list, _, rfl, iteF ?_⟩
        refine ⟨_, rfl, _, _, _, _, _, rfl, ClsV.ty _, ty, k_str_tuple, _, rfl, iteF ?_⟩
        refine ⟨_, rfl, _, _, _, _, _, rfl, ClsV.ty _, ty, k_str_dict, _, rfl, iteF ?_⟩
        exact ⟨_, rfl, k _ _ (Same.refl _) hf⟩
      · have e' : n = m := Nat.succ.inj e
        subst e'
        refine ⟨_, rfl, _, _, _, _, _, rfl, ClsV.ty _, ty, k_tuple_list, _, rfl, iteF ?_⟩
        refine ⟨_, rfl, _, _, _, _, _, rfl, ClsV.ty _, ty, k_tuple_tuple, _, rfl, iteT ?_⟩
        -- tuple([copied(part) for part in field])
        refine ⟨_, rfl, a, rfl, ⟨_, SqT.of ha⟩, fun D hD => ?_⟩
        refine lc_tup (K := K) (a := a) (xs := xs) (fun i H' => Same H H' ∧ ∃ acc : List V, H' D = some (.lst acc) ∧ acc.length = i ∧ Paired (Fl H' n) acc (ds.take i)) ⟨Same.upd hD, [], upd_same, rfl, .nil⟩ (fun i H' _ z => SqT.of (z.1 _ _ ha)) ?_ ?_
        · rintro i x H' hi ⟨s1, acc, hacc, hl, hpa⟩
          have hil : i < xs.length := (List.getElem?_eq_some_iff.mp hi).1
          obtain ⟨y, hy, fy⟩ := pget hp hi
          refine ⟨rfl, _, rfl, x, y, rfl, fy.same s1, fun v' H2 s2 f2 => ⟨acc, s2 _ _ hacc, by rw [hl]; exact Nat.lt_of_lt_of_le (Nat.lt_of_lt_of_le hil hx) (by decide), ?_, acc ++ [v'], upd_same, by simp [hl], ?_⟩⟩
          · intro b o q
            have q' := s2 _ _ (s1 _ _ q)
            rw [upd_ne (ne_of_none q hD)]
            exact q'
          · have tk : ds.take (i + 1) = ds.take i ++ [y] := by rw [List.take_succ, hy]; rfl
            rw [tk]
            have kp : ∀ b ys, H2 b = some (.tup ys) → (upd H2 D (.lst (acc ++ [v']))) b = some (.tup ys) := fun b ys q => by
              rw [upd_ne (ne_of q (s2 _ _ hacc) (by intro z; cases z))]; exact q
            exact Paired.snoc (L2.Paired.mapP hpa fun _ _ z => (z.same s2).keep kp) (f2.keep kp)
        · rintro H' ⟨s1, acc, hacc, hl, hpa⟩
          have hlen : ds.length = xs.length := (Paired.length hp).symm
          rw [← hlen, List.take_length] at hpa
          refine .inl ⟨D, acc, rfl, SqL.of hacc, fun q hq => ?_⟩
          refine k _ _ (fun b o z => ?_) (.inr ⟨q, acc, ds, rfl, rfl, upd_same, by omega, ?_⟩)
          · exact Same.upd hq _ _ (s1 _ _ z)
          · exact L2.Paired.mapP hpa fun _ _ z => z.same (Same.upd hq)

end
end Kx

namespace Kx
open PySem L2
section
variable {P : Program} {w : World} {K : PySem.W.Frag} {mg : Str → Option Value} {base : Heap} {A : Ad}
local macro_rules | `(tactic| walk_at "ck") => `(tactic| (refine ⟨_, rfl, rfl, _, rfl, ?_⟩; first | refine ifT (by decide) ?_ | refine ifF (by decide) ?_))
/-! ### the errors' own __init__ -/
def spIni (C : Addr) (fld : Str) : Sp := fun vs H Q _ => ∃ (a : Addr) (v : V) (d : PyData), vs = [.ref a, v] ∧ H a = some (exo a C none) ∧ Fl H 2 v d ∧
  ∀ (dx : Addr) (v' : V) (H' : Hp), H dx = none → dx ≠ a → H' a = some (exo a C (some dx)) → H' dx = some (exd dx [(fld, v')]) → Fl H' 2 v' d → (∀ b o, H b = some o → b ≠ a → H' b = some o) → Q .non H'
def spIni2 (C : Addr) (f1 f2 : Str) : Sp := fun vs H Q _ => ∃ (a : Addr) (v : V) (d : PyData) (i : Int), vs = [.ref a, v, .int i] ∧ H a = some (exo a C none) ∧ Fl H 2 v d ∧
  ∀ (dx : Addr) (v' : V) (H' : Hp), H dx = none → dx ≠ a → H' a = some (exo a C (some dx)) → H' dx = some (exd dx [(f2, .int i), (f1, v')]) → Fl H' 2 v' d → (∀ b o, H b = some o → b ≠ a → H' b = some o) → Q .non H'
theorem exo_not {H : Hp} {a C : Addr} {od : Option Addr} (h : H a = some (exo a C od)) {b : Addr} {xs : List V} (e : H b = some (.tup xs)) : b ≠ a := ne_of e h (Ne.symm exo_tup)
/-- what stands behind the store of the first field -/
theorem ini_end {H H1 : Hp} {a C dx : Addr} {n : Nat} {v : V} {d : PyData} {l : List (Str × V)} (ha : H a = some (exo a C none)) (s : Same H H1) (f : Fl H1 n v d) (hd : H1 dx = none) (ne : dx ≠ a) :
    (upd (upd H1 dx (exd dx l)) a (exo a C (some dx))) a = some (exo a C (some dx)) ∧ (upd (upd H1 dx (exd dx l)) a (exo a C (some dx))) dx = some (exd dx l) ∧ Fl (upd (upd H1 dx (exd dx l)) a (exo a C (some dx))) n v d ∧ H dx = none ∧
      (∀ b o, H b = some o → b ≠ a → (upd (upd H1 dx (exd dx l)) a (exo a C (some dx))) b = some o) := by
  refine ⟨upd_same, by rw [upd_ne ne, upd_same], f.keep fun b xs e => ?_, s.free hd, fun b o e hb => ?_⟩
  · rw [upd_ne (exo_not (s _ _ ha) e), upd_ne (ne_of_none e hd)]; exact e
  · rw [upd_ne hb, upd_ne (ne_of_none (s _ _ e) hd)]; exact s _ _ e

theorem sc_BadText : FnScope ["self", "line"] ["self", "line"] (defScope s_BadText) := ⟨rfl, rfl, rfl, by decide +kernel, rfl, by decide +kernel, by decide +kernel⟩
theorem ok_BadText (T : Txt K mg A) : FnOk P w K mg base CX0 4 (A.i 0) (A.di 0) ["self", "line"] (spIni (A.c 0) "line") := by
  have sc := sc_BadText
  have G_copied : FnOk P w K mg base CX0 3 A.f_copied A.d_copied ["field"] (spCopied 2) := ok_copied T 2
  refine T.I_BadText.F.ok sc (fun vs H Q E h => ?_) (fun cdv A1 outer s H vs Q E hr h => ?_)
  · obtain ⟨_, _, _, rfl, _⟩ := h; rfl
  · obtain ⟨a, v, d, rfl, ha, hf, k⟩ := h
    refine ⟨_, (pss_one (ps_ost (pv 0) (pe_call G_copied (hr.mono (by first | decide | omega)) rfl T.D_copied.g T.D_copied.F.kp T.D_copied.b .nil pass0 (pa_cons (pv 1) pa_nil)))), ?_⟩
    refine ⟨_, rfl, v, d, rfl, hf, fun v' H1 s1 f1 => ⟨_, rfl, a, A.c 0, rfl, T.E_BadText.oex, T.N_BadText_line, .inl ⟨s1 _ _ ha, fun dx hd ne => ?_⟩⟩⟩
    obtain ⟨q1, q2, q3, q4, q5⟩ := ini_end (l := [("line", v')]) ha s1 f1 hd ne
    exact k dx v' _ q4 ne q1 q2 q3 q5
theorem sc_BadMachine : FnScope ["self", "state", "place"] ["self", "state", "place"] (defScope s_BadMachine) := ⟨rfl, rfl, rfl, by decide +kernel, rfl, by decide +kernel, by decide +kernel⟩
theorem ok_BadMachine (T : Txt K mg A) : FnOk P w K mg base CX0 4 (A.i 1) (A.di 1) ["self", "state", "place"] (spIni2 (A.c 1) "state" "place") := by
  have sc := sc_BadMachine
  have G_copied : FnOk P w K mg base CX0 3 A.f_copied A.d_copied ["field"] (spCopied 2) := ok_copied T 2
  refine T.I_BadMachine.F.ok sc (fun vs H Q E h => ?_) (fun cdv A1 outer s H vs Q E hr h => ?_)
  · obtain ⟨_, _, _, _, rfl, _⟩ := h; rfl
  · obtain ⟨a, v, d, i, rfl, ha, hf, k⟩ := h
    refine ⟨_, (pss_cons (ps_ost (pv 0) (pe_call G_copied (hr.mono (by first | decide | omega)) rfl T.D_copied.g T.D_copied.F.kp T.D_copied.b .nil pass0 (pa_cons (pv 1) pa_nil)))
      (pss_one (ps_ost (pv 0) (pe_call G_copied (hr.mono (by first | decide | omega)) rfl T.D_copied.g T.D_copied.F.kp T.D_copied.b .nil pass0 (pa_cons (pv 2) pa_nil))))), ?_⟩
    refine ⟨_, rfl, v, d, rfl, hf, fun v' H1 s1 f1 => ⟨_, rfl, a, A.c 1, rfl, T.E_BadMachine.oex, T.N_BadMachine_state, .inl ⟨s1 _ _ ha, fun dx hd ne => ?_⟩⟩⟩
    obtain ⟨q1, q2, q3, q4, q5⟩ := ini_end (l := [("state", v')]) ha s1 f1 hd ne
    generalize upd (upd H1 dx (exd dx [("state", v')])) a (exo a (A.c 1) (some dx)) = H2 at q1 q2 q3 q5 ⊢
    refine ⟨_, rfl, .int i, .int i, rfl, .inl (.inl ⟨i, rfl, rfl⟩), fun v2 H3 s3 f3 => ?_⟩
    have ev : v2 = .int i := by
      rcases f3 with (⟨j, e1, e2⟩ | ⟨x, e1, e2, _⟩) | ⟨_, _, _, _, e, _⟩
      · cases e2; exact e1
      · cases e2
      · cases e
    subst ev
    refine ⟨_, rfl, a, A.c 1, rfl, T.E_BadMachine.oex, T.N_BadMachine_place, .inr ⟨dx, [("state", v')], s3 _ _ q1, s3 _ _ q2, (by show 1 ≤ 900; decide), ?_⟩⟩
    refine k dx v' _ q4 ne (by rw [upd_ne (Ne.symm ne)]; exact s3 _ _ q1) upd_same (q3.keep fun b xs e => ?_) (fun b o e hb => ?_)
    · have nb : b ≠ dx := ne_of e q2 (Ne.symm exd_tup)
      rw [upd_ne nb]; exact s3 _ _ e
    · have nb : b ≠ dx := ne_of_none e q4
      rw [upd_ne nb]; exact s3 _ _ (q5 b o e hb)
theorem sc_BadSign : FnScope ["self", "place"] ["self", "place"] (defScope s_BadSign) := ⟨rfl, rfl, rfl, by decide +kernel, rfl, by decide +kernel, by decide +kernel⟩
theorem ok_BadSign (T : Txt K mg A) : FnOk P w K mg base CX0 4 (A.i 2) (A.di 2) ["self", "place"] (spIni (A.c 2) "place") := by
  have sc := sc_BadSign
  have G_copied : FnOk P w K mg base CX0 3 A.f_copied A.d_copied ["field"] (spCopied 2) := ok_copied T 2
  refine T.I_BadSign.F.ok sc (fun vs H Q E h => ?_) (fun cdv A1 outer s H vs Q E hr h => ?_)
  · obtain ⟨_, _, _, rfl, _⟩ := h; rfl
  · obtain ⟨a, v, d, rfl, ha, hf, k⟩ := h
    refine ⟨_, (pss_one (ps_ost (pv 0) (pe_call G_copied (hr.mono (by first | decide | omega)) rfl T.D_copied.g T.D_copied.F.kp T.D_copied.b .nil pass0 (pa_cons (pv 1) pa_nil)))), ?_⟩
    refine ⟨_, rfl, v, d, rfl, hf, fun v' H1 s1 f1 => ⟨_, rfl, a, A.c 2, rfl, T.E_BadSign.oex, T.N_BadSign_place, .inl ⟨s1 _ _ ha, fun dx hd ne => ?_⟩⟩⟩
    obtain ⟨q1, q2, q3, q4, q5⟩ := ini_end (l := [("place", v')]) ha s1 f1 hd ne
    exact k dx v' _ q4 ne q1 q2 q3 q5
theorem sc_BadEdit : FnScope ["self", "index"] ["self", "index"] (defScope s_BadEdit) := ⟨rfl, rfl, rfl, by decide +kernel, rfl, by decide +kernel, by decide +kernel⟩
theorem ok_BadEdit (T : Txt K mg A) : FnOk P w K mg base CX0 4 (A.i 3) (A.di 3) ["self", "index"] (spIni (A.c 3) "index") := by
  have sc := sc_BadEdit
  have G_copied : FnOk P w K mg base CX0 3 A.f_copied A.d_copied ["field"] (spCopied 2) := ok_copied T 2
  refine T.I_BadEdit.F.ok sc (fun vs H Q E h => ?_) (fun cdv A1 outer s H vs Q E hr h => ?_)
  · obtain ⟨_, _, _, rfl, _⟩ := h; rfl
  · obtain ⟨a, v, d, rfl, ha, hf, k⟩ := h
    refine ⟨_, (pss_one (ps_ost (pv 0) (pe_call G_copied (hr.mono (by first | decide | omega)) rfl T.D_copied.g T.D_copied.F.kp T.D_copied.b .nil pass0 (pa_cons (pv 1) pa_nil)))), ?_⟩
    refine ⟨_, rfl, v, d, rfl, hf, fun v' H1 s1 f1 => ⟨_, rfl, a, A.c 3, rfl, T.E_BadEdit.oex, T.N_BadEdit_index, .inl ⟨s1 _ _ ha, fun dx hd ne => ?_⟩⟩⟩
    obtain ⟨q1, q2, q3, q4, q5⟩ := ini_end (l := [("index", v')]) ha s1 f1 hd ne
    exact k dx v' _ q4 ne q1 q2 q3 q5
theorem sc_BadColumn : FnScope ["self", "index"] ["self", "index"] (defScope s_BadColumn) := ⟨rfl, rfl, rfl, by decide +kernel, rfl, by decide +kernel, by decide +kernel⟩
theorem ok_BadColumn (T : Txt K mg A) : FnOk P w K mg base CX0 4 (A.i 4) (A.di 4) ["self", "index"] (spIni (A.c 4) "index") := by
  have sc := sc_BadColumn
  have G_copied : FnOk P w K mg base CX0 3 A.f_copied A.d_copied ["field"] (spCopied 2) := ok_copied T 2
  refine T.I_BadColumn.F.ok sc (fun vs H Q E h => ?_) (fun cdv A1 outer s H vs Q E hr h => ?_)
  · obtain ⟨_, _, _, rfl, _⟩ := h; rfl
  · obtain ⟨a, v, d, rfl, ha, hf, k⟩ := h
    refine ⟨_, (pss_one (ps_ost (pv 0) (pe_call G_copied (hr.mono (by first | decide | omega)) rfl T.D_copied.g T.D_copied.F.kp T.D_copied.b .nil pass0 (pa_cons (pv 1) pa_nil)))), ?_⟩
    refine ⟨_, rfl, v, d, rfl, hf, fun v' H1 s1 f1 => ⟨_, rfl, a, A.c 4, rfl, T.E_BadColumn.oex, T.N_BadColumn_index, .inl ⟨s1 _ _ ha, fun dx hd ne => ?_⟩⟩⟩
    obtain ⟨q1, q2, q3, q4, q5⟩ := ini_end (l := [("index", v')]) ha s1 f1 hd ne
    exact k dx v' _ q4 ne q1 q2 q3 q5
theorem sc_BadBound : FnScope ["self", "bound"] ["self", "bound"] (defScope s_BadBound) := ⟨rfl, rfl, rfl, by decide +kernel, rfl, by decide +kernel, by decide +kernel⟩
theorem ok_BadBound (T : Txt K mg A) : FnOk P w K mg base CX0 4 (A.i 5) (A.di 5) ["self", "bound"] (spIni (A.c 5) "bound") := by
  have sc := sc_BadBound
  have G_copied : FnOk P w K mg base CX0 3 A.f_copied A.d_copied ["field"] (spCopied 2) := ok_copied T 2
  refine T.I_BadBound.F.ok sc (fun vs H Q E h => ?_) (fun cdv A1 outer s H vs Q E hr h => ?_)
  · obtain ⟨_, _, _, rfl, _⟩ := h; rfl
  · obtain ⟨a, v, d, rfl, ha, hf, k⟩ := h
    refine ⟨_, (pss_one (ps_ost (pv 0) (pe_call G_copied (hr.mono (by first | decide | omega)) rfl T.D_copied.g T.D_copied.F.kp T.D_copied.b .nil pass0 (pa_cons (pv 1) pa_nil)))), ?_⟩
    refine ⟨_, rfl, v, d, rfl, hf, fun v' H1 s1 f1 => ⟨_, rfl, a, A.c 5, rfl, T.E_BadBound.oex, T.N_BadBound_bound, .inl ⟨s1 _ _ ha, fun dx hd ne => ?_⟩⟩⟩
    obtain ⟨q1, q2, q3, q4, q5⟩ := ini_end (l := [("bound", v')]) ha s1 f1 hd ne
    exact k dx v' _ q4 ne q1 q2 q3 q5
theorem sc_BadKeys : FnScope ["self", "key"] ["self", "key"] (defScope s_BadKeys) := ⟨rfl, rfl, rfl, by decide +kernel, rfl, by decide +kernel, by decide +kernel⟩
theorem ok_BadKeys (T : Txt K mg A) : FnOk P w K mg base CX0 4 (A.i 6) (A.di 6) ["self", "key"] (spIni (A.c 6) "key") := by
  have sc := sc_BadKeys
  have G_copied : FnOk P w K mg base CX0 3 A.f_copied A.d_copied ["field"] (spCopied 2) := ok_copied T 2
  refine T.I_BadKeys.F.ok sc (fun vs H Q E h => ?_) (fun cdv A1 outer s H vs Q E hr h => ?_)
  · obtain ⟨_, _, _, rfl, _⟩ := h; rfl
  · obtain ⟨a, v, d, rfl, ha, hf, k⟩ := h
    refine ⟨_, (pss_one (ps_ost (pv 0) (pe_call G_copied (hr.mono (by first | decide | omega)) rfl T.D_copied.g T.D_copied.F.kp T.D_copied.b .nil pass0 (pa_cons (pv 1) pa_nil)))), ?_⟩
    refine ⟨_, rfl, v, d, rfl, hf, fun v' H1 s1 f1 => ⟨_, rfl, a, A.c 6, rfl, T.E_BadKeys.oex, T.N_BadKeys_key, .inl ⟨s1 _ _ ha, fun dx hd ne => ?_⟩⟩⟩
    obtain ⟨q1, q2, q3, q4, q5⟩ := ini_end (l := [("key", v')]) ha s1 f1 hd ne
    exact k dx v' _ q4 ne q1 q2 q3 q5
theorem sc_BadName : FnScope ["self", "name"] ["self", "name"] (defScope s_BadName) := ⟨rfl, rfl, rfl, by decide +kernel, rfl, by decide +kernel, by decide +kernel⟩
theorem ok_BadName (T : Txt K mg A) : FnOk P w K mg base CX0 4 (A.i 7) (A.di 7) ["self", "name"] (spIni (A.c 7) "name") := by
  have sc := sc_BadName
  have G_copied : FnOk P w K mg base CX0 3 A.f_copied A.d_copied ["field"] (spCopied 2) := ok_copied T 2
  refine T.I_BadName.F.ok sc (fun vs H Q E h => ?_) (fun cdv A1 outer s H vs Q E hr h => ?_)
  · obtain ⟨_, _, _, rfl, _⟩ := h; rfl
  · obtain ⟨a, v, d, rfl, ha, hf, k⟩ := h
    refine ⟨_, (pss_one (ps_ost (pv 0) (pe_call G_copied (hr.mono (by first | decide | omega)) rfl T.D_copied.g T.D_copied.F.kp T.D_copied.b .nil pass0 (pa_cons (pv 1) pa_nil)))), ?_⟩
    refine ⟨_, rfl, v, d, rfl, hf, fun v' H1 s1 f1 => ⟨_, rfl, a, A.c 7, rfl, T.E_BadName.oex, T.N_BadName_name, .inl ⟨s1 _ _ ha, fun dx hd ne => ?_⟩⟩⟩
    obtain ⟨q1, q2, q3, q4, q5⟩ := ini_end (l := [("name", v')]) ha s1 f1 hd ne
    exact k dx v' _ q4 ne q1 q2 q3 q5
theorem sc_TooMany : FnScope ["self", "what"] ["self", "what"] (defScope s_TooMany) := ⟨rfl, rfl, rfl, by decide +kernel, rfl, by decide +kernel, by decide +kernel⟩
theorem ok_TooMany (T : Txt K mg A) : FnOk P w K mg base CX0 4 (A.i 8) (A.di 8) ["self", "what"] (spIni (A.c 8) "what") := by
  have sc := sc_TooMany
  have G_copied : FnOk P w K mg base CX0 3 A.f_copied A.d_copied ["field"] (spCopied 2) := ok_copied T 2
  refine T.I_TooMany.F.ok sc (fun vs H Q E h => ?_) (fun cdv A1 outer s H vs Q E hr h => ?_)
  · obtain ⟨_, _, _, rfl, _⟩ := h; rfl
  · obtain ⟨a, v, d, rfl, ha, hf, k⟩ := h
    refine ⟨_, (pss_one (ps_ost (pv 0) (pe_call G_copied (hr.mono (by first | decide | omega)) rfl T.D_copied.g T.D_copied.F.kp T.D_copied.b .nil pass0 (pa_cons (pv 1) pa_nil)))), ?_⟩
    refine ⟨_, rfl, v, d, rfl, hf, fun v' H1 s1 f1 => ⟨_, rfl, a, A.c 8, rfl, T.E_TooMany.oex, T.N_TooMany_what, .inl ⟨s1 _ _ ha, fun dx hd ne => ?_⟩⟩⟩
    obtain ⟨q1, q2, q3, q4, q5⟩ := ini_end (l := [("what", v')]) ha s1 f1 hd ne
    exact k dx v' _ q4 ne q1 q2 q3 q5
theorem sc_Misses : FnScope ["self", "columns", "row"] ["self", "columns"] (defScope s_Misses) := ⟨rfl, rfl, rfl, by decide +kernel, rfl, by decide +kernel, by decide +kernel⟩
theorem k_any_list {v : V} {H : Hp} {n : Nat} {d : PyData} (h : Fl H n v d) : ∃ t, TyX K H v t ∧ PySem.W.kitOne K t (.type "list") = some false := by
  rcases h.ty (K := K) with (ty | ty) | ⟨ty, _⟩
  · exact ⟨_, ty, k_int_list⟩
  · exact ⟨_, ty, k_str_list⟩
  · exact ⟨_, ty, k_tuple_list⟩
theorem ok_Misses (T : Txt K mg A) : FnOk P w K mg base CX0 4 (A.i 10) (A.di 10) ["self", "columns"] (spIni (A.c 10) "columns") := by
  have sc := sc_Misses
  have G_copied : FnOk P w K mg base CX0 3 A.f_copied A.d_copied ["field"] (spCopied 2) := ok_copied T 2
  refine T.I_Misses.F.ok sc (fun vs H Q E h => ?_) (fun cdv A1 outer s H vs Q E hr h => ?_)
  · obtain ⟨_, _, _, rfl, _⟩ := h; rfl
  · obtain ⟨a, v, d, rfl, ha, hf, k⟩ := h
    refine ⟨_, (pss_cons (ps_set (i := 2) sc.nd rfl (Or.inl rfl) (pe_call G_copied (hr.mono (by first | decide | omega)) rfl T.D_copied.g T.D_copied.F.kp T.D_copied.b .nil pass0 (pa_cons (pv 1) pa_nil)))
      (pss_one (ps_ost (pv 0) (pe_ifExp (pt_val (pe_callB call_isi (by rfl) T.n_isinstance (by decide +kernel) (pa_cons (pv 2) (pa_cons (pe_bltn (v := .ty "list") rfl T.n_list (by decide +kernel) rfl) pa_nil)))) (pe_tupleOf rfl T.n_tuple (pv 2)) (pv 2))))), ?_⟩
    refine ⟨_, rfl, v, d, rfl, hf, fun v' H1 s1 f1 => ?_⟩
    obtain ⟨t, ty, kt⟩ := k_any_list (K := K) f1
    refine ⟨_, rfl, _, _, _, _, _, rfl, ClsV.ty _, ty, kt, _, rfl, iteF ⟨_, rfl, ?_⟩⟩
    refine ⟨_, rfl, a, A.c 10, rfl, T.E_Misses.oex, T.N_Misses_columns, .inl ⟨s1 _ _ ha, fun dx hd ne => ?_⟩⟩
    obtain ⟨q1, q2, q3, q4, q5⟩ := ini_end (l := [("columns", v')]) ha s1 f1 hd ne
    exact k dx v' _ q4 ne q1 q2 q3 q5
end
end Kx

namespace Kx
open PySem L2
section
variable {P : Program} {w : World} {K : PySem.W.Frag} {mg : Str → Option Value} {base : Heap} {A : Ad}
local macro_rules | `(tactic| walk_at "ck") => `(tactic| (refine ⟨_, rfl, rfl, _, rfl, ?_⟩; first | refine ifT (by decide) ?_ | refine ifF (by decide) ?_))
/-! ### what is told of an error of the k-th class -/
def fname : Nat → Str
  | 0 => "line"
  | 2 => "place"
  | 3 => "index"
  | 4 => "index"
  | 5 => "bound"
  | 6 => "key"
  | 7 => "name"
  | 8 => "what"
  | _ => "columns"
def Told (H : Hp) (k : Nat) (da : PyData) (b : Int) (od : Option Addr) : Prop := ((k = 9 ∨ k = 11) ∧ od = none) ∨ (k = 1 ∧ ∃ d v, od = some d ∧ H d = some (.xd [(("place" : Str), .int b), ("state", v)]) ∧ Fl H 2 v da) ∨
  ((k ≠ 1 ∧ k ≠ 9 ∧ k ≠ 11) ∧ ∃ d v, od = some d ∧ H d = some (.xd [(fname k, v)]) ∧ Fl H 2 v da)
theorem Told.keep {H H' : Hp} {k : Nat} {da : PyData} {b : Int} {od : Option Addr} (h : Told H k da b od) (s : Same H H') : Told H' k da b od := by
  rcases h with h | ⟨h, d, v, e1, e2, e3⟩ | ⟨h, d, v, e1, e2, e3⟩
  · exact .inl h
  · exact .inr (.inl ⟨h, d, v, e1, s _ _ e2, e3.same s⟩)
  · exact .inr (.inr ⟨h, d, v, e1, s _ _ e2, e3.same s⟩)
/-- the reading of C(e) of such a class, for a raise -/
theorem rs1 {H : Hp} {C : Addr} {fld : Str} {v : V} {d : PyData} {W : XK} (f : Fl H 2 v d) (k : ∀ dx v' H', Same H H' → H' dx = some (.xd [(fld, v')]) → Fl H' 2 v' d → W (.ref C) (some dx) H') :
    ([v] : List V).length ≤ 1000 ∧ ∀ a, H a = none → spIni C fld (.ref a :: ([v] ++ [])) (upd H a (exo a C none)) (fun u H2 => u = .non ∧ ∃ (dx : Addr) (fs : List (Str × V)), H2 a = some (exo a C (some dx)) ∧ H2 dx = some (exd dx fs) ∧ H dx = none ∧ W (.ref C) (some dx) (upd (del H2 a) dx (.xd fs))) (fun _ _ _ => False) := by
  refine ⟨by show 1 ≤ 1000; decide, fun a ha => ⟨a, v, d, rfl, upd_same, f.same (Same.upd ha), fun dx v' H2 hd ne e1 e2 f2 kp => ⟨rfl, dx, _, e1, e2, ?_, ?_⟩⟩⟩
  · rw [upd_ne ne] at hd; exact hd
  · have hd0 : H dx = none := by rw [upd_ne ne] at hd; exact hd
    refine k dx v' _ (fun b o z => ?_) upd_same (f2.keep fun b xs z => ?_)
    · have nb : b ≠ a := ne_of_none z ha
      rw [upd_ne (ne_of_none z hd0), del_ne nb]
      exact kp b o (by rw [upd_ne nb]; exact z) nb
    · rw [upd_ne (ne_of z e2 (Ne.symm exd_tup)), del_ne (exo_not e1 z)]; exact z
theorem rs2 {H : Hp} {C : Addr} {f1 f2 : Str} {v : V} {d : PyData} {i : Int} {W : XK} (f : Fl H 2 v d) (k : ∀ dx v' H', Same H H' → H' dx = some (.xd [(f2, .int i), (f1, v')]) → Fl H' 2 v' d → W (.ref C) (some dx) H') :
    ([v, .int i] : List V).length ≤ 1000 ∧ ∀ a, H a = none → spIni2 C f1 f2 (.ref a :: ([v, .int i] ++ [])) (upd H a (exo a C none)) (fun u H2 => u = .non ∧ ∃ (dx : Addr) (fs : List (Str × V)), H2 a = some (exo a C (some dx)) ∧ H2 dx = some (exd dx fs) ∧ H dx = none ∧ W (.ref C) (some dx) (upd (del H2 a) dx (.xd fs))) (fun _ _ _ => False) := by
  refine ⟨by show 2 ≤ 1000; decide, fun a ha => ⟨a, v, d, i, rfl, upd_same, f.same (Same.upd ha), fun dx v' H2 hd ne e1 e2 f2 kp => ⟨rfl, dx, _, e1, e2, ?_, ?_⟩⟩⟩
  · rw [upd_ne ne] at hd; exact hd
  · have hd0 : H dx = none := by rw [upd_ne ne] at hd; exact hd
    refine k dx v' _ (fun b o z => ?_) upd_same (f2.keep fun b xs z => ?_)
    · have nb : b ≠ a := ne_of_none z ha
      rw [upd_ne (ne_of_none z hd0), del_ne nb]
      exact kp b o (by rw [upd_ne nb]; exact z) nb
    · rw [upd_ne (ne_of z e2 (Ne.symm exd_tup)), del_ne (exo_not e1 z)]; exact z
/-- the same for a value -/
theorem mk1 {H : Hp} {C : Addr} {fld : Str} {v : V} {d : PyData} {Q : VK} (f : Fl H 2 v d) (k : ∀ a dx v' H', Same H H' → H' a = some (xob a C (some dx)) → H' dx = some (.xd [(fld, v')]) → Fl H' 2 v' d → Q (.ref a) H') :
    ([v] : List V).length = 1 ∧ ∀ a, H a = none → spIni C fld ([.ref a] ++ [v].reverse) (upd H a (exo a C none)) (fun u H2 => u = .non ∧ ∃ (dx : Addr) (fs : List (Str × V)), H2 a = some (exo a C (some dx)) ∧ H2 dx = some (exd dx fs) ∧ dx ≠ a ∧ Q (.ref a) (upd (upd H2 dx (.xd fs)) a (xob a C (some dx)))) (fun _ _ _ => False) := by
  refine ⟨rfl, fun a ha => ⟨a, v, d, rfl, upd_same, f.same (Same.upd ha), fun dx v' H2 hd ne e1 e2 f2 kp => ⟨rfl, dx, _, e1, e2, ne, ?_⟩⟩⟩
  have hd0 : H dx = none := by rw [upd_ne ne] at hd; exact hd
  refine k a dx v' _ (fun b o z => ?_) upd_same (by rw [upd_ne ne, upd_same]) (f2.keep fun b xs z => ?_)
  · have nb : b ≠ a := ne_of_none z ha
    rw [upd_ne nb, upd_ne (ne_of_none z hd0)]
    exact kp b o (by rw [upd_ne nb]; exact z) nb
  · rw [upd_ne (exo_not e1 z), upd_ne (ne_of z e2 (Ne.symm exd_tup))]; exact z
theorem mk2 {H : Hp} {C : Addr} {f1 f2 : Str} {v : V} {d : PyData} {i : Int} {Q : VK} (f : Fl H 2 v d) (k : ∀ a dx v' H', Same H H' → H' a = some (xob a C (some dx)) → H' dx = some (.xd [(f2, .int i), (f1, v')]) → Fl H' 2 v' d → Q (.ref a) H') :
    ([.int i, v] : List V).length = 2 ∧ ∀ a, H a = none → spIni2 C f1 f2 ([.ref a] ++ [.int i, v].reverse) (upd H a (exo a C none)) (fun u H2 => u = .non ∧ ∃ (dx : Addr) (fs : List (Str × V)), H2 a = some (exo a C (some dx)) ∧ H2 dx = some (exd dx fs) ∧ dx ≠ a ∧ Q (.ref a) (upd (upd H2 dx (.xd fs)) a (xob a C (some dx)))) (fun _ _ _ => False) := by
  refine ⟨rfl, fun a ha => ⟨a, v, d, i, rfl, upd_same, f.same (Same.upd ha), fun dx v' H2 hd ne e1 e2 f2 kp => ⟨rfl, dx, _, e1, e2, ne, ?_⟩⟩⟩
  have hd0 : H dx = none := by rw [upd_ne ne] at hd; exact hd
  refine k a dx v' _ (fun b o z => ?_) upd_same (by rw [upd_ne ne, upd_same]) (f2.keep fun b xs z => ?_)
  · have nb : b ≠ a := ne_of_none z ha
    rw [upd_ne nb, upd_ne (ne_of_none z hd0)]
    exact kp b o (by rw [upd_ne nb]; exact z) nb
  · rw [upd_ne (exo_not e1 z), upd_ne (ne_of z e2 (Ne.symm exd_tup))]; exact z
def spSecond (A : Ad) : Sp := fun vs H _ E => ∃ (k : Nat) (a : V) (da : PyData), vs = [.int k, a] ∧ 6 ≤ k ∧ k < 12 ∧ Fl H 2 a da ∧ ∀ b od H', Same H H' → Told H' k da b od → E (.ref (A.c k)) od H'
def spFirst (A : Ad) : Sp := fun vs H _ E => ∃ (k : Nat) (a : V) (b : Int) (da : PyData), vs = [.int k, a, .int b] ∧ k < 12 ∧ Fl H 2 a da ∧ ∀ od H', Same H H' → Told H' k da b od → E (.ref (A.c k)) od H'
theorem ErrC.raises {X : Cx} {name : Str} {C M : Addr} (e : ErrC X.K X.mg name C M) : Raises X (.ref C) := raises_own e.oex.exC e.oex.tyC

theorem sc_second : FnScope ["k", "a"] ["k", "a"] (defScope s__law_second) := ⟨rfl, rfl, rfl, by decide +kernel, rfl, by decide +kernel, by decide +kernel⟩
theorem ok_second (T : Txt K mg A) : FnOk P w K mg base (L2.CX P w) 6 A.f__law_second A.d__law_second ["k", "a"] (spSecond A) := by
  have sc := sc_second
  refine T.D__law_second.F.okX sc (fun vs H Q E h => ?_) (fun cdv A1 outer s H vs Q E hr h => ?_)
  · obtain ⟨_, _, _, rfl, _⟩ := h; rfl
  · obtain ⟨k, a, da, rfl, k6, k12, hf, kE⟩ := h
    refine ⟨_, (pss_cons (ps_if (pt_cmpR op_eq (pv 0) pe_int (nomark _)) (pss_one (ps_raise rfl (takes_of rfl rfl rfl rfl) (pmk_oex T.E_BadKeys.oex T.I_BadKeys.iC T.I_BadKeys.tI (ok_BadKeys T) (hr.mono (by first | decide | omega)) T.I_BadKeys.b .nil pass0 rfl T.E_BadKeys.g (pa_cons (pv 1) pa_nil))))
        pss_nil)
      (pss_cons (ps_if (pt_cmpR op_eq (pv 0) pe_int (nomark _)) (pss_one (ps_raise rfl (takes_of rfl rfl rfl rfl) (pmk_oex T.E_BadName.oex T.I_BadName.iC T.I_BadName.tI (ok_BadName T) (hr.mono (by first | decide | omega)) T.I_BadName.b .nil pass0 rfl T.E_BadName.g (pa_cons (pv 1) pa_nil))))
        pss_nil)
      (pss_cons (ps_if (pt_cmpR op_eq (pv 0) pe_int (nomark _)) (pss_one (ps_raise rfl (takes_of rfl rfl rfl rfl) (pmk_oex T.E_TooMany.oex T.I_TooMany.iC T.I_TooMany.tI (ok_TooMany T) (hr.mono (by first | decide | omega)) T.I_TooMany.b .nil pass0 rfl T.E_TooMany.g (pa_cons (pv 1) pa_nil))))
        pss_nil)
      (pss_cons (ps_if (pt_cmpR op_eq (pv 0) pe_int (nomark _)) (pss_one (ps_raise rfl (takes_of rfl rfl rfl rfl) (pmk_own0 PySem.F.excBase_ValueError T.X_Unlike T.E_Unlike.g T.E_Unlike.oex.kC T.E_Unlike.raises rfl)))
        pss_nil)
      (pss_cons (ps_if (pt_cmpR op_eq (pv 0) pe_int (nomark _)) (pss_one (ps_raise rfl (takes_of rfl rfl rfl rfl) (pmk_oex T.E_Misses.oex T.I_Misses.iC T.I_Misses.tI (ok_Misses T) (hr.mono (by first | decide | omega)) T.I_Misses.b .nil pass0 rfl T.E_Misses.g (pa_cons (pv 1) pa_nil))))
        pss_nil)
      (pss_one (ps_raise rfl (takes_of rfl rfl rfl rfl) (pmk_own0 PySem.F.excBase_ValueError T.X_NothingLeft T.E_NothingLeft.g T.E_NothingLeft.oex.kC T.E_NothingLeft.raises rfl)))))))), ?_⟩
    have kE1 : ∀ fld, fname k = fld → (k ≠ 1 ∧ k ≠ 9 ∧ k ≠ 11) → ∀ dx v' H', Same H H' → H' dx = some (.xd [(fld, v')]) → Fl H' 2 v' da → E (.ref (A.c k)) (some dx) H' :=
      fun fld e h dx v' H' s e1 e2 => kE 0 _ _ s (.inr (.inr ⟨h, dx, v', rfl, by rw [e]; exact e1, e2⟩))
    obtain rfl | rfl | rfl | rfl | rfl | rfl : k = 6 ∨ k = 7 ∨ k = 8 ∨ k = 9 ∨ k = 10 ∨ k = 11 := by omega
    all_goals (repeat walk_at "ck")
    · exact ⟨_, rfl, rs1 hf (kE1 _ rfl (by decide))⟩
    · exact ⟨_, rfl, rs1 hf (kE1 _ rfl (by decide))⟩
    · exact ⟨_, rfl, rs1 hf (kE1 _ rfl (by decide))⟩
    · exact kE 0 _ _ (Same.refl _) (.inl ⟨.inl rfl, rfl⟩)
    · exact ⟨_, rfl, rs1 hf (kE1 _ rfl (by decide))⟩
    · exact kE 0 _ _ (Same.refl _) (.inl ⟨.inr rfl, rfl⟩)
theorem sc_first : FnScope ["k", "a", "b"] ["k", "a", "b"] (defScope s__law_first) := ⟨rfl, rfl, rfl, by decide +kernel, rfl, by decide +kernel, by decide +kernel⟩
theorem ok_first (T : Txt K mg A) : FnOk P w K mg base (L2.CX P w) 7 A.f__law_first A.d__law_first ["k", "a", "b"] (spFirst A) := by
  have sc := sc_first
  have G__law_second : FnOk P w K mg base (L2.CX P w) 6 A.f__law_second A.d__law_second ["k", "a"] (spSecond A) := ok_second T
  refine T.D__law_first.F.okX sc (fun vs H Q E h => ?_) (fun cdv A1 outer s H vs Q E hr h => ?_)
  · obtain ⟨_, _, _, _, rfl, _⟩ := h; rfl
  · obtain ⟨k, a, b, da, rfl, k12, hf, kE⟩ := h
    refine ⟨_, (pss_cons (ps_if (pt_cmpR op_eq (pv 0) pe_int (nomark _)) (pss_one (ps_raise rfl (takes_of rfl rfl rfl rfl) (pmk_oex T.E_BadText.oex T.I_BadText.iC T.I_BadText.tI (ok_BadText T) (hr.mono (by first | decide | omega)) T.I_BadText.b .nil pass0 rfl T.E_BadText.g (pa_cons (pv 1) pa_nil))))
        pss_nil)
      (pss_cons (ps_if (pt_cmpR op_eq (pv 0) pe_int (nomark _)) (pss_one (ps_raise rfl (takes_of rfl rfl rfl rfl) (pmk_oex T.E_BadMachine.oex T.I_BadMachine.iC T.I_BadMachine.tI (ok_BadMachine T) (hr.mono (by first | decide | omega)) T.I_BadMachine.b .nil pass0 rfl T.E_BadMachine.g (pa_cons (pv 1) (pa_cons (pv 2) pa_nil)))))
        pss_nil)
      (pss_cons (ps_if (pt_cmpR op_eq (pv 0) pe_int (nomark _)) (pss_one (ps_raise rfl (takes_of rfl rfl rfl rfl) (pmk_oex T.E_BadSign.oex T.I_BadSign.iC T.I_BadSign.tI (ok_BadSign T) (hr.mono (by first | decide | omega)) T.I_BadSign.b .nil pass0 rfl T.E_BadSign.g (pa_cons (pv 1) pa_nil))))
        pss_nil)
      (pss_cons (ps_if (pt_cmpR op_eq (pv 0) pe_int (nomark _)) (pss_one (ps_raise rfl (takes_of rfl rfl rfl rfl) (pmk_oex T.E_BadEdit.oex T.I_BadEdit.iC T.I_BadEdit.tI (ok_BadEdit T) (hr.mono (by first | decide | omega)) T.I_BadEdit.b .nil pass0 rfl T.E_BadEdit.g (pa_cons (pv 1) pa_nil))))
        pss_nil)
      (pss_cons (ps_if (pt_cmpR op_eq (pv 0) pe_int (nomark _)) (pss_one (ps_raise rfl (takes_of rfl rfl rfl rfl) (pmk_oex T.E_BadColumn.oex T.I_BadColumn.iC T.I_BadColumn.tI (ok_BadColumn T) (hr.mono (by first | decide | omega)) T.I_BadColumn.b .nil pass0 rfl T.E_BadColumn.g (pa_cons (pv 1) pa_nil))))
        pss_nil)
      (pss_cons (ps_if (pt_cmpR op_eq (pv 0) pe_int (nomark _)) (pss_one (ps_raise rfl (takes_of rfl rfl rfl rfl) (pmk_oex T.E_BadBound.oex T.I_BadBound.iC T.I_BadBound.tI (ok_BadBound T) (hr.mono (by first | decide | omega)) T.I_BadBound.b .nil pass0 rfl T.E_BadBound.g (pa_cons (pv 1) pa_nil))))
        pss_nil)
      (pss_one (ps_expr (pe_callS G__law_second (hr.mono (by first | decide | omega)) rfl T.D__law_second.g T.D__law_second.F.kp T.D__law_second.b (fun σ => passAt (takes_of rfl rfl rfl rfl) σ) (pa_cons (pv 0) (pa_cons (pv 1) pa_nil))))))))))), ?_⟩
    have kE1 : ∀ fld, fname k = fld → (k ≠ 1 ∧ k ≠ 9 ∧ k ≠ 11) → ∀ dx v' H', Same H H' → H' dx = some (.xd [(fld, v')]) → Fl H' 2 v' da → E (.ref (A.c k)) (some dx) H' :=
      fun fld e h dx v' H' s e1 e2 => kE _ _ s (.inr (.inr ⟨h, dx, v', rfl, by rw [e]; exact e1, e2⟩))
    by_cases h6 : 6 ≤ k
    · have z : ∀ j : Nat, j < 6 → ¬ (V.int (k : Int) = V.int (j : Int)) := fun j hj e => by injection e with e; omega
      refine ⟨_, rfl, rfl, _, rfl, ifF (z 0 (by decide)) ?_⟩
      refine ⟨_, rfl, rfl, _, rfl, ifF (z 1 (by decide)) ?_⟩
      refine ⟨_, rfl, rfl, _, rfl, ifF (z 2 (by decide)) ?_⟩
      refine ⟨_, rfl, rfl, _, rfl, ifF (z 3 (by decide)) ?_⟩
      refine ⟨_, rfl, rfl, _, rfl, ifF (z 4 (by decide)) ?_⟩
      refine ⟨_, rfl, rfl, _, rfl, ifF (z 5 (by decide)) ?_⟩
      refine ⟨_, rfl, _, rfl, k, a, da, rfl, h6, k12, hf, fun b' od H' s t => kE od H' s ?_⟩
      rcases t with t | ⟨e, _⟩ | t
      · exact .inl t
      · omega
      · exact .inr (.inr t)
    · obtain rfl | rfl | rfl | rfl | rfl | rfl : k = 0 ∨ k = 1 ∨ k = 2 ∨ k = 3 ∨ k = 4 ∨ k = 5 := by omega
      all_goals (repeat walk_at "ck")
      · exact ⟨_, rfl, rs1 hf (kE1 _ rfl (by decide))⟩
      · exact ⟨_, rfl, _, rfl, rs2 hf fun dx v' H' s e1 e2 => kE _ _ s (.inr (.inl ⟨rfl, dx, v', rfl, e1, e2⟩))⟩
      · exact ⟨_, rfl, rs1 hf (kE1 _ rfl (by decide))⟩
      · exact ⟨_, rfl, rs1 hf (kE1 _ rfl (by decide))⟩
      · exact ⟨_, rfl, rs1 hf (kE1 _ rfl (by decide))⟩
      · exact ⟨_, rfl, rs1 hf (kE1 _ rfl (by decide))⟩
end
end Kx

namespace Kx
open PySem L2
section
variable {P : Program} {w : World} {K : PySem.W.Frag} {mg : Str → Option Value} {base : Heap} {A : Ad}
local macro_rules | `(tactic| walk_at "ck") => `(tactic| (refine ⟨_, rfl, rfl, _, rfl, ?_⟩; first | refine ifT (by decide) ?_ | refine ifF (by decide) ?_))
theorem ifE {b : Bool} {A B : Prop} (h : b = true) (a : A) : if b = true then A else B := by rw [if_pos h]; exact a
theorem ifE' {b : Bool} {A B : Prop} (h : b = false) (a : B) : if b = true then A else B := by rw [h]; exact a
theorem Txt.E (T : Txt K mg A) {k : Nat} (h : k < 12) : ∃ n, ErrC K mg n (A.c k) A.M := by
  obtain rfl | rfl | rfl | rfl | rfl | rfl | rfl | rfl | rfl | rfl | rfl | rfl : k = 0 ∨ k = 1 ∨ k = 2 ∨ k = 3 ∨ k = 4 ∨ k = 5 ∨ k = 6 ∨ k = 7 ∨ k = 8 ∨ k = 9 ∨ k = 10 ∨ k = 11 := by omega
  · exact ⟨_, T.E_BadText⟩
  · exact ⟨_, T.E_BadMachine⟩
  · exact ⟨_, T.E_BadSign⟩
  · exact ⟨_, T.E_BadEdit⟩
  · exact ⟨_, T.E_BadColumn⟩
  · exact ⟨_, T.E_BadBound⟩
  · exact ⟨_, T.E_BadKeys⟩
  · exact ⟨_, T.E_BadName⟩
  · exact ⟨_, T.E_TooMany⟩
  · exact ⟨_, T.E_Unlike⟩
  · exact ⟨_, T.E_Misses⟩
  · exact ⟨_, T.E_NothingLeft⟩
theorem Txt.kit (T : Txt K mg A) {k j : Nat} {n n' : Str} (h : k < 12) (hj : j < 12) (e : ErrC K mg n (A.c k) A.M) (e' : ErrC K mg n' (A.c j) A.M) : PySem.W.kitOne K (.ref (A.c k)) (.ref (A.c j)) = some (decide (k = j)) := by
  rw [kit_err e e' (T.cM j hj)]
  congr 1
  by_cases c : k = j
  · subst c; rw [decide_eq_true rfl, decide_eq_true rfl]
  · rw [decide_eq_false c, decide_eq_false fun z => c (T.inj k j h hj z)]
def spNamed (A : Ad) : Sp := fun vs H Q _ => ∃ (k : Nat) (a : V) (b : Int) (da : PyData), vs = [.int k, a, .int b] ∧ k < 6 ∧ Fl H 2 a da ∧ ∀ p od H', Same H H' → H' p = some (xob p (A.c k) od) → Told H' k da b od → Q (.ref p) H'
def spNamedToo (A : Ad) : Sp := fun vs H Q _ => ∃ (k : Nat) (a : V) (da : PyData), vs = [.int k, a] ∧ 6 ≤ k ∧ k < 12 ∧ Fl H 2 a da ∧ ∀ b p od H', Same H H' → H' p = some (xob p (A.c k) od) → Told H' k da b od → Q (.ref p) H'
def od12 (H : Hp) (od : Option Addr) : Prop := od = none ∨ ∃ dd fs, od = some dd ∧ H dd = some (.xd fs)
theorem Told.od {H : Hp} {k : Nat} {da : PyData} {b : Int} {od : Option Addr} (h : Told H k da b od) : od12 H od := by
  rcases h with ⟨_, h⟩ | ⟨h, d, v, e1, e2, e3⟩ | ⟨h, d, v, e1, e2, e3⟩
  · exact .inl h
  · exact .inr ⟨d, _, e1, e2⟩
  · exact .inr ⟨d, _, e1, e2⟩
theorem od12.keep {H H' : Hp} {od : Option Addr} (h : od12 H od) (s : Same H H') : od12 H' od := by
  rcases h with h | ⟨d, fs, e1, e2⟩
  · exact .inl h
  · exact .inr ⟨d, fs, e1, s _ _ e2⟩
def bits (k : Nat) : List V := (List.range 12).map fun j => V.bl (decide (k = j))
def spKinds (A : Ad) : Sp := fun vs H Q _ => ∃ (k : Nat) (a : Addr) (od : Option Addr), vs = [.ref a] ∧ k < 12 ∧ H a = some (xob a (A.c k) od) ∧ od12 H od ∧ ∀ p H', Same H H' → H' p = some (.lst (bits k)) → Q (.ref p) H'
def due (k : Nat) (da : PyData) (b : Int) : List PyData := if k = 9 ∨ k = 11 then [] else if k = 1 then [da, .int b] else [da]
def spFields (A : Ad) : Sp := fun vs H Q _ => ∃ (k : Nat) (a : Addr) (od : Option Addr) (da : PyData) (b : Int), vs = [.int k, .ref a] ∧ k < 12 ∧ H a = some (xob a (A.c k) od) ∧ Told H k da b od ∧
  ∀ p vs' H', Same H H' → H' p = some (.lst vs') → Paired (Fl H' 2) vs' (due k da b) → Q (.ref p) H'

theorem sc_named : FnScope ["k", "a", "b"] ["k", "a", "b"] (defScope s__law_named) := ⟨rfl, rfl, rfl, by decide +kernel, rfl, by decide +kernel, by decide +kernel⟩
theorem ok_named (T : Txt K mg A) : FnOk P w K mg base CX0 6 A.f__law_named A.d__law_named ["k", "a", "b"] (spNamed A) := by
  have sc := sc_named
  refine T.D__law_named.F.ok sc (fun vs H Q E h => ?_) (fun cdv A1 outer s H vs Q E hr h => ?_)
  · obtain ⟨_, _, _, _, rfl, _⟩ := h; rfl
  · obtain ⟨k, a, b, da, rfl, k6, hf, kQ⟩ := h
    refine ⟨_, (pss_cons (ps_if (pt_cmpR op_eq (pv 0) pe_int (nomark _)) (pss_one (ps_ret (pe_xmk T.E_BadText.oex T.I_BadText.iC T.I_BadText.tI (ok_BadText T) (hr.mono (by first | decide | omega)) T.I_BadText.kb pass0 rfl T.E_BadText.g (pk_cons (pv 1) pk_nil))))
        pss_nil)
      (pss_cons (ps_if (pt_cmpR op_eq (pv 0) pe_int (nomark _)) (pss_one (ps_ret (pe_xmk T.E_BadMachine.oex T.I_BadMachine.iC T.I_BadMachine.tI (ok_BadMachine T) (hr.mono (by first | decide | omega)) T.I_BadMachine.kb pass0 rfl T.E_BadMachine.g (pk_cons (pv 2) (pk_cons (pv 1) pk_nil)))))
        pss_nil)
      (pss_cons (ps_if (pt_cmpR op_eq (pv 0) pe_int (nomark _)) (pss_one (ps_ret (pe_xmk T.E_BadSign.oex T.I_BadSign.iC T.I_BadSign.tI (ok_BadSign T) (hr.mono (by first | decide | omega)) T.I_BadSign.kb pass0 rfl T.E_BadSign.g (pk_cons (pv 1) pk_nil))))
        pss_nil)
      (pss_cons (ps_if (pt_cmpR op_eq (pv 0) pe_int (nomark _)) (pss_one (ps_ret (pe_xmk T.E_BadEdit.oex T.I_BadEdit.iC T.I_BadEdit.tI (ok_BadEdit T) (hr.mono (by first | decide | omega)) T.I_BadEdit.kb pass0 rfl T.E_BadEdit.g (pk_cons (pv 1) pk_nil))))
        pss_nil)
      (pss_one (ps_ret (pe_ifExp (pt_cmpR op_eq (pv 0) pe_int (nomark _)) (pe_xmk T.E_BadColumn.oex T.I_BadColumn.iC T.I_BadColumn.tI (ok_BadColumn T) (hr.mono (by first | decide | omega)) T.I_BadColumn.kb pass0 rfl T.E_BadColumn.g (pk_cons (pv 1) pk_nil)) (pe_xmk T.E_BadBound.oex T.I_BadBound.iC T.I_BadBound.tI (ok_BadBound T) (hr.mono (by first | decide | omega)) T.I_BadBound.kb pass0 rfl T.E_BadBound.g (pk_cons (pv 1) pk_nil))))))))), ?_⟩
    have k1 : ∀ fld, fname k = fld → (k ≠ 1 ∧ k ≠ 9 ∧ k ≠ 11) → ∀ a dx v' H', Same H H' → H' a = some (xob a (A.c k) (some dx)) → H' dx = some (.xd [(fld, v')]) → Fl H' 2 v' da → Q (.ref a) H' :=
      fun fld e h a dx v' H' s e0 e1 e2 => kQ a _ _ s e0 (.inr (.inr ⟨h, dx, v', rfl, by rw [e]; exact e1, e2⟩))
    obtain rfl | rfl | rfl | rfl | rfl | rfl : k = 0 ∨ k = 1 ∨ k = 2 ∨ k = 3 ∨ k = 4 ∨ k = 5 := by omega
    all_goals (repeat walk_at "ck")
    · exact ⟨_, rfl, mk1 hf (k1 _ rfl (by decide))⟩
    · exact ⟨_, rfl, _, rfl, mk2 hf fun a dx v' H' s e0 e1 e2 => kQ _ _ _ s e0 (.inr (.inl ⟨rfl, dx, v', rfl, e1, e2⟩))⟩
    · exact ⟨_, rfl, mk1 hf (k1 _ rfl (by decide))⟩
    · exact ⟨_, rfl, mk1 hf (k1 _ rfl (by decide))⟩
    · exact ⟨_, rfl, mk1 hf (k1 _ rfl (by decide))⟩
    · exact ⟨_, rfl, mk1 hf (k1 _ rfl (by decide))⟩
theorem sc_named_too : FnScope ["k", "a"] ["k", "a"] (defScope s__law_named_too) := ⟨rfl, rfl, rfl, by decide +kernel, rfl, by decide +kernel, by decide +kernel⟩
theorem ok_named_too (T : Txt K mg A) : FnOk P w K mg base CX0 6 A.f__law_named_too A.d__law_named_too ["k", "a"] (spNamedToo A) := by
  have sc := sc_named_too
  refine T.D__law_named_too.F.ok sc (fun vs H Q E h => ?_) (fun cdv A1 outer s H vs Q E hr h => ?_)
  · obtain ⟨_, _, _, rfl, _⟩ := h; rfl
  · obtain ⟨k, a, da, rfl, k6, k12, hf, kQ⟩ := h
    refine ⟨_, (pss_cons (ps_if (pt_cmpR op_eq (pv 0) pe_int (nomark _)) (pss_one (ps_ret (pe_xmk T.E_BadKeys.oex T.I_BadKeys.iC T.I_BadKeys.tI (ok_BadKeys T) (hr.mono (by first | decide | omega)) T.I_BadKeys.kb pass0 rfl T.E_BadKeys.g (pk_cons (pv 1) pk_nil))))
        pss_nil)
      (pss_cons (ps_if (pt_cmpR op_eq (pv 0) pe_int (nomark _)) (pss_one (ps_ret (pe_xmk T.E_BadName.oex T.I_BadName.iC T.I_BadName.tI (ok_BadName T) (hr.mono (by first | decide | omega)) T.I_BadName.kb pass0 rfl T.E_BadName.g (pk_cons (pv 1) pk_nil))))
        pss_nil)
      (pss_cons (ps_if (pt_cmpR op_eq (pv 0) pe_int (nomark _)) (pss_one (ps_ret (pe_xmk T.E_TooMany.oex T.I_TooMany.iC T.I_TooMany.tI (ok_TooMany T) (hr.mono (by first | decide | omega)) T.I_TooMany.kb pass0 rfl T.E_TooMany.g (pk_cons (pv 1) pk_nil))))
        pss_nil)
      (pss_cons (ps_if (pt_cmpR op_eq (pv 0) pe_int (nomark _)) (pss_one (ps_ret (pe_xmk0 PySem.F.excBase_ValueError T.X_Unlike T.E_Unlike.g T.E_Unlike.oex.kC rfl)))
        pss_nil)
      (pss_one (ps_ret (pe_ifExp (pt_cmpR op_eq (pv 0) pe_int (nomark _)) (pe_xmk T.E_Misses.oex T.I_Misses.iC T.I_Misses.tI (ok_Misses T) (hr.mono (by first | decide | omega)) T.I_Misses.kb pass0 rfl T.E_Misses.g (pk_cons (pv 1) pk_nil)) (pe_xmk0 PySem.F.excBase_ValueError T.X_NothingLeft T.E_NothingLeft.g T.E_NothingLeft.oex.kC rfl)))))))), ?_⟩
    have k1 : ∀ fld, fname k = fld → (k ≠ 1 ∧ k ≠ 9 ∧ k ≠ 11) → ∀ a dx v' H', Same H H' → H' a = some (xob a (A.c k) (some dx)) → H' dx = some (.xd [(fld, v')]) → Fl H' 2 v' da → Q (.ref a) H' :=
      fun fld e h a dx v' H' s e0 e1 e2 => kQ 0 a _ _ s e0 (.inr (.inr ⟨h, dx, v', rfl, by rw [e]; exact e1, e2⟩))
    obtain rfl | rfl | rfl | rfl | rfl | rfl : k = 6 ∨ k = 7 ∨ k = 8 ∨ k = 9 ∨ k = 10 ∨ k = 11 := by omega
    all_goals (repeat walk_at "ck")
    · exact ⟨_, rfl, mk1 hf (k1 _ rfl (by decide))⟩
    · exact ⟨_, rfl, mk1 hf (k1 _ rfl (by decide))⟩
    · exact ⟨_, rfl, mk1 hf (k1 _ rfl (by decide))⟩
    · exact fun p hp => kQ 0 p none _ (Same.upd hp) upd_same (.inl ⟨.inl rfl, rfl⟩)
    · exact ⟨_, rfl, mk1 hf (k1 _ rfl (by decide))⟩
    · exact fun p hp => kQ 0 p none _ (Same.upd hp) upd_same (.inl ⟨.inr rfl, rfl⟩)
theorem sc_kinds : FnScope ["e", "found"] ["e"] (defScope s__law_kinds) := ⟨rfl, rfl, rfl, by decide +kernel, rfl, by decide +kernel, by decide +kernel⟩
theorem ok_kinds (T : Txt K mg A) : FnW P w K mg base CX0 1 A.f__law_kinds A.d__law_kinds ["e"] (spKinds A) := by
  have sc := sc_kinds
  refine T.D__law_kinds.F.okW sc (fun vs H Q E h => ?_) (fun cdv A1 outer s H vs Q E hr h => ?_)
  · obtain ⟨_, _, _, rfl, _⟩ := h; rfl
  · obtain ⟨k, a, od, rfl, k12, ha, hd, kQ⟩ := h
    obtain ⟨n, e⟩ := T.E k12
    refine ⟨_, (pss_cons (ps_set (i := 1) sc.nd rfl (Or.inl rfl) (pe_lst (pa_cons (pe_callB call_isT (by rfl) T.n_isinstance (by decide +kernel) (pa_cons (pv 0) (pa_cons (pe_glob (v := .ref (A.c 0)) rfl T.E_BadText.g rfl) pa_nil))) (pa_cons (pe_callB call_isT (by rfl) T.n_isinstance (by decide +kernel) (pa_cons (pv 0) (pa_cons (pe_glob (v := .ref (A.c 1)) rfl T.E_BadMachine.g rfl) pa_nil))) (pa_cons (pe_callB call_isT (by rfl) T.n_isinstance (by decide +kernel) (pa_cons (pv 0) (pa_cons (pe_glob (v := .ref (A.c 2)) rfl T.E_BadSign.g rfl) pa_nil))) (pa_cons (pe_callB call_isT (by rfl) T.n_isinstance (by decide +kernel) (pa_cons (pv 0) (pa_cons (pe_glob (v := .ref (A.c 3)) rfl T.E_BadEdit.g rfl) pa_nil))) pa_nil))))))
      (pss_cons (ps_set (i := 1) sc.nd rfl (Or.inl rfl) (pe_op op_cat (pv 1) (pe_lst (pa_cons (pe_callB call_isT (by rfl) T.n_isinstance (by decide +kernel) (pa_cons (pv 0) (pa_cons (pe_glob (v := .ref (A.c 4)) rfl T.E_BadColumn.g rfl) pa_nil))) (pa_cons (pe_callB call_isT (by rfl) T.n_isinstance (by decide +kernel) (pa_cons (pv 0) (pa_cons (pe_glob (v := .ref (A.c 5)) rfl T.E_BadBound.g rfl) pa_nil))) (pa_cons (pe_callB call_isT (by rfl) T.n_isinstance (by decide +kernel) (pa_cons (pv 0) (pa_cons (pe_glob (v := .ref (A.c 6)) rfl T.E_BadKeys.g rfl) pa_nil))) (pa_cons (pe_callB call_isT (by rfl) T.n_isinstance (by decide +kernel) (pa_cons (pv 0) (pa_cons (pe_glob (v := .ref (A.c 7)) rfl T.E_BadName.g rfl) pa_nil))) pa_nil)))))))
      (pss_one (ps_ret (pe_op op_cat (pv 1) (pe_lst (pa_cons (pe_callB call_isT (by rfl) T.n_isinstance (by decide +kernel) (pa_cons (pv 0) (pa_cons (pe_glob (v := .ref (A.c 8)) rfl T.E_TooMany.g rfl) pa_nil))) (pa_cons (pe_callB call_isT (by rfl) T.n_isinstance (by decide +kernel) (pa_cons (pv 0) (pa_cons (pe_glob (v := .ref (A.c 9)) rfl T.E_Unlike.g rfl) pa_nil))) (pa_cons (pe_callB call_isT (by rfl) T.n_isinstance (by decide +kernel) (pa_cons (pv 0) (pa_cons (pe_glob (v := .ref (A.c 10)) rfl T.E_Misses.g rfl) pa_nil))) (pa_cons (pe_callB call_isT (by rfl) T.n_isinstance (by decide +kernel) (pa_cons (pv 0) (pa_cons (pe_glob (v := .ref (A.c 11)) rfl T.E_NothingLeft.g rfl) pa_nil))) pa_nil)))))))))), ?_⟩
    refine ⟨_, rfl, a, A.c k, od, _, _, _, rfl, ha, hd, e.exc, (fun u h => h), T.kit k12 (by decide) e T.E_BadText, _, rfl, a, A.c k, od, _, _, _, rfl, ha, hd, e.exc, (fun u h => h), T.kit k12 (by decide) e T.E_BadMachine, _, rfl, a, A.c k, od, _, _, _, rfl, ha, hd, e.exc, (fun u h => h), T.kit k12 (by decide) e T.E_BadSign, _, rfl, a, A.c k, od, _, _, _, rfl, ha, hd, e.exc, (fun u h => h), T.kit k12 (by decide) e T.E_BadEdit, (by show 4 ≤ sizeLine; decide), fun l0 h0 => ?_⟩
    have s0 := Same.upd (o := .lst [.bl (decide (k = 0)), .bl (decide (k = 1)), .bl (decide (k = 2)), .bl (decide (k = 3))]) h0
    have g0 : upd H l0 (.lst [.bl (decide (k = 0)), .bl (decide (k = 1)), .bl (decide (k = 2)), .bl (decide (k = 3))]) l0 = some _ := upd_same
    generalize upd H l0 (.lst [.bl (decide (k = 0)), .bl (decide (k = 1)), .bl (decide (k = 2)), .bl (decide (k = 3))]) = H0 at s0 g0 ⊢
    refine ⟨_, rfl, _, rfl, a, A.c k, od, _, _, _, rfl, s0 _ _ ha, hd.keep s0, e.exc, (fun u h => h), T.kit k12 (by decide) e T.E_BadColumn, _, rfl, a, A.c k, od, _, _, _, rfl, s0 _ _ ha, hd.keep s0, e.exc, (fun u h => h), T.kit k12 (by decide) e T.E_BadBound, _, rfl, a, A.c k, od, _, _, _, rfl, s0 _ _ ha, hd.keep s0, e.exc, (fun u h => h), T.kit k12 (by decide) e T.E_BadKeys, _, rfl, a, A.c k, od, _, _, _, rfl, s0 _ _ ha, hd.keep s0, e.exc, (fun u h => h), T.kit k12 (by decide) e T.E_BadName, (by show 4 ≤ sizeLine; decide), fun l1 h1 => ?_⟩
    have s1 := Same.upd (o := .lst [.bl (decide (k = 4)), .bl (decide (k = 5)), .bl (decide (k = 6)), .bl (decide (k = 7))]) h1
    refine ⟨_, _, _, _, rfl, rfl, s1 _ _ g0, upd_same, (by show 8 ≤ sizeLine; decide), fun l2 h2 => ?_⟩
    have s2 := Same.upd (o := .lst ([.bl (decide (k = 0)), .bl (decide (k = 1)), .bl (decide (k = 2)), .bl (decide (k = 3))] ++ [.bl (decide (k = 4)), .bl (decide (k = 5)), .bl (decide (k = 6)), .bl (decide (k = 7))])) h2
    have s02 := (s0.trans s1).trans s2
    refine ⟨_, rfl, _, rfl, a, A.c k, od, _, _, _, rfl, s02 _ _ ha, hd.keep s02, e.exc, (fun u h => h), T.kit k12 (by decide) e T.E_TooMany, _, rfl, a, A.c k, od, _, _, _, rfl, s02 _ _ ha, hd.keep s02, e.exc, (fun u h => h), T.kit k12 (by decide) e T.E_Unlike, _, rfl, a, A.c k, od, _, _, _, rfl, s02 _ _ ha, hd.keep s02, e.exc, (fun u h => h), T.kit k12 (by decide) e T.E_Misses, _, rfl, a, A.c k, od, _, _, _, rfl, s02 _ _ ha, hd.keep s02, e.exc, (fun u h => h), T.kit k12 (by decide) e T.E_NothingLeft, (by show 4 ≤ sizeLine; decide), fun l3 h3 => ?_⟩
    have s3 := Same.upd (o := .lst [.bl (decide (k = 8)), .bl (decide (k = 9)), .bl (decide (k = 10)), .bl (decide (k = 11))]) h3
    refine ⟨_, _, _, _, rfl, rfl, s3 _ _ upd_same, upd_same, (by show 12 ≤ sizeLine; decide), fun l4 h4 => ?_⟩
    exact kQ l4 _ ((s02.trans s3).trans (Same.upd h4)) upd_same
theorem nps : ¬ (("state" : Str) = "place") := by decide +kernel
theorem look1 (f : Str) (v : V) : [(f, v)].lookup f = some v := by simp [List.lookup]
theorem look2 (v u : V) : [(("place" : Str), u), ("state", v)].lookup ("state" : Str) = some v := by
  have z : (("state" : Str) == "place") = false := by simpa using nps
  simp [List.lookup, z]
theorem sc_fields : FnScope ["k", "e"] ["k", "e"] (defScope s__law_fields) := ⟨rfl, rfl, rfl, by decide +kernel, rfl, by decide +kernel, by decide +kernel⟩
theorem ok_fields (T : Txt K mg A) : FnW P w K mg base CX0 1 A.f__law_fields A.d__law_fields ["k", "e"] (spFields A) := by
  have sc := sc_fields
  refine T.D__law_fields.F.okW sc (fun vs H Q E h => ?_) (fun cdv A1 outer s H vs Q E hr h => ?_)
  · obtain ⟨_, _, _, _, _, rfl, _⟩ := h; rfl
  · obtain ⟨k, a, od, da, b, rfl, k12, ha, ht, kQ⟩ := h
    refine ⟨_, (pss_cons (ps_if (pt_cmpR op_eq (pv 0) pe_int (nomark _)) (pss_one (ps_ret (pe_lst (pa_cons (pe_xfT (pv 1)) pa_nil))))
        pss_nil)
      (pss_cons (ps_if (pt_cmpR op_eq (pv 0) pe_int (nomark _)) (pss_one (ps_ret (pe_lst (pa_cons (pe_xfT (pv 1)) (pa_cons (pe_xfT (pv 1)) pa_nil)))))
        pss_nil)
      (pss_cons (ps_if (pt_cmpR op_eq (pv 0) pe_int (nomark _)) (pss_one (ps_ret (pe_lst (pa_cons (pe_xfT (pv 1)) pa_nil))))
        pss_nil)
      (pss_cons (ps_if (pt_cmpR op_in_seq (pv 0) (pe_lst (pa_cons pe_int (pa_cons pe_int pa_nil))) (by rfl)) (pss_one (ps_ret (pe_lst (pa_cons (pe_xfT (pv 1)) pa_nil))))
        pss_nil)
      (pss_cons (ps_if (pt_cmpR op_in_seq (pv 0) (pe_lst (pa_cons pe_int (pa_cons pe_int pa_nil))) (by rfl)) (pss_one (ps_ret (pe_lst (pa_cons (pe_ifExp (pt_cmpR op_eq (pv 0) pe_int (nomark _)) (pe_xfT (pv 1)) (pe_xfT (pv 1))) pa_nil))))
        pss_nil)
      (pss_cons (ps_if (pt_cmpR op_in_seq (pv 0) (pe_lst (pa_cons pe_int (pa_cons pe_int pa_nil))) (by rfl)) (pss_one (ps_ret (pe_lst (pa_cons (pe_ifExp (pt_cmpR op_eq (pv 0) pe_int (nomark _)) (pe_xfT (pv 1)) (pe_xfT (pv 1))) pa_nil))))
        pss_nil)
      (pss_one (ps_ret (pe_ifExp (pt_cmpR op_eq (pv 0) pe_int (nomark _)) (pe_lst (pa_cons (pe_xfT (pv 1)) pa_nil)) (pe_lst pa_nil)))))))))), ?_⟩
    have r0 : Same H H := Same.refl H
    obtain rfl | rfl | rfl | rfl | rfl | rfl | rfl | rfl | rfl | rfl | rfl | rfl : k = 0 ∨ k = 1 ∨ k = 2 ∨ k = 3 ∨ k = 4 ∨ k = 5 ∨ k = 6 ∨ k = 7 ∨ k = 8 ∨ k = 9 ∨ k = 10 ∨ k = 11 := by omega
    · refine ⟨_, rfl, rfl, _, rfl, ifT (by decide) ?_⟩
      rcases ht with ⟨h9, _⟩ | ⟨h9, _⟩ | ⟨_, d, v, rfl, e1, e2⟩
      · omega
      · omega
      · exact ⟨_, rfl, a, _, d, _, v, rfl, T.E_BadText.xf, T.N_BadText_line, r0 _ _ ha, r0 _ _ e1, look1 _ _, (by show 1 ≤ sizeLine; decide), fun p hp => kQ p _ _ (r0.trans (Same.upd hp)) upd_same (.cons (e2.same (r0.trans (Same.upd hp))) .nil)⟩
    · refine ⟨_, rfl, rfl, _, rfl, ifF (by decide) ?_⟩
      refine ⟨_, rfl, rfl, _, rfl, ifT (by decide) ?_⟩
      rcases ht with ⟨h9, _⟩ | ⟨_, d, v, rfl, e1, e2⟩ | ⟨h9, _⟩
      · omega
      · exact ⟨_, rfl, a, _, d, _, v, rfl, T.E_BadMachine.xf, T.N_BadMachine_state, ha, e1, look2 _ _, _, rfl, a, _, d, _, _, rfl, T.E_BadMachine.xf, T.N_BadMachine_place, ha, e1, (by simp [List.lookup]), (by show 2 ≤ sizeLine; decide), fun p hp => kQ p _ _ (Same.upd hp) upd_same (.cons (e2.same (Same.upd hp)) (.cons (.inl (.inl ⟨b, rfl, rfl⟩)) .nil))⟩
      · exact absurd rfl h9.1
    · refine ⟨_, rfl, rfl, _, rfl, ifF (by decide) ?_⟩
      refine ⟨_, rfl, rfl, _, rfl, ifF (by decide) ?_⟩
      refine ⟨_, rfl, rfl, _, rfl, ifT (by decide) ?_⟩
      rcases ht with ⟨h9, _⟩ | ⟨h9, _⟩ | ⟨_, d, v, rfl, e1, e2⟩
      · omega
      · omega
      · exact ⟨_, rfl, a, _, d, _, v, rfl, T.E_BadSign.xf, T.N_BadSign_place, r0 _ _ ha, r0 _ _ e1, look1 _ _, (by show 1 ≤ sizeLine; decide), fun p hp => kQ p _ _ (r0.trans (Same.upd hp)) upd_same (.cons (e2.same (r0.trans (Same.upd hp))) .nil)⟩
    · refine ⟨_, rfl, rfl, _, rfl, ifF (by decide) ?_⟩
      refine ⟨_, rfl, rfl, _, rfl, ifF (by decide) ?_⟩
      refine ⟨_, rfl, rfl, _, rfl, ifF (by decide) ?_⟩
      refine ⟨_, rfl, (by show 2 ≤ sizeLine; decide), fun l1 hl1 => ⟨_, _, rfl, .inl (SqL.of upd_same), rfl, rfl, _, rfl, ifE (by rfl) ?_⟩⟩
      have r1 := r0.trans (Same.upd (o := .lst [.int 3, .int 4]) hl1)
      rcases ht with ⟨h9, _⟩ | ⟨h9, _⟩ | ⟨_, d, v, rfl, e1, e2⟩
      · omega
      · omega
      · exact ⟨_, rfl, a, _, d, _, v, rfl, T.E_BadEdit.xf, T.N_BadEdit_index, r1 _ _ ha, r1 _ _ e1, look1 _ _, (by show 1 ≤ sizeLine; decide), fun p hp => kQ p _ _ (r1.trans (Same.upd hp)) upd_same (.cons (e2.same (r1.trans (Same.upd hp))) .nil)⟩
    · refine ⟨_, rfl, rfl, _, rfl, ifF (by decide) ?_⟩
      refine ⟨_, rfl, rfl, _, rfl, ifF (by decide) ?_⟩
      refine ⟨_, rfl, rfl, _, rfl, ifF (by decide) ?_⟩
      refine ⟨_, rfl, (by show 2 ≤ sizeLine; decide), fun l1 hl1 => ⟨_, _, rfl, .inl (SqL.of upd_same), rfl, rfl, _, rfl, ifE (by rfl) ?_⟩⟩
      have r1 := r0.trans (Same.upd (o := .lst [.int 3, .int 4]) hl1)
      rcases ht with ⟨h9, _⟩ | ⟨h9, _⟩ | ⟨_, d, v, rfl, e1, e2⟩
      · omega
      · omega
      · exact ⟨_, rfl, a, _, d, _, v, rfl, T.E_BadColumn.xf, T.N_BadColumn_index, r1 _ _ ha, r1 _ _ e1, look1 _ _, (by show 1 ≤ sizeLine; decide), fun p hp => kQ p _ _ (r1.trans (Same.upd hp)) upd_same (.cons (e2.same (r1.trans (Same.upd hp))) .nil)⟩
    · refine ⟨_, rfl, rfl, _, rfl, ifF (by decide) ?_⟩
      refine ⟨_, rfl, rfl, _, rfl, ifF (by decide) ?_⟩
      refine ⟨_, rfl, rfl, _, rfl, ifF (by decide) ?_⟩
      refine ⟨_, rfl, (by show 2 ≤ sizeLine; decide), fun l1 hl1 => ⟨_, _, rfl, .inl (SqL.of upd_same), rfl, rfl, _, rfl, ifE' (by rfl) ?_⟩⟩
      have r1 := r0.trans (Same.upd (o := .lst [.int 3, .int 4]) hl1)
      refine ⟨_, rfl, (by show 2 ≤ sizeLine; decide), fun l2 hl2 => ⟨_, _, rfl, .inl (SqL.of upd_same), rfl, rfl, _, rfl, ifE (by rfl) ?_⟩⟩
      have r2 := r1.trans (Same.upd (o := .lst [.int 5, .int 6]) hl2)
      refine ⟨_, rfl, rfl, _, rfl, ifT (by decide) ?_⟩
      rcases ht with ⟨h9, _⟩ | ⟨h9, _⟩ | ⟨_, d, v, rfl, e1, e2⟩
      · omega
      · omega
      · exact ⟨_, rfl, a, _, d, _, v, rfl, T.E_BadBound.xf, T.N_BadBound_bound, r2 _ _ ha, r2 _ _ e1, look1 _ _, (by show 1 ≤ sizeLine; decide), fun p hp => kQ p _ _ (r2.trans (Same.upd hp)) upd_same (.cons (e2.same (r2.trans (Same.upd hp))) .nil)⟩
    · refine ⟨_, rfl, rfl, _, rfl, ifF (by decide) ?_⟩
      refine ⟨_, rfl, rfl, _, rfl, ifF (by decide) ?_⟩
      refine ⟨_, rfl, rfl, _, rfl, ifF (by decide) ?_⟩
      refine ⟨_, rfl, (by show 2 ≤ sizeLine; decide), fun l1 hl1 => ⟨_, _, rfl, .inl (SqL.of upd_same), rfl, rfl, _, rfl, ifE' (by rfl) ?_⟩⟩
      have r1 := r0.trans (Same.upd (o := .lst [.int 3, .int 4]) hl1)
      refine ⟨_, rfl, (by show 2 ≤ sizeLine; decide), fun l2 hl2 => ⟨_, _, rfl, .inl (SqL.of upd_same), rfl, rfl, _, rfl, ifE (by rfl) ?_⟩⟩
      have r2 := r1.trans (Same.upd (o := .lst [.int 5, .int 6]) hl2)
      refine ⟨_, rfl, rfl, _, rfl, ifF (by decide) ?_⟩
      rcases ht with ⟨h9, _⟩ | ⟨h9, _⟩ | ⟨_, d, v, rfl, e1, e2⟩
      · omega
      · omega
      · exact ⟨_, rfl, a, _, d, _, v, rfl, T.E_BadKeys.xf, T.N_BadKeys_key, r2 _ _ ha, r2 _ _ e1, look1 _ _, (by show 1 ≤ sizeLine; decide), fun p hp => kQ p _ _ (r2.trans (Same.upd hp)) upd_same (.cons (e2.same (r2.trans (Same.upd hp))) .nil)⟩
    · refine ⟨_, rfl, rfl, _, rfl, ifF (by decide) ?_⟩
      refine ⟨_, rfl, rfl, _, rfl, ifF (by decide) ?_⟩
      refine ⟨_, rfl, rfl, _, rfl, ifF (by decide) ?_⟩
      refine ⟨_, rfl, (by show 2 ≤ sizeLine; decide), fun l1 hl1 => ⟨_, _, rfl, .inl (SqL.of upd_same), rfl, rfl, _, rfl, ifE' (by rfl) ?_⟩⟩
      have r1 := r0.trans (Same.upd (o := .lst [.int 3, .int 4]) hl1)
      refine ⟨_, rfl, (by show 2 ≤ sizeLine; decide), fun l2 hl2 => ⟨_, _, rfl, .inl (SqL.of upd_same), rfl, rfl, _, rfl, ifE' (by rfl) ?_⟩⟩
      have r2 := r1.trans (Same.upd (o := .lst [.int 5, .int 6]) hl2)
      refine ⟨_, rfl, (by show 2 ≤ sizeLine; decide), fun l3 hl3 => ⟨_, _, rfl, .inl (SqL.of upd_same), rfl, rfl, _, rfl, ifE (by rfl) ?_⟩⟩
      have r3 := r2.trans (Same.upd (o := .lst [.int 7, .int 8]) hl3)
      refine ⟨_, rfl, rfl, _, rfl, ifT (by decide) ?_⟩
      rcases ht with ⟨h9, _⟩ | ⟨h9, _⟩ | ⟨_, d, v, rfl, e1, e2⟩
      · omega
      · omega
      · exact ⟨_, rfl, a, _, d, _, v, rfl, T.E_BadName.xf, T.N_BadName_name, r3 _ _ ha, r3 _ _ e1, look1 _ _, (by show 1 ≤ sizeLine; decide), fun p hp => kQ p _ _ (r3.trans (Same.upd hp)) upd_same (.cons (e2.same (r3.trans (Same.upd hp))) .nil)⟩
    · refine ⟨_, rfl, rfl, _, rfl, ifF (by decide) ?_⟩
      refine ⟨_, rfl, rfl, _, rfl, ifF (by decide) ?_⟩
      refine ⟨_, rfl, rfl, _, rfl, ifF (by decide) ?_⟩
      refine ⟨_, rfl, (by show 2 ≤ sizeLine; decide), fun l1 hl1 => ⟨_, _, rfl, .inl (SqL.of upd_same), rfl, rfl, _, rfl, ifE' (by rfl) ?_⟩⟩
      have r1 := r0.trans (Same.upd (o := .lst [.int 3, .int 4]) hl1)
      refine ⟨_, rfl, (by show 2 ≤ sizeLine; decide), fun l2 hl2 => ⟨_, _, rfl, .inl (SqL.of upd_same), rfl, rfl, _, rfl, ifE' (by rfl) ?_⟩⟩
      have r2 := r1.trans (Same.upd (o := .lst [.int 5, .int 6]) hl2)
      refine ⟨_, rfl, (by show 2 ≤ sizeLine; decide), fun l3 hl3 => ⟨_, _, rfl, .inl (SqL.of upd_same), rfl, rfl, _, rfl, ifE (by rfl) ?_⟩⟩
      have r3 := r2.trans (Same.upd (o := .lst [.int 7, .int 8]) hl3)
      refine ⟨_, rfl, rfl, _, rfl, ifF (by decide) ?_⟩
      rcases ht with ⟨h9, _⟩ | ⟨h9, _⟩ | ⟨_, d, v, rfl, e1, e2⟩
      · omega
      · omega
      · exact ⟨_, rfl, a, _, d, _, v, rfl, T.E_TooMany.xf, T.N_TooMany_what, r3 _ _ ha, r3 _ _ e1, look1 _ _, (by show 1 ≤ sizeLine; decide), fun p hp => kQ p _ _ (r3.trans (Same.upd hp)) upd_same (.cons (e2.same (r3.trans (Same.upd hp))) .nil)⟩
    · refine ⟨_, rfl, rfl, _, rfl, ifF (by decide) ?_⟩
      refine ⟨_, rfl, rfl, _, rfl, ifF (by decide) ?_⟩
      refine ⟨_, rfl, rfl, _, rfl, ifF (by decide) ?_⟩
      refine ⟨_, rfl, (by show 2 ≤ sizeLine; decide), fun l1 hl1 => ⟨_, _, rfl, .inl (SqL.of upd_same), rfl, rfl, _, rfl, ifE' (by rfl) ?_⟩⟩
      have r1 := r0.trans (Same.upd (o := .lst [.int 3, .int 4]) hl1)
      refine ⟨_, rfl, (by show 2 ≤ sizeLine; decide), fun l2 hl2 => ⟨_, _, rfl, .inl (SqL.of upd_same), rfl, rfl, _, rfl, ifE' (by rfl) ?_⟩⟩
      have r2 := r1.trans (Same.upd (o := .lst [.int 5, .int 6]) hl2)
      refine ⟨_, rfl, (by show 2 ≤ sizeLine; decide), fun l3 hl3 => ⟨_, _, rfl, .inl (SqL.of upd_same), rfl, rfl, _, rfl, ifE' (by rfl) ?_⟩⟩
      have r3 := r2.trans (Same.upd (o := .lst [.int 7, .int 8]) hl3)
      refine ⟨_, rfl, rfl, _, rfl, ifF (by decide) ?_⟩
      exact ⟨(by show 0 ≤ sizeLine; decide), fun p hp => kQ p _ _ (r3.trans (Same.upd hp)) upd_same .nil⟩
    · refine ⟨_, rfl, rfl, _, rfl, ifF (by decide) ?_⟩
      refine ⟨_, rfl, rfl, _, rfl, ifF (by decide) ?_⟩
      refine ⟨_, rfl, rfl, _, rfl, ifF (by decide) ?_⟩
      refine ⟨_, rfl, (by show 2 ≤ sizeLine; decide), fun l1 hl1 => ⟨_, _, rfl, .inl (SqL.of upd_same), rfl, rfl, _, rfl, ifE' (by rfl) ?_⟩⟩
      have r1 := r0.trans (Same.upd (o := .lst [.int 3, .int 4]) hl1)
      refine ⟨_, rfl, (by show 2 ≤ sizeLine; decide), fun l2 hl2 => ⟨_, _, rfl, .inl (SqL.of upd_same), rfl, rfl, _, rfl, ifE' (by rfl) ?_⟩⟩
      have r2 := r1.trans (Same.upd (o := .lst [.int 5, .int 6]) hl2)
      refine ⟨_, rfl, (by show 2 ≤ sizeLine; decide), fun l3 hl3 => ⟨_, _, rfl, .inl (SqL.of upd_same), rfl, rfl, _, rfl, ifE' (by rfl) ?_⟩⟩
      have r3 := r2.trans (Same.upd (o := .lst [.int 7, .int 8]) hl3)
      refine ⟨_, rfl, rfl, _, rfl, ifT (by decide) ?_⟩
      rcases ht with ⟨h9, _⟩ | ⟨h9, _⟩ | ⟨_, d, v, rfl, e1, e2⟩
      · omega
      · omega
      · exact ⟨_, rfl, a, _, d, _, v, rfl, T.E_Misses.xf, T.N_Misses_columns, r3 _ _ ha, r3 _ _ e1, look1 _ _, (by show 1 ≤ sizeLine; decide), fun p hp => kQ p _ _ (r3.trans (Same.upd hp)) upd_same (.cons (e2.same (r3.trans (Same.upd hp))) .nil)⟩
    · refine ⟨_, rfl, rfl, _, rfl, ifF (by decide) ?_⟩
      refine ⟨_, rfl, rfl, _, rfl, ifF (by decide) ?_⟩
      refine ⟨_, rfl, rfl, _, rfl, ifF (by decide) ?_⟩
      refine ⟨_, rfl, (by show 2 ≤ sizeLine; decide), fun l1 hl1 => ⟨_, _, rfl, .inl (SqL.of upd_same), rfl, rfl, _, rfl, ifE' (by rfl) ?_⟩⟩
      have r1 := r0.trans (Same.upd (o := .lst [.int 3, .int 4]) hl1)
      refine ⟨_, rfl, (by show 2 ≤ sizeLine; decide), fun l2 hl2 => ⟨_, _, rfl, .inl (SqL.of upd_same), rfl, rfl, _, rfl, ifE' (by rfl) ?_⟩⟩
      have r2 := r1.trans (Same.upd (o := .lst [.int 5, .int 6]) hl2)
      refine ⟨_, rfl, (by show 2 ≤ sizeLine; decide), fun l3 hl3 => ⟨_, _, rfl, .inl (SqL.of upd_same), rfl, rfl, _, rfl, ifE' (by rfl) ?_⟩⟩
      have r3 := r2.trans (Same.upd (o := .lst [.int 7, .int 8]) hl3)
      refine ⟨_, rfl, rfl, _, rfl, ifF (by decide) ?_⟩
      exact ⟨(by show 0 ≤ sizeLine; decide), fun p hp => kQ p _ _ (r3.trans (Same.upd hp)) upd_same .nil⟩
end
end Kx

namespace Kx
open PySem L2
section
variable {P : Program} {w : World} {K : PySem.W.Frag} {mg : Str → Option Value} {base : Heap} {A : Ad}
def kindsD (k : Nat) : List PyData := (List.range 12).map fun j => PyData.bool (decide (k = j))
theorem dpBits {H : Hp} (k : Nat) : ∀ l : List Nat, DpAll K H (l.map fun j => V.bl (decide (k = j))) (l.map fun j => PyData.bool (decide (k = j)))
  | [] => .nil
  | j :: l => .cons (.bl _) (dpBits k l)
theorem dpFl {H : Hp} {n : Nat} : ∀ {vs : List V} {ds : List PyData}, Paired (Fl H n) vs ds → DpAll K H vs ds
  | _, _, .nil => .nil
  | _, _, .cons r t => .cons r.dp (dpFl t)
mutual
theorem dpKeep {H H' : Hp} (s : Same H H') : ∀ (d : PyData) {v : V}, Dp K H v d → Dp K H' v d
  | .none, _, h => by cases h; exact .non
  | .bool b, _, h => by cases h; exact .bl b
  | .int i, _, h => by cases h; exact .int i
  | .str x, _, h => by cases h; exact .str x
  | .list ds, _, h => by
    cases h with
    | lst a b => exact .lst (s.seq a) (dpKeepAll s ds b)
  | .tuple ds, _, h => by
    cases h with
    | tup a b =>
      refine .tup ?_ (dpKeepAll s ds b)
      rcases a with (a | ⟨o, a⟩) | a
      · exact .inl (.inl (s _ _ a))
      · exact .inl (.inr ⟨o, s _ _ a⟩)
      · exact .inr a
  | .dict _, _, h => by cases h
theorem dpKeepAll {H H' : Hp} (s : Same H H') : ∀ (ds : List PyData) {vs : List V}, DpAll K H vs ds → DpAll K H' vs ds
  | [], _, h => by cases h; exact .nil
  | d :: ds, _, h => by
    cases h with
    | cons a b => exact .cons (dpKeep s d a) (dpKeepAll s ds b)
end
def spCaught (K : PySem.W.Frag) : Sp := fun vs H Q _ => ∃ (k : Nat) (a : V) (b : Int) (da : PyData), vs = [.int k, a, .int b] ∧ k < 12 ∧ Fl H 2 a da ∧ ∀ p H', Same H H' → Dp K H' (.ref p) (.list [.list (kindsD k), .list (due k da b), .bool true]) → Q (.ref p) H'
theorem RoomW.mk1 {k : Nat} {A : Around} {o : Option Value} (h : Room k A) (hk : 1 ≤ k := by first | decide | omega) : RoomW 1 (A.mark o) := ⟨(roomW (h.mono hk)).dp, (roomW (h.mono hk)).un⟩
theorem sc_caught : FnScope ["k", "a", "b", "e"] ["k", "a", "b"] (defScope s__law_caught) := ⟨rfl, rfl, rfl, by decide +kernel, rfl, by decide +kernel, by decide +kernel⟩
theorem ok_caught (T : Txt K mg A) : FnOk P w K mg base CX0 8 A.f__law_caught A.d__law_caught ["k", "a", "b"] (spCaught K) := by
  have sc := sc_caught
  have G__law_first : FnOk P w K mg base (L2.CX P w) 7 A.f__law_first A.d__law_first ["k", "a", "b"] (spFirst A) := ok_first T
  refine T.D__law_caught.F.ok sc (fun vs H Q E h => ?_) (fun cdv A1 outer s H vs Q E hr h => ?_)
  · obtain ⟨_, _, _, _, rfl, _⟩ := h; rfl
  · obtain ⟨k, a, b, da, rfl, k12, hf, kQ⟩ := h
    refine ⟨_, (pss_cons (ps_try_asT (i := 3) rfl rfl rfl sc.nd rfl rfl ⟨rfl, by decide, .inl T.gM⟩
      (fun W pn xe tk => (pss_one (ps_expr (pe_callS G__law_first (hr.mono (by first | decide | omega)) rfl T.D__law_first.g T.D__law_first.F.kp T.D__law_first.b (fun σ => passAt tk σ) (pa_cons (pv 0) (pa_cons (pv 1) (pa_cons (pv 2) pa_nil)))))))
      (fun a pn => (pss_one (ps_ret (pe_lst (pa_cons (pe_callW (ok_kinds T) (RoomW.mk1 hr) rfl T.D__law_kinds.g T.D__law_kinds.F.kp T.D__law_kinds.b pass0 (pa_cons (pv 3) pa_nil)) (pa_cons (pe_callW (ok_fields T) (RoomW.mk1 hr) rfl T.D__law_fields.g T.D__law_fields.F.kp T.D__law_fields.b pass0 (pa_cons (pv 0) (pa_cons (pv 3) pa_nil))) (pa_cons (pe_callB (id := "isinstance") (r := rIsT K) call_isT (by rfl) T.n_isinstance (by decide +kernel) (pa_cons (pv 3) (pa_cons (pe_bltn (v := .ty "ValueError") rfl T.n_ValueError (by decide +kernel) rfl) pa_nil))) pa_nil)))))))) (pss_one (ps_ret (pe_lst pa_nil)))), ?_⟩
    refine ⟨_, rfl, _, rfl, _, rfl, k, a, b, da, rfl, k12, hf, fun od H1 s1 t1 => ?_⟩
    obtain ⟨n, e⟩ := T.E k12
    refine ⟨T.exM _ ?_, _, rfl, fun x hx => ?_⟩
    · rw [e.sub]
      simp [tailM, List.contains, List.elem]
      split <;> rfl
    · have sx := Same.upd (o := xob x (A.c k) od) hx
      refine ⟨_, rfl, k, x, od, rfl, k12, upd_same, t1.od.keep sx, fun p1 H2 s2 e2 => ?_⟩
      refine ⟨_, rfl, _, rfl, k, x, od, da, b, rfl, k12, s2 _ _ upd_same, (t1.keep sx).keep s2, fun p2 vs2 H3 s3 e3 f3 => ?_⟩
      refine ⟨_, rfl, x, A.c k, od, _, _, _, rfl, s3 _ _ (s2 _ _ upd_same), ((t1.od.keep sx).keep s2).keep s3, e.exc, (fun u h => h), kit_VE e, (by show 3 ≤ sizeLine; decide), fun p hp => ?_⟩
      have s4 := Same.upd (o := .lst [.ref p1, .ref p2, .bl true]) hp
      refine kQ p _ ((((s1.trans sx).trans s2).trans s3).trans s4) (.lst (SqL.of upd_same) (.cons (.lst (SqL.of (s4 _ _ (s3 _ _ e2))) (dpBits k _)) (.cons (.lst (SqL.of (s4 _ _ e3)) (dpFl (L2.Paired.mapP f3 fun _ _ z => z.same s4))) (.cons (.bl true) .nil))))

def spLaw (K : PySem.W.Frag) : Sp := fun vs H Q _ => ∃ (a : Addr) (ns : List Int), vs = [.ref a] ∧ SqL K H a (ns.map V.int) ∧ ns.length ≤ 63 ∧ ∀ H', Q (.bl true) H'
theorem sc_law : FnScope ["script", "pen", "turn", "k", "a", "digit", "b", "due", "j"] ["script"] (defScope s_law) := ⟨rfl, rfl, rfl, by decide +kernel, rfl, by decide +kernel, by decide +kernel⟩
theorem shBits (k : Nat) (l : List Nat) : ∀ x ∈ l.map (fun j => PyData.bool (decide (k = j))), Sh 0 x := fun x hx => by
  obtain ⟨j, _, rfl⟩ := List.mem_map.mp hx
  exact Sh.bl _
theorem shDue {k : Nat} {da : PyData} {b : Int} (h : Sh 2 da) : ∀ x ∈ due k da b, Sh 2 x := fun x hx => by
  unfold due at hx
  split at hx
  · cases hx
  · split at hx
    · rcases List.mem_cons.mp hx with rfl | hx
      · exact h
      · rcases List.mem_cons.mp hx with rfl | hx
        · exact Sh.int _
        · cases hx
    · rcases List.mem_cons.mp hx with rfl | hx
      · exact h
      · cases hx
theorem Sh.mono {n m : Nat} {d : PyData} (h : Sh n d) (e : n ≤ m) : Sh m d := ⟨h.1, Nat.le_trans h.2 e⟩
theorem shTold {k : Nat} {da : PyData} {b : Int} (h : Sh 2 da) : Sh 4 (.list [.list (kindsD k), .list (due k da b), .bool true]) := by
  refine Sh.list fun x hx => ?_
  rcases List.mem_cons.mp hx with rfl | hx
  · exact (Sh.list (shBits k _)).mono (by decide)
  · rcases List.mem_cons.mp hx with rfl | hx
    · exact Sh.list (shDue h)
    · rcases List.mem_cons.mp hx with rfl | hx
      · exact Sh.bl _
      · cases hx
theorem FlAll.keep {H H' : Hp} {n : Nat} {vs : List V} {ds : List PyData} (s : ∀ b xs, H b = some (.tup xs) → H' b = some (.tup xs)) (h : Paired (Fl H n) vs ds) : Paired (Fl H' n) vs ds := L2.Paired.mapP h fun _ _ z => z.keep s
theorem SameBut.tups {p : Addr} {H H' : Hp} {n : Nat} (s : SameBut p H H') (h : PenAt H p n) : ∀ b xs, H b = some (.tup xs) → H' b = some (.tup xs) := fun b xs e => by
  obtain ⟨c, ns, a, l, h1, _⟩ := h
  exact s _ _ e (ne_of e h1 (by intro z; cases z))
theorem SameBut.seqN {p : Addr} {H H' : Hp} {a : Addr} {xs : List V} {n : Nat} (s : SameBut p H H') (hp : PenAt H p n) (h : SqL K H a xs) : SqL K H' a xs := by
  obtain ⟨c, ns, i, l, h1, _⟩ := hp
  rcases h with (h | ⟨o, h⟩) | h
  · exact .inl (.inl (s _ _ h (ne_of h h1 (by intro z; cases z))))
  · exact .inl (.inr ⟨o, s _ _ h (ne_of h h1 (by intro z; cases z))⟩)
  · exact .inr h
theorem ok_law (T : Txt K mg A) : FnOk P w K mg base CX0 9 A.f_law A.d_law ["script"] (spLaw K) := by
  have sc := sc_law
  have G__law_pen : FnOk P w K mg base CX0 1 A.p1 A.q1 ["script"] (spPen K) := ok_pen T.pen
  have G__law_draw : FnOk P w K mg base CX0 1 A.p2 A.q2 ["pen", "many"] spDraw := ok_draw T.pen
  have G__law_pick : FnOk P w K mg base CX0 2 A.p3 A.q3 ["pen", "items"] spPick := ok_pick T.pen
  have G__law_caught : FnOk P w K mg base CX0 8 A.f__law_caught A.d__law_caught ["k", "a", "b"] (spCaught K) := ok_caught T
  have G__law_fields : FnOk P w K mg base CX0 1 A.f__law_fields A.d__law_fields ["k", "e"] (spFields A) := (ok_fields T).ok
  have G__law_named : FnOk P w K mg base CX0 6 A.f__law_named A.d__law_named ["k", "a", "b"] (spNamed A) := ok_named T
  have G__law_named_too : FnOk P w K mg base CX0 6 A.f__law_named_too A.d__law_named_too ["k", "a"] (spNamedToo A) := ok_named_too T
  refine T.D_law.F.ok sc (fun vs H Q E h => ?_) (fun cdv A1 outer s H vs Q E hr h => ?_)
  · obtain ⟨_, _, rfl, _⟩ := h; rfl
  · obtain ⟨sa, ns, rfl, hS, hl, kQ⟩ := h
    refine ⟨_, (pss_cons (ps_set (i := 1) sc.nd rfl (Or.inl rfl) (pe_call G__law_pen (hr.mono (by first | decide | omega)) rfl T.pen.D__law_pen.g T.pen.D__law_pen.F.kp T.pen.D__law_pen.b .nil pass0 (pa_cons (pv 0) pa_nil)))
      (pss_cons (ps_for PassesOwn.never rfl (pi_range1 rfl T.n_range (pa_cons (pe_op op_add pe_int (pe_callB (call_min2 rfl) (by rfl) T.n_min (by decide +kernel) (pa_cons pe_int (pa_cons (pe_callB call_len (by rfl) T.n_len (by decide +kernel) (pa_cons (pv 0) pa_nil)) pa_nil)))) pa_nil)) (pg_name (i := 2) sc.nd rfl (Or.inl rfl))
        (C8.pss_cut (ps_asg (pe_tup (pa_cons (pe_ifExp (pt_cmpR op_lt (pv 2) pe_int (nomark _)) (pv 2) (pe_call G__law_draw (hr.mono (by first | decide | omega)) rfl T.pen.D__law_draw.g T.pen.D__law_draw.F.kp T.pen.D__law_draw.b .nil pass0 (pa_cons (pv 1) (pa_cons pe_int pa_nil)))) (pa_cons pe_int pa_nil))) (pg_tup rfl (pgs_cons (pg_name (i := 3) sc.nd rfl (Or.inr rfl)) (pgs_cons (pg_name (i := 4) sc.nd rfl (Or.inl rfl)) pgs_nil))))
      (pss_cons (ps_for PassesOwn.never rfl (pi_range1 rfl T.n_range (pa_cons pe_int pa_nil)) (pg_name (i := 5) sc.nd rfl (Or.inl rfl))
        (pss_one (ps_set (i := 4) sc.nd rfl (Or.inl rfl) (pe_op op_add (pe_op op_mul (pv 4) pe_int) (pe_call G__law_draw (hr.mono (by first | decide | omega)) rfl T.pen.D__law_draw.g T.pen.D__law_draw.F.kp T.pen.D__law_draw.b .nil pass0 (pa_cons (pv 1) (pa_cons pe_int pa_nil)))))))
      (pss_cons (ps_set (i := 4) sc.nd rfl (Or.inl rfl) (pe_call G__law_pick (hr.mono (by first | decide | omega)) rfl T.pen.D__law_pick.g T.pen.D__law_pick.F.kp T.pen.D__law_pick.b .nil pass0 (pa_cons (pv 1) (pa_cons (pe_lst (pa_cons (pv 4) (pa_cons (pe_op op_sub pe_int (pv 4)) (pa_cons pe_str (pa_cons (pe_tup (pa_cons (pe_tup (pa_cons pe_str (pa_cons pe_str pa_nil))) (pa_cons (pe_tup (pa_cons pe_str (pa_cons pe_str (pa_cons (pv 4) pa_nil)))) pa_nil))) pa_nil))))) pa_nil))))
      (pss_cons (ps_set (i := 6) sc.nd rfl (Or.inl rfl) (pe_call G__law_draw (hr.mono (by first | decide | omega)) rfl T.pen.D__law_draw.g T.pen.D__law_draw.F.kp T.pen.D__law_draw.b .nil pass0 (pa_cons (pv 1) (pa_cons pe_int pa_nil))))
      (C8.pss_cut (ps_set (i := 7) sc.nd rfl (Or.inl rfl) (pe_ifExp (pt_cmpR op_in_seq (pv 3) (pe_lst (pa_cons pe_int (pa_cons pe_int pa_nil))) (by rfl)) (pe_lst pa_nil) (pe_ifExp (pt_cmpR op_eq (pv 3) pe_int (nomark _)) (pe_lst (pa_cons (pv 4) (pa_cons (pv 6) pa_nil))) (pe_lst (pa_cons (pv 4) pa_nil)))))
      (pss_cons (ps_if (pt_cmpR (op_neD hr.units) (pe_call G__law_caught (hr.mono (by first | decide | omega)) rfl T.D__law_caught.g T.D__law_caught.F.kp T.D__law_caught.b .nil pass0 (pa_cons (pv 3) (pa_cons (pv 4) (pa_cons (pv 6) pa_nil)))) (pe_lst (pa_cons (pe_lc (own := [("j", 8)]) (g := (gName 8)) (tt := tYes) rfl sc.nd (pi_range1 rfl T.n_range (pa_cons pe_int pa_nil)) (blkOk_by (N := ["script", "pen", "turn", "k", "a", "digit", "b", "due", "j"]) (sc := defScope s_law) (own := [("j", 8)]) (by decide +kernel)) (fun _ _ _ _ _ => (pg_name (i := 8) sc.nd rfl (Or.inl rfl))) (fun _ _ _ _ _ => pts_nil) (fun _ _ _ _ _ => (pe_cmpR op_eq (pv 8) (pv 3) (nomark _)))) (pa_cons (pv 7) (pa_cons pe_bl pa_nil)))) (nomark _)) (pss_one (ps_ret pe_bl))
        pss_nil)
      (pss_one (ps_if (pt_cmpR (op_neD hr.units) (pe_call G__law_fields (hr.mono (by first | decide | omega)) rfl T.D__law_fields.g T.D__law_fields.F.kp T.D__law_fields.b .nil pass0 (pa_cons (pv 3) (pa_cons (pe_ifExp (pt_cmpR op_lt (pv 3) pe_int (nomark _)) (pe_call G__law_named (hr.mono (by first | decide | omega)) rfl T.D__law_named.g T.D__law_named.F.kp T.D__law_named.b .nil pass0 (pa_cons (pv 3) (pa_cons (pv 4) (pa_cons (pv 6) pa_nil)))) (pe_call G__law_named_too (hr.mono (by first | decide | omega)) rfl T.D__law_named_too.g T.D__law_named_too.F.kp T.D__law_named_too.b .nil pass0 (pa_cons (pv 3) (pa_cons (pv 4) pa_nil)))) pa_nil))) (pv 7) (nomark _)) (pss_one (ps_ret pe_bl))
        pss_nil)))))))))
      (pss_one (ps_ret pe_bl)))), ?_⟩
    refine ⟨_, rfl, sa, ns, rfl, hS, hl, fun p H1 hp s1 pen1 => ?_⟩
    have hS1 := s1.seq hS
    refine ⟨_, rfl, .ref sa, ns.length, rfl, .inl ⟨_, hS1, by rw [List.length_map]⟩, _, _, rfl, _, _, rfl, rfl, ?_⟩
    have hm0 : 0 ≤ (if (ns.length : Int) < 20 then (ns.length : Int) else 20) ∧ (if (ns.length : Int) < 20 then (ns.length : Int) else 20) ≤ 20 := by
      split <;> omega
    generalize (if (ns.length : Int) < 20 then (ns.length : Int) else 20) = m at hm0 ⊢
    refine ⟨_, rfl, by omega, by omega, ?_⟩
    refine for_range (lo := 0) (n := (12 + m).toNat) (fun i σ H' => ∃ o2 o3 o4 o5 o6 o7 o8 : Option V, σ = [some (.ref sa), some (.ref p), o2, o3, o4, o5, o6, o7, o8] ∧ PenAt H' p (10 * i)) ⟨none, none, none, none, none, none, none, rfl, pen1⟩ ?_ ?_
    · rintro i σ H2 hi ⟨o2, o3, o4, o5, o6, o7, o8, rfl, pen2⟩
      refine ⟨fun σ' H' => ∃ k : Nat, k < 12 ∧ σ' = [some (.ref sa), some (.ref p), some (.int (0 + (i : Nat))), some (.int k), some (.int 0), o5, o6, o7, o8] ∧ PenAt H' p (10 * i + 1), ?_, ?_⟩
      · refine ⟨_, rfl, _, _, rfl, rfl, _, rfl, ?_⟩
        by_cases c : (0 : Int) + (i : Nat) < 12
        · refine ifT c ?_
          refine ⟨_, rfl, (by show 2 ≤ sizeLine; decide), fun t ht => ⟨t, _, rfl, SqT.of upd_same, rfl, _, _, rfl, _, _, rfl, rfl, i, by omega, ?_, (pen2.keep (Same.upd ht)).mono (by omega)⟩⟩
          show [some (V.ref sa), some (.ref p), some (.int (0 + (i : Nat))), some (.int (0 + (i : Nat))), some (.int 0), o5, o6, o7, o8] = _
          rw [Int.zero_add]
        · refine ifF c ?_
          refine ⟨_, rfl, p, 12, 10 * i, rfl, pen2, by omega, by decide, by decide, fun r H3 r0 r1 pen3 _ => ?_⟩
          refine ⟨(by show 2 ≤ sizeLine; decide), fun t ht => ⟨t, _, rfl, SqT.of upd_same, rfl, _, _, rfl, _, _, rfl, rfl, r.toNat, by omega, ?_, pen3.keep (Same.upd ht)⟩⟩
          show [some (V.ref sa), some (.ref p), some (.int (0 + (i : Nat))), some (.int r), some (.int 0), o5, o6, o7, o8] = _
          rw [Int.toNat_of_nonneg r0]
      · rintro σ' H3 ⟨k, k12, rfl, pen3⟩
        refine ⟨7, rfl, by decide, by decide, ?_⟩
        refine for_range (lo := 0) (n := 7) (fun j σ H' => ∃ (a : Int) (o5 : Option V), σ = [some (.ref sa), some (.ref p), some (.int (0 + (i : Nat))), some (.int k), some (.int a), o5, o6, o7, o8] ∧ PenAt H' p (10 * i + 1 + j)) ⟨0, o5, rfl, pen3⟩ ?_ ?_
        · rintro j σ H4 hj ⟨a, o5', rfl, pen4⟩
          refine ⟨_, rfl, _, _, rfl, rfl, .inr ⟨by decide, by decide⟩, _, rfl, p, 1000003, _, rfl, pen4, by omega, by decide, by decide, fun r H5 r0 r1 pen5 _ => ?_⟩
          exact ⟨_, _, rfl, rfl, _, _, rfl, pen5⟩
        · rintro σ H4 ⟨a, o5', rfl, pen4⟩
          refine ⟨_, rfl, _, rfl, _, rfl, _, _, rfl, rfl, (by show 2 ≤ sizeLine; decide), fun t1 h1 => ⟨_, rfl, (by show 3 ≤ sizeLine; decide), fun t2 h2 => ⟨(by show 2 ≤ sizeLine; decide), fun t3 h3 => ⟨(by show 4 ≤ sizeLine; decide), fun l hl => ?_⟩⟩⟩⟩
          have e1 := Same.upd (o := .tup [.str "same", .str "a"]) h1
          have e2 := Same.upd (o := .tup [.str "a", .str "b", .int a]) h2
          have e3 := Same.upd (o := .tup [.ref t1, .ref t2]) h3
          have e4 := Same.upd (o := .lst [.int a, .int (0 - a), .str "states", .ref t3]) hl
          have f3 : ∀ H' : Hp, (∀ b xs, (upd (upd (upd (upd H4 t1 (.tup [.str "same", .str "a"])) t2 (.tup [.str "a", .str "b", .int a])) t3 (.tup [.ref t1, .ref t2])) l (.lst [.int a, .int (0 - a), .str "states", .ref t3])) b = some (.tup xs) → H' b = some (.tup xs)) →
              Fl H' 2 (.ref t3) (.tuple [.tuple [.str "same", .str "a"], .tuple [.str "a", .str "b", .int a]]) := fun H' kp =>
            .inr ⟨t3, _, _, rfl, rfl, kp _ _ (e4 _ _ upd_same), by show 2 ≤ 1000; decide,
              .cons (.inr ⟨t1, _, _, rfl, rfl, kp _ _ (e4 _ _ (e3 _ _ (e2 _ _ upd_same))), by show 2 ≤ 1000; decide, .cons (.inr ⟨_, rfl, rfl, by decide +kernel⟩) (.cons (.inr ⟨_, rfl, rfl, by decide +kernel⟩) .nil)⟩)
                (.cons (.inr ⟨t2, _, _, rfl, rfl, kp _ _ (e4 _ _ (e3 _ _ upd_same)), by show 3 ≤ 1000; decide, .cons (.inr ⟨_, rfl, rfl, by decide +kernel⟩) (.cons (.inr ⟨_, rfl, rfl, by decide +kernel⟩) (.cons (.inl ⟨_, rfl, rfl⟩) .nil))⟩) .nil)⟩
          have pen5 := (((pen4.keep e1).keep e2).keep e3).keep e4
          refine ⟨p, l, _, _, rfl, pen5, by omega, upd_same, by show 0 < 4; decide, by show 4 ≤ 1000000; decide, fun va ix H5 hv pen6 sb5 => ?_⟩
          have kp5 := sb5.tups pen5
          have fv : ∃ da, Fl H5 2 va da := by
            rcases ix with _ | _ | _ | _ | ix
            · cases hv; exact ⟨_, .inl (.inl ⟨_, rfl, rfl⟩)⟩
            · cases hv; exact ⟨_, .inl (.inl ⟨_, rfl, rfl⟩)⟩
            · cases hv; exact ⟨_, .inl (.inr ⟨_, rfl, rfl, by decide +kernel⟩)⟩
            · cases hv; exact ⟨_, f3 H5 kp5⟩
            · simp at hv
          obtain ⟨da, fa⟩ := fv
          clear f3 hv kp5 sb5
          refine ⟨_, rfl, p, 1000003, _, rfl, pen6, by omega, by decide, by decide, fun b H6 r0 r1 pen7 sb6 => ?_⟩
          have fa6 := fa.keep (sb6.tups pen6)
          have pen8 : PenAt H6 p (10 * (i + 1)) := pen7.mono (by omega)
          -- due
          refine ⟨fun σ' H' => ∃ (q : Addr) (vs : List V), σ' = [some (.ref sa), some (.ref p), some (.int (0 + (i : Nat))), some (.int k), some va, o5', some (.int b), some (.ref q), o8] ∧ PenAt H' p (10 * (i + 1)) ∧ Fl H' 2 va da ∧ H' q = some (.lst vs) ∧ Paired (Fl H' 2) vs (due k da b), ?_, ?_⟩
          · refine ⟨_, rfl, (by show 2 ≤ sizeLine; decide), fun q hq => ⟨_, _, rfl, .inl (SqL.of upd_same), rfl, rfl, _, rfl, ?_⟩⟩
            have s7 := Same.upd (o := .lst [.int 9, .int 11]) hq
            by_cases c : k = 9 ∨ k = 11
            · have z : due k da b = [] := by unfold due; rw [if_pos c]
              refine ifE (by rcases c with rfl | rfl <;> rfl) ?_
              exact ⟨by show 0 ≤ sizeLine; decide, fun x hx => ⟨x, [], rfl, (pen8.keep s7).keep (Same.upd hx), (fa6.same s7).same (Same.upd hx), upd_same, by rw [z]; exact .nil⟩⟩
            · have nz : inV (.int (k : Int)) [.int 9, .int 11] = false := by
                show ((9 : Int) == k || ((11 : Int) == k || false)) = false
                have n9 : ((9 : Int) == k) = false := by simp; omega
                have n11 : ((11 : Int) == k) = false := by simp; omega
                rw [n9, n11]; rfl
              refine ifE' nz ?_
              refine ⟨_, rfl, rfl, _, rfl, ?_⟩
              by_cases c1 : k = 1
              · subst c1
                refine ifT rfl ?_
                exact ⟨_, rfl, _, rfl, by show 2 ≤ sizeLine; decide, fun x hx => ⟨x, _, rfl, (pen8.keep s7).keep (Same.upd hx), (fa6.same s7).same (Same.upd hx), upd_same, .cons ((fa6.same s7).same (Same.upd hx)) (.cons (.inl (.inl ⟨_, rfl, rfl⟩)) .nil)⟩⟩
              · have z : due k da b = [da] := by unfold due; rw [if_neg c, if_neg c1]
                refine ifF (fun e => c1 (by injection e with e; omega)) ?_
                exact ⟨_, rfl, by show 1 ≤ sizeLine; decide, fun x hx => ⟨x, _, rfl, (pen8.keep s7).keep (Same.upd hx), (fa6.same s7).same (Same.upd hx), upd_same, by rw [z]; exact .cons ((fa6.same s7).same (Same.upd hx)) .nil⟩⟩
          · rintro σ' H7 ⟨q, vs, rfl, pen9, fa7, hq, hd⟩
            have sh : Sh 2 da := fa7.sh
            -- the first test
            refine ⟨_, rfl, _, rfl, _, rfl, k, va, b, da, rfl, k12, fa7, fun pc H8 s8 dc => ?_⟩
            refine ⟨12, rfl, by decide, by decide, fun D hD => ?_⟩
            refine lc_range (lo := 0) (n := 12) (fun i H' => Same H8 H' ∧ H' D = some (.lst ((List.range i).map fun j => V.bl (decide (k = j))))) ⟨Same.upd hD, upd_same⟩ ?_ ?_
            · rintro j H' hj ⟨sj, ej⟩
              refine ⟨rfl, _, rfl, _, rfl, rfl, _, ej, ?_, ?_, ?_⟩
              · rw [List.length_map, List.length_range]; exact Nat.lt_of_lt_of_le hj (by decide)
              · intro c o z
                rw [upd_ne (ne_of_none z hD)]; exact sj _ _ z
              · have ez : decide (V.int (0 + (j : Int)) = V.int (k : Int)) = decide (k = j) := by
                  by_cases c : k = j
                  · subst c; rw [decide_eq_true rfl]; exact decide_eq_true (by rw [Int.zero_add])
                  · rw [decide_eq_false c]; exact decide_eq_false fun e => c (by injection e with e; omega)
                rw [List.range_succ, List.map_append, ez]
                exact upd_same
            · rintro H9 ⟨s9, e9⟩
              refine ⟨_, rfl, (by show 3 ≤ sizeLine; decide), fun L hL => ?_⟩
              have s10 := Same.upd (o := .lst [.ref D, .ref q, .bl true]) hL
              have sq : Same H7 (upd H9 L (.lst [.ref D, .ref q, .bl true])) := (s8.trans s9).trans s10
              refine ⟨_, _, dpKeep (s9.trans s10) _ dc, .lst (SqL.of upd_same) (.cons (.lst (SqL.of (s10 _ _ e9)) (dpBits k _)) (.cons (.lst (SqL.of (sq _ _ hq)) (dpFl (L2.Paired.mapP hd fun _ _ z => z.same sq))) (.cons (.bl true) .nil))), (shTold sh).ok (by decide), (shTold sh).ok (by decide), _, rfl, ?_⟩
              refine ifE' (by show (!PyData.eqv _ _) = false; rw [show PyData.eqv (.list [.list (kindsD k), .list (due k da b), .bool true]) (.list [.list ((List.range 12).map fun j => PyData.bool (decide (k = j))), .list (due k da b), .bool true]) = true from (shTold sh).refl]; rfl) ?_
              generalize upd H9 L (.lst [.ref D, .ref q, .bl true]) = HA at sq ⊢
              have penA := pen9.keep sq
              have faA := fa7.same sq
              have hqA := sq _ _ hq
              have hdA : Paired (Fl HA 2) vs (due k da b) := L2.Paired.mapP hd fun _ _ z => z.same sq
              have shL : Sh 3 (.list (due k da b)) := Sh.list (shDue sh)
              -- what the second test leaves
              have fin : ∀ (pf : Addr) (vs' : List V) (HB : Hp), Same HA HB → HB pf = some (.lst vs') → Paired (Fl HB 2) vs' (due k da b) → rNeD K (.ref pf) (.ref q) HB fun x H' => ∃ kk, x = .bl kk ∧ (if kk = true then Q (.bl false) H' else ∃ z2 z3 z4 z5 z6 z7 z8 : Option V, [some (V.ref sa), some (.ref p), some (.int (0 + (i : Nat))), some (.int k), some va, o5', some (.int b), some (.ref q), o8] = [some (.ref sa), some (.ref p), z2, z3, z4, z5, z6, z7, z8] ∧ PenAt H' p (10 * (i + 1))) := by
                intro pf vs' HB sB eB fB
                refine ⟨_, _, .lst (SqL.of eB) (dpFl fB), .lst (SqL.of (sB _ _ hqA)) (dpFl (L2.Paired.mapP hdA fun _ _ z => z.same sB)), shL.ok (by decide), shL.ok (by decide), _, rfl, ?_⟩
                refine ifE' (by rw [shL.refl]; rfl) ?_
                exact ⟨_, _, _, _, _, _, _, rfl, penA.keep sB⟩
              refine ⟨_, rfl, _, rfl, _, _, rfl, rfl, _, rfl, ?_⟩
              by_cases c : (k : Int) < 6
              · refine ifT c ?_
                refine ⟨_, rfl, _, rfl, _, rfl, k, va, b, da, rfl, by omega, faA, fun pe od HB sB eB tB => ?_⟩
                refine ⟨k, pe, od, da, b, rfl, k12, eB, tB, fun pf vs' HC sC eC fC => ?_⟩
                exact ⟨_, rfl, fin pf vs' HC (sB.trans sC) eC fC⟩
              · refine ifF c ?_
                refine ⟨_, rfl, _, rfl, k, va, da, rfl, by omega, k12, faA, fun b' pe od HB sB eB tB => ?_⟩
                have tB' : Told HB k da b od := by
                  rcases tB with t | ⟨e, _⟩ | t
                  · exact .inl t
                  · omega
                  · exact .inr (.inr t)
                refine ⟨k, pe, od, da, b, rfl, k12, eB, tB', fun pf vs' HC sC eC fC => ?_⟩
                exact ⟨_, rfl, fin pf vs' HC (sB.trans sC) eC fC⟩
    · rintro σ H2 _
      exact kQ H2

end
end Kx

namespace Kx
open PySem L2
section
variable {P : Program} {w : World} {K : PySem.W.Frag} {mg : Str → Option Value} {base : Heap} {A : Ad}
theorem nd_inj : ∀ {l : List Nat}, l.Nodup → ∀ i j, i < l.length → j < l.length → l.getD i 0 = l.getD j 0 → i = j
  | [], _, i, _, h, _, _ => absurd h (Nat.not_lt_zero _)
  | a :: l, nd, 0, 0, _, _, _ => rfl
  | a :: l, nd, 0, j + 1, _, hj, e => by
    have hj' : j < l.length := by simpa using hj
    have m : l.getD j 0 ∈ l := by rw [List.getD_eq_getElem?_getD, List.getElem?_eq_getElem hj']; exact List.getElem_mem hj'
    exact absurd (show a ∈ l from (show a = l.getD j 0 from e) ▸ m) (List.nodup_cons.mp nd).1
  | a :: l, nd, i + 1, 0, hi, _, e => by
    have hi' : i < l.length := by simpa using hi
    have m : l.getD i 0 ∈ l := by rw [List.getD_eq_getElem?_getD, List.getElem?_eq_getElem hi']; exact List.getElem_mem hi'
    exact absurd (show a ∈ l from (show l.getD i 0 = a from e) ▸ m) (List.nodup_cons.mp nd).1
  | a :: l, nd, i + 1, j + 1, hi, hj, e => congrArg Nat.succ (nd_inj (List.nodup_cons.mp nd).2 i j (by simpa using hi) (by simpa using hj) e)
theorem nd_head {l : List Nat} {m : Nat} (nd : (m :: l).Nodup) (i : Nat) (hi : i < l.length) : l.getD i 0 ≠ m := fun e => by
  have k : l.getD i 0 ∈ l := by rw [List.getD_eq_getElem?_getD, List.getElem?_eq_getElem hi]; exact List.getElem_mem hi
  exact (List.nodup_cons.mp nd).1 (e ▸ k)
theorem Vals.reverse : ∀ {vs : List V} {us : List Value}, Vals vs us → Vals vs.reverse us.reverse
  | _, _, .nil => .nil
  | _, _, .cons r t => by
    rw [List.reverse_cons, List.reverse_cons]
    exact Paired.snoc (Vals.reverse t) r
theorem Fun.kb1 {x qual : Str} {st : Stmt} {f : Addr} {fd : FuncData} {ps ks : List Str} (F : Fun K x qual st f fd)
    (h : ∀ (kV doc pm : Value) (an : Option Addr) (cdv ct : Value) (us ws : List Value), us.length = 1 → ws.length = ks.length → bindArgs (PySem.W.fnOf x qual (defArgs st) (defBody st) (defScope st) .none kV doc pm an cdv ct) ⟨us, ks.zip ws⟩ = pure (ps.zip (us ++ ws.reverse))) :
    KBn K fd ps 1 ks (fun us ws => us ++ ws.reverse) (fun us ws => us ++ ws.reverse) := by
  obtain ⟨oc, od, kV, doc, pm, an, cdv, ct, osl, rfl, lk, hcd⟩ := F.ex
  exact ⟨fun s us ws _ l1 l2 => .of_eq (h kV doc pm an cdv ct us ws l1 l2), fun r1 r2 => Vals.append r1 (Vals.reverse r2)⟩

theorem all_mk {l : PySem.W.OpenLaw} {w : World} {K : PySem.W.Frag} {h : Heap} {mg : Str → Option Value} {fa : Addr} (X : K.In h) (G : h.Ns mainGlobals mg) (hfa : mg "law" = some (.ref fa))
    {M : Addr}
    {C0 N0 : Addr} {nm0 q0 : Str} {bs0 sub0 : List Value} {sn0 : List Str} {ab0 : Bool} {col0 : Option Bool} {dd0 : Option Addr} {ma0 mb0 mc0 md0 me0 : Option Value}
    {I0 : Addr} {odi0 ani0 : Option Addr} {sli0 : Array (Option Value)} {oci0 kVi0 dci0 pmi0 cdi0 cti0 : Value}
    {C1 N1 : Addr} {nm1 q1 : Str} {bs1 sub1 : List Value} {sn1 : List Str} {ab1 : Bool} {col1 : Option Bool} {dd1 : Option Addr} {ma1 mb1 mc1 md1 me1 : Option Value}
    {I1 : Addr} {odi1 ani1 : Option Addr} {sli1 : Array (Option Value)} {oci1 kVi1 dci1 pmi1 cdi1 cti1 : Value}
    {C2 N2 : Addr} {nm2 q2 : Str} {bs2 sub2 : List Value} {sn2 : List Str} {ab2 : Bool} {col2 : Option Bool} {dd2 : Option Addr} {ma2 mb2 mc2 md2 me2 : Option Value}
    {I2 : Addr} {odi2 ani2 : Option Addr} {sli2 : Array (Option Value)} {oci2 kVi2 dci2 pmi2 cdi2 cti2 : Value}
    {C3 N3 : Addr} {nm3 q3 : Str} {bs3 sub3 : List Value} {sn3 : List Str} {ab3 : Bool} {col3 : Option Bool} {dd3 : Option Addr} {ma3 mb3 mc3 md3 me3 : Option Value}
    {I3 : Addr} {odi3 ani3 : Option Addr} {sli3 : Array (Option Value)} {oci3 kVi3 dci3 pmi3 cdi3 cti3 : Value}
    {C4 N4 : Addr} {nm4 q4 : Str} {bs4 sub4 : List Value} {sn4 : List Str} {ab4 : Bool} {col4 : Option Bool} {dd4 : Option Addr} {ma4 mb4 mc4 md4 me4 : Option Value}
    {I4 : Addr} {odi4 ani4 : Option Addr} {sli4 : Array (Option Value)} {oci4 kVi4 dci4 pmi4 cdi4 cti4 : Value}
    {C5 N5 : Addr} {nm5 q5 : Str} {bs5 sub5 : List Value} {sn5 : List Str} {ab5 : Bool} {col5 : Option Bool} {dd5 : Option Addr} {ma5 mb5 mc5 md5 me5 : Option Value}
    {I5 : Addr} {odi5 ani5 : Option Addr} {sli5 : Array (Option Value)} {oci5 kVi5 dci5 pmi5 cdi5 cti5 : Value}
    {C6 N6 : Addr} {nm6 q6 : Str} {bs6 sub6 : List Value} {sn6 : List Str} {ab6 : Bool} {col6 : Option Bool} {dd6 : Option Addr} {ma6 mb6 mc6 md6 me6 : Option Value}
    {I6 : Addr} {odi6 ani6 : Option Addr} {sli6 : Array (Option Value)} {oci6 kVi6 dci6 pmi6 cdi6 cti6 : Value}
    {C7 N7 : Addr} {nm7 q7 : Str} {bs7 sub7 : List Value} {sn7 : List Str} {ab7 : Bool} {col7 : Option Bool} {dd7 : Option Addr} {ma7 mb7 mc7 md7 me7 : Option Value}
    {I7 : Addr} {odi7 ani7 : Option Addr} {sli7 : Array (Option Value)} {oci7 kVi7 dci7 pmi7 cdi7 cti7 : Value}
    {C8 N8 : Addr} {nm8 q8 : Str} {bs8 sub8 : List Value} {sn8 : List Str} {ab8 : Bool} {col8 : Option Bool} {dd8 : Option Addr} {ma8 mb8 mc8 md8 me8 : Option Value}
    {I8 : Addr} {odi8 ani8 : Option Addr} {sli8 : Array (Option Value)} {oci8 kVi8 dci8 pmi8 cdi8 cti8 : Value}
    {C9 N9 : Addr} {nm9 q9 : Str} {bs9 sub9 : List Value} {sn9 : List Str} {ab9 : Bool} {col9 : Option Bool} {dd9 : Option Addr} {ma9 mb9 mc9 md9 me9 : Option Value}
    {C10 N10 : Addr} {nm10 q10 : Str} {bs10 sub10 : List Value} {sn10 : List Str} {ab10 : Bool} {col10 : Option Bool} {dd10 : Option Addr} {ma10 mb10 mc10 md10 me10 : Option Value}
    {I10 : Addr} {odi10 ani10 : Option Addr} {sli10 : Array (Option Value)} {oci10 kVi10 dci10 pmi10 cdi10 cti10 : Value}
    {C11 N11 : Addr} {nm11 q11 : Str} {bs11 sub11 : List Value} {sn11 : List Str} {ab11 : Bool} {col11 : Option Bool} {dd11 : Option Addr} {ma11 mb11 mc11 md11 me11 : Option Value}
    {f_law_pen : Addr} {od_law_pen an_law_pen : Option Addr} {sl_law_pen : Array (Option Value)} {oc_law_pen kV_law_pen dc_law_pen pm_law_pen cd_law_pen ct_law_pen : Value}
    {f_law_draw : Addr} {od_law_draw an_law_draw : Option Addr} {sl_law_draw : Array (Option Value)} {oc_law_draw kV_law_draw dc_law_draw pm_law_draw cd_law_draw ct_law_draw : Value}
    {f_law_pick : Addr} {od_law_pick an_law_pick : Option Addr} {sl_law_pick : Array (Option Value)} {oc_law_pick kV_law_pick dc_law_pick pm_law_pick cd_law_pick ct_law_pick : Value}
    {fcopied : Addr} {odcopied ancopied : Option Addr} {slcopied : Array (Option Value)} {occopied kVcopied dccopied pmcopied cdcopied ctcopied : Value}
    {f_law_first : Addr} {od_law_first an_law_first : Option Addr} {sl_law_first : Array (Option Value)} {oc_law_first kV_law_first dc_law_first pm_law_first cd_law_first ct_law_first : Value}
    {f_law_second : Addr} {od_law_second an_law_second : Option Addr} {sl_law_second : Array (Option Value)} {oc_law_second kV_law_second dc_law_second pm_law_second cd_law_second ct_law_second : Value}
    {f_law_named : Addr} {od_law_named an_law_named : Option Addr} {sl_law_named : Array (Option Value)} {oc_law_named kV_law_named dc_law_named pm_law_named cd_law_named ct_law_named : Value}
    {f_law_named_too : Addr} {od_law_named_too an_law_named_too : Option Addr} {sl_law_named_too : Array (Option Value)} {oc_law_named_too kV_law_named_too dc_law_named_too pm_law_named_too cd_law_named_too ct_law_named_too : Value}
    {f_law_kinds : Addr} {od_law_kinds an_law_kinds : Option Addr} {sl_law_kinds : Array (Option Value)} {oc_law_kinds kV_law_kinds dc_law_kinds pm_law_kinds cd_law_kinds ct_law_kinds : Value}
    {f_law_fields : Addr} {od_law_fields an_law_fields : Option Addr} {sl_law_fields : Array (Option Value)} {oc_law_fields kV_law_fields dc_law_fields pm_law_fields cd_law_fields ct_law_fields : Value}
    {f_law_caught : Addr} {od_law_caught an_law_caught : Option Addr} {sl_law_caught : Array (Option Value)} {oc_law_caught kV_law_caught dc_law_caught pm_law_caught cd_law_caught ct_law_caught : Value}
    {flaw : Addr} {odlaw anlaw : Option Addr} {sllaw : Array (Option Value)} {oclaw kVlaw dclaw pmlaw cdlaw ctlaw : Value}
    (hn : PySem.W.specialIn K (.builtin "object.__class__") "__get__" = some (some (.builtin "getset_descriptor.__get__")))
    (ht : PySem.W.takesIn K (.builtin "object.__class__") = some true)
    (aM : PySem.W.nsIn K mainGlobals "MissError" = some (some (.ref M)))
    (m1 : PySem.W.subIn K (.ref M) (.type "BaseException") = some true)
    (m2 : PySem.W.hasDictIn K M = true)
    (m3 : PySem.W.typeIn K (.ref M) = some (.type "type"))
    (aC0 : PySem.W.nsIn K mainGlobals "BadText" = some (some (.ref C0)))
    (xL0 : K.lookup C0 = some (excClassObj nm0 q0 C0 N0 bs0 (tailM M) true sn0 sub0 ab0 col0 dd0 ma0 mb0 mc0 md0 me0 "ValueError.__new__"))
    (sa0 : PySem.W.findIn K (.ref C0) "__setattr__" = some (some (.builtin "object.__setattr__")))
    (ga0 : PySem.W.findIn K (.ref C0) "__getattribute__" = some (some (.builtin "BaseException.__getattribute__")))
    (gg0 : PySem.W.findIn K (.ref C0) "__getattr__" = some none)
    (hc0 : PySem.W.findIn K (.ref C0) "__class__" = some (some (.builtin "object.__class__")))
    (kC0 : PySem.W.keepIn K (.ref C0) = true)
    (iC0 : PySem.W.findIn K (.ref C0) "__init__" = some (some (.ref I0)))
    (tI0 : PySem.W.typeIn K (.ref I0) = some (.type "function"))
    (lI0 : K.lookup I0 = some ⟨oci0, odi0, .func (PySem.W.fnOf "__init__" "BadText.__init__" (defArgs s_BadText) (defBody s_BadText) (defScope s_BadText) .none kVi0 dci0 pmi0 ani0 cdi0 cti0), sli0⟩)
    (cI0 : PySem.W.codeIn K cdi0 "BadText.__init__" = true)
    (kI0 : PySem.W.keepIn K (.ref I0) = true)
    (nf0_line : PySem.W.findIn K (.ref C0) "line" = some none)
    (aC1 : PySem.W.nsIn K mainGlobals "BadMachine" = some (some (.ref C1)))
    (xL1 : K.lookup C1 = some (excClassObj nm1 q1 C1 N1 bs1 (tailM M) true sn1 sub1 ab1 col1 dd1 ma1 mb1 mc1 md1 me1 "ValueError.__new__"))
    (sa1 : PySem.W.findIn K (.ref C1) "__setattr__" = some (some (.builtin "object.__setattr__")))
    (ga1 : PySem.W.findIn K (.ref C1) "__getattribute__" = some (some (.builtin "BaseException.__getattribute__")))
    (gg1 : PySem.W.findIn K (.ref C1) "__getattr__" = some none)
    (hc1 : PySem.W.findIn K (.ref C1) "__class__" = some (some (.builtin "object.__class__")))
    (kC1 : PySem.W.keepIn K (.ref C1) = true)
    (iC1 : PySem.W.findIn K (.ref C1) "__init__" = some (some (.ref I1)))
    (tI1 : PySem.W.typeIn K (.ref I1) = some (.type "function"))
    (lI1 : K.lookup I1 = some ⟨oci1, odi1, .func (PySem.W.fnOf "__init__" "BadMachine.__init__" (defArgs s_BadMachine) (defBody s_BadMachine) (defScope s_BadMachine) .none kVi1 dci1 pmi1 ani1 cdi1 cti1), sli1⟩)
    (cI1 : PySem.W.codeIn K cdi1 "BadMachine.__init__" = true)
    (kI1 : PySem.W.keepIn K (.ref I1) = true)
    (nf1_state : PySem.W.findIn K (.ref C1) "state" = some none)
    (nf1_place : PySem.W.findIn K (.ref C1) "place" = some none)
    (aC2 : PySem.W.nsIn K mainGlobals "BadSign" = some (some (.ref C2)))
    (xL2 : K.lookup C2 = some (excClassObj nm2 q2 C2 N2 bs2 (tailM M) true sn2 sub2 ab2 col2 dd2 ma2 mb2 mc2 md2 me2 "ValueError.__new__"))
    (sa2 : PySem.W.findIn K (.ref C2) "__setattr__" = some (some (.builtin "object.__setattr__")))
    (ga2 : PySem.W.findIn K (.ref C2) "__getattribute__" = some (some (.builtin "BaseException.__getattribute__")))
    (gg2 : PySem.W.findIn K (.ref C2) "__getattr__" = some none)
    (hc2 : PySem.W.findIn K (.ref C2) "__class__" = some (some (.builtin "object.__class__")))
    (kC2 : PySem.W.keepIn K (.ref C2) = true)
    (iC2 : PySem.W.findIn K (.ref C2) "__init__" = some (some (.ref I2)))
    (tI2 : PySem.W.typeIn K (.ref I2) = some (.type "function"))
    (lI2 : K.lookup I2 = some ⟨oci2, odi2, .func (PySem.W.fnOf "__init__" "BadSign.__init__" (defArgs s_BadSign) (defBody s_BadSign) (defScope s_BadSign) .none kVi2 dci2 pmi2 ani2 cdi2 cti2), sli2⟩)
    (cI2 : PySem.W.codeIn K cdi2 "BadSign.__init__" = true)
    (kI2 : PySem.W.keepIn K (.ref I2) = true)
    (nf2_place : PySem.W.findIn K (.ref C2) "place" = some none)
    (aC3 : PySem.W.nsIn K mainGlobals "BadEdit" = some (some (.ref C3)))
    (xL3 : K.lookup C3 = some (excClassObj nm3 q3 C3 N3 bs3 (tailM M) true sn3 sub3 ab3 col3 dd3 ma3 mb3 mc3 md3 me3 "ValueError.__new__"))
    (sa3 : PySem.W.findIn K (.ref C3) "__setattr__" = some (some (.builtin "object.__setattr__")))
    (ga3 : PySem.W.findIn K (.ref C3) "__getattribute__" = some (some (.builtin "BaseException.__getattribute__")))
    (gg3 : PySem.W.findIn K (.ref C3) "__getattr__" = some none)
    (hc3 : PySem.W.findIn K (.ref C3) "__class__" = some (some (.builtin "object.__class__")))
    (kC3 : PySem.W.keepIn K (.ref C3) = true)
    (iC3 : PySem.W.findIn K (.ref C3) "__init__" = some (some (.ref I3)))
    (tI3 : PySem.W.typeIn K (.ref I3) = some (.type "function"))
    (lI3 : K.lookup I3 = some ⟨oci3, odi3, .func (PySem.W.fnOf "__init__" "BadEdit.__init__" (defArgs s_BadEdit) (defBody s_BadEdit) (defScope s_BadEdit) .none kVi3 dci3 pmi3 ani3 cdi3 cti3), sli3⟩)
    (cI3 : PySem.W.codeIn K cdi3 "BadEdit.__init__" = true)
    (kI3 : PySem.W.keepIn K (.ref I3) = true)
    (nf3_index : PySem.W.findIn K (.ref C3) "index" = some none)
    (aC4 : PySem.W.nsIn K mainGlobals "BadColumn" = some (some (.ref C4)))
    (xL4 : K.lookup C4 = some (excClassObj nm4 q4 C4 N4 bs4 (tailM M) true sn4 sub4 ab4 col4 dd4 ma4 mb4 mc4 md4 me4 "ValueError.__new__"))
    (sa4 : PySem.W.findIn K (.ref C4) "__setattr__" = some (some (.builtin "object.__setattr__")))
    (ga4 : PySem.W.findIn K (.ref C4) "__getattribute__" = some (some (.builtin "BaseException.__getattribute__")))
    (gg4 : PySem.W.findIn K (.ref C4) "__getattr__" = some none)
    (hc4 : PySem.W.findIn K (.ref C4) "__class__" = some (some (.builtin "object.__class__")))
    (kC4 : PySem.W.keepIn K (.ref C4) = true)
    (iC4 : PySem.W.findIn K (.ref C4) "__init__" = some (some (.ref I4)))
    (tI4 : PySem.W.typeIn K (.ref I4) = some (.type "function"))
    (lI4 : K.lookup I4 = some ⟨oci4, odi4, .func (PySem.W.fnOf "__init__" "BadColumn.__init__" (defArgs s_BadColumn) (defBody s_BadColumn) (defScope s_BadColumn) .none kVi4 dci4 pmi4 ani4 cdi4 cti4), sli4⟩)
    (cI4 : PySem.W.codeIn K cdi4 "BadColumn.__init__" = true)
    (kI4 : PySem.W.keepIn K (.ref I4) = true)
    (nf4_index : PySem.W.findIn K (.ref C4) "index" = some none)
    (aC5 : PySem.W.nsIn K mainGlobals "BadBound" = some (some (.ref C5)))
    (xL5 : K.lookup C5 = some (excClassObj nm5 q5 C5 N5 bs5 (tailM M) true sn5 sub5 ab5 col5 dd5 ma5 mb5 mc5 md5 me5 "ValueError.__new__"))
    (sa5 : PySem.W.findIn K (.ref C5) "__setattr__" = some (some (.builtin "object.__setattr__")))
    (ga5 : PySem.W.findIn K (.ref C5) "__getattribute__" = some (some (.builtin "BaseException.__getattribute__")))
    (gg5 : PySem.W.findIn K (.ref C5) "__getattr__" = some none)
    (hc5 : PySem.W.findIn K (.ref C5) "__class__" = some (some (.builtin "object.__class__")))
    (kC5 : PySem.W.keepIn K (.ref C5) = true)
    (iC5 : PySem.W.findIn K (.ref C5) "__init__" = some (some (.ref I5)))
    (tI5 : PySem.W.typeIn K (.ref I5) = some (.type "function"))
    (lI5 : K.lookup I5 = some ⟨oci5, odi5, .func (PySem.W.fnOf "__init__" "BadBound.__init__" (defArgs s_BadBound) (defBody s_BadBound) (defScope s_BadBound) .none kVi5 dci5 pmi5 ani5 cdi5 cti5), sli5⟩)
    (cI5 : PySem.W.codeIn K cdi5 "BadBound.__init__" = true)
    (kI5 : PySem.W.keepIn K (.ref I5) = true)
    (nf5_bound : PySem.W.findIn K (.ref C5) "bound" = some none)
    (aC6 : PySem.W.nsIn K mainGlobals "BadKeys" = some (some (.ref C6)))
    (xL6 : K.lookup C6 = some (excClassObj nm6 q6 C6 N6 bs6 (tailM M) true sn6 sub6 ab6 col6 dd6 ma6 mb6 mc6 md6 me6 "ValueError.__new__"))
    (sa6 : PySem.W.findIn K (.ref C6) "__setattr__" = some (some (.builtin "object.__setattr__")))
    (ga6 : PySem.W.findIn K (.ref C6) "__getattribute__" = some (some (.builtin "BaseException.__getattribute__")))
    (gg6 : PySem.W.findIn K (.ref C6) "__getattr__" = some none)
    (hc6 : PySem.W.findIn K (.ref C6) "__class__" = some (some (.builtin "object.__class__")))
    (kC6 : PySem.W.keepIn K (.ref C6) = true)
    (iC6 : PySem.W.findIn K (.ref C6) "__init__" = some (some (.ref I6)))
    (tI6 : PySem.W.typeIn K (.ref I6) = some (.type "function"))
    (lI6 : K.lookup I6 = some ⟨oci6, odi6, .func (PySem.W.fnOf "__init__" "BadKeys.__init__" (defArgs s_BadKeys) (defBody s_BadKeys) (defScope s_BadKeys) .none kVi6 dci6 pmi6 ani6 cdi6 cti6), sli6⟩)
    (cI6 : PySem.W.codeIn K cdi6 "BadKeys.__init__" = true)
    (kI6 : PySem.W.keepIn K (.ref I6) = true)
    (nf6_key : PySem.W.findIn K (.ref C6) "key" = some none)
    (aC7 : PySem.W.nsIn K mainGlobals "BadName" = some (some (.ref C7)))
    (xL7 : K.lookup C7 = some (excClassObj nm7 q7 C7 N7 bs7 (tailM M) true sn7 sub7 ab7 col7 dd7 ma7 mb7 mc7 md7 me7 "ValueError.__new__"))
    (sa7 : PySem.W.findIn K (.ref C7) "__setattr__" = some (some (.builtin "object.__setattr__")))
    (ga7 : PySem.W.findIn K (.ref C7) "__getattribute__" = some (some (.builtin "BaseException.__getattribute__")))
    (gg7 : PySem.W.findIn K (.ref C7) "__getattr__" = some none)
    (hc7 : PySem.W.findIn K (.ref C7) "__class__" = some (some (.builtin "object.__class__")))
    (kC7 : PySem.W.keepIn K (.ref C7) = true)
    (iC7 : PySem.W.findIn K (.ref C7) "__init__" = some (some (.ref I7)))
    (tI7 : PySem.W.typeIn K (.ref I7) = some (.type "function"))
    (lI7 : K.lookup I7 = some ⟨oci7, odi7, .func (PySem.W.fnOf "__init__" "BadName.__init__" (defArgs s_BadName) (defBody s_BadName) (defScope s_BadName) .none kVi7 dci7 pmi7 ani7 cdi7 cti7), sli7⟩)
    (cI7 : PySem.W.codeIn K cdi7 "BadName.__init__" = true)
    (kI7 : PySem.W.keepIn K (.ref I7) = true)
    (nf7_name : PySem.W.findIn K (.ref C7) "name" = some none)
    (aC8 : PySem.W.nsIn K mainGlobals "TooMany" = some (some (.ref C8)))
    (xL8 : K.lookup C8 = some (excClassObj nm8 q8 C8 N8 bs8 (tailM M) true sn8 sub8 ab8 col8 dd8 ma8 mb8 mc8 md8 me8 "ValueError.__new__"))
    (sa8 : PySem.W.findIn K (.ref C8) "__setattr__" = some (some (.builtin "object.__setattr__")))
    (ga8 : PySem.W.findIn K (.ref C8) "__getattribute__" = some (some (.builtin "BaseException.__getattribute__")))
    (gg8 : PySem.W.findIn K (.ref C8) "__getattr__" = some none)
    (hc8 : PySem.W.findIn K (.ref C8) "__class__" = some (some (.builtin "object.__class__")))
    (kC8 : PySem.W.keepIn K (.ref C8) = true)
    (iC8 : PySem.W.findIn K (.ref C8) "__init__" = some (some (.ref I8)))
    (tI8 : PySem.W.typeIn K (.ref I8) = some (.type "function"))
    (lI8 : K.lookup I8 = some ⟨oci8, odi8, .func (PySem.W.fnOf "__init__" "TooMany.__init__" (defArgs s_TooMany) (defBody s_TooMany) (defScope s_TooMany) .none kVi8 dci8 pmi8 ani8 cdi8 cti8), sli8⟩)
    (cI8 : PySem.W.codeIn K cdi8 "TooMany.__init__" = true)
    (kI8 : PySem.W.keepIn K (.ref I8) = true)
    (nf8_what : PySem.W.findIn K (.ref C8) "what" = some none)
    (aC9 : PySem.W.nsIn K mainGlobals "Unlike" = some (some (.ref C9)))
    (xL9 : K.lookup C9 = some (excClassObj nm9 q9 C9 N9 bs9 (tailM M) true sn9 sub9 ab9 col9 dd9 ma9 mb9 mc9 md9 me9 "ValueError.__new__"))
    (sa9 : PySem.W.findIn K (.ref C9) "__setattr__" = some (some (.builtin "object.__setattr__")))
    (ga9 : PySem.W.findIn K (.ref C9) "__getattribute__" = some (some (.builtin "BaseException.__getattribute__")))
    (gg9 : PySem.W.findIn K (.ref C9) "__getattr__" = some none)
    (hc9 : PySem.W.findIn K (.ref C9) "__class__" = some (some (.builtin "object.__class__")))
    (kC9 : PySem.W.keepIn K (.ref C9) = true)
    (xC9 : PySem.W.excIn K C9 [.type "ValueError", .type "Exception", .type "BaseException", .type "object"] "ValueError.__new__" = true)
    (aC10 : PySem.W.nsIn K mainGlobals "Misses" = some (some (.ref C10)))
    (xL10 : K.lookup C10 = some (excClassObj nm10 q10 C10 N10 bs10 (tailM M) true sn10 sub10 ab10 col10 dd10 ma10 mb10 mc10 md10 me10 "ValueError.__new__"))
    (sa10 : PySem.W.findIn K (.ref C10) "__setattr__" = some (some (.builtin "object.__setattr__")))
    (ga10 : PySem.W.findIn K (.ref C10) "__getattribute__" = some (some (.builtin "BaseException.__getattribute__")))
    (gg10 : PySem.W.findIn K (.ref C10) "__getattr__" = some none)
    (hc10 : PySem.W.findIn K (.ref C10) "__class__" = some (some (.builtin "object.__class__")))
    (kC10 : PySem.W.keepIn K (.ref C10) = true)
    (iC10 : PySem.W.findIn K (.ref C10) "__init__" = some (some (.ref I10)))
    (tI10 : PySem.W.typeIn K (.ref I10) = some (.type "function"))
    (lI10 : K.lookup I10 = some ⟨oci10, odi10, .func (PySem.W.fnOf "__init__" "Misses.__init__" (defArgs s_Misses) (defBody s_Misses) (defScope s_Misses) .none kVi10 dci10 pmi10 ani10 cdi10 cti10), sli10⟩)
    (cI10 : PySem.W.codeIn K cdi10 "Misses.__init__" = true)
    (kI10 : PySem.W.keepIn K (.ref I10) = true)
    (nf10_columns : PySem.W.findIn K (.ref C10) "columns" = some none)
    (aC11 : PySem.W.nsIn K mainGlobals "NothingLeft" = some (some (.ref C11)))
    (xL11 : K.lookup C11 = some (excClassObj nm11 q11 C11 N11 bs11 (tailM M) true sn11 sub11 ab11 col11 dd11 ma11 mb11 mc11 md11 me11 "ValueError.__new__"))
    (sa11 : PySem.W.findIn K (.ref C11) "__setattr__" = some (some (.builtin "object.__setattr__")))
    (ga11 : PySem.W.findIn K (.ref C11) "__getattribute__" = some (some (.builtin "BaseException.__getattribute__")))
    (gg11 : PySem.W.findIn K (.ref C11) "__getattr__" = some none)
    (hc11 : PySem.W.findIn K (.ref C11) "__class__" = some (some (.builtin "object.__class__")))
    (kC11 : PySem.W.keepIn K (.ref C11) = true)
    (xC11 : PySem.W.excIn K C11 [.type "ValueError", .type "Exception", .type "BaseException", .type "object"] "ValueError.__new__" = true)
    (a_law_pen : PySem.W.nsIn K mainGlobals "_law_pen" = some (some (.ref f_law_pen)))
    (l_law_pen : K.lookup f_law_pen = some ⟨oc_law_pen, od_law_pen, .func (PySem.W.fnOf "_law_pen" "_law_pen" (defArgs s__law_pen) (defBody s__law_pen) (defScope s__law_pen) .none kV_law_pen dc_law_pen pm_law_pen an_law_pen cd_law_pen ct_law_pen), sl_law_pen⟩)
    (c_law_pen : PySem.W.codeIn K cd_law_pen "_law_pen" = true)
    (k_law_pen : PySem.W.keepIn K (.ref f_law_pen) = true)
    (a_law_draw : PySem.W.nsIn K mainGlobals "_law_draw" = some (some (.ref f_law_draw)))
    (l_law_draw : K.lookup f_law_draw = some ⟨oc_law_draw, od_law_draw, .func (PySem.W.fnOf "_law_draw" "_law_draw" (defArgs s__law_draw) (defBody s__law_draw) (defScope s__law_draw) .none kV_law_draw dc_law_draw pm_law_draw an_law_draw cd_law_draw ct_law_draw), sl_law_draw⟩)
    (c_law_draw : PySem.W.codeIn K cd_law_draw "_law_draw" = true)
    (k_law_draw : PySem.W.keepIn K (.ref f_law_draw) = true)
    (a_law_pick : PySem.W.nsIn K mainGlobals "_law_pick" = some (some (.ref f_law_pick)))
    (l_law_pick : K.lookup f_law_pick = some ⟨oc_law_pick, od_law_pick, .func (PySem.W.fnOf "_law_pick" "_law_pick" (defArgs s__law_pick) (defBody s__law_pick) (defScope s__law_pick) .none kV_law_pick dc_law_pick pm_law_pick an_law_pick cd_law_pick ct_law_pick), sl_law_pick⟩)
    (c_law_pick : PySem.W.codeIn K cd_law_pick "_law_pick" = true)
    (k_law_pick : PySem.W.keepIn K (.ref f_law_pick) = true)
    (acopied : PySem.W.nsIn K mainGlobals "copied" = some (some (.ref fcopied)))
    (lcopied : K.lookup fcopied = some ⟨occopied, odcopied, .func (PySem.W.fnOf "copied" "copied" (defArgs s_copied) (defBody s_copied) (defScope s_copied) .none kVcopied dccopied pmcopied ancopied cdcopied ctcopied), slcopied⟩)
    (ccopied : PySem.W.codeIn K cdcopied "copied" = true)
    (kcopied : PySem.W.keepIn K (.ref fcopied) = true)
    (a_law_first : PySem.W.nsIn K mainGlobals "_law_first" = some (some (.ref f_law_first)))
    (l_law_first : K.lookup f_law_first = some ⟨oc_law_first, od_law_first, .func (PySem.W.fnOf "_law_first" "_law_first" (defArgs s__law_first) (defBody s__law_first) (defScope s__law_first) .none kV_law_first dc_law_first pm_law_first an_law_first cd_law_first ct_law_first), sl_law_first⟩)
    (c_law_first : PySem.W.codeIn K cd_law_first "_law_first" = true)
    (k_law_first : PySem.W.keepIn K (.ref f_law_first) = true)
    (a_law_second : PySem.W.nsIn K mainGlobals "_law_second" = some (some (.ref f_law_second)))
    (l_law_second : K.lookup f_law_second = some ⟨oc_law_second, od_law_second, .func (PySem.W.fnOf "_law_second" "_law_second" (defArgs s__law_second) (defBody s__law_second) (defScope s__law_second) .none kV_law_second dc_law_second pm_law_second an_law_second cd_law_second ct_law_second), sl_law_second⟩)
    (c_law_second : PySem.W.codeIn K cd_law_second "_law_second" = true)
    (k_law_second : PySem.W.keepIn K (.ref f_law_second) = true)
    (a_law_named : PySem.W.nsIn K mainGlobals "_law_named" = some (some (.ref f_law_named)))
    (l_law_named : K.lookup f_law_named = some ⟨oc_law_named, od_law_named, .func (PySem.W.fnOf "_law_named" "_law_named" (defArgs s__law_named) (defBody s__law_named) (defScope s__law_named) .none kV_law_named dc_law_named pm_law_named an_law_named cd_law_named ct_law_named), sl_law_named⟩)
    (c_law_named : PySem.W.codeIn K cd_law_named "_law_named" = true)
    (k_law_named : PySem.W.keepIn K (.ref f_law_named) = true)
    (a_law_named_too : PySem.W.nsIn K mainGlobals "_law_named_too" = some (some (.ref f_law_named_too)))
    (l_law_named_too : K.lookup f_law_named_too = some ⟨oc_law_named_too, od_law_named_too, .func (PySem.W.fnOf "_law_named_too" "_law_named_too" (defArgs s__law_named_too) (defBody s__law_named_too) (defScope s__law_named_too) .none kV_law_named_too dc_law_named_too pm_law_named_too an_law_named_too cd_law_named_too ct_law_named_too), sl_law_named_too⟩)
    (c_law_named_too : PySem.W.codeIn K cd_law_named_too "_law_named_too" = true)
    (k_law_named_too : PySem.W.keepIn K (.ref f_law_named_too) = true)
    (a_law_kinds : PySem.W.nsIn K mainGlobals "_law_kinds" = some (some (.ref f_law_kinds)))
    (l_law_kinds : K.lookup f_law_kinds = some ⟨oc_law_kinds, od_law_kinds, .func (PySem.W.fnOf "_law_kinds" "_law_kinds" (defArgs s__law_kinds) (defBody s__law_kinds) (defScope s__law_kinds) .none kV_law_kinds dc_law_kinds pm_law_kinds an_law_kinds cd_law_kinds ct_law_kinds), sl_law_kinds⟩)
    (c_law_kinds : PySem.W.codeIn K cd_law_kinds "_law_kinds" = true)
    (k_law_kinds : PySem.W.keepIn K (.ref f_law_kinds) = true)
    (a_law_fields : PySem.W.nsIn K mainGlobals "_law_fields" = some (some (.ref f_law_fields)))
    (l_law_fields : K.lookup f_law_fields = some ⟨oc_law_fields, od_law_fields, .func (PySem.W.fnOf "_law_fields" "_law_fields" (defArgs s__law_fields) (defBody s__law_fields) (defScope s__law_fields) .none kV_law_fields dc_law_fields pm_law_fields an_law_fields cd_law_fields ct_law_fields), sl_law_fields⟩)
    (c_law_fields : PySem.W.codeIn K cd_law_fields "_law_fields" = true)
    (k_law_fields : PySem.W.keepIn K (.ref f_law_fields) = true)
    (a_law_caught : PySem.W.nsIn K mainGlobals "_law_caught" = some (some (.ref f_law_caught)))
    (l_law_caught : K.lookup f_law_caught = some ⟨oc_law_caught, od_law_caught, .func (PySem.W.fnOf "_law_caught" "_law_caught" (defArgs s__law_caught) (defBody s__law_caught) (defScope s__law_caught) .none kV_law_caught dc_law_caught pm_law_caught an_law_caught cd_law_caught ct_law_caught), sl_law_caught⟩)
    (c_law_caught : PySem.W.codeIn K cd_law_caught "_law_caught" = true)
    (k_law_caught : PySem.W.keepIn K (.ref f_law_caught) = true)
    (alaw : PySem.W.nsIn K mainGlobals "law" = some (some (.ref flaw)))
    (llaw : K.lookup flaw = some ⟨oclaw, odlaw, .func (PySem.W.fnOf "law" "law" (defArgs s_law) (defBody s_law) (defScope s_law) .none kVlaw dclaw pmlaw anlaw cdlaw ctlaw), sllaw⟩)
    (claw : PySem.W.codeIn K cdlaw "law" = true)
    (klaw : PySem.W.keepIn K (.ref flaw) = true)
    (z_isinstance : PySem.W.nsIn K mainGlobals "isinstance" = some none)
    (z_range : PySem.W.nsIn K mainGlobals "range" = some none)
    (z_min : PySem.W.nsIn K mainGlobals "min" = some none)
    (z_len : PySem.W.nsIn K mainGlobals "len" = some none)
    (z_list : PySem.W.nsIn K mainGlobals "list" = some none)
    (z_tuple : PySem.W.nsIn K mainGlobals "tuple" = some none)
    (z_dict : PySem.W.nsIn K mainGlobals "dict" = some none)
    (z_ValueError : PySem.W.nsIn K mainGlobals "ValueError" = some none)
    (z_int : PySem.W.nsIn K mainGlobals "int" = some none)
    (nd : (M :: [C0, C1, C2, C3, C4, C5, C6, C7, C8, C9, C10, C11]).Nodup)
    : ∃ fd : FuncData, (∀ (s : Shared) (v : Value), BindsTo s fd ⟨[v], []⟩ [("script", v)]) ∧ ∀ base : Heap, K.In base → base.Ns mainGlobals mg → FnOk l.prog w K mg base CX0 9 fa fd ["script"] (spLaw K) := by
  have e : flaw = fa := Value.ref.inj (Option.some.inj ((PySem.W.mg_of X G alaw).symm.trans hfa))
  subst e
  have F_law_pen := fun_mk (st := s__law_pen) l_law_pen c_law_pen k_law_pen
  have D_law_pen : DefT K mg "_law_pen" "_law_pen" s__law_pen ["script"] f_law_pen _ := ⟨PySem.W.mg_of X G a_law_pen, F_law_pen, F_law_pen.binds (ps := ["script"]) fun _ _ _ _ _ _ us hl => match us, hl with | [_], _ => rfl⟩
  have F_law_draw := fun_mk (st := s__law_draw) l_law_draw c_law_draw k_law_draw
  have D_law_draw : DefT K mg "_law_draw" "_law_draw" s__law_draw ["pen", "many"] f_law_draw _ := ⟨PySem.W.mg_of X G a_law_draw, F_law_draw, F_law_draw.binds (ps := ["pen", "many"]) fun _ _ _ _ _ _ us hl => match us, hl with | [_, _], _ => rfl⟩
  have F_law_pick := fun_mk (st := s__law_pick) l_law_pick c_law_pick k_law_pick
  have D_law_pick : DefT K mg "_law_pick" "_law_pick" s__law_pick ["pen", "items"] f_law_pick _ := ⟨PySem.W.mg_of X G a_law_pick, F_law_pick, F_law_pick.binds (ps := ["pen", "items"]) fun _ _ _ _ _ _ us hl => match us, hl with | [_, _], _ => rfl⟩
  have Fcopied := fun_mk (st := s_copied) lcopied ccopied kcopied
  have Dcopied : DefT K mg "copied" "copied" s_copied ["field"] fcopied _ := ⟨PySem.W.mg_of X G acopied, Fcopied, Fcopied.binds (ps := ["field"]) fun _ _ _ _ _ _ us hl => match us, hl with | [_], _ => rfl⟩
  have F_law_first := fun_mk (st := s__law_first) l_law_first c_law_first k_law_first
  have D_law_first : DefT K mg "_law_first" "_law_first" s__law_first ["k", "a", "b"] f_law_first _ := ⟨PySem.W.mg_of X G a_law_first, F_law_first, F_law_first.binds (ps := ["k", "a", "b"]) fun _ _ _ _ _ _ us hl => match us, hl with | [_, _, _], _ => rfl⟩
  have F_law_second := fun_mk (st := s__law_second) l_law_second c_law_second k_law_second
  have D_law_second : DefT K mg "_law_second" "_law_second" s__law_second ["k", "a"] f_law_second _ := ⟨PySem.W.mg_of X G a_law_second, F_law_second, F_law_second.binds (ps := ["k", "a"]) fun _ _ _ _ _ _ us hl => match us, hl with | [_, _], _ => rfl⟩
  have F_law_named := fun_mk (st := s__law_named) l_law_named c_law_named k_law_named
  have D_law_named : DefT K mg "_law_named" "_law_named" s__law_named ["k", "a", "b"] f_law_named _ := ⟨PySem.W.mg_of X G a_law_named, F_law_named, F_law_named.binds (ps := ["k", "a", "b"]) fun _ _ _ _ _ _ us hl => match us, hl with | [_, _, _], _ => rfl⟩
  have F_law_named_too := fun_mk (st := s__law_named_too) l_law_named_too c_law_named_too k_law_named_too
  have D_law_named_too : DefT K mg "_law_named_too" "_law_named_too" s__law_named_too ["k", "a"] f_law_named_too _ := ⟨PySem.W.mg_of X G a_law_named_too, F_law_named_too, F_law_named_too.binds (ps := ["k", "a"]) fun _ _ _ _ _ _ us hl => match us, hl with | [_, _], _ => rfl⟩
  have F_law_kinds := fun_mk (st := s__law_kinds) l_law_kinds c_law_kinds k_law_kinds
  have D_law_kinds : DefT K mg "_law_kinds" "_law_kinds" s__law_kinds ["e"] f_law_kinds _ := ⟨PySem.W.mg_of X G a_law_kinds, F_law_kinds, F_law_kinds.binds (ps := ["e"]) fun _ _ _ _ _ _ us hl => match us, hl with | [_], _ => rfl⟩
  have F_law_fields := fun_mk (st := s__law_fields) l_law_fields c_law_fields k_law_fields
  have D_law_fields : DefT K mg "_law_fields" "_law_fields" s__law_fields ["k", "e"] f_law_fields _ := ⟨PySem.W.mg_of X G a_law_fields, F_law_fields, F_law_fields.binds (ps := ["k", "e"]) fun _ _ _ _ _ _ us hl => match us, hl with | [_, _], _ => rfl⟩
  have F_law_caught := fun_mk (st := s__law_caught) l_law_caught c_law_caught k_law_caught
  have D_law_caught : DefT K mg "_law_caught" "_law_caught" s__law_caught ["k", "a", "b"] f_law_caught _ := ⟨PySem.W.mg_of X G a_law_caught, F_law_caught, F_law_caught.binds (ps := ["k", "a", "b"]) fun _ _ _ _ _ _ us hl => match us, hl with | [_, _, _], _ => rfl⟩
  have Flaw := fun_mk (st := s_law) llaw claw klaw
  have Dlaw : DefT K mg "law" "law" s_law ["script"] flaw _ := ⟨PySem.W.mg_of X G alaw, Flaw, Flaw.binds (ps := ["script"]) fun _ _ _ _ _ _ us hl => match us, hl with | [_], _ => rfl⟩
  have E0 : ErrC K mg "BadText" C0 M := err_mk (PySem.W.mg_of X G aC0) xL0 sa0 ga0 gg0 hc0 hn ht kC0
  have FI0 := fun_mk (st := s_BadText) lI0 cI0 kI0
  have II0 : IniT K "BadText.__init__" s_BadText C0 I0 _ ["self", "line"] ["line"] (fun us ws => us ++ ws.reverse) := ⟨iC0, tI0, FI0, FI0.binds (ps := ["self", "line"]) fun _ _ _ _ _ _ us hl => match us, hl with | [_, _], _ => rfl, Fun.kb1 FI0 (ps := ["self", "line"]) (ks := ["line"]) fun _ _ _ _ _ _ us ws l1 l2 => match us, ws, l1, l2 with | [_], [_], _, _ => rfl⟩
  have E1 : ErrC K mg "BadMachine" C1 M := err_mk (PySem.W.mg_of X G aC1) xL1 sa1 ga1 gg1 hc1 hn ht kC1
  have FI1 := fun_mk (st := s_BadMachine) lI1 cI1 kI1
  have II1 : IniT K "BadMachine.__init__" s_BadMachine C1 I1 _ ["self", "state", "place"] ["place", "state"] (fun us ws => us ++ ws.reverse) := ⟨iC1, tI1, FI1, FI1.binds (ps := ["self", "state", "place"]) fun _ _ _ _ _ _ us hl => match us, hl with | [_, _, _], _ => rfl, Fun.kb1 FI1 (ps := ["self", "state", "place"]) (ks := ["place", "state"]) fun _ _ _ _ _ _ us ws l1 l2 => match us, ws, l1, l2 with | [_], [_, _], _, _ => rfl⟩
  have E2 : ErrC K mg "BadSign" C2 M := err_mk (PySem.W.mg_of X G aC2) xL2 sa2 ga2 gg2 hc2 hn ht kC2
  have FI2 := fun_mk (st := s_BadSign) lI2 cI2 kI2
  have II2 : IniT K "BadSign.__init__" s_BadSign C2 I2 _ ["self", "place"] ["place"] (fun us ws => us ++ ws.reverse) := ⟨iC2, tI2, FI2, FI2.binds (ps := ["self", "place"]) fun _ _ _ _ _ _ us hl => match us, hl with | [_, _], _ => rfl, Fun.kb1 FI2 (ps := ["self", "place"]) (ks := ["place"]) fun _ _ _ _ _ _ us ws l1 l2 => match us, ws, l1, l2 with | [_], [_], _, _ => rfl⟩
  have E3 : ErrC K mg "BadEdit" C3 M := err_mk (PySem.W.mg_of X G aC3) xL3 sa3 ga3 gg3 hc3 hn ht kC3
  have FI3 := fun_mk (st := s_BadEdit) lI3 cI3 kI3
  have II3 : IniT K "BadEdit.__init__" s_BadEdit C3 I3 _ ["self", "index"] ["index"] (fun us ws => us ++ ws.reverse) := ⟨iC3, tI3, FI3, FI3.binds (ps := ["self", "index"]) fun _ _ _ _ _ _ us hl => match us, hl with | [_, _], _ => rfl, Fun.kb1 FI3 (ps := ["self", "index"]) (ks := ["index"]) fun _ _ _ _ _ _ us ws l1 l2 => match us, ws, l1, l2 with | [_], [_], _, _ => rfl⟩
  have E4 : ErrC K mg "BadColumn" C4 M := err_mk (PySem.W.mg_of X G aC4) xL4 sa4 ga4 gg4 hc4 hn ht kC4
  have FI4 := fun_mk (st := s_BadColumn) lI4 cI4 kI4
  have II4 : IniT K "BadColumn.__init__" s_BadColumn C4 I4 _ ["self", "index"] ["index"] (fun us ws => us ++ ws.reverse) := ⟨iC4, tI4, FI4, FI4.binds (ps := ["self", "index"]) fun _ _ _ _ _ _ us hl => match us, hl with | [_, _], _ => rfl, Fun.kb1 FI4 (ps := ["self", "index"]) (ks := ["index"]) fun _ _ _ _ _ _ us ws l1 l2 => match us, ws, l1, l2 with | [_], [_], _, _ => rfl⟩
  have E5 : ErrC K mg "BadBound" C5 M := err_mk (PySem.W.mg_of X G aC5) xL5 sa5 ga5 gg5 hc5 hn ht kC5
  have FI5 := fun_mk (st := s_BadBound) lI5 cI5 kI5
  have II5 : IniT K "BadBound.__init__" s_BadBound C5 I5 _ ["self", "bound"] ["bound"] (fun us ws => us ++ ws.reverse) := ⟨iC5, tI5, FI5, FI5.binds (ps := ["self", "bound"]) fun _ _ _ _ _ _ us hl => match us, hl with | [_, _], _ => rfl, Fun.kb1 FI5 (ps := ["self", "bound"]) (ks := ["bound"]) fun _ _ _ _ _ _ us ws l1 l2 => match us, ws, l1, l2 with | [_], [_], _, _ => rfl⟩
  have E6 : ErrC K mg "BadKeys" C6 M := err_mk (PySem.W.mg_of X G aC6) xL6 sa6 ga6 gg6 hc6 hn ht kC6
  have FI6 := fun_mk (st := s_BadKeys) lI6 cI6 kI6
  have II6 : IniT K "BadKeys.__init__" s_BadKeys C6 I6 _ ["self", "key"] ["key"] (fun us ws => us ++ ws.reverse) := ⟨iC6, tI6, FI6, FI6.binds (ps := ["self", "key"]) fun _ _ _ _ _ _ us hl => match us, hl with | [_, _], _ => rfl, Fun.kb1 FI6 (ps := ["self", "key"]) (ks := ["key"]) fun _ _ _ _ _ _ us ws l1 l2 => match us, ws, l1, l2 with | [_], [_], _, _ => rfl⟩
  have E7 : ErrC K mg "BadName" C7 M := err_mk (PySem.W.mg_of X G aC7) xL7 sa7 ga7 gg7 hc7 hn ht kC7
  have FI7 := fun_mk (st := s_BadName) lI7 cI7 kI7
  have II7 : IniT K "BadName.__init__" s_BadName C7 I7 _ ["self", "name"] ["name"] (fun us ws => us ++ ws.reverse) := ⟨iC7, tI7, FI7, FI7.binds (ps := ["self", "name"]) fun _ _ _ _ _ _ us hl => match us, hl with | [_, _], _ => rfl, Fun.kb1 FI7 (ps := ["self", "name"]) (ks := ["name"]) fun _ _ _ _ _ _ us ws l1 l2 => match us, ws, l1, l2 with | [_], [_], _, _ => rfl⟩
  have E8 : ErrC K mg "TooMany" C8 M := err_mk (PySem.W.mg_of X G aC8) xL8 sa8 ga8 gg8 hc8 hn ht kC8
  have FI8 := fun_mk (st := s_TooMany) lI8 cI8 kI8
  have II8 : IniT K "TooMany.__init__" s_TooMany C8 I8 _ ["self", "what"] ["what"] (fun us ws => us ++ ws.reverse) := ⟨iC8, tI8, FI8, FI8.binds (ps := ["self", "what"]) fun _ _ _ _ _ _ us hl => match us, hl with | [_, _], _ => rfl, Fun.kb1 FI8 (ps := ["self", "what"]) (ks := ["what"]) fun _ _ _ _ _ _ us ws l1 l2 => match us, ws, l1, l2 with | [_], [_], _, _ => rfl⟩
  have E9 : ErrC K mg "Unlike" C9 M := err_mk (PySem.W.mg_of X G aC9) xL9 sa9 ga9 gg9 hc9 hn ht kC9
  have E10 : ErrC K mg "Misses" C10 M := err_mk (PySem.W.mg_of X G aC10) xL10 sa10 ga10 gg10 hc10 hn ht kC10
  have FI10 := fun_mk (st := s_Misses) lI10 cI10 kI10
  have II10 : IniT K "Misses.__init__" s_Misses C10 I10 _ ["self", "columns"] ["columns"] (fun us ws => us ++ ws.reverse) := ⟨iC10, tI10, FI10, FI10.binds (ps := ["self", "columns"]) fun _ _ _ _ _ _ us hl => match us, hl with | [_, _], _ => rfl, Fun.kb1 FI10 (ps := ["self", "columns"]) (ks := ["columns"]) fun _ _ _ _ _ _ us ws l1 l2 => match us, ws, l1, l2 with | [_], [_], _, _ => rfl⟩
  have E11 : ErrC K mg "NothingLeft" C11 M := err_mk (PySem.W.mg_of X G aC11) xL11 sa11 ga11 gg11 hc11 hn ht kC11
  let A : Ad := { M := M, c := fun n => [C0, C1, C2, C3, C4, C5, C6, C7, C8, C9, C10, C11].getD n 0, i := fun n => [I0, I1, I2, I3, I4, I5, I6, I7, I8, 0, I10, 0].getD n 0, di := fun n => (match n with | 0 => PySem.W.fnOf "__init__" "BadText.__init__" (defArgs s_BadText) (defBody s_BadText) (defScope s_BadText) .none kVi0 dci0 pmi0 ani0 cdi0 cti0 | 1 => PySem.W.fnOf "__init__" "BadMachine.__init__" (defArgs s_BadMachine) (defBody s_BadMachine) (defScope s_BadMachine) .none kVi1 dci1 pmi1 ani1 cdi1 cti1 | 2 => PySem.W.fnOf "__init__" "BadSign.__init__" (defArgs s_BadSign) (defBody s_BadSign) (defScope s_BadSign) .none kVi2 dci2 pmi2 ani2 cdi2 cti2 | 3 => PySem.W.fnOf "__init__" "BadEdit.__init__" (defArgs s_BadEdit) (defBody s_BadEdit) (defScope s_BadEdit) .none kVi3 dci3 pmi3 ani3 cdi3 cti3 | 4 => PySem.W.fnOf "__init__" "BadColumn.__init__" (defArgs s_BadColumn) (defBody s_BadColumn) (defScope s_BadColumn) .none kVi4 dci4 pmi4 ani4 cdi4 cti4 | 5 => PySem.W.fnOf "__init__" "BadBound.__init__" (defArgs s_BadBound) (defBody s_BadBound) (defScope s_BadBound) .none kVi5 dci5 pmi5 ani5 cdi5 cti5 | 6 => PySem.W.fnOf "__init__" "BadKeys.__init__" (defArgs s_BadKeys) (defBody s_BadKeys) (defScope s_BadKeys) .none kVi6 dci6 pmi6 ani6 cdi6 cti6 | 7 => PySem.W.fnOf "__init__" "BadName.__init__" (defArgs s_BadName) (defBody s_BadName) (defScope s_BadName) .none kVi7 dci7 pmi7 ani7 cdi7 cti7 | 8 => PySem.W.fnOf "__init__" "TooMany.__init__" (defArgs s_TooMany) (defBody s_TooMany) (defScope s_TooMany) .none kVi8 dci8 pmi8 ani8 cdi8 cti8 | 10 => PySem.W.fnOf "__init__" "Misses.__init__" (defArgs s_Misses) (defBody s_Misses) (defScope s_Misses) .none kVi10 dci10 pmi10 ani10 cdi10 cti10 | _ => PySem.W.fnOf "__init__" "BadText.__init__" (defArgs s_BadText) (defBody s_BadText) (defScope s_BadText) .none kVi0 dci0 pmi0 ani0 cdi0 cti0), f_copied := fcopied, d_copied := PySem.W.fnOf "copied" "copied" (defArgs s_copied) (defBody s_copied) (defScope s_copied) .none kVcopied dccopied pmcopied ancopied cdcopied ctcopied, f__law_first := f_law_first, d__law_first := PySem.W.fnOf "_law_first" "_law_first" (defArgs s__law_first) (defBody s__law_first) (defScope s__law_first) .none kV_law_first dc_law_first pm_law_first an_law_first cd_law_first ct_law_first, f__law_second := f_law_second, d__law_second := PySem.W.fnOf "_law_second" "_law_second" (defArgs s__law_second) (defBody s__law_second) (defScope s__law_second) .none kV_law_second dc_law_second pm_law_second an_law_second cd_law_second ct_law_second, f__law_named := f_law_named, d__law_named := PySem.W.fnOf "_law_named" "_law_named" (defArgs s__law_named) (defBody s__law_named) (defScope s__law_named) .none kV_law_named dc_law_named pm_law_named an_law_named cd_law_named ct_law_named, f__law_named_too := f_law_named_too, d__law_named_too := PySem.W.fnOf "_law_named_too" "_law_named_too" (defArgs s__law_named_too) (defBody s__law_named_too) (defScope s__law_named_too) .none kV_law_named_too dc_law_named_too pm_law_named_too an_law_named_too cd_law_named_too ct_law_named_too, f__law_kinds := f_law_kinds, d__law_kinds := PySem.W.fnOf "_law_kinds" "_law_kinds" (defArgs s__law_kinds) (defBody s__law_kinds) (defScope s__law_kinds) .none kV_law_kinds dc_law_kinds pm_law_kinds an_law_kinds cd_law_kinds ct_law_kinds, f__law_fields := f_law_fields, d__law_fields := PySem.W.fnOf "_law_fields" "_law_fields" (defArgs s__law_fields) (defBody s__law_fields) (defScope s__law_fields) .none kV_law_fields dc_law_fields pm_law_fields an_law_fields cd_law_fields ct_law_fields, f__law_caught := f_law_caught, d__law_caught := PySem.W.fnOf "_law_caught" "_law_caught" (defArgs s__law_caught) (defBody s__law_caught) (defScope s__law_caught) .none kV_law_caught dc_law_caught pm_law_caught an_law_caught cd_law_caught ct_law_caught, f_law := flaw, d_law := PySem.W.fnOf "law" "law" (defArgs s_law) (defBody s_law) (defScope s_law) .none kVlaw dclaw pmlaw anlaw cdlaw ctlaw, p1 := f_law_pen, p2 := f_law_draw, p3 := f_law_pick, q1 := PySem.W.fnOf "_law_pen" "_law_pen" (defArgs s__law_pen) (defBody s__law_pen) (defScope s__law_pen) .none kV_law_pen dc_law_pen pm_law_pen an_law_pen cd_law_pen ct_law_pen, q2 := PySem.W.fnOf "_law_draw" "_law_draw" (defArgs s__law_draw) (defBody s__law_draw) (defScope s__law_draw) .none kV_law_draw dc_law_draw pm_law_draw an_law_draw cd_law_draw ct_law_draw, q3 := PySem.W.fnOf "_law_pick" "_law_pick" (defArgs s__law_pick) (defBody s__law_pick) (defScope s__law_pick) .none kV_law_pick dc_law_pick pm_law_pick an_law_pick cd_law_pick ct_law_pick }
  have T : Txt K mg A := { pen := ⟨D_law_pen, D_law_draw, D_law_pick, PySem.W.mg_none_of X G z_list, PySem.W.mg_none_of X G z_int, PySem.W.mg_none_of X G z_len⟩, gM := PySem.W.mg_of X G aM, exM := fun C hs => PySem.W.exm_ref m1 m2 m3 hs, inj := fun i j hi hj e => nd_inj (List.nodup_cons.mp nd).2 i j hi hj e, cM := fun i hi => nd_head nd i hi, E_BadText := E0, I_BadText := II0, N_BadText_line := nf0_line, E_BadMachine := E1, I_BadMachine := II1, N_BadMachine_state := nf1_state, N_BadMachine_place := nf1_place, E_BadSign := E2, I_BadSign := II2, N_BadSign_place := nf2_place, E_BadEdit := E3, I_BadEdit := II3, N_BadEdit_index := nf3_index, E_BadColumn := E4, I_BadColumn := II4, N_BadColumn_index := nf4_index, E_BadBound := E5, I_BadBound := II5, N_BadBound_bound := nf5_bound, E_BadKeys := E6, I_BadKeys := II6, N_BadKeys_key := nf6_key, E_BadName := E7, I_BadName := II7, N_BadName_name := nf7_name, E_TooMany := E8, I_TooMany := II8, N_TooMany_what := nf8_what, E_Unlike := E9, X_Unlike := xC9, E_Misses := E10, I_Misses := II10, N_Misses_columns := nf10_columns, E_NothingLeft := E11, X_NothingLeft := xC11, D_copied := Dcopied, D__law_first := D_law_first, D__law_second := D_law_second, D__law_named := D_law_named, D__law_named_too := D_law_named_too, D__law_kinds := D_law_kinds, D__law_fields := D_law_fields, D__law_caught := D_law_caught, D_law := Dlaw, n_isinstance := PySem.W.mg_none_of X G z_isinstance, n_range := PySem.W.mg_none_of X G z_range, n_min := PySem.W.mg_none_of X G z_min, n_len := PySem.W.mg_none_of X G z_len, n_list := PySem.W.mg_none_of X G z_list, n_tuple := PySem.W.mg_none_of X G z_tuple, n_dict := PySem.W.mg_none_of X G z_dict, n_ValueError := PySem.W.mg_none_of X G z_ValueError }
  exact ⟨PySem.W.fnOf "law" "law" (defArgs s_law) (defBody s_law) (defScope s_law) .none kVlaw dclaw pmlaw anlaw cdlaw ctlaw, fun s v => .of_eq rfl, fun base _ _ => ok_law (A := A) T⟩
theorem walk {l : PySem.W.OpenLaw} {q : Program} {loose : List Str} {XP : (Str → Option Value) → Heap → Prop} {YP : World → Heap → Prop} {d : DefRec} {K : Params → PySem.W.Frag} (hn : l.most = some 63) (hdf : d.params.defaults = [])
    (hY : ∀ (w : World) (h : Heap), YP w h → (K w.params).In h)
    (F : ∀ (w : World) (mg : Str → Option Value) (fa : Addr) (h : Heap), (K w.params).In h → h.Ns mainGlobals mg → mg d.name = some (.ref fa) →
      ∃ fd : FuncData, (∀ (s : Shared) (u : Value), BindsTo s fd ⟨[u], []⟩ [("script", u)]) ∧ ∀ base : Heap, (K w.params).In base → base.Ns mainGlobals mg → FnOk l.prog w (K w.params) mg base CX0 9 fa fd ["script"] (spLaw (K w.params))) :
    PySem.W.WalkO q loose XP YP l.row.toRowW d [] (fun f vs => PySem.call f vs) :=
  L2.walk_of (n := 63) (k := 9) (x := "script") (CX := fun _ => CX0) (sp := fun w => spLaw (K w.params)) hn (by decide) hdf ⟨rfl, by decide, by decide⟩ hY F (fun _ _ a ns hl _ hS => ⟨a, ns, rfl, hS, hl, fun _ => rfl⟩) fun _ _ _ _ _ z => z
end
end Kx

open PySem PySem.W PyProof.Rows
set_option maxRecDepth 100000 in
set_option maxHeartbeats 0 in
theorem PySem.Challenge.cw_nevermiss_k01_errors_holds : PySem.Challenge.rw_nevermiss_k01_errors.Holds := by
  w_on; o_law; k_head; (case hw => w_witness2)
  k_fill
  refine Kx.walk (l := PySem.Challenge.rw_nevermiss_k01_errors) rfl rfl (fun w h Y => PySem.W.kIn_of Y) ?F
  case F =>
    intro w mg fa h KX G hmg
    refine' Kx.all_mk KX G hmg ?hn ?ht ?aM ?m1 ?m2 ?m3 ?aC0 ?xL0 ?sa0 ?ga0 ?gg0 ?hc0 ?kC0 ?iC0 ?tI0 ?lI0 ?cI0 ?kI0 ?nf0_line ?aC1 ?xL1 ?sa1 ?ga1 ?gg1 ?hc1 ?kC1 ?iC1 ?tI1 ?lI1 ?cI1 ?kI1 ?nf1_state ?nf1_place ?aC2 ?xL2 ?sa2 ?ga2 ?gg2 ?hc2 ?kC2 ?iC2 ?tI2 ?lI2 ?cI2 ?kI2 ?nf2_place ?aC3 ?xL3 ?sa3 ?ga3 ?gg3 ?hc3 ?kC3 ?iC3 ?tI3 ?lI3 ?cI3 ?kI3 ?nf3_index ?aC4 ?xL4 ?sa4 ?ga4 ?gg4 ?hc4 ?kC4 ?iC4 ?tI4 ?lI4 ?cI4 ?kI4 ?nf4_index ?aC5 ?xL5 ?sa5 ?ga5 ?gg5 ?hc5 ?kC5 ?iC5 ?tI5 ?lI5 ?cI5 ?kI5 ?nf5_bound ?aC6 ?xL6 ?sa6 ?ga6 ?gg6 ?hc6 ?kC6 ?iC6 ?tI6 ?lI6 ?cI6 ?kI6 ?nf6_key ?aC7 ?xL7 ?sa7 ?ga7 ?gg7 ?hc7 ?kC7 ?iC7 ?tI7 ?lI7 ?cI7 ?kI7 ?nf7_name ?aC8 ?xL8 ?sa8 ?ga8 ?gg8 ?hc8 ?kC8 ?iC8 ?tI8 ?lI8 ?cI8 ?kI8 ?nf8_what ?aC9 ?xL9 ?sa9 ?ga9 ?gg9 ?hc9 ?kC9 ?xC9 ?aC10 ?xL10 ?sa10 ?ga10 ?gg10 ?hc10 ?kC10 ?iC10 ?tI10 ?lI10 ?cI10 ?kI10 ?nf10_columns ?aC11 ?xL11 ?sa11 ?ga11 ?gg11 ?hc11 ?kC11 ?xC11 ?a_law_pen ?l_law_pen ?c_law_pen ?k_law_pen ?a_law_draw ?l_law_draw ?c_law_draw ?k_law_draw ?a_law_pick ?l_law_pick ?c_law_pick ?k_law_pick ?acopied ?lcopied ?ccopied ?kcopied ?a_law_first ?l_law_first ?c_law_first ?k_law_first ?a_law_second ?l_law_second ?c_law_second ?k_law_second ?a_law_named ?l_law_named ?c_law_named ?k_law_named ?a_law_named_too ?l_law_named_too ?c_law_named_too ?k_law_named_too ?a_law_kinds ?l_law_kinds ?c_law_kinds ?k_law_kinds ?a_law_fields ?l_law_fields ?c_law_fields ?k_law_fields ?a_law_caught ?l_law_caught ?c_law_caught ?k_law_caught ?alaw ?llaw ?claw ?klaw ?z_isinstance ?z_range ?z_min ?z_len ?z_list ?z_tuple ?z_dict ?z_ValueError ?z_int ?nd
    (case hn => k_is)
    (case ht => k_is)
    (case aM => k_is)
    (case m1 => k_is)
    (case m2 => k_is)
    (case m3 => k_is)
    (case aC0 => k_is)
    (case xL0 => k_is)
    (case sa0 => k_is)
    (case ga0 => k_is)
    (case gg0 => k_is)
    (case hc0 => k_is)
    (case kC0 => k_is)
    (case iC0 => k_is)
    (case tI0 => k_is)
    (case lI0 => k_is)
    (case cI0 => k_is)
    (case kI0 => k_is)
    (case nf0_line => k_is)
    (case aC1 => k_is)
    (case xL1 => k_is)
    (case sa1 => k_is)
    (case ga1 => k_is)
    (case gg1 => k_is)
    (case hc1 => k_is)
    (case kC1 => k_is)
    (case iC1 => k_is)
    (case tI1 => k_is)
    (case lI1 => k_is)
    (case cI1 => k_is)
    (case kI1 => k_is)
    (case nf1_state => k_is)
    (case nf1_place => k_is)
    (case aC2 => k_is)
    (case xL2 => k_is)
    (case sa2 => k_is)
    (case ga2 => k_is)
    (case gg2 => k_is)
    (case hc2 => k_is)
    (case kC2 => k_is)
    (case iC2 => k_is)
    (case tI2 => k_is)
    (case lI2 => k_is)
    (case cI2 => k_is)
    (case kI2 => k_is)
    (case nf2_place => k_is)
    (case aC3 => k_is)
    (case xL3 => k_is)
    (case sa3 => k_is)
    (case ga3 => k_is)
    (case gg3 => k_is)
    (case hc3 => k_is)
    (case kC3 => k_is)
    (case iC3 => k_is)
    (case tI3 => k_is)
    (case lI3 => k_is)
    (case cI3 => k_is)
    (case kI3 => k_is)
    (case nf3_index => k_is)
    (case aC4 => k_is)
    (case xL4 => k_is)
    (case sa4 => k_is)
    (case ga4 => k_is)
    (case gg4 => k_is)
    (case hc4 => k_is)
    (case kC4 => k_is)
    (case iC4 => k_is)
    (case tI4 => k_is)
    (case lI4 => k_is)
    (case cI4 => k_is)
    (case kI4 => k_is)
    (case nf4_index => k_is)
    (case aC5 => k_is)
    (case xL5 => k_is)
    (case sa5 => k_is)
    (case ga5 => k_is)
    (case gg5 => k_is)
    (case hc5 => k_is)
    (case kC5 => k_is)
    (case iC5 => k_is)
    (case tI5 => k_is)
    (case lI5 => k_is)
    (case cI5 => k_is)
    (case kI5 => k_is)
    (case nf5_bound => k_is)
    (case aC6 => k_is)
    (case xL6 => k_is)
    (case sa6 => k_is)
    (case ga6 => k_is)
    (case gg6 => k_is)
    (case hc6 => k_is)
    (case kC6 => k_is)
    (case iC6 => k_is)
    (case tI6 => k_is)
    (case lI6 => k_is)
    (case cI6 => k_is)
    (case kI6 => k_is)
    (case nf6_key => k_is)
    (case aC7 => k_is)
    (case xL7 => k_is)
    (case sa7 => k_is)
    (case ga7 => k_is)
    (case gg7 => k_is)
    (case hc7 => k_is)
    (case kC7 => k_is)
    (case iC7 => k_is)
    (case tI7 => k_is)
    (case lI7 => k_is)
    (case cI7 => k_is)
    (case kI7 => k_is)
    (case nf7_name => k_is)
    (case aC8 => k_is)
    (case xL8 => k_is)
    (case sa8 => k_is)
    (case ga8 => k_is)
    (case gg8 => k_is)
    (case hc8 => k_is)
    (case kC8 => k_is)
    (case iC8 => k_is)
    (case tI8 => k_is)
    (case lI8 => k_is)
    (case cI8 => k_is)
    (case kI8 => k_is)
    (case nf8_what => k_is)
    (case aC9 => k_is)
    (case xL9 => k_is)
    (case sa9 => k_is)
    (case ga9 => k_is)
    (case gg9 => k_is)
    (case hc9 => k_is)
    (case kC9 => k_is)
    (case xC9 => k_exc)
    (case aC10 => k_is)
    (case xL10 => k_is)
    (case sa10 => k_is)
    (case ga10 => k_is)
    (case gg10 => k_is)
    (case hc10 => k_is)
    (case kC10 => k_is)
    (case iC10 => k_is)
    (case tI10 => k_is)
    (case lI10 => k_is)
    (case cI10 => k_is)
    (case kI10 => k_is)
    (case nf10_columns => k_is)
    (case aC11 => k_is)
    (case xL11 => k_is)
    (case sa11 => k_is)
    (case ga11 => k_is)
    (case gg11 => k_is)
    (case hc11 => k_is)
    (case kC11 => k_is)
    (case xC11 => k_exc)
    (case a_law_pen => k_is)
    (case l_law_pen => k_is)
    (case c_law_pen => k_is)
    (case k_law_pen => k_is)
    (case a_law_draw => k_is)
    (case l_law_draw => k_is)
    (case c_law_draw => k_is)
    (case k_law_draw => k_is)
    (case a_law_pick => k_is)
    (case l_law_pick => k_is)
    (case c_law_pick => k_is)
    (case k_law_pick => k_is)
    (case acopied => k_is)
    (case lcopied => k_is)
    (case ccopied => k_is)
    (case kcopied => k_is)
    (case a_law_first => k_is)
    (case l_law_first => k_is)
    (case c_law_first => k_is)
    (case k_law_first => k_is)
    (case a_law_second => k_is)
    (case l_law_second => k_is)
    (case c_law_second => k_is)
    (case k_law_second => k_is)
    (case a_law_named => k_is)
    (case l_law_named => k_is)
    (case c_law_named => k_is)
    (case k_law_named => k_is)
    (case a_law_named_too => k_is)
    (case l_law_named_too => k_is)
    (case c_law_named_too => k_is)
    (case k_law_named_too => k_is)
    (case a_law_kinds => k_is)
    (case l_law_kinds => k_is)
    (case c_law_kinds => k_is)
    (case k_law_kinds => k_is)
    (case a_law_fields => k_is)
    (case l_law_fields => k_is)
    (case c_law_fields => k_is)
    (case k_law_fields => k_is)
    (case a_law_caught => k_is)
    (case l_law_caught => k_is)
    (case c_law_caught => k_is)
    (case k_law_caught => k_is)
    (case alaw => k_is)
    (case llaw => k_is)
    (case claw => k_is)
    (case klaw => k_is)
    (case z_isinstance => k_is)
    (case z_range => k_is)
    (case z_min => k_is)
    (case z_len => k_is)
    (case z_list => k_is)
    (case z_tuple => k_is)
    (case z_dict => k_is)
    (case z_ValueError => k_is)
    (case z_int => k_is)
    (case nd => decide)

