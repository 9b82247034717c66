import PyProof.Rows.All
import Wide.All
import OpenK.AllK
import Wide.FinOn
import HandS.ForMost
import HandS.ForExc
import HandS.ExcInit
import HandS.ExcField
import HandS.ExcIs
import HandS.ExcValue
import HandS.HotCalls
import HandS.MakeKwOnly
import HandS.IsInst
import HandS.Conv
import HandS.Wide
import HandS.Codes
import KE.KExcIs
import HandS.Strs
import HandS.SetTxt0
import HandS.SetFor
import PyProof.StrWalks
import PyProof.WalksMore
import PyProof.SetRoads
import PyProof.Rows.SortShellAny
import HandS.AnyAll
import HandS.Comp
import HandS.Walk
import HandS.Zip
import HandS.Star
import HandS.Flow
import HandS.DictComp
import KE.GoesMore
import HandS.Text
import HandS.LawCells
import HandS.WideBits
import HandS.Nested
import HandS.Words
import HandS.WordsExc
import HandS.ExcOwn
import KE.KeyNested
import PyProof.Rows.TupTab
import HandS.SortKw
import KE.DataMinKey
import KE.DatumOrd
import HandS.Style
import KE.KNestM
import HandS.EndTab
import HandS.HeadWalk
import HandS.NestedK
import PySem.Challenge.RW_nevermiss_k08_pieces_and_lightest
set_option Elab.async false
set_option linter.all false
set_option maxRecDepth 100000
set_option maxHeartbeats 4000000
/-! An own exception class called with keywords: its own __init__ sees them. -/
namespace Own
open PySem PySem.Calls PySem.HandSPX
section
variable {prog : Program} {wo : World} {Ar : Around} {hp : Heap} {gs : Array GenState} {dr : Drawn} {tk : Nat} {os : OsState} {kw : List (Str × Value)}
variable {nm qn : Str} {Cl Ns : Addr} {bases tail full : List Value} {slots : List Str} {subs : List Value} {abst : Bool} {coll : Option Bool} {dict : Option Addr} {s0 s1 s2 s3 s5 : Option Value} {hd : Bool} {Base new ini : String}
local macro_rules | `(tactic| walk_at "stp") => `(tactic| first | with_reducible refine wpAny_loadPart_at (by assumption) ?_ | with_reducible refine wpAny_madeBy_exc (by assumption) ?_ | wp_step)
/-- what stands of the class at Cl -/
abbrev Has (hp : Heap) (nm qn : Str) (Cl Ns : Addr) (bases tail : List Value) (hd : Bool) (slots : List Str) (subs : List Value) (abst : Bool) (coll : Option Bool) (dict : Option Addr) (s0 s1 s2 s3 s5 : Option Value) (new : String) : Prop :=
  hp.get? Cl = some (excClassObj nm qn Cl Ns bases tail hd slots subs abst coll dict s0 s1 s2 s3 s5 new)
theorem inTail (F : ExcBaseFacts Base new ini full) (same : ∀ T : String, tail.contains (.type T) = full.contains (.type T)) : (Value.ref Cl :: tail).contains (.type Base) = true := by
  rw [List.contains_cons, same, F.hasB]
  exact Bool.or_true _
theorem seen {Q : Unit → Shared → Prop} {E : Value → Shared → Prop} (F : ExcBaseFacts Base new ini full) (same : ∀ T : String, tail.contains (.type T) = full.contains (.type T)) (h : Has hp nm qn Cl Ns bases tail hd slots subs abst coll dict s0 s1 s2 s3 s5 new)
    (k : Q () ⟨hp, gs, dr, tk, os⟩) : wpAny (model prog wo) Ar (checkBuiltinCall new ⟨[.ref Cl], kw⟩) Q E ⟨hp, gs, dr, tk, os⟩ := by
  have within := inTail (Cl := Cl) F same
  have ns := F.noStar
  unfold checkBuiltinCall
  simp only [F.newKind, F.newSplit, F.newRow]
  repeat (first | (refine wpAny_isSubtype_exc h ?_; rw [within]) | refine wpAny_staticBase_exc h ?_ | refine wpAny_madeBy_exc h ?_ | refine wpAny_loadPart_at h ?_ | simp only [Bool.false_eq_true, bne_self_eq_false, if_false] | wp_step)
  exact k
theorem bare {R : Result → Shared → Prop} (F : ExcBaseFacts Base new ini full) (same : ∀ T : String, tail.contains (.type T) = full.contains (.type T)) (h : Has hp nm qn Cl Ns bases tail hd slots subs abst coll dict s0 s1 s2 s3 s5 new)
    (k : R (.ok (.ret (.ref (hp.objs.size + 1)))) ⟨(hp.push (W.kdv_tup [])).push (excO Cl hp.objs.size), gs, dr, tk, os⟩) : codeAny (model prog wo) Ar (.builtin new ⟨[.ref Cl], kw⟩) R ⟨hp, gs, dr, tk, os⟩ := by
  have i1 := inTail (Cl := Cl) F same
  have i2 : (Value.ref Cl :: tail).contains (.type "AttributeError") = false := by rw [List.contains_cons, same, F.noAttr] <;> rfl
  have i3 : (Value.ref Cl :: tail).contains (.type "NameError") = false := by rw [List.contains_cons, same, F.noName] <;> rfl
  have en := F.ends
  apply codeAny_builtinAt F.entry
  unfold Builtin.«BaseException.__new__»
  apply wpAt_bind
  apply wpAt_bind
  apply wpAt_stack
  intro top below
  apply wpAt_of_wpAny
  wp_walk
  apply wpAt_of_wpAny
  rw [F.owner]
  repeat (first | with_reducible refine wpAny_madeHere_exc F.canon h ?_ | (with_reducible refine wpAny_isSubtype_exc h ?_; first | rw [i1] | rw [i2] | rw [i3]) | walk_at "stp")
  show R _ _
  rw [Heap.size_push]
  exact k
theorem called {Q : Fin → Shared → Prop} {E : Value → Shared → Prop} {fi : Addr} (F : ExcBaseFacts Base new ini full) (same : ∀ T : String, tail.contains (.type T) = full.contains (.type T)) (h : Has hp nm qn Cl Ns bases tail hd slots subs abst coll dict s0 s1 s2 s3 s5 new)
    (find : W.Looks (model prog wo) hp (typeLookup (.ref Cl) "__init__") (some (.ref fi))) (bound : ∀ me, W.Looks (model prog wo) hp (bindSpecial (.ref fi) me) (.ref fi, [me]))
    (run : codeAny (model prog wo) Ar (.call (.ref fi) ⟨[.ref (hp.objs.size + 1)], kw⟩) (fun r s' => match r with
      | .error e => E e s'
      | .ok (.ret u) => u = .none ∧ Q (.done (.ret (.ref (hp.objs.size + 1)))) s'
      | .ok _ => False) ⟨(hp.push (W.kdv_tup [])).push (excO Cl hp.objs.size), gs, dr, tk, os⟩) :
    wpAny (model prog wo) Ar (Builtin.«type.__call__» ⟨[.ref Cl], kw⟩) Q E ⟨hp, gs, dr, tk, os⟩ := by
  repeat walk_at "stp"
  apply codeAny_call_builtin_code (Code.quiet_builtin _ F.quiet) (seen F same h _)
  apply bare F same h
  show wpAny _ _ _ _ _ _
  have stay : ∀ b o, hp.get? b = some o → ((hp.push (W.kdv_tup [])).push (excO Cl hp.objs.size)).get? b = some o := fun b o e => Heap.get?_push_of_some _ (Heap.get?_push_of_some _ e)
  have cls := stay _ _ h
  have obj : ((hp.push (W.kdv_tup [])).push (excO Cl hp.objs.size)).get? (hp.objs.size + 1) = some (excO Cl hp.objs.size) := by heap_get
  have self : (Value.ref Cl :: tail).contains (.ref Cl) = true := by simp
  have find' := find.keeps stay
  have bound' := (bound (.ref (hp.objs.size + 1))).keeps stay
  unfold isInstance
  repeat (first | with_reducible refine wpAny_loadPart_at obj ?_ | (with_reducible refine wpAny_isSubtype_exc cls ?_; rw [self]) | wp_step)
  apply find'.at
  apply wpAny_holding
  apply wpAny_bind
  apply bound'.at
  apply wpAny_bind
  apply wpAny_call
  refine codeAny_mono run fun r s' q => ?_
  match r, q with
  | .error _, q => exact q
  | .ok (.ret u), ⟨e, q⟩ =>
    subst e
    first
      | exact wpAny_pure (wpAny_pure q)
      | (wp_walk; exact q)
theorem made {R : Result → Shared → Prop} {fi : Addr} (F : ExcBaseFacts Base new ini full) (same : ∀ T : String, tail.contains (.type T) = full.contains (.type T)) (h : Has hp nm qn Cl Ns bases tail hd slots subs abst coll dict s0 s1 s2 s3 s5 new)
    (find : W.Looks (model prog wo) hp (typeLookup (.ref Cl) "__init__") (some (.ref fi))) (bound : ∀ me, W.Looks (model prog wo) hp (bindSpecial (.ref fi) me) (.ref fi, [me]))
    (run : codeAny (model prog wo) (Ar.under (.builtin "type.__call__" ⟨[.ref Cl], kw⟩)) (.call (.ref fi) ⟨[.ref (hp.objs.size + 1)], kw⟩) (W.InitBack (hp.objs.size + 1) R) ⟨(hp.push (W.kdv_tup [])).push (excO Cl hp.objs.size), gs, dr, tk, os⟩) :
    codeAny (model prog wo) Ar (.call (.ref Cl) ⟨[], kw⟩) R ⟨hp, gs, dr, tk, os⟩ := by
  have t1 := tc_lookup
  have t2 := tc_bind (.ref Cl)
  have ty : (⟨hp, gs, dr, tk, os⟩ : Shared).TypeIs (.ref Cl) "type" := ⟨_, h, rfl⟩
  apply codeAny_of_tree
  show wpAny _ _ (callAny (.ref Cl) _) _ _ _
  repeat (any_goals (first | assumption | walk_at "stp"))
  refine ⟨rfl, codeAny_call_builtin_at (Code.quiet_builtin _ (by decide +kernel)) entry_typeCall (wpAny_check_type_call_sub h (called F same h find bound (codeAny_mono run ?_)))⟩
  intro r s' q
  cases r with
  | error _ => exact q
  | ok f => cases f <;> exact q
end
end Own

namespace L2
open PySem PySem.Spec PyProof.Rows
/-! ### exceptions as tracked objects -/
/-- an exception of the class at C stands at a, d its own dict's place -/
def xob (a C : Addr) (d : Option Addr) : HO := .ext fun h => ∃ (oe : Obj) (vs : Array Value), h.get? a = some oe ∧ Zc (.ref C) d oe ∧ oe.data = .fields vs
theorem xob_ok {P : Program} {w : World} {H : Hp} {h : Heap} {a C : Addr} {d : Option Addr} {oe : Obj} {vs : Array Value} (e : h.get? a = some oe) (z : Zc (.ref C) d oe) (hd : oe.data = .fields vs) : ObjOk P w H h a (xob a C d) :=
  ⟨⟨oe, vs, e, z, hd⟩, ⟨_, e⟩, fun _ _ ⟨o, vs, e, z, q⟩ k => ⟨o, vs, k _ e, z, q⟩⟩
theorem xob_at {P : Program} {w : World} {H : Hp} {h : Heap} {a C : Addr} {d : Option Addr} (hok : HOk P w H h) (he : H a = some (xob a C d)) : ∃ (oe : Obj) (vs : Array Value), h.get? a = some oe ∧ Zc (.ref C) d oe ∧ oe.data = .fields vs :=
  (show ObjOk P w H h a (.ext fun h => ∃ (oe : Obj) (vs : Array Value), h.get? a = some oe ∧ Zc (.ref C) d oe ∧ oe.data = .fields vs) from hok a _ he).1
/-- it is an instance in the library's sense; what its dict holds -/
theorem xob_inst {P : Program} {w : World} {H : Hp} {h : Heap} {a C dd : Addr} {fs : List (Str × V)} (hok : HOk P w H h) (he : H a = some (xob a C (some dd))) (hd : H dd = some (.xd fs)) :
    ∃ (oe od : Obj), PySem.W.InstAt h a oe C (some od) ∧ ∀ (f : Str) (v : V), fs.lookup f = some v → ∃ u, PySem.W.lookIn f od = some (some u) ∧ RelV v u := by
  obtain ⟨oe, vs, at_, hz, dat⟩ := xob_at hok he
  obtain ⟨mA, nsp, rel⟩ := show ObjOk P w H h dd (.xd fs) from hok dd _ hd
  obtain ⟨od, atd, look⟩ := lookIn_ns nsp
  refine ⟨oe, od, ⟨at_, hz.1, by simp only [PySem.W.notCls, dat], by rw [hz.2]; exact atd⟩, fun f v e => ?_⟩
  obtain ⟨u, hu, ru⟩ := RelO.some_of (v := v) (o := mA f) (e ▸ rel f)
  exact ⟨u, (look f).trans (congrArg some hu), ru⟩
theorem xob_inst0 {P : Program} {w : World} {H : Hp} {h : Heap} {a C : Addr} (hok : HOk P w H h) (he : H a = some (xob a C none)) : ∃ oe : Obj, PySem.W.InstAt h a oe C none := by
  obtain ⟨oe, vs, at_, hz, dat⟩ := xob_at hok he
  exact ⟨oe, at_, hz.1, by simp only [PySem.W.notCls, dat], by rw [hz.2]; exact True.intro⟩
/-- the kinds that may be told anew -/
def Loose : HO → Prop
  | .ext _ => True
  | .xd _ => True
  | _ => False
theorem Loose.no {o : HO} (h : Loose o) : (∀ x, o ≠ .own x) ∧ (∀ xs, o ≠ .tup xs) ∧ (∀ b u, o ≠ .frz b u) ∧ (∀ ps, o ≠ .tbl ps) := by
  cases o <;> first | exact h.elim | exact ⟨(fun _ z => nomatch z), (fun _ z => nomatch z), (fun _ _ z => nomatch z), (fun _ z => nomatch z)⟩
section
variable {X : Cx} {pins : List (Addr × Obj)} {σ : St} {H : Hp} {s : Shared} {a : Addr} {o o' : HO}
theorem Inv.retell (I : Inv X pins σ H s) (e : H a = some o) (l : Loose o) (ok : ObjOk X.prog X.w (upd H a o') s.heap a o') : Inv X pins σ (upd H a o') s := by
  obtain ⟨nw, nt, nf, nb⟩ := l.no
  have ne : ∀ {b u}, H b = some u → o ≠ u → b ≠ a := fun {b u} q d z => by rw [z, e] at q; exact d (Option.some.inj q)
  have na : ∀ {b}, H b = none → b ≠ a := fun {b} q z => by rw [z, e] at q; cases q
  have U : Un X.fs [] H (upd H a o') s.heap s.heap := {
    keep := fun b o q _ _ _ => q
    slot := fun b o q _ _ _ => ⟨o.slots, q⟩
    free := fun b o q n _ => by rw [upd_ne (na n)]; exact n
    there := fun b o q _ => ⟨o, q⟩
    tups := fun b xs q => by rw [upd_ne (ne q (nt xs))]; exact q
    frzs := fun b o v q => by rw [upd_ne (ne q (nf o v))]; exact q
    tbls := fun b ps q => ⟨#[], by rw [upd_ne (ne q (nb ps)), q]; simp⟩ }
  exact I.un (t' := s.toks) U fun b u q => by
    by_cases hb : b = a
    · subst hb
      rw [upd_same] at q
      cases q
      exact ok
    · rw [upd_ne hb] at q
      exact (I.hok b u q).stay (fun c v _ z => z) (fun c hc => by rw [upd_ne (ne hc (nw b))]; exact hc) fun c xs hc => by rw [upd_ne (ne hc (nt xs))]; exact hc
/-- an object that was made behind the entry, not tracked as yet, is tracked -/
theorem Inv.track (I : Inv X pins σ H s) (na : H a = none) (n0 : X.s_0.heap.get? a = none) (nL : a ≠ X.env.locals) (nC : ∀ x c, X.env.cells.lookup x = some c → c ≠ a) (nP : ∀ p ∈ X.pn ++ pins, p.1 ≠ a)
    (new : ObjOk X.prog X.w (upd H a o) s.heap a o) : Inv X pins σ (upd H a o) s where
  ok := I.ok
  os := I.os
  bare := I.bare
  loc := I.loc
  cell := I.cell
  len := I.len
  free := (upd_ne nL.symm).trans I.free
  freeC := fun x c e => (upd_ne (nC x c e)).trans (I.freeC x c e)
  pin := fun p hp => let ⟨p1, p2, r⟩ := I.pin p hp; ⟨p1, (upd_ne (nP p hp)).trans p2, r⟩
  base := {
    keep := I.base.keep
    slot := I.base.slot
    there := I.base.there
    free := fun b ob e n hx => (upd_ne fun z => by rw [z, n0] at e; cases e).trans (I.base.free b ob e n hx)
    tups := fun b xs q => (upd_ne (ne_of_none (I.base.tups b xs q) na)).trans (I.base.tups b xs q)
    frzs := fun b ob u q => (upd_ne (ne_of_none (I.base.frzs b ob u q) na)).trans (I.base.frzs b ob u q)
    tbls := fun b ps q => let ⟨m, y⟩ := I.base.tbls b ps q; ⟨m, (upd_ne (ne_of_none y na)).trans y⟩ }
  hok := fun b u e => by
    by_cases hb : b = a
    · cases hb
      rw [upd_same] at e
      cases e
      exact new
    · rw [upd_ne hb] at e
      exact (I.hok b u e).stay (fun c v _ z => z) (fun c hc => (upd_ne (ne_of_none hc na)).trans hc) fun c xs hc => (upd_ne (ne_of_none hc na)).trans hc
end
/-! ### e.f, isinstance(e, c), e such an exception -/
def tXfT (K : PySem.W.Frag) (f : Str) (te : TE) : TE := fun σ H Q => te σ H fun x H1 => ∃ (a C dd : Addr) (fs : List (Str × V)) (v : V), x = .ref a ∧ XfC K C ∧ PySem.W.findIn K (.ref C) f = some none ∧ H1 a = some (xob a C (some dd)) ∧ H1 dd = some (.xd fs) ∧ fs.lookup f = some v ∧ Q v H1
theorem pe_xfT {X : Cx} {e : Expr} {te : TE} {pos : Pos} {n : Str} (he : PE X e te) (hb : attributeBase e n X.env (eval e X.env) = eval e X.env := by rfl) : PE X (.Attribute e n pos) (tXfT X.K n te) where
  run := fun pins s σ H Q I h => attr_of hb (thn (he.run pins s σ H _ I h) fun u s1 ⟨x, H1, I1, rx, a, C, dd, fs, v, ex, T, no, ea, ed, lk, q⟩ => by
    cases ex
    cases rx
    obtain ⟨oe, od, J, look⟩ := xob_inst I1.hok ea ed
    obtain ⟨u, hu, ru⟩ := look n v lk
    exact HandSPX.exc_get I1.kIn J T.ga T.gg T.exC (PySem.W.findObj_own T.hdC no rfl hu) (handed_of ru) ⟨v, H1, I1.tok _, ru, q⟩)
/-- an exception's dict: none, or told -/
def OdAt (H : Hp) (d : Option Addr) : Prop := d = none ∨ ∃ dd fs, d = some dd ∧ H dd = some (.xd fs)
def rIsT (K : PySem.W.Frag) : List V → Hp → VK → Prop := fun xs H Q => ∃ (a C : Addr) (d : Option Addr) (c : V) (cv : Value) (b : Bool), xs = [.ref a, c] ∧ H a = some (xob a C d) ∧ OdAt H d ∧ ExcC K C ∧ (∀ u, RelV c u → u = cv) ∧ PySem.W.kitOne K (.ref C) cv = some b ∧ Q (.bl b) H
theorem call_isT {X : Cx} : CallR X (.builtin "isinstance") (rIsT X.K) := fun pins s σ H xs us Q I r ⟨a, D, d, c, cv, b, ex, ea, hd, C, hcv, e, q⟩ => by
  cases ex
  obtain ⟨u, v, rfl, ru, rv⟩ := vals2 r
  cases ru
  cases hcv v rv
  have some_cls : (PySem.W.clsIn X.K D).isSome = true := by
    obtain ⟨cd, h1, _⟩ := PySem.W.any_some C.hd
    rw [h1]; rfl
  have inst : ∃ oe od, PySem.W.InstAt s.heap a oe D od := by
    rcases hd with rfl | ⟨dd, fs, rfl, hdd⟩
    · obtain ⟨oe, J⟩ := xob_inst0 I.hok ea
      exact ⟨oe, _, J⟩
    · obtain ⟨oe, od, J, _⟩ := xob_inst I.hok ea hdd
      exact ⟨oe, _, J⟩
  obtain ⟨oe, od, J⟩ := inst
  exact PySem.W.kia_one (PySem.W.kitx_exc some_cls C.hg C.hk C.hs C.ha C.hn C.ht C.hm) I.kIn J e (fun z => nomatch z) fun tk => ⟨.bl b, H, I.kept (t' := tk) fun _ _ z => z, rfl, q⟩

/-! ### defs that may be called where an exception is handled -/
abbrev RoomW := L2H.RoomH
theorem roomW {k : Nat} {A : Around} (r : Room k A) : RoomW k A := L2H.roomH_of r
structure FnW (P : Program) (w : World) (K : PySem.W.Frag) (mg : Str → Option Value) (base : Heap) (CX : CXT) (k : Nat) (f : Addr) (fd : FuncData) (ps : List Str) (sp : Sp) : Prop where
  arity : ∀ vs H Q E, sp vs H Q E → vs.length = ps.length
  go : ∀ (A : Around) (outer : List Env) (s : Shared) (H : Hp) (args : Args) (us : List Value) (vs : List V) (Q : VK) (E : XK), RoomW k A → Env0 P w K mg base A outer s H → BindsTo s fd args (ps.zip us) → Vals vs us → sp vs H Q E → codeAny (model P w) A (.call (.ref f) args) (CR CX outer P w H s Q E) s
theorem FnW.ok {P : Program} {w : World} {K : PySem.W.Frag} {mg : Str → Option Value} {base : Heap} {CX : CXT} {k : Nat} {f : Addr} {fd : FuncData} {ps : List Str} {sp : Sp} (F : FnW P w K mg base CX k f fd ps sp) : FnOk P w K mg base CX k f fd ps sp :=
  ⟨F.arity, fun A outer s H args us vs Q E hr => F.go A outer s H args us vs Q E (roomW hr)⟩
/-- the context of such a def's body: nothing is said of what is handled -/
abbrev Cx.warm (X : Cx) (A : Around) (xe : Value → Shared → Prop) : Cx := { X with A := A, calm := false, xe := xe }
theorem Inv.warm {X : Cx} {pins : List (Addr × Obj)} {σ : St} {H : Hp} {s : Shared} {A : Around} {xe : Value → Shared → Prop} (I : Inv X pins σ H s) (hA : A.frames = some X.stack) : Inv (X.warm A xe) pins σ H s where
  ok := { I.ok with hd := fun z => (Bool.false_ne_true z).elim, frames := hA }
  os := I.os
  bare := I.bare
  base := I.base
  loc := I.loc
  cell := I.cell
  free := I.free
  freeC := I.freeC
  pin := I.pin
  hok := I.hok
  len := I.len
/-- the body's context -/
abbrev cxW (CX : CXT) (P : Program) (w : World) (K : PySem.W.Frag) (mg : Str → Option Value) (base : Heap) (N : List Str) (qual : Str) (scope : Scope) (f : Addr) (cd : Value) (A : Around) (outer : List Env) (s : Shared) (H : Hp) (E : XK) : Cx :=
  { cxOf CX P w K mg base N qual scope f cd A outer s H E with calm := false }
theorem Fun.okW {P : Program} {w : World} {K : PySem.W.Frag} {mg : Str → Option Value} {base : Heap} {x qual : Str} {st : Stmt} {f : Addr} {fd : FuncData} {N ps : List Str} {k : Nat} {sp : Sp} (F : Fun K x qual st f fd) (S : FnScope N ps (defScope st)) (hps : ∀ vs H Q E, sp vs H Q E → vs.length = ps.length)
    (body : ∀ (cdv : Value) (A : Around) (outer : List Env) (s : Shared) (H : Hp) (vs : List V) (Q : VK) (E : XK), RoomW k (A.deeper (envOfC qual (defScope st) s.heap.objs.size f cdv)) → sp vs H Q E →
      ∃ t, PSs (cxW CX0 P w K mg base N qual (defScope st) f cdv A outer s H E).nox (defBody st) t ∧ t { nx := fun _ H' => Q .non H', rt := Q } (start N vs) H) : FnW P w K mg base CX0 (k + 1) f fd ps sp := by
  obtain ⟨_, _, kV, doc, pm, an, cdv, ct, _, rfl, here, code⟩ := F.ex
  refine ⟨hps, fun A outer s H args us vs Q E room e0 bind r h => ?_⟩
  have KX : K.In s.heap := e0.mod.kin.keeps fun _ _ e => (e0.bs _ _ e).1
  have many := hps _ _ _ _ h
  refine Att.call_fn KX (e0.mod.nolimit.keeps fun _ _ e => (e0.bs _ _ e).1) here code room.depth bind ?_ (fun s1 ic => ?_) S.co S.gen S.kind
  · refine List.all_eq_true.mpr fun y hy => ?_
    rcases S.par y.1 (List.of_mem_zip (show (y.1, y.2) ∈ ps.zip us from hy)).1 with z | z <;> simp [z]
  · obtain ⟨t, ht, q⟩ := body cdv A outer s H vs Q E (room.deeper _) h
    have e1 : Env0 P w K mg base { A with handled := none } outer s H := ⟨e0.frames, e0.mod, e0.bs, e0.bsz, e0.funs, e0.frf, e0.hok, e0.bare⟩
    have I0 := inv_start (CX := CX0) (P := P) (w := w) (mg := mg) (base := base) (f := f) (cd := cdv) (A := { A with handled := none }) (E := E) S rfl e1 many r ic
    have I : Inv (cxW CX0 P w K mg base N qual (defScope st) f cdv A outer s H E) [] (start N vs) H s1 := I0.warm (A := A.deeper (envOfC qual (defScope st) s.heap.objs.size f cdv)) (Around.frames_deeper e0.frames)
    refine wpAny_mono (ht.nox.run [] s1 _ H _ I q) (fun fl s2 hs => ?_) fun _ _ z => z
    cases fl with
    | ret u =>
      obtain ⟨v, _, H', J, rv, q'⟩ := hs
      exact ⟨v, H', J.os, J.bare, J.base, J.hok, rv, q'⟩
    | next =>
      obtain ⟨_, H', J, q'⟩ := hs
      exact ⟨.non, H', J.os, J.bare, J.base, J.hok, rfl, q'⟩
    | brk => exact hs.elim fun _ z => z.elim fun _ z => z.2.elim
    | cont => exact hs.elim fun _ z => z.elim fun _ z => z.2.elim
/-- f(e, ..) of such a def -/
theorem pe_callW {X : Cx} {CX : CXT} {k : Nat} {f : Addr} {fd : FuncData} {ps : List Str} {sp : Sp} {E : XK} {x : Str} {q pos : Pos} {e : Expr} {es : List Expr} {t : TA}
    (F : FnW X.prog X.w X.K X.mg X.base CX k f fd ps sp) (room : RoomW k X.A) (gl : Gl X x) (is : X.mg x = some (.ref f)) (kp : PySem.W.keepIn X.K (.ref f) = true) (bind : Binds X.K fd ps []) (pass : Passes CX X E) (args : PA X (e :: es) t)
    (nodebug : (x == ("__debug__" : Str)) = false := by decide) (first : starEach (e :: es) X.env = (false, eval e X.env) :: starEach es X.env := by rfl) (nostar : (backTo pos (starEach es X.env)).any (·.1) = false := by rfl) :
    PE X (.Call (.Name x q) (e :: es) [] pos) (fun σ H Q => t σ H fun vs H1 => sp vs H1 Q E) where
  run := fun pins s σ H Q I h => wpAny_Call_Name_kw (ld_glob I gl is (PySem.W.callWith_K (h₀ := X.base) I.ok.mod.kin kp (thn (args.run pos pins s σ H _ I h) fun us s1 ⟨vs, H1, I1, r, y⟩ => ⟨I1.kIn, by
    have n : us.length = ps.length := r.length.symm.trans (F.arity _ _ _ _ y)
    have b := bind s1 us I1.kIn (by simpa using n)
    simp only [List.append_nil] at b
    refine wpAny_call (codeAny_mono (F.go X.A X.stack s1 H1 ⟨us, []⟩ us vs Q E room I1.env0 b r y) fun res s2 z => ?_)
    match res, z with
    | .error er, z => exact pass pins σ H1 s1 er s2 I1 z
    | .ok (.ret _), z => exact I1.after z⟩) first nostar) nodebug)

/-! ### try: body, except M as n: suite, where every exception of the body is an own one that M names -/
section
variable {X : Cx} {pins : List (Addr × Obj)} {σ : St} {H : Hp} {s : Shared}
/-- the suite's context, the exception tracked, not pinned -/
theorem Inv.inSuite (I : Inv X pins σ H s) (a : Addr) : Inv (X.suite a (X.pn ++ pins)) [] σ H s where
  ok := I.ok.suite a _
  os := I.os
  bare := I.bare
  base := I.base
  loc := I.loc
  cell := I.cell
  free := I.free
  freeC := I.freeC
  pin := fun p hp => I.pin p ((List.append_nil (X.pn ++ pins)) ▸ hp)
  hok := I.hok
  len := I.len
theorem Inv.outSuite {a : Addr} (I : Inv (X.suite a (X.pn ++ pins)) [] σ H s) (ok : X.Ok) : Inv X pins σ H s where
  ok := ok
  os := I.os
  bare := I.bare
  base := I.base
  loc := I.loc
  cell := I.cell
  free := I.free
  freeC := I.freeC
  pin := fun p hp => I.pin p ((List.append_nil (X.pn ++ pins)).symm ▸ hp)
  hok := I.hok
  len := I.len
end
/-- the ends of a suite: slot i is emptied -/
def Ends.less (D : Ends) (i : Nat) : Ends := { nx := fun σ H => D.nx (σ.set i none) H, rt := D.rt, bk := fun σ H => D.bk (σ.set i none) H, ct := fun σ H => D.ct (σ.set i none) H }
/-- what is wished of an exception of the body -/
def wAsT (K : PySem.W.Frag) (c : Value) (i : Nat) (ts : TS) (D : Ends) : WX := fun cls d σ H => PySem.W.exmOne K cls c = some true ∧ ∃ C : Addr, cls = .ref C ∧ ∀ a, H a = none → ts (D.less i) (σ.set i (some (.ref a))) (upd H a (xob a C d))
section
variable {X : Cx} {x n : Str} {c : Value} {i : Nat} {body suite : List Stmt} {b0 : Stmt} {p1 p2 p3 : Pos} {tb : WX → TS} {ts : TS}
/-- what came behind the state I is none of its things -/
theorem newcomer {pins : List (Addr × Obj)} {σ : St} {H : Hp} {s : Shared} {a : Addr} (I : Inv X pins σ H s) (alone : X.ex = []) (no : s.heap.get? a = none) :
    X.s_0.heap.get? a = none ∧ a ≠ X.env.locals ∧ (∀ x c, X.env.cells.lookup x = some c → c ≠ a) ∧ ∀ p ∈ X.pn ++ pins, p.1 ≠ a := by
  have some_not : ∀ {b : Addr} {o : Obj}, s.heap.get? b = some o → b ≠ a := fun {b o} e z => by rw [z, no] at e; cases e
  refine ⟨Option.eq_none_iff_forall_ne_some.mpr fun o e => ?_, ?_, fun x c e => ?_, fun p hp => some_not (I.pin p hp).1⟩
  · obtain ⟨o', z⟩ := I.base.there a o e (by simp [alone])
    exact some_not z rfl
  · obtain ⟨m, ⟨o, _, _, e, _⟩, _⟩ := I.loc
    exact (some_not e).symm
  · obtain ⟨v, o, e', _⟩ := I.cell x c e
    exact some_not e'
/-- an exception has come to the try: its suite runs -/
theorem caught {pins : List (Addr × Obj)} {D : Ends} {u : Value} {s : Shared} {xe : Value → Shared → Prop} (alone : X.ex = []) (top : X.stack = X.env :: X.outer) (frame : X.env.frame = some X.env.locals) (nodup : X.N.Nodup) (slot : X.N[i]? = some n) (loc : X.env.kindOf n = some .local) (names : Names X x c) (ok : X.Ok)
    (run : ∀ (a : Addr) (pn : List (Addr × Obj)), PSs (X.suite a pn) (b0 :: suite) ts) (fly : XE (X.tr (X.pn ++ pins) xe) (wAsT X.K c i ts D) u s) :
    wpAny (model X.prog X.w) X.A (noteFrame u X.env) (fun _ s2 => wpAny (model X.prog X.w) X.A (setFlight u none) (fun _ s3 => wpAny (model X.prog X.w) X.A (handleBy u X.env [.ExceptHandler (some (.Name x p1)) (some n) (b0 :: suite) p2]) (SP X pins D) X.xe s3) X.xe s2) X.xe s := by
  obtain ⟨a, ground, sI, _, σ1, H1, cls, d, rfl, Jt, stays, slots, sky, free, os, gens, named, C, rfl, wish⟩ := fly
  have J : Inv X pins σ1 H1 sI := Jt.ofTry ok
  refine Sky.land Zc.steady (ok.frames.trans (congrArg some top)) frame (top ▸ sky) fun h3 f3 up3 => ?_
  obtain ⟨o3, v3, g3, z3, d3⟩ := f3.there
  have notFrame : a ∉ frs X.stack := fun hm => by
    obtain ⟨_, o, e, other⟩ := f3.2.2.1.mem (top ▸ hm)
    exact other v3 (Option.some.inj (e.symm.trans g3) ▸ d3)
  have absent : sI.heap.get? a = none := Option.eq_none_iff_forall_ne_some.mpr fun o e => by
    have z := stays a o e notFrame
    rw [f3.2.1] at z
    cases z
  obtain ⟨n0, nL, nC, nP⟩ := newcomer J alone absent
  have J3 : Inv X pins σ1 H1 { s with heap := h3 } := J.landed stays f3.1 (slots.trans up3) os gens
  have clause : ∀ {Q : Value → Shared → Prop} {E : Value → Shared → Prop}, Q c { s with heap := h3 } → wpAny (model X.prog X.w) (X.A.mark (some (.ref a))) (eval (.Name x p1) X.env) Q E { s with heap := h3 } := fun {Q E} q => by
    rcases names with ⟨gl, dbg, is | ⟨no, boot, other⟩⟩
    · exact ld_glob (J3.inSuite a) gl is q dbg
    · exact ld_blt (J3.inSuite a) gl no boot q other dbg
  have cls3 : PySem.W.Looks (model X.prog X.w) h3 (typeOf (.ref a)) (.ref C) := fun _ _ _ _ keep q => wpAny_typeOf_ref (keep _ _ g3) (z3.1.symm ▸ q)
  refine wpAny_handleBy_cons (codeAny_handlers_test (clause ((PySem.W.exm_one (M := model X.prog X.w) J3.kIn cls3 named).here ?_))) (fun z => nomatch z)
  refine codeAny_handlers_suite_as (HandSPX.lands_againZ f3 fun h4 f4 up4 => ?_)
  obtain ⟨o4, v4, g4, z4, d4⟩ := f4.there
  have J4 : Inv X pins σ1 H1 { s with heap := h4 } := J.landed stays f4.1 ((slots.trans up3).trans up4) os gens
  have J5 := (J4.track free n0 nL nC nP (xob_ok g4 z4 d4)).inSuite a
  refine store_ok (X := X.suite a (X.pn ++ pins)) (v := .ref a) J5 nodup slot (.inl loc) rfl (fun s5 S5 => ?_) (.inr loc)
  have leave : ∀ {σ6 : St} {H6 : Hp} {s6 : Shared} {Q : Shared → Prop}, Inv (X.suite a (X.pn ++ pins)) [] σ6 H6 s6 → (∀ s7, Inv X pins (σ6.set i none) H6 s7 → Q s7) → wpAny (model X.prog X.w) X.A (do bindName X.env n .none; unbindBehindTheSuite X.env n p2) (fun _ s7 => Q s7) X.xe s6 :=
    fun S6 q => gone_ok (S6.outSuite ok) nodup slot loc q
  refine wpAny_mono ((run a (X.pn ++ pins)).run [] s5 _ _ _ S5 (wish a free)) (fun fl s6 q => ?_) fun _ _ z => z.elim
  match fl, q with
  | .next, ⟨_, _, S6, q⟩ => exact leave S6 fun _ J7 => ⟨_, _, J7, q⟩
  | .brk, ⟨_, _, S6, q⟩ => exact leave S6 fun _ J7 => ⟨_, _, J7, q⟩
  | .cont, ⟨_, _, S6, q⟩ => exact leave S6 fun _ J7 => ⟨_, _, J7, q⟩
  | .ret _, ⟨_, _, _, S6, r, q⟩ => exact leave S6 fun _ J7 => ⟨_, _, _, J7, r, q⟩
theorem ps_try_asT (alone : X.ex = []) (top : X.stack = X.env :: X.outer) (frame : X.env.frame = some X.env.locals) (nodup : X.N.Nodup) (slot : X.N[i]? = some n) (loc : X.env.kindOf n = some .local) (names : Names X x c)
    (try_ : ∀ (W : WX) (pn : List (Addr × Obj)) (xe : Value → Shared → Prop), Takes (X.tr pn xe) W → PSs (X.tr pn xe) body (tb W)) (run : ∀ (a : Addr) (pn : List (Addr × Obj)), PSs (X.suite a pn) (b0 :: suite) ts) :
    PS X (.Try body [.ExceptHandler (some (.Name x p1)) (some n) (b0 :: suite) p2] [] [] p3) (fun D σ H => tb (wAsT X.K c i ts D) D σ H) where
  run := fun pins s σ H D I h => by
    have ok := I.ok
    refine wpAny_Try_except (wpAny_mono ((try_ (wAsT X.K c i ts D) (X.pn ++ pins) _ fun u s' y => caught alone top frame nodup slot loc names ok run y).run [] s σ H D (I.toTry _) h) (fun fl s1 q => ?_) fun _ _ z => z)
    match fl, q with
    | .next, ⟨_, _, J, q⟩ => exact wpAny_execs_nil ⟨_, _, J.ofTry ok, q⟩
    | .brk, ⟨_, _, J, q⟩ => exact ⟨_, _, J.ofTry ok, q⟩
    | .cont, ⟨_, _, J, q⟩ => exact ⟨_, _, J.ofTry ok, q⟩
    | .ret _, ⟨_, _, _, J, r, q⟩ => exact ⟨_, _, _, J.ofTry ok, r, q⟩
end
end L2

namespace L2
open PySem PySem.Spec PyProof.Rows
/-! ### an own exception made as a value -/
/-- C(k = v, ..), C's own __init__ keeping sp -/
def tXMk (C : Addr) (n : Nat) (sp : Sp) (gV : List V → List V → List V) (tk : TA) : TE := fun σ H Q => tk σ H fun zs H1 => zs.length = n ∧ ∀ a, H1 a = none → sp (gV [.ref a] zs) (upd H1 a (exo a C none))
  (fun v H2 => v = .non ∧ ∃ (d : Addr) (fs : List (Str × V)), H2 a = some (exo a C (some d)) ∧ H2 d = some (exd d fs) ∧ d ≠ a ∧ Q (.ref a) (upd (upd H2 d (.xd fs)) a (xob a C (some d)))) (fun _ _ _ => False)
section
variable {X : Cx} {CX : CXT} {k : Nat} {C fI : Addr} {fd : FuncData} {ps ks : List Str} {sp : Sp} {x : Str} {p pos : Pos} {kws : List Keyword} {tk : TA} {g : List Value → List Value → List Value} {gV : List V → List V → List V}
/-- behind __init__ the exception stands as a made one -/
theorem Inv.finished {pins : List (Addr × Obj)} {σ : St} {H : Hp} {s : Shared} {a d : Addr} {fs : List (Str × V)} (I : Inv X pins σ H s) (ea : H a = some (exo a C (some d))) (ed : H d = some (exd d fs)) (ne : d ≠ a) : Inv X pins σ (upd (upd H d (.xd fs)) a (xob a C (some d))) s := by
  have J : Inv X pins σ (upd H d (.xd fs)) s := I.retell ed True.intro (exd_at I.hok ed)
  have ea' : (upd H d (.xd fs)) a = some (exo a C (some d)) := (upd_ne ne.symm).trans ea
  obtain ⟨t, at_⟩ := exo_at J.hok ea'
  exact J.retell ea' True.intro (xob_ok at_ ⟨rfl, rfl⟩ rfl)
theorem pe_xmk (T : OexC X.K C) (ini : PySem.W.findIn X.K (.ref C) "__init__" = some (some (.ref fI))) (fn : PySem.W.typeIn X.K (.ref fI) = some (.type "function"))
    (fnok : FnOk X.prog X.w X.K X.mg X.base CX k fI fd ps sp) (room : Room (k + 1) X.A) (bind : KBn X.K fd ps 1 ks g gV) (pass : Passes CX X (fun _ _ _ => False)) (gl : Gl X x) (is : X.mg x = some (.ref C)) (vals : PK X kws tk)
    (named : (backToKw pos (keywordEach kws X.env)).all (·.1.isSome) = true := by rfl) (names : (backToKw pos (keywordEach kws X.env)).filterMap (·.1) = ks := by rfl) (nodebug : (x == ("__debug__" : Str)) = false := by decide)
    (plain : ((backTo pos (starEach [] X.env)).any (·.1) || (backToKw pos (keywordEach kws X.env)).any (·.1.isNone)) = false := by rfl) : PE X (.Call (.Name x p) [] kws pos) (tXMk C ks.length sp gV tk) where
  run := fun pins s σ H Q I h => by
    obtain ⟨_, _, _, _, bm, _, _, _, _, _, _, _, _, _, _, cls, mro⟩ := T.cls
    refine wpAny_Call_Name_kw (ld_glob I gl is (PySem.W.callWith_KW0 (h₀ := X.base) I.ok.mod.kin T.kC named (thn (vals.run pos pins s σ H _ I h) fun ws s1 ⟨zs, H1, I1, rz, hz, q1⟩ => ⟨I1.kIn, ?_⟩) plain) nodebug)
    obtain ⟨hp, gs, dr, tks, os⟩ := s1
    have new : H1 (hp.objs.size + 1) = none := I1.hok.fresh (Nat.le_succ _)
    have I2 : Inv X pins σ (upd H1 (hp.objs.size + 1) (exo (hp.objs.size + 1) C none)) ⟨(hp.push (PySem.W.kdv_tup [])).push (PySem.HandSPX.excO C hp.objs.size), gs, dr, tks, os⟩ :=
      I1.laid (t' := tks) (o := exo (hp.objs.size + 1) C none) (fun _ _ e => Heap.get?_push_of_some _ (Heap.get?_push_of_some _ e)) (Nat.le_succ _) (exo_ok (by heap_get))
    have q2 := q1 _ new
    rw [names]
    show wpAny _ _ (call (.ref C) [] (ks.zip ws)) _ _ _
    refine wpAny_call (Own.made (kw := ks.zip ws) PySem.F.excBase_ValueError (fun Y => PySem.HandSPX.refsVE_contains Y bm mro) (I1.kIn _ _ cls) (PySem.W.looks_findIn I1.kIn ini) (fun me => PySem.W.bind_fn I1.kIn me fn)
      (codeAny_mono (fnok.run _ X.stack _ _ ⟨[.ref (hp.objs.size + 1)], ks.zip ws⟩ (g [.ref (hp.objs.size + 1)] ws) _ _ (fun _ _ _ => False) (room.make C [] (ks.zip ws)) (I2.env0.make C [] (ks.zip ws))
        (bind.to _ [.ref (hp.objs.size + 1)] ws I2.kIn rfl (rz.length.symm.trans hz)) (bind.rel (show Vals [V.ref (hp.objs.size + 1)] [Value.ref (hp.objs.size + 1)] from .cons rfl .nil) rz) q2) fun r s2 y => ?_))
    match r, y with
    | .error er, y => exact pass pins σ _ _ er s2 I2 y
    | .ok (.ret u), y =>
      obtain ⟨_, H3, I3, rv, rfl, d, fs, ea, ed, ne, q3⟩ := I2.after y
      exact ⟨rv, .ref (hp.objs.size + 1), _, I3.finished ea ed ne, rfl, q3⟩
/-- C(), C without own __init__, as a value; raised -/
theorem pe_xmk0 {full : List Value} {Base new ini : String} (F : ExcBaseFacts Base new ini full) (own : PySem.W.excIn X.K C full new = true) (is : X.mg x = some (.ref C)) (kp : PySem.W.keepIn X.K (.ref C) = true) (gl : Gl X x) (nodebug : (x == ("__debug__" : Str)) = false := by decide) :
    PE X (.Call (.Name x p) [] [] pos) (fun _ H Q => ∀ a, H a = none → Q (.ref a) (upd H a (xob a C none))) where
  run := fun pins s σ H Q I h => wpAny_Call_Name_kw (ld_glob I gl is (PySem.W.callWith_K0 I.kIn kp (by
    obtain ⟨_, _, _, _, _, _, _, _, _, _, _, _, _, _, _, _, _, cls, ns, no, tl⟩ := exc_obj I.kIn own
    refine wpAny_call_exc_subT F tl cls ns no (fun h' a m => ?_) (Nat.zero_le _)
    have free := I.hok.gone m.new
    obtain ⟨_, at_, _⟩ := m.there
    exact ⟨.ref a, _, I.laidN m.keeps m.new free (xob_ok at_ ⟨rfl, rfl⟩ rfl), rfl, h a free⟩)) nodebug)
theorem pmk_own0 {full : List Value} {Base new ini : String} (F : ExcBaseFacts Base new ini full) (own : PySem.W.excIn X.K C full new = true) (is : X.mg x = some (.ref C)) (kp : PySem.W.keepIn X.K (.ref C) = true) (r : Raises X (.ref C)) (gl : Gl X x) (nodebug : (x == ("__debug__" : Str)) = false := by decide) :
    PMk X (.Call (.Name x p) [] [] pos) (fun _ H Q => Q (.ref C) none H) := fun pins s σ H Q I h => wpAny_Call_Name_kw (ld_glob I gl is (PySem.W.callWith_K0 I.kIn kp (by
    obtain ⟨_, _, _, _, _, _, _, _, _, _, _, _, _, _, _, _, _, cls, ns, no, tl⟩ := exc_obj I.kIn own
    exact wpAny_call_exc_subT F tl cls ns no (fun h' e m => mk_of I m r h (I.hok.gone m.new)) (Nat.zero_le _))) nodebug)
end
end L2

namespace Kx
open PySem L2
def top (i : Nat) : Stmt := PySem.Challenge.pw_nevermiss_k08_pieces_and_lightest.main.body.getD i (.Pass ⟨0, 0, 0, 0⟩)
abbrev s__law_pen : Stmt := top 43
abbrev s__law_draw : Stmt := top 44
abbrev s__law_pick : Stmt := top 45
/-- a def of the text, as it stands behind the top -/
structure DefT (K : PySem.W.Frag) (mg : Str → Option Value) (name qual : Str) (st : Stmt) (ps : List Str) (f : Addr) (fd : FuncData) : Prop where
  g : mg name = some (.ref f)
  F : Fun K name qual st f fd
  b : Binds K fd ps []
/-! ### the pen -/
/-- all but what stands at p is as it was -/
def SameBut (p : Addr) (H H' : Hp) : Prop := ∀ b o, H b = some o → b ≠ p → H' b = some o
theorem SameBut.refl (p : Addr) (H : Hp) : SameBut p H H := fun _ _ h _ => h
theorem SameBut.trans {p : Addr} {H H1 H2 : Hp} (a : SameBut p H H1) (b : SameBut p H1 H2) : SameBut p H H2 := fun c o h n => b c o (a c o h n) n
theorem SameBut.of {p : Addr} {H H' : Hp} (a : Same H H') : SameBut p H H' := fun c o h _ => a c o h
theorem Same.upd {H : Hp} {p : Addr} {o : HO} (h : H p = none) : Same H (upd H p o) := fun b u e => by rw [upd_ne (ne_of_none e h)]; exact e
theorem SameBut.upd {H : Hp} {p : Addr} {o : HO} : SameBut p H (upd H p o) := fun b u e n => by rw [upd_ne n]; exact e
theorem SameBut.new {H : Hp} {p q : Addr} {o : HO} (h : H q = none) : SameBut p H (L2.upd H q o) := .of (Same.upd h)
abbrev kCells : Key := Sum.inr "cells"
abbrev kAt : Key := Sum.inr "at"
abbrev kLeft : Key := Sum.inr "left"
def penKvs (c : Addr) (a l : Int) : List (Key × V) := [(kCells, .ref c), (kAt, .int a), (kLeft, .int l)]
theorem n_ca : ¬ (kCells = kAt) := by decide +kernel
theorem n_cl : ¬ (kCells = kLeft) := by decide +kernel
theorem n_al : ¬ (kAt = kLeft) := by decide +kernel
theorem pen_cells (c : Addr) (a l : Int) : valV (penKvs c a l) kCells = some (.ref c) := valV_pos rfl
theorem pen_at (c : Addr) (a l : Int) : valV (penKvs c a l) kAt = some (.int a) := by
  unfold penKvs
  rw [valV_neg n_ca]
  exact valV_pos rfl
theorem pen_left (c : Addr) (a l : Int) : valV (penKvs c a l) kLeft = some (.int l) := by
  unfold penKvs
  rw [valV_neg n_cl, valV_neg n_al]
  exact valV_pos rfl
theorem put_at (c : Addr) (a l x : Int) : putK (penKvs c a l) kAt (.int x) = penKvs c x l := by
  have h : ((penKvs c a l).any fun kv => decide (kv.1 = kAt)) = true := by
    rw [valV_any, pen_at]; rfl
  unfold putK
  rw [if_pos h]
  show [if kCells = kAt then (kCells, V.int x) else (kCells, V.ref c), if kAt = kAt then (kAt, V.int x) else (kAt, V.int a), if kLeft = kAt then (kLeft, V.int x) else (kLeft, V.int l)] = _
  rw [if_neg n_ca, if_pos rfl, if_neg (Ne.symm n_al)]
  rfl
theorem put_left (c : Addr) (a l x : Int) : putK (penKvs c a l) kLeft (.int x) = penKvs c a x := by
  have h : ((penKvs c a l).any fun kv => decide (kv.1 = kLeft)) = true := by
    rw [valV_any, pen_left]; rfl
  unfold putK
  rw [if_pos h]
  show [if kCells = kLeft then (kCells, V.int x) else (kCells, V.ref c), if kAt = kLeft then (kAt, V.int x) else (kAt, V.int a), if kLeft = kLeft then (kLeft, V.int x) else (kLeft, V.int l)] = _
  rw [if_neg n_cl, if_neg n_al, if_pos rfl]
  rfl
/-- a pen at p: n bounds the places that were read -/
def PenAt (H : Hp) (p c : Addr) (n : Nat) : Prop := ∃ (ns : List Int) (a l : Int), H p = some (.dK (penKvs c a l)) ∧ H c = some (.lst (ns.map V.int)) ∧ ns.length ≤ 63 ∧ 0 ≤ a ∧ a ≤ n
theorem PenAt.ne {H : Hp} {p c : Addr} {n : Nat} (h : PenAt H p c n) {b : Addr} {xs : List V} (e : H b = some (.lst xs)) : b ≠ p := by
  obtain ⟨ns, a, l, h1, _⟩ := h
  exact ne_of e h1 (by intro z; cases z)
theorem PenAt.keep {H H' : Hp} {p c : Addr} {n : Nat} (h : PenAt H p c n) (s : Same H H') : PenAt H' p c n := by
  obtain ⟨ns, a, l, h1, h2, r⟩ := h
  exact ⟨ns, a, l, s _ _ h1, s _ _ h2, r⟩
/-- a store elsewhere -/
theorem PenAt.put {H : Hp} {p c : Addr} {n : Nat} (h : PenAt H p c n) {d : Addr} {o : HO} (np : d ≠ p) (nc : d ≠ c) : PenAt (upd H d o) p c n := by
  obtain ⟨ns, a, l, h1, h2, r⟩ := h
  exact ⟨ns, a, l, by rw [upd_ne (Ne.symm np)]; exact h1, by rw [upd_ne (Ne.symm nc)]; exact h2, r⟩
theorem PenAt.apart {H : Hp} {p c : Addr} {n : Nat} (h : PenAt H p c n) {d : Addr} (e : H d = none) : d ≠ p ∧ d ≠ c := by
  obtain ⟨ns, a, l, h1, h2, r⟩ := h
  exact ⟨fun z => (by rw [z, h1] at e; cases e), fun z => (by rw [z, h2] at e; cases e)⟩
theorem PenAt.mono {H : Hp} {p c : Addr} {n m : Nat} (h : PenAt H p c n) (s : n ≤ m) : PenAt H p c m := by
  obtain ⟨ns, a, l, h1, h2, h3, h4, h5⟩ := h
  exact ⟨ns, a, l, h1, h2, h3, h4, by omega⟩
def spPen (K : PySem.W.Frag) : Sp := fun vs H Q _ => ∃ (s : Addr) (ns : List Int), vs = [.ref s] ∧ SqL K H s (ns.map V.int) ∧ ns.length ≤ 63 ∧ ∀ p c H', H p = none → Same H H' → PenAt H' p c 0 → Q (.ref p) H'
def spDraw : Sp := fun vs H Q _ => ∃ (p c : Addr) (many : Int) (n : Nat), vs = [.ref p, .int many] ∧ PenAt H p c n ∧ n ≤ 1000000 ∧ 0 < many ∧ many < 1073741824 ∧
  ∀ (r : Int) H', 0 ≤ r → r < many → PenAt H' p c (n + 1) → SameBut p H H' → Q (.int r) H'
def spPick : Sp := fun vs H Q _ => ∃ (p c q : Addr) (xs : List V) (n : Nat), vs = [.ref p, .ref q] ∧ PenAt H p c n ∧ n ≤ 1000000 ∧ H q = some (.lst xs) ∧ 0 < xs.length ∧ xs.length ≤ 1000000 ∧
  ∀ (v : V) (i : Nat) H', xs[i]? = some v → PenAt H' p c (n + 1) → SameBut p H H' → Q v H'
structure TxtP (K : PySem.W.Frag) (mg : Str → Option Value) (f1 f2 f3 : Addr) (d1 d2 d3 : FuncData) : Prop where
  D__law_pen : DefT K mg "_law_pen" "_law_pen" s__law_pen ["script"] f1 d1
  D__law_draw : DefT K mg "_law_draw" "_law_draw" s__law_draw ["pen", "many"] f2 d2
  D__law_pick : DefT K mg "_law_pick" "_law_pick" s__law_pick ["pen", "items"] f3 d3
  n_list : mg "list" = none
  n_int : mg "int" = none
  n_len : mg "len" = none
local macro_rules | `(tactic| walk_at "g") => `(tactic| first | refine ⟨_, _, rfl, rfl, ?_⟩ | refine ⟨_, rfl, ?_⟩ | refine ⟨rfl, ?_⟩)
theorem cut63 (ns : List Int) : ∃ ms : List Int, cutV (ns.map V.int) none (some 63) = ms.map V.int ∧ ms.length ≤ ns.length := by
  refine ⟨(ns.drop (HT.sIx (ns.map V.int).length 0 none)).take (HT.sIx (ns.map V.int).length (ns.map V.int).length (some 63) - HT.sIx (ns.map V.int).length 0 none), ?_, ?_⟩
  · unfold cutV
    rw [List.map_take, List.map_drop]
  · rw [List.length_take, List.length_drop]; omega
section
variable {P : Program} {w : World} {K : PySem.W.Frag} {mg : Str → Option Value} {base : Heap} {f1 f2 f3 : Addr} {d1 d2 d3 : FuncData}
theorem sc_pen : FnScope ["script"] ["script"] (defScope s__law_pen) := ⟨rfl, rfl, rfl, by decide +kernel, rfl, by decide +kernel, by decide +kernel⟩
theorem ok_pen (T : TxtP K mg f1 f2 f3 d1 d2 d3) : FnOk P w K mg base CX0 1 f1 d1 ["script"] (spPen K) := by
  have sc := sc_pen
  refine T.D__law_pen.F.ok sc (fun vs H Q E h => ?_) (fun cdv A outer s H vs Q E hr h => ?_)
  · obtain ⟨_, _, rfl, _⟩ := h; rfl
  · obtain ⟨a, ns, rfl, hs, hl, k⟩ := h
    have hu := hu_of hr
    refine ⟨_, (pss_one (ps_ret (pe_disp (pps_cons pe_str (pe_callTy call_list_of (by rfl) T.n_list (by decide +kernel) (pa_cons (pe_slice sl_list (pv 0) po_none (po_some pe_int)) pa_nil)) (pps_cons pe_str pe_int (pps_cons pe_str pe_int pps_nil))) (by rfl) (by rfl) (fun z => by cases z) (by decide)))), ?_⟩
    intro p hp
    have s1 : Same H (upd H p (.dK [])) := Same.upd hp
    obtain ⟨ms, em, lm⟩ := cut63 ns
    refine ⟨_, rfl, _, rfl, a, _, rfl, s1.seq hs, fun q hq => ?_⟩
    rw [em]
    refine ⟨q, ms.map V.int, rfl, .inl (SqL.of upd_same), fun l hl2 => ?_⟩
    have npq : p ≠ q := ne_of_none upd_same hq
    have npl : p ≠ l := ne_of_none (by rw [upd_ne npq]; exact upd_same) hl2
    refine ⟨by rw [upd_ne npl, upd_ne npq, upd_same], penKvs l 0 0, rfl, (by show 3 ≤ 15; decide), ?_⟩
    refine k p l _ hp (fun b o e => ?_) ⟨ms, 0, 0, ?_, ?_, by omega, by omega, by omega⟩
    · have e1 : upd H p (.dK []) b = some o := s1 b o e
      have e2 : upd (upd H p (.dK [])) q (.lst (ms.map V.int)) b = some o := Same.upd hq b o e1
      rw [upd_ne (ne_of_none e hp)]
      exact Same.upd hl2 b o e2
    · rw [upd_same]
      rfl
    · rw [upd_ne npl.symm, upd_same]
theorem dg_left {H : Hp} {p c : Addr} {a l : Int} (h : H p = some (.dK (penKvs c a l))) : DGet H p (.str "left") (some (.int l)) := by
  have q := DGet.k (k := kLeft) h
  rw [pen_left] at q
  exact q
theorem dg_at {H : Hp} {p c : Addr} {a l : Int} (h : H p = some (.dK (penKvs c a l))) : DGet H p (.str "at") (some (.int a)) := by
  have q := DGet.k (k := kAt) h
  rw [pen_at] at q
  exact q
theorem dg_cells {H : Hp} {p c : Addr} {a l : Int} (h : H p = some (.dK (penKvs c a l))) : DGet H p (.str "cells") (some (.ref c)) := by
  have q := DGet.k (k := kCells) h
  rw [pen_cells] at q
  exact q
theorem dp_left {H : Hp} {p c : Addr} {a l x : Int} (h : H p = some (.dK (penKvs c a l))) : DPut H p (.str "left") (.int x) (upd H p (.dK (penKvs c a x))) := by
  have q := DPut.k (k := kLeft) (v := .int x) h (by show 3 < sizeLine; decide)
  rw [put_left] at q
  exact q
theorem dp_at {H : Hp} {p c : Addr} {a l x : Int} (h : H p = some (.dK (penKvs c a l))) : DPut H p (.str "at") (.int x) (upd H p (.dK (penKvs c x l))) := by
  have q := DPut.k (k := kAt) (v := .int x) h (by show 3 < sizeLine; decide)
  rw [put_at] at q
  exact q
theorem dpInts (K : PySem.W.Frag) (H : Hp) : ∀ ns : List Int, DpAll K H (ns.map V.int) (ns.map PyData.int)
  | [] => .nil
  | n :: ns => .cons (.int n) (dpInts K H ns)
/-- data of a small depth -/
def Sh (n : Nat) (d : PyData) : Prop := d.canLay0 = true ∧ d.depth ≤ n
theorem Sh.int {n : Nat} (i : Int) : Sh n (.int i) := ⟨by simp [PyData.canLay0], by rw [PyData.depth]; omega⟩
theorem Sh.bl {n : Nat} (b : Bool) : Sh n (.bool b) := ⟨by simp [PyData.canLay0], by rw [PyData.depth]; omega⟩
theorem Sh.str {n : Nat} {x : Str} (h : PyData.strOk x = true) : Sh n (.str x) := ⟨by simp [PyData.canLay0, h], by rw [PyData.depth]; omega⟩
theorem Sh.all {n : Nat} : ∀ {xs : List PyData}, (∀ x ∈ xs, Sh n x) → PyData.canLayAll0 xs = true ∧ PyData.depthAll xs ≤ n
  | [], _ => ⟨by simp [PyData.canLayAll0], by rw [PyData.depthAll]; omega⟩
  | x :: xs, h => by
    obtain ⟨a, b⟩ := Sh.all (xs := xs) fun y hy => h y (List.mem_cons_of_mem _ hy)
    obtain ⟨c, d⟩ := h x List.mem_cons_self
    refine ⟨by rw [PyData.canLayAll0, c, a]; rfl, ?_⟩
    rw [PyData.depthAll]
    exact Nat.max_le.mpr ⟨d, b⟩
theorem Sh.list {n : Nat} {xs : List PyData} (h : ∀ x ∈ xs, Sh n x) : Sh (n + 1) (.list xs) := by
  obtain ⟨a, b⟩ := Sh.all h
  exact ⟨by rw [PyData.canLay0]; exact a, by rw [PyData.depth]; omega⟩
theorem Sh.tup {n : Nat} {xs : List PyData} (h : ∀ x ∈ xs, Sh n x) : Sh (n + 1) (.tuple xs) := by
  obtain ⟨a, b⟩ := Sh.all h
  exact ⟨by rw [PyData.canLay0]; exact a, by rw [PyData.depth]; omega⟩
theorem Sh.ok {n : Nat} {d : PyData} (h : Sh n d) (hn : n ≤ 64) : SeqAt.shaped d = true := by
  unfold SeqAt.shaped
  rw [h.1, decide_eq_true (Nat.le_trans h.2 hn)]
  rfl
theorem Sh.refl {n : Nat} {d : PyData} (h : Sh n d) : PyData.eqv d d = true := PySem.SeqAt.eqv_refl d h.1
theorem ifT {c A B : Prop} [Decidable c] (h : c) (a : A) : if decide c = true then A else B := by rw [if_pos (decide_eq_true h)]; exact a
theorem ifF {c A B : Prop} [Decidable c] (h : ¬ c) (b : B) : if decide c = true then A else B := by rw [if_neg (by simpa using h)]; exact b
theorem ifTn {c A B : Prop} [Decidable c] (h : ¬ c) (a : A) : if (!decide c) = true then A else B := by rw [if_pos (by simpa using h)]; exact a
theorem ifFn {c A B : Prop} [Decidable c] (h : c) (b : B) : if (!decide c) = true then A else B := by rw [if_neg (by simpa using h)]; exact b
theorem shInts (ns : List Int) : SeqAt.shaped (.list (ns.map PyData.int)) = true := (Sh.list (n := 0) fun x hx => by
  obtain ⟨i, _, rfl⟩ := List.mem_map.mp hx
  exact Sh.int i).ok (by decide)
theorem eqv_ints_nil (ns : List Int) : PyData.eqv (.list (ns.map PyData.int)) (.list []) = decide (ns = []) := by
  cases ns with
  | nil => rw [List.map_nil, PyData.eqv, PyData.eqvAll]; rfl
  | cons a r => rw [List.map_cons, PyData.eqv, PyData.eqvAll]; rfl
theorem sc_draw : FnScope ["pen", "many", "digit", "at", "cell", "mixed"] ["pen", "many"] (defScope s__law_draw) := ⟨rfl, rfl, rfl, by decide +kernel, rfl, by decide +kernel, by decide +kernel⟩
theorem ok_draw (T : TxtP K mg f1 f2 f3 d1 d2 d3) : FnOk P w K mg base CX0 1 f2 d2 ["pen", "many"] spDraw := by
  have sc := sc_draw
  refine T.D__law_draw.F.ok sc (fun vs H Q E h => ?_) (fun cdv A outer s H vs Q E hr h => ?_)
  · obtain ⟨_, _, _, _, rfl, _⟩ := h; rfl
  · obtain ⟨p, c, many, n, rfl, ⟨ns, a, l, h1, h2, h3, h4, h5⟩, hn, m0, m1, k⟩ := h
    have hu := hu_of hr
    have ncp : c ≠ p := ne_of h2 h1 (by intro z; cases z)
    refine ⟨_, (pss_cons (ps_if (pt_cmpR op_ge (pe_dget hu (pv 0) pe_str (fun _ _ => rfl)) (pv 1) (nomark _)) (pss_cons (ps_set (i := 2) sc.nd rfl (Or.inl rfl) (pe_op op_mod (pe_callTy call_int1 (by rfl) T.n_int (by decide +kernel) (pa_cons (pe_dget hu (pv 0) pe_str (fun _ _ => rfl)) pa_nil)) (pv 1)))
      (pss_cons (ps_dput hu (pv 0) pe_str (pe_op op_fdiv (pe_dget hu (pv 0) pe_str (fun _ _ => rfl)) (pv 1)) rfl)
      (pss_one (ps_ret (pv 2)))))
        pss_nil)
      (pss_cons (ps_set (i := 3) sc.nd rfl (Or.inl rfl) (pe_dget hu (pv 0) pe_str (fun _ _ => rfl)))
      (pss_cons (ps_dput hu (pv 0) pe_str (pe_op op_add (pv 3) pe_int) rfl)
      (pss_cons (ps_set (i := 4) sc.nd rfl (Or.inl rfl) (pe_op op_add (pe_op op_mul pe_int (pv 3)) pe_int))
      (C8.pss_cut (ps_if (pt_cmpR (op_neD hr.units) (pe_dget hu (pv 0) pe_str (fun _ _ => rfl)) (pe_lst pa_nil) (nomark _)) (pss_one (ps_set (i := 4) sc.nd rfl (Or.inl rfl) (pe_ix ix_list (pe_dget hu (pv 0) pe_str (fun _ _ => rfl)) (pe_op op_mod (pe_callTy call_int1 (by rfl) T.n_int (by decide +kernel) (pa_cons (pv 3) pa_nil)) (pe_callB call_len (by rfl) T.n_len (by decide +kernel) (pa_cons (pe_dget hu (pv 0) pe_str (fun _ _ => rfl)) pa_nil))) (fun _ _ => rfl))))
        pss_nil)
      (pss_cons (ps_if (PW.pt (pw_and (pt_cmpR op_lt (pv 3) (pe_callB call_len (by rfl) T.n_len (by decide +kernel) (pa_cons (pe_dget hu (pv 0) pe_str (fun _ _ => rfl)) pa_nil)) (nomark _)) (pw_and1 (pt_cmpR op_ge (pv 4) (pe_op op_pow pe_int pe_int) (nomark _))))) (pss_cons (ps_dput hu (pv 0) pe_str (pe_op op_fdiv (pe_op op_sub (pv 4) (pe_op op_pow pe_int pe_int)) (pv 1)) rfl)
      (pss_one (ps_ret (pe_op op_mod (pe_callTy call_int1 (by rfl) T.n_int (by decide +kernel) (pa_cons (pe_op op_sub (pv 4) (pe_op op_pow pe_int pe_int)) pa_nil)) (pv 1)))))
        pss_nil)
      (pss_cons (ps_set (i := 5) sc.nd rfl (Or.inl rfl) (pe_op op_add (pe_op op_add (pe_op op_add (pe_op op_mul (pe_op op_mod (pe_callTy call_int1 (by rfl) T.n_int (by decide +kernel) (pa_cons (pv 4) pa_nil)) pe_int) pe_int) (pe_op op_mul (pe_op op_mul pe_int (pv 3)) (pv 3))) (pe_op op_mul pe_int (pv 3))) pe_int))
      (pss_cons (ps_set (i := 5) sc.nd rfl (Or.inl rfl) (pe_op op_mod (pe_callTy call_int1 (by rfl) T.n_int (by decide +kernel) (pa_cons (pv 5) pa_nil)) pe_int))
      (pss_cons (ps_set (i := 5) sc.nd rfl (Or.inl rfl) (pe_op op_mod (pe_callTy call_int1 (by rfl) T.n_int (by decide +kernel) (pa_cons (pe_op op_mul (pv 5) (pe_op op_add (pv 5) pe_int)) pa_nil)) pe_int))
      (pss_one (ps_ret (pe_op op_mod (pe_callTy call_int1 (by rfl) T.n_int (by decide +kernel) (pa_cons (pe_op op_fdiv (pe_op op_mod (pe_callTy call_int1 (by rfl) T.n_int (by decide +kernel) (pa_cons (pe_op op_mul (pv 5) (pv 5)) pa_nil)) pe_int) pe_int) pa_nil)) (pv 1))))))))))))), ?_⟩
    refine ⟨_, rfl, p, .int l, rfl, dg_left h1, _, rfl, _, _, rfl, rfl, _, rfl, ?_⟩
    by_cases c1 : many ≤ l
    · refine ifT c1 ?_
      refine ⟨_, rfl, p, .int l, rfl, dg_left h1, .inl ⟨_, rfl, _, rfl, _, _, rfl, rfl, m0, ?_⟩⟩
      refine ⟨_, rfl, p, .int l, rfl, dg_left h1, _, rfl, _, _, rfl, rfl, ⟨m0, m1⟩, _, rfl, p, _, rfl, dp_left h1, ?_⟩
      refine ⟨_, rfl, ?_⟩
      refine k _ _ (Int.emod_nonneg _ (by omega)) (Int.emod_lt_of_pos _ m0) ⟨ns, a, _, upd_same, by rw [upd_ne ncp]; exact h2, h3, h4, by omega⟩ .upd
    · refine ifF c1 ?_
      refine ⟨_, rfl, p, .int a, rfl, dg_at h1, ?_⟩
      refine ⟨_, rfl, _, _, rfl, rfl, _, rfl, p, _, rfl, dp_at h1, ?_⟩
      have g1 : upd H p (.dK (penKvs c (a + 1) l)) p = some (.dK (penKvs c (a + 1) l)) := upd_same
      have g2 : upd H p (.dK (penKvs c (a + 1) l)) c = some (.lst (ns.map V.int)) := by rw [upd_ne ncp]; exact h2
      have g3 : SameBut p H (upd H p (.dK (penKvs c (a + 1) l))) := .upd
      generalize upd H p (.dK (penKvs c (a + 1) l)) = H1 at g1 g2 g3 ⊢
      refine ⟨_, rfl, _, _, rfl, rfl, .inl ⟨by decide, by decide⟩, _, _, rfl, rfl, ?_⟩
      -- if pen['cells'] != []
      refine ⟨fun σ' H' => ∃ cell : Int, σ' = [some (.ref p), some (.int many), none, some (.int a), some (.int cell), none] ∧ Same H1 H', ?_, ?_⟩
      · refine ⟨_, rfl, p, .ref c, rfl, dg_cells g1, (by decide), fun lz hz => ?_⟩
        refine ⟨.list (ns.map PyData.int), .list [], .lst (SqL.of (Same.upd hz _ _ g2)) (dpInts _ _ _), .lst (SqL.of upd_same) .nil, shInts ns, shInts [], _, rfl, ?_⟩
        rw [eqv_ints_nil]
        by_cases c2 : ns = []
        · refine ifFn c2 ?_
          exact ⟨_, rfl, Same.upd hz⟩
        · refine ifTn c2 ?_
          have hpos : 0 < ns.length := List.length_pos_iff.mpr c2
          have hsu := Same.upd (o := .lst ([] : List V)) hz
          have e2 := hsu _ _ g2
          have e1 := hsu _ _ g1
          have hm0 : 0 ≤ a % (ns.length : Int) := Int.emod_nonneg _ (by omega)
          have hm1 : a % (ns.length : Int) < ns.length := Int.emod_lt_of_pos _ (by omega)
          obtain ⟨x, hx⟩ : ∃ x, ns[(a % (ns.length : Int)).toNat]? = some x := ⟨_, List.getElem?_eq_getElem (by omega)⟩
          refine ⟨_, rfl, p, .ref c, rfl, dg_cells e1, _, rfl, .inl ⟨_, rfl, ?_⟩⟩
          refine ⟨_, rfl, p, .ref c, rfl, dg_cells e1, .ref c, ns.length, rfl, .inl ⟨_, SqL.of e2, by rw [List.length_map]⟩, _, _, rfl, rfl, by omega, ?_⟩
          refine ⟨c, ns.map V.int, _, .int x, rfl, rfl, SqL.of e2, ?_, ?_⟩
          · have q := atI_nat (xs := ns.map V.int) (j := (a % (ns.length : Int)).toNat) (v := .int x) (by rw [List.getElem?_map, hx]; rfl)
            rw [Int.toNat_of_nonneg hm0] at q
            exact q
          · exact ⟨x, rfl, hsu⟩
      · rintro σ' H' ⟨cell, rfl, s1⟩
        have e1 := s1 _ _ g1
        have e2 := s1 _ _ g2
        refine ⟨_, rfl, _, rfl, p, .ref c, rfl, dg_cells e1, .ref c, ns.length, rfl, .inl ⟨_, SqL.of e2, by rw [List.length_map]⟩, _, _, rfl, rfl, _, rfl, ?_⟩
        have P18 : CPow 10 18 := ⟨by decide, by decide, by decide⟩
        have fin : ∀ (r : Int) (H2 : Hp) (l2 : Int), 0 ≤ r → r < many → H2 = upd H' p (.dK (penKvs c (a + 1) l2)) ∨ H2 = H' → Q (.int r) H2 := by
          intro r H2 l2 r0 r1 e
          have g3' : SameBut p H H' := g3.trans (.of s1)
          rcases e with rfl | rfl
          · exact k r _ r0 r1 ⟨ns, a + 1, l2, upd_same, by rw [upd_ne ncp]; exact e2, h3, by omega, by omega⟩ (g3'.trans .upd)
          · exact k r _ r0 r1 ⟨ns, a + 1, l, e1, e2, h3, by omega, by omega⟩ g3'
        have last : (tSeq (tAsg (tOp (rI0 fun i j => .int (i + j)) (tOp (rI0 fun i j => .int (i + j)) (tOp (rI0 fun i j => .int (i + j)) (tOp (rI CMul fun i j => .int (i * j)) (tOp (rI (fun _ j => 0 < j) fun i j => .int (i % j)) (tCB (fun xs H Q => (∃ i, xs = [V.int i] ∧ Q (.int i) H) ∨ ∃ k, xs = [V.bl k] ∧ Q (.int (if k then 1 else 0)) H) (tCons (tVar 4) tNil)) (tC (.int 2147483587))) (tC (.int 48271))) (tOp (rI CMul fun i j => .int (i * j)) (tOp (rI CMul fun i j => .int (i * j)) (tC (.int 40014)) (tVar 3)) (tVar 3))) (tOp (rI CMul fun i j => .int (i * j)) (tC (.int 59)) (tVar 3))) (tC (.int 17))) (gName 5))
            (tSeq (tAsg (tOp (rI (fun _ j => 0 < j) fun i j => .int (i % j)) (tCB (fun xs H Q => (∃ i, xs = [V.int i] ∧ Q (.int i) H) ∨ ∃ k, xs = [V.bl k] ∧ Q (.int (if k then 1 else 0)) H) (tCons (tVar 5) tNil)) (tC (.int 2147483629))) (gName 5))
            (tSeq (tAsg (tOp (rI (fun _ j => 0 < j) fun i j => .int (i % j)) (tCB (fun xs H Q => (∃ i, xs = [V.int i] ∧ Q (.int i) H) ∨ ∃ k, xs = [V.bl k] ∧ Q (.int (if k then 1 else 0)) H) (tCons (tOp (rI CMul fun i j => .int (i * j)) (tVar 5) (tOp (rI0 fun i j => .int (i + j)) (tVar 5) (tC (.int 69621)))) tNil)) (tC (.int 2147483549))) (gName 5))
            (tRet (tOp (rI (fun _ j => 0 < j) fun i j => .int (i % j)) (tCB (fun xs H Q => (∃ i, xs = [V.int i] ∧ Q (.int i) H) ∨ ∃ k, xs = [V.bl k] ∧ Q (.int (if k then 1 else 0)) H) (tCons (tOp (rI CDiv fun i j => .int (i / j)) (tOp (rI (fun _ j => 0 < j) fun i j => .int (i % j)) (tCB (fun xs H Q => (∃ i, xs = [V.int i] ∧ Q (.int i) H) ∨ ∃ k, xs = [V.bl k] ∧ Q (.int (if k then 1 else 0)) H) (tCons (tOp (rI CMul fun i j => .int (i * j)) (tVar 5) (tVar 5)) tNil)) (tC (.int 2147483579))) (tC (.int 32))) tNil)) (tVar 1))))))
            { nx := fun _ H' => Q .non H', rt := Q } [some (.ref p), some (.int many), none, some (.int a), some (.int cell), none] H' := by
          refine ⟨_, rfl, .inl ⟨_, rfl, _, _, rfl, rfl, (show (0 : Int) < 2147483587 by decide), _, _, rfl, rfl, .inr ⟨by decide, by decide⟩, _, rfl, _, _, rfl, rfl, .inl ⟨by decide, by decide⟩, _, rfl, _, _, rfl, rfl, .inr ⟨by omega, by omega⟩, _, _, rfl, rfl, _, rfl, _, _, rfl, rfl, .inl ⟨by decide, by decide⟩, _, _, rfl, rfl, _, _, rfl, rfl, ?_⟩⟩
          refine ⟨_, rfl, .inl ⟨_, rfl, _, _, rfl, rfl, (show (0 : Int) < 2147483629 by decide), ?_⟩⟩
          have x0 := Int.emod_nonneg (cell % 2147483587 * 48271 + 40014 * a * a + 59 * a + 17) (show (2147483629 : Int) ≠ 0 by decide)
          have x1 := Int.emod_lt_of_pos (cell % 2147483587 * 48271 + 40014 * a * a + 59 * a + 17) (show (0 : Int) < 2147483629 by decide)
          generalize (cell % 2147483587 * 48271 + 40014 * a * a + 59 * a + 17) % 2147483629 = x at x0 x1 ⊢
          refine ⟨_, rfl, _, rfl, _, _, rfl, rfl, _, _, rfl, rfl, .inl ⟨by omega, by omega⟩, .inl ⟨_, rfl, _, _, rfl, rfl, (show (0 : Int) < 2147483549 by decide), ?_⟩⟩
          have y0 := Int.emod_nonneg (x * (x + 69621)) (show (2147483549 : Int) ≠ 0 by decide)
          have y1 := Int.emod_lt_of_pos (x * (x + 69621)) (show (0 : Int) < 2147483549 by decide)
          generalize (x * (x + 69621)) % 2147483549 = y at y0 y1 ⊢
          refine ⟨_, rfl, _, rfl, _, _, rfl, rfl, .inl ⟨by omega, by omega⟩, .inl ⟨_, rfl, _, _, rfl, rfl, (show (0 : Int) < 2147483579 by decide), _, _, rfl, rfl, ⟨by decide, by decide⟩, .inl ⟨_, rfl, _, rfl, _, _, rfl, rfl, m0, ?_⟩⟩⟩
          exact fin _ _ l (Int.emod_nonneg _ (by omega)) (Int.emod_lt_of_pos _ m0) (.inr rfl)
        by_cases c3 : a < ns.length
        · refine ifT c3 ?_
          refine ⟨_, rfl, _, _, rfl, rfl, P18, _, _, rfl, rfl, _, rfl, ?_⟩
          by_cases c4 : (10 : Int) ^ (18 : Int).toNat ≤ cell
          · refine ifT c4 ?_
            refine ⟨_, rfl, _, _, rfl, rfl, P18, _, _, rfl, rfl, _, rfl, _, _, rfl, rfl, ⟨m0, m1⟩, _, rfl, p, _, rfl, dp_left e1, ?_⟩
            refine ⟨_, rfl, _, _, rfl, rfl, P18, _, _, rfl, rfl, .inl ⟨_, rfl, _, rfl, _, _, rfl, rfl, m0, ?_⟩⟩
            exact fin _ _ _ (Int.emod_nonneg _ (by omega)) (Int.emod_lt_of_pos _ m0) (.inl rfl)
          · refine ifF c4 ?_
            exact last
        · refine ifF c3 ?_
          exact last
theorem sc_pick : FnScope ["pen", "items"] ["pen", "items"] (defScope s__law_pick) := ⟨rfl, rfl, rfl, by decide +kernel, rfl, by decide +kernel, by decide +kernel⟩
theorem ok_pick (T : TxtP K mg f1 f2 f3 d1 d2 d3) : FnOk P w K mg base CX0 2 f3 d3 ["pen", "items"] spPick := by
  have sc := sc_pick
  have G__law_draw : FnOk P w K mg base CX0 1 f2 d2 ["pen", "many"] spDraw := ok_draw T
  refine T.D__law_pick.F.ok sc (fun vs H Q E h => ?_) (fun cdv A outer s H vs Q E hr h => ?_)
  · obtain ⟨_, _, _, _, _, rfl, _⟩ := h; rfl
  · obtain ⟨p, c, q, xs, n, rfl, hp, hn, hq, x0, x1, k⟩ := h
    refine ⟨_, (pss_one (ps_ret (pe_ix ix_list (pv 1) (pe_call G__law_draw (hr.mono (by decide)) rfl T.D__law_draw.g T.D__law_draw.F.kp T.D__law_draw.b .nil pass0 (pa_cons (pv 0) (pa_cons (pe_callB call_len (by rfl) T.n_len (by decide +kernel) (pa_cons (pv 1) pa_nil)) pa_nil))) (fun _ _ => rfl)))), ?_⟩
    refine ⟨_, rfl, _, rfl, _, rfl, .ref q, xs.length, rfl, .inl ⟨_, SqL.of hq, rfl⟩, p, c, _, n, rfl, hp, hn, by omega, by omega, fun r H' r0 r1 hp' sb => ?_⟩
    obtain ⟨x, hx⟩ : ∃ x, xs[r.toNat]? = some x := ⟨_, List.getElem?_eq_getElem (by omega)⟩
    refine ⟨q, xs, r, x, rfl, rfl, SqL.of (sb _ _ hq (hp.ne hq)), ?_, k x _ H' hx hp' sb⟩
    have z := atI_nat hx
    rw [Int.toNat_of_nonneg r0] at z
    exact z
end
end Kx

namespace Own
open PySem L2 PyProof.Rows PySem.Froz
/-! ### sets of texts, as they grow -/
/-- the table stands in its order, and is told -/
def Tidy (w : World) (D : SD) : Prop := Ris D.2.2.place.toList ∧ (w.params.followText "set-order" = true ∨ D.2.2.led = true)
theorem tidy_tail {w : World} {ep : Nat} {es : Array (Int × Value)} {t : SetTable} {b : Bool} (h : Tidy w (es, ep, t)) : Tidy w (tailTx ep es t b) := by
  unfold tailTx
  split
  · exact ⟨relayAll_ris t es _, h.2.imp id fun z => (relayAll_led t es _).trans z⟩
  · exact h
theorem tidy_add {w : World} {k : Int} {v : Value} {D : SD} (h : Tidy w D) : Tidy w (addTx k v D) := by
  refine tidy_tail ?_
  have r := layNew_ris D.2.2 D.1 k v h.1
  have l := layNew_led D.2.2 D.1 k v
  split
  · exact ⟨r, h.2.imp id fun z => l.trans z⟩
  · exact ⟨r, h.2.imp id fun z => l.trans z⟩
/-- the set at a holds the texts l, each once -/
def SetS (P : Program) (w : World) (h : Heap) (a : Addr) (l : List Str) : Prop := ∃ D : SD, h.get? a = some (sObj "set" D) ∧ Tidy w D ∧ TxOk P w D l ∧ l.Nodup
section
variable {P : Program} {w : World} {A : Around} {E : Value → Shared → Prop} {s : Shared} {a : Addr} {l : List Str} {k : Str} {u : Tok}
theorem SetS.at {h h' : Heap} (R : SetS P w h a l) (e : ∀ o, h.get? a = some o → h'.get? a = some o) : SetS P w h' a l := by
  obtain ⟨D, q, r⟩ := R
  exact ⟨D, e _ q, r⟩
/-- a text that is there already -/
theorem stay_s {D : SD} {Q : Bool → Shared → Prop} (ho : s.heap.get? a = some (sObj "set" D)) (F : TxOk P w D l) (hb : l.length < scanBound) (hk : k ∈ l) (q : Q false s) : wpAny (model P w) A (setAddHashed a (.str k u) (hashStr w k)) Q E s := by
  obtain ⟨es, ep, t⟩ := D
  have sz : es.size < scanBound := by rw [show es.size = l.length from F.sz]; exact hb
  unfold setAddHashed setAddHashedIn
  refine wpAny_holding (wpAny_bind (wpAny_setState_of ho rfl F.fit ?_))
  dsimp only
  rw [byScan_of (knd := strKind P w) rfl sz F.el]
  simp only [↓reduceIte]
  unfold setAddByScan
  refine wpAny_bind (wpAny_bind (wpAny_rule (wpAny_bind (wpAny_setScan_of (knd := strKind P w) (k := k) (is_str k u) ho rfl F.fit F.el ?_))))
  obtain ⟨e, he, hq⟩ := (F.mem k).mp hk
  cases c : List.findIdx? (fun e => (strKind P w).is k e.2) es.toList with
  | some j => exact wpAny_pure (wpAny_pure q)
  | none =>
    have z := List.findIdx?_eq_none_iff.mp c e he
    rw [hq] at z
    cases z
/-- one more text -/
theorem put_s {Q : Bool → Shared → Prop} (R : SetS P w s.heap a l) (hb : l.length + 1 < scanBound) (q : ∀ h' l' b, Heap.SameBut a s.heap h' → SetS P w h' a l' → (∀ x, x ∈ l' ↔ x ∈ l ∨ x = k) → l'.length ≤ l.length + 1 → Q b { s with heap := h' }) :
    wpAny (model P w) A (setAddHashed a (.str k u) (hashStr w k)) Q E s := by
  obtain ⟨D, ho, td, F, nd⟩ := R
  by_cases c : k ∈ l
  · exact stay_s ho F (by omega) c (q s.heap l false (.refl _ _) ⟨D, ho, td, F, nd⟩ (fun x => ⟨.inl, fun z => z.elim id fun e => e ▸ c⟩) (by omega))
  · refine add_x ho F c hb (q _ (k :: l) true (Heap.SameBut.update _ _ _) ⟨_, get_upd _ ho rfl, tidy_add td, add_ok u F, List.nodup_cons.mpr ⟨c, nd⟩⟩ (fun x => ?_) (Nat.le_refl _))
    rw [List.mem_cons]
    exact Or.comm
/-- set.update's loop over a walk of texts -/
theorem fill_s {I : Addr} {fp wr : List Addr} {n : Nat} {St : Nat → Heap → Prop} {Pv : Nat → Value → Prop} {R : Result → Shared → Prop} (W : Walks P w A.in1 I fp wr n Pv St) (ha : a ∉ fp) (xs : List Str) (hn : n = xs.length) (hb : n + 1 < scanBound) (hv : ∀ i v, Pv i v → ∃ x t, xs[i]? = some x ∧ v = .str x t)
    (fin : ∀ (h' : Heap) tk l', (∀ b o, b ≠ a → b ∉ wr → s.heap.get? b = some o → h'.get? b = some o) → SetS P w h' a l' → (∀ x, x ∈ l' ↔ x ∈ xs) → l'.length ≤ xs.length → R (.ok (.ret .none)) { s with heap := h', toks := tk }) :
    ∀ (m i : Nat) (h1 : Heap) (tk : Nat), i + m = n → St i h1 → (∀ b o, b ≠ a → b ∉ wr → s.heap.get? b = some o → h1.get? b = some o) → (∃ l, SetS P w h1 a l ∧ (∀ x, x ∈ l ↔ x ∈ xs.take i) ∧ l.length ≤ i) →
      codeAny (model P w) A (.builtin "set.update.loop" ⟨[.ref a, .ref I], []⟩) R { s with heap := h1, toks := tk } := by
  have hw : a ∉ wr := fun z => ha (W.sub _ z)
  intro m
  induction m with
  | zero =>
    intro i h1 tk e st k1 ⟨l, hs, hm, hl⟩
    have e' : i = n := e
    subst e'
    refine codeAny_builtin F.entry_set_update_loop ?_
    rw [Around.under_plainId F.plain_set_update_loop _]
    refine wpAny_bind (W.done { s with heap := h1, toks := tk } _ _ st fun h2 t2 k2 => wpAny_pure (fin h2 t2 l (fun b o b1 b2 e => k2 b o b2 (k1 b o b1 b2 e)) (hs.at fun o e => k2 a o hw e) (fun x => ?_) (by omega)))
    rw [hm x, List.take_of_length_le (by omega)]
  | succ m ih =>
    intro i h1 tk e st k1 ⟨l, hs, hm, hl⟩
    refine codeAny_builtin F.entry_set_update_loop ?_
    rw [Around.under_plainId F.plain_set_update_loop _]
    refine wpAny_bind (W.item i { s with heap := h1, toks := tk } _ _ (by omega) st fun v h2 t2 hp st2 k2 => ?_)
    obtain ⟨x, t, hx, rfl⟩ := hv i v hp
    refine wpAny_bind (m := holding _ (setAdd a _)) (wpAny_holding ?_)
    unfold setAdd
    refine wpAny_holding (wpAny_bind ((strKind P w).pyHash (k := x) (is_str x t) ?_))
    refine put_s (s := { s with heap := h2, toks := t2 + 1 }) (hs.at fun o e => k2 a o hw e) (by omega) fun h3 l3 b sb hs3 hm3 hl3 => ?_
    have k3 : ∀ b o, b ≠ a → h2.get? b = some o → h3.get? b = some o := fun b o q z => (sb.2 b q).trans z
    refine wpAny_pure ⟨plainId_quiet F.plain_set_update_loop _, ih (i + 1) h3 _ (by omega) (W.frame _ _ _ st2 fun b hbf o z => k3 b o (fun q => ha (q ▸ hbf)) z) (fun b o b1 b2 z => k3 b o b1 (k2 b o b2 (k1 b o b1 b2 z))) ⟨l3, hs3, fun y => ?_, by omega⟩⟩
    rw [hm3 y, hm y, List.take_add_one, hx]
    simp
end
end Own

namespace Own
open PySem L2 PyProof.Rows PySem.Froz
/-- the set that has just been made -/
def newSetO (w : World) : Obj := { cls := .type "set", dict := none, data := .set #[] 0 (.fresh 0 0 (!w.params.followText "set-order")) }
theorem new_s (P : Program) (w : World) {h : Heap} {a : Addr} (e : h.get? a = some (newSetO w)) : SetS P w h a [] := by
  refine ⟨(#[], 0, .fresh 0 0 (!w.params.followText "set-order")), e, ⟨List.Pairwise.nil, ?_⟩, .nil (by rfl), List.nodup_nil⟩
  show _ ∨ (!w.params.followText "set-order") = true
  cases w.params.followText "set-order"
  · exact .inr rfl
  · exact .inl rfl
/-- what can be walked, and gives the texts xs: x of the type T -/
structure Gives (P : Program) (w : World) (E : Value → Shared → Prop) (s : Shared) (x : Value) (T : String) (xs : List Str) : Prop where
  ty : ∀ s1 : Shared, (∀ b o, s.heap.get? b = some o → s1.heap.get? b = some o) → s1.TypeIs x T
  no1 : isSubtype (.type T) (.type "set") = pure false
  no2 : isSubtype (.type T) (.type "frozenset") = pure false
  no3 : (Value.type T == Value.type "dict") = false
  it : ∀ (A : Around) (s1 : Shared) (Q : Value → Shared → Prop), A.handled = none → (∀ b o, s.heap.get? b = some o → s1.heap.get? b = some o) →
    (∀ (o : Obj) (fp : List Addr) (St : Nat → Heap → Prop) (Pv : Nat → Value → Prop), (∀ B : Around, B.handled = none → Walks P w B s1.heap.objs.size fp [s1.heap.objs.size] xs.length Pv St) →
      (∀ b ∈ fp, b = s1.heap.objs.size ∨ ∃ o, s.heap.get? b = some o) → (∀ i v, Pv i v → ∃ y t, xs[i]? = some y ∧ v = .str y t) → St 0 (s1.heap.push o) → Q (.ref s1.heap.objs.size) { s1 with heap := s1.heap.push o }) →
    wpAny (model P w) A (pyIter x) Q E s1
section
variable {P : Program} {w : World} {A : Around} {E : Value → Shared → Prop} {s : Shared} {x : Value} {T : String} {xs : List Str}
theorem upd_fr {a : Addr} {s1 : Shared} {Q : Unit → Shared → Prop} (g : Gives P w E s x T xs) (hh : A.handled = none) (k : ∀ b o, s.heap.get? b = some o → s1.heap.get? b = some o) (na : s.heap.get? a = none) (S : SetS P w s1.heap a []) (hb : xs.length + 1 < scanBound)
    (q : ∀ (h' : Heap) tk l, (∀ b o, b ≠ a → s1.heap.get? b = some o → h'.get? b = some o) → SetS P w h' a l → (∀ y, y ∈ l ↔ y ∈ xs) → l.length ≤ xs.length → Q () { s1 with heap := h', toks := tk }) :
    wpAny (model P w) A (Builtin.Frozenset.updateFrom "set.__init__" a x) Q E s1 := by
  have ty := g.ty s1 k
  unfold Builtin.Frozenset.updateFrom
  refine wpAny_bind (m := Builtin.Frozenset.isAnySet x) ?_
  · unfold Builtin.Frozenset.isAnySet orM
    refine wpAny_bind (wpAny_isInstance ty g.no1 ?_)
    refine wpAny_isInstance ty g.no2 ?_
    dsimp only
    simp only [Bool.false_eq_true, ↓reduceIte]
    refine wpAny_bind (wpAny_typeOf ty ?_)
    rw [g.no3]
    simp only [Bool.false_eq_true, ↓reduceIte]
    refine wpAny_bind (g.it A s1 _ hh k fun o fp St Pv W hfp hv st => ?_)
    have ha : a < s1.heap.objs.size := by
      obtain ⟨D, e, _⟩ := S
      exact Heap.lt_size e
    have hf : a ∉ fp := fun z => by
      rcases hfp a z with e | ⟨o, e⟩
      · exact Nat.ne_of_lt ha e
      · rw [na] at e; cases e
    refine wpAny_bind (wpAny_runValue ?_)
    refine fill_s (s := { s1 with heap := s1.heap.push o }) (W A.in1 hh) hf xs rfl hb hv (fun h' tk l kk hs hm hl => ?_) xs.length 0 (s1.heap.push o) s1.toks (by omega) st (fun b o' _ _ e => e) ⟨[], S.at fun o' e => Heap.get?_push_of_some _ e, fun y => by simp, Nat.le_refl _⟩
    refine wpAny_pure (q h' tk l (fun b u hb' e => kk b u hb' (fun z => ?_) (Heap.get?_push_of_some _ e)) hs hm hl)
    exact Nat.ne_of_lt (Heap.lt_size e) (List.mem_singleton.mp z)
theorem call_setG (g : Gives P w E s x T xs) (hh : A.handled = none) (hb : xs.length + 1 < scanBound) {Q : Value → Shared → Prop}
    (q : ∀ (h' : Heap) tk l, (∀ b o, s.heap.get? b = some o → h'.get? b = some o) → SetS P w h' s.heap.objs.size l → (∀ y, y ∈ l ↔ y ∈ xs) → l.length ≤ xs.length → Q (.ref s.heap.objs.size) { s with heap := h', toks := tk }) :
    wpAny (model P w) A (call (.type "set") [x]) Q E s := by
  obtain ⟨c, tl, hmro⟩ := F.called_set.mro
  have k1 := F.called_set.made
  have k2 := F.called_set.sub
  have k3 := F.called_set.notType
  have k4 := F.called_set.canCreate
  have k5 := F.typeCall_set_1 x
  refine wpAny_call (codeAny_of_tree ?_)
  show wpAny _ _ (callAny (.type "set") _) _ _ _
  refine wpAny_pure ⟨Code.quiet_builtin _ (by decide +kernel), codeAny_builtin F.entry_type_call ?_⟩
  rw [Around.under_plain (weight_type_call_type "set" [x] []) rfl]
  repeat (any_goals (first | assumption | wp_step))
  have na : s.heap.get? s.heap.objs.size = none := by
    cases e : s.heap.get? s.heap.objs.size with
    | none => rfl
    | some o => exact absurd (Heap.lt_size e) (Nat.lt_irrefl _)
  have hp : ∀ b o, s.heap.get? b = some o → (s.heap.push (newSetO w)).get? b = some o := fun b o e => Heap.get?_push_of_some _ e
  have hn : (s.heap.push (newSetO w)).get? s.heap.objs.size = some (newSetO w) := Heap.get?_push_size _ rfl
  refine codeAny_mono (code_set_led1 x (E := E) (Q₁ := fun obj z => obj = .ref s.heap.objs.size ∧ z = { s with heap := s.heap.push (newSetO w) }) ⟨rfl, rfl⟩) fun r z hr => ?_
  cases r with
  | error e => exact hr
  | ok fl =>
    cases fl with
    | ret obj =>
      obtain ⟨rfl, rfl⟩ := hr
      have hT : Shared.TypeIs { s with heap := s.heap.push (newSetO w) } (.ref s.heap.objs.size) "set" := ⟨_, hn, rfl⟩
      have k6 := F.called_set.init.lookup
      have k7 := F.called_set.init.bind (.ref s.heap.objs.size)
      repeat (any_goals (first | assumption | wp_step))
      refine codeAny_mono (codeAny_call_builtin (R := wants (fun r z => r = .none ∧ ∃ h' tk l, z = { s with heap := h', toks := tk } ∧ (∀ b o, s.heap.get? b = some o → h'.get? b = some o) ∧ SetS P w h' s.heap.objs.size l ∧ (∀ y, y ∈ l ↔ y ∈ xs) ∧ l.length ≤ xs.length) E)
        F.called_set.init.plain F.entry_set_init (check_set_init_1 hT ?_)) fun r2 z2 hr2 => ?_
      · unfold Builtin.«set.__init__» noKeywords
        generalize hU : @Builtin.Frozenset.updateFrom = U
        wp_walk
        subst hU
        refine upd_fr (E := E) (s1 := { s with heap := s.heap.push (newSetO w) }) g hh hp na (new_s P w hn) hb fun h' tk l kk hs hm hl => ?_
        exact wpAny_pure ⟨rfl, h', tk, l, rfl, fun b o e => kk b o (Nat.ne_of_lt (Heap.lt_size e)) (hp b o e), hs, hm, hl⟩
      · cases r2 with
        | error e => exact hr2
        | ok fl2 =>
          cases fl2 with
          | ret r =>
            obtain ⟨rfl, h', tk, l, rfl, kk, hs, hm, hl⟩ := hr2
            repeat (any_goals (first | assumption | wp_step))
            exact q h' tk l kk hs hm hl
          | _ => exact hr2.elim
    | _ => exact hr.elim
end
end Own

namespace Own
open PySem PySem.Spec L2 PyProof.Rows PySem.Froz
section
variable {P : Program} {w : World} {A : Around} {E : Value → Shared → Prop} {s : Shared} {xs : List Str}
/-- a list of texts -/
theorem gives_list {l : Addr} {us : List Value} (hl : s.heap.IsList l us.toArray) (hu : StrsAre us xs) : Gives P w E s (.ref l) "list" xs where
  ty := fun s1 k => by
    obtain ⟨o, e, r⟩ := hl
    exact ⟨o, k l o e, r.1⟩
  no1 := F.sub_list_set
  no2 := F.sub_list_frozenset
  no3 := by decide
  it := fun A s1 Q hh k q => by
    have hl1 : s1.heap.IsList l us.toArray := by
      obtain ⟨o, e, r⟩ := hl
      exact ⟨o, k l o e, r⟩
    have hb : l < s1.heap.objs.size := by
      obtain ⟨o, e, _⟩ := hl1
      exact Heap.lt_size e
    have hz : us.toArray.size = xs.length := by rw [List.size_toArray]; exact hu.length
    refine wpAny_pyIter_list hl1 (q _ [s1.heap.objs.size, l] (fun i h => h.IsListIter s1.heap.objs.size l i ∧ h.IsList l us.toArray) (fun i v => us.toArray[i]? = some v) (fun B hB => ?_) (fun b hb => ?_) (fun i v e => ?_) ⟨⟨_, Heap.get?_push_size _ rfl, rfl, rfl⟩, hl1.push _⟩)
    · rw [← hz]
      exact Walks.list hB _ l (Nat.ne_of_lt hb) us.toArray
    · rcases List.mem_cons.mp hb with z | z
      · exact .inl z
      · rw [List.mem_singleton.mp z]
        obtain ⟨o, e, _⟩ := hl
        exact .inr ⟨o, e⟩
    · obtain ⟨y, t, z, e2⟩ := hu.item i v (by rw [← e]; simp)
      exact ⟨y, t, e2, z⟩
/-- a tuple of texts -/
theorem gives_tup {l : Addr} {us : List Value} (hl : s.heap.IsTuple l us.toArray) (hu : StrsAre us xs) : Gives P w E s (.ref l) "tuple" xs where
  ty := fun s1 k => by
    obtain ⟨o, e, r⟩ := hl
    exact ⟨o, k l o e, r.1⟩
  no1 := F.sub_tuple_set
  no2 := F.sub_tuple_frozenset
  no3 := by decide
  it := fun A s1 Q hh k q => by
    have hl1 : s1.heap.IsTuple l us.toArray := by
      obtain ⟨o, e, r⟩ := hl
      exact ⟨o, k l o e, r⟩
    have hb : l < s1.heap.objs.size := by
      obtain ⟨o, e, _⟩ := hl1
      exact Heap.lt_size e
    have hz : us.toArray.size = xs.length := by rw [List.size_toArray]; exact hu.length
    refine wpAny_pyIter_tuple hl1 (q _ [s1.heap.objs.size, l] (fun i h => h.IsTupleIter s1.heap.objs.size l i ∧ h.IsTuple l us.toArray) (fun i v => us.toArray[i]? = some v) (fun B hB => ?_) (fun b hb => ?_) (fun i v e => ?_) ⟨⟨_, Heap.get?_push_size _ rfl, rfl, rfl⟩, hl1.push _⟩)
    · rw [← hz]
      exact Walks.tuple hB _ l (Nat.ne_of_lt hb) us.toArray
    · rcases List.mem_cons.mp hb with z | z
      · exact .inl z
      · rw [List.mem_singleton.mp z]
        obtain ⟨o, e, _⟩ := hl
        exact .inr ⟨o, e⟩
    · obtain ⟨y, t, z, e2⟩ := hu.item i v (by rw [← e]; simp)
      exact ⟨y, t, e2, z⟩
/-- the letters of a text -/
def letters (x : Str) : List Str := x.cps.toList.map sing
theorem gives_str {x : Str} {t : Tok} : Gives P w E s (.str x t) "str" (letters x) where
  ty := fun s1 _ => typeIs_str _ _ _
  no1 := PySem.F.sub_str_set
  no2 := PySem.F.sub_str_frozenset
  no3 := by decide
  it := fun A s1 Q hh k q => by
    refine wpAny_pyIter_str fun o St W st => q o [s1.heap.objs.size] St (SignAt x) (fun B hB => ?_) (fun b hb => .inl (List.mem_singleton.mp hb)) (fun i v e => ?_) st
    · have hz : (letters x).length = x.cps.size := by unfold letters; rw [List.length_map, Array.length_toList]
      rw [hz]
      exact W B hB
    · obtain ⟨c, u, e1, e2⟩ := e
      refine ⟨sing c, u, ?_, e2⟩
      unfold letters
      rw [List.getElem?_map, Array.getElem?_toList, e1]
      rfl
/-- a row of texts that has all of l, and is no longer -/
theorem perm_s : ∀ (l ys : List Str), l.Nodup → (∀ x ∈ l, x ∈ ys) → ys.length ≤ l.length → ys.Perm l
  | [], ys, _, _, h => by
    cases ys with
    | nil => exact .nil
    | cons y r => simp at h
  | x :: l, ys, nd, hs, h => by
    obtain ⟨n1, n2⟩ := List.nodup_cons.mp nd
    have hx := hs x List.mem_cons_self
    have le : (ys.erase x).length ≤ l.length := by
      rw [List.length_erase_of_mem hx]
      rw [List.length_cons] at h
      omega
    refine (List.perm_cons_erase hx).trans ((perm_s l (ys.erase x) n2 (fun y hy => ?_) le).cons x)
    exact (List.mem_erase_of_ne (fun e : y = x => n1 (e ▸ hy))).mpr (hs y (List.mem_cons_of_mem _ hy))
def textOf : Value → Str
  | .str x _ => x
  | _ => Str.empty
theorem strs_map : ∀ vs : List Value, (∀ v ∈ vs, ∃ x t, v = .str x t) → StrsAre vs (vs.map textOf)
  | [], _ => .nil
  | v :: vs, h => by
    obtain ⟨x, t, rfl⟩ := h v List.mem_cons_self
    exact .cons x t (strs_map vs fun u hu => h u (List.mem_cons_of_mem _ hu))
/-- sorted(set) -/
theorem sorted_s {a : Addr} {l : List Str} {Q : Value → Shared → Prop} (R : SetS P w s.heap a l) (hh : A.handled = none) (hb : l.length < scanBound)
    (q : ∀ s' p (out : Array Value) (c : Nat) (ys : List Str), (∀ b o, s.heap.get? b = some o → s'.heap.get? b = some o) → s'.gens = s.gens → s'.os = s.os → s.heap.objs.size ≤ p →
      s'.heap.get? p = some (seqObj "list" out c) → StrsAre out.toList ys → ys.Perm l → sortedS ys = true → Q (.ref p) s') :
    wpAny (model P w) A (call (.builtin "sorted") [.ref a]) Q E s := by
  obtain ⟨D, ho, td, F, nd⟩ := R
  refine Calls.call_function_entry kind_sorted plain_sorted entry_sorted (args_sorted1 _) ?_
  unfold Builtin.«sorted»
  refine wpAny_bind (m := checkCount "sorted" 1 1 _) (wpAny_pure ?_)
  have sz : D.1.size = l.length := F.sz
  refine wpAny_bind (collect_set (A := A.in1) hh ⟨_, ho, rfl, rfl⟩ F.fit (by rw [sz]; exact hb) td.1 td.2 fun s1 vs k1 z1 g1 o1 pm => ?_)
  have sv : ∀ v ∈ vs, ∃ x t, v = .str x t ∧ ∃ e ∈ D.1.toList, e.2 = v := fun v hv => by
    obtain ⟨e, he, e2⟩ := List.mem_map.mp (pm.mem_iff.mp hv)
    obtain ⟨⟨k, hk, _⟩, _⟩ := F.el e he
    obtain ⟨t, z⟩ := Value.isStrOf_shape (x := k) (v := e.2) hk
    exact ⟨k, t, e2.symm.trans z, e, he, e2⟩
  have hS : StrsAre vs (vs.map textOf) := strs_map vs fun v hv => let ⟨x, t, z, _⟩ := sv v hv; ⟨x, t, z⟩
  have hlen : vs.length = l.length := by rw [pm.length_eq, List.length_map, Array.length_toList]; exact sz
  have hp : (vs.map textOf).Perm l := perm_s l _ nd (fun x hx => by
    obtain ⟨e, he, z⟩ := (F.mem x).mp hx
    obtain ⟨t, z2⟩ := Value.isStrOf_shape (x := x) (v := e.2) z
    exact List.mem_map.mpr ⟨e.2, pm.mem_iff.mpr (List.mem_map.mpr ⟨e, he, rfl⟩), by rw [z2]; rfl⟩) (by rw [List.length_map]; omega)
  have fit : vs.length ≤ sizeLine := by rw [hlen]; exact fits_of_scanBound hb
  refine wpAny_bind (wpAny_newList ?_ fit)
  have hoL : (s1.heap.push (seqObj "list" vs.toArray 0)).get? s1.heap.objs.size = some (seqObj "list" vs.toArray 0) := Heap.get?_push_size _ rfl
  refine wpAny_bind (wpAny_holding (wpAny_call_entry slot_list_sort ⟨_, hoL, rfl⟩ entry_list_sort
    (list_sort_treeKAny strKind_oneLt hoL hS.keysOf (fun v₁ v₂ rest e => keyKind_strs (by rw [← e]; exact hS)) fit fun st a1 a2 => ⟨_, rfl, ?_⟩) (args_list_sort _)))
  obtain ⟨ys, b1, b2, b3⟩ := sorted_out_str hS a1 a2
  obtain ⟨c, hc⟩ := sortedHeap_at (vs := vs) (out := (arrOf st).map (·.2)) hoL
  refine wpAny_pure ⟨_, rfl, q _ s1.heap.objs.size _ c ys (fun b u e => ?_) g1 o1 z1 hc b1 (b2.trans hp) b3⟩
  have e1 := k1 b u e
  have lt := Heap.lt_size e1
  have e2 := sortedHeap_old (h := s1.heap.push (seqObj "list" vs.toArray 0)) (a := s1.heap.objs.size) (vs := vs) (out := (arrOf st).map (·.2)) (b := b) (Nat.ne_of_lt lt) (by rw [size_push']; exact Nat.lt_succ_of_lt lt)
  exact e2.trans (Heap.get?_push_of_some _ e1)
/-- len(set) -/
theorem len_s {a : Addr} {l : List Str} {Q : Value → Shared → Prop} (R : SetS P w s.heap a l) (hb : l.length < scanBound) (q : Q (.int l.length (s.toks + 1)) { s with toks := s.toks + 1 + 1 }) :
    wpAny (model P w) A (call (.builtin "len") [.ref a]) Q E s := by
  obtain ⟨D, ho, td, F, nd⟩ := R
  have sz : D.1.size = l.length := F.sz
  refine call_len_set ho ⟨rfl, rfl, rfl⟩ rfl F.fit ?_ (by rw [sz]; exact q)
  rw [sz]
  have : (l.length : Int) < 4096 := by unfold scanBound at hb; omega
  exact Int.lt_of_lt_of_le this (by decide +kernel)
/-- x in set -/
theorem in_s {a : Addr} {l : List Str} (R : SetS P w s.heap a l) (hb : l.length < scanBound) : s.heap.SetOf (PySem.strKind P w) a (fun k => decide (k ∈ l)) l.length := by
  obtain ⟨D, ho, td, F, nd⟩ := R
  exact ⟨_, D.1, D.2.1, D.2.2, ho, ⟨rfl, rfl, rfl⟩, rfl, F.el, fun k => by rw [decide_eq_true_eq]; exact F.mem k, by rw [show D.1.size = l.length from F.sz]; exact hb, F.fit, F.sz⟩
end
end Own

namespace Own
open PySem PySem.Spec L2 PyProof.Rows PySem.Froz
/-- a set of texts on the tracked heap -/
def SetT (P : Program) (w : World) (a : Addr) (l : List Str) : HO := .ext fun h => SetS P w h a l
theorem setT_ok {P : Program} {w : World} {H : Hp} {h : Heap} {a : Addr} {l : List Str} (R : SetS P w h a l) : ObjOk P w H h a (SetT P w a l) := by
  have ⟨D, e, _⟩ := R
  exact ⟨R, ⟨_, e⟩, fun h1 h2 p k => SetS.at p k⟩
/-- what gives the texts xs: a list, a tuple, a text letter by letter -/
inductive Texts (K : PySem.W.Frag) (H : Hp) : V → List Str → Prop
  | list {a xs} : SqL K H a (xs.map V.str) → Texts K H (.ref a) xs
  | tup {a xs} : SqT K H a (xs.map V.str) → Texts K H (.ref a) xs
  | text (y : Str) : Texts K H (.str y) (letters y)
def rSetT (P : Program) (w : World) (K : PySem.W.Frag) : List V → Hp → VK → Prop := fun vs H Q => ∃ x xs, vs = [x] ∧ Texts K H x xs ∧ xs.length + 1 < scanBound ∧
  ∀ (p : Addr) (l : List Str), H p = none → l.Nodup → (∀ y, y ∈ l ↔ y ∈ xs) → l.length ≤ xs.length → Q (.ref p) (upd H p (SetT P w p l))
def rSortT (P : Program) (w : World) : List V → Hp → VK → Prop := fun vs H Q => ∃ (a : Addr) (l : List Str), vs = [.ref a] ∧ H a = some (SetT P w a l) ∧ l.length < scanBound ∧
  ∀ (p : Addr) (ys : List Str), H p = none → ys.Perm l → sortedS ys = true → Q (.ref p) (upd H p (.lst (ys.map V.str)))
def rLenT (P : Program) (w : World) : List V → Hp → VK → Prop := fun vs H Q => ∃ (a : Addr) (l : List Str), vs = [.ref a] ∧ H a = some (SetT P w a l) ∧ l.length < scanBound ∧ Q (.int l.length) H
theorem SetS.nodup {P : Program} {w : World} {h : Heap} {a : Addr} {l : List Str} (R : SetS P w h a l) : l.Nodup := by
  obtain ⟨_, _, _, _, nd⟩ := R
  exact nd
section
variable {X : Cx}
theorem setT_at {pins : List (Addr × Obj)} {σ : L2.St} {H : Hp} {s : Shared} {a : Addr} {l : List Str} (I : Inv X pins σ H s) (ha : H a = some (SetT X.prog X.w a l)) : SetS X.prog X.w s.heap a l := (I.hok a _ ha).1
theorem IsTup.isTuple {h : Heap} {a : Addr} {items : Array Value} (e : IsTup h a items) : h.IsTuple a items := e
theorem cr_setT (hc : X.calm = true) : CallR X (.type "set") (rSetT X.prog X.w X.K) := by
  intro pins s σ H vs us Q I r h
  obtain ⟨x, xs, rfl, tx, hb, q⟩ := h
  obtain ⟨u, rfl, rx⟩ := vals1 r
  have go : ∀ T, Gives X.prog X.w X.xe s u T xs → wpAny (model X.prog X.w) X.A (call (.type "set") [u]) (EP X pins σ Q) X.xe s := fun T g =>
    call_setG g (I.ok.hd hc) hb fun h' tk l k S hm hl =>
      ⟨.ref _, upd H s.heap.objs.size (SetT X.prog X.w s.heap.objs.size l), I.laid (t' := tk) k (Nat.le_refl _) (setT_ok S), rfl, q _ l (I.hok.fresh (Nat.le_refl _)) S.nodup hm hl⟩
  cases tx with
  | list hs =>
    obtain ⟨its, rv, hl, _⟩ := I.list hs
    cases rx
    exact go _ (gives_list hl.isList rv.strs)
  | tup hs =>
    obtain ⟨its, rv, hl, _⟩ := I.tuple hs
    cases rx
    exact go _ (gives_tup (IsTup.isTuple hl) rv.strs)
  | text y =>
    obtain ⟨t, rfl⟩ := rx
    exact go _ gives_str
theorem cr_sortT (hc : X.calm = true) : CallR X (.builtin "sorted") (rSortT X.prog X.w) := by
  intro pins s σ H vs us Q I r h
  obtain ⟨a, l, rfl, ha, hb, q⟩ := h
  rw [Vals.ref1 r]
  refine sorted_s (setT_at I ha) (I.ok.hd hc) hb fun s' p out c ys k g o hp hg hi pm hs => ?_
  have hz : (ys.map V.str).length ≤ sizeLine := by rw [List.length_map, pm.length_eq]; exact fits_of_scanBound hb
  have hn : H p = none := I.hok.fresh hp
  have J : Inv X pins σ (upd H p (.lst (ys.map V.str))) { s with heap := s'.heap, gens := s'.gens, drawn := s'.drawn, toks := s'.toks } :=
    I.call (ch := []) (Un.laid k hp hn) (I.hok.laid k hp ⟨hz, out.toList, c, vals_of_strs hi, hg⟩) (by rw [g]; exact I.bare) (fun _ z => nomatch z)
  have e : s' = { s with heap := s'.heap, gens := s'.gens, drawn := s'.drawn, toks := s'.toks } := by
    obtain ⟨_, _, _, _, _⟩ := s'
    obtain ⟨_, _, _, _, _⟩ := s
    cases o
    rfl
  rw [e]
  exact ⟨.ref p, _, J, rfl, q p ys hn pm hs⟩
theorem cr_lenT : CallR X (.builtin "len") (rLenT X.prog X.w) := by
  intro pins s σ H vs us Q I r h
  obtain ⟨a, l, rfl, ha, hb, q⟩ := h
  rw [Vals.ref1 r]
  exact len_s (setT_at I ha) hb ⟨.int l.length, H, I.tok _, ⟨_, rfl⟩, q⟩
/-- a text in a set, or not in it -/
def rInT (P : Program) (w : World) (f : Bool → Bool) : V → V → Hp → VK → Prop := fun x y H Q => ∃ (k : Str) (a : Addr) (l : List Str), x = .str k ∧ y = .ref a ∧ H a = some (SetT P w a l) ∧ l.length < scanBound ∧ Q (.bl (f (decide (k ∈ l)))) H
theorem or_inT : OpR X (compareOp .In) (rInT X.prog X.w id) := by
  intro pins s σ H x y v u Q I rx ry h
  obtain ⟨k, a, l, rfl, rfl, ha, hb, q⟩ := h
  obtain ⟨t, rfl⟩ := rx
  cases ry
  exact wpAny_inSet_of (knd := PySem.strKind X.prog X.w) (k := k) (is_str k t) rfl (in_s (setT_at I ha) hb) ⟨.bl _, H, I.tok _, rfl, q⟩
theorem or_notinT : OpR X (compareOp .NotIn) (rInT X.prog X.w not) := by
  intro pins s σ H x y v u Q I rx ry h
  obtain ⟨k, a, l, rfl, rfl, ha, hb, q⟩ := h
  obtain ⟨t, rfl⟩ := rx
  cases ry
  exact wpAny_notInSet_of (knd := PySem.strKind X.prog X.w) (k := k) (is_str k t) rfl (in_s (setT_at I ha) hb) ⟨.bl _, H, I.tok _, rfl, q⟩
end
end Own

namespace Own
open PySem PySem.Spec L2 PyProof.Rows PySem.Froz
/-! ### the keys of a row of texts: each once, in ascending order -/
def leS (a b : Str) : Prop := ltCps b.cps.toList a.cps.toList = false
theorem leS_iff (a b : Str) : leS a b ↔ a.cps.toList ≤ b.cps.toList := by
  unfold leS
  rw [ltCps_eq, decide_eq_false_iff_not]
  exact List.not_lt
theorem leS_trans {a b c : Str} (h : leS a b) (k : leS b c) : leS a c := (leS_iff a c).mpr (List.le_trans ((leS_iff a b).mp h) ((leS_iff b c).mp k))
theorem leS_total (a b : Str) : leS a b ∨ leS b a := (List.le_total a.cps.toList b.cps.toList).imp (leS_iff a b).mpr (leS_iff b a).mpr
theorem leS_anti {a b : Str} (h : leS a b) (k : leS b a) : a = b := by
  have e := List.le_antisymm ((leS_iff a b).mp h) ((leS_iff b a).mp k)
  obtain ⟨⟨x⟩⟩ := a
  obtain ⟨⟨y⟩⟩ := b
  have e' : x = y := e
  rw [e']
theorem pair_rising : ∀ (l : List Str) (p : Str), risingS p l = true → (p :: l).Pairwise leS
  | [], p, _ => List.pairwise_singleton _ _
  | x :: l, p, h => by
    unfold risingS at h
    rw [Bool.and_eq_true] at h
    have ih := pair_rising l x h.2
    have px : leS p x := by
      have q := h.1
      unfold leS
      simpa using q
    refine List.pairwise_cons.mpr ⟨fun y hy => ?_, ih⟩
    rcases List.mem_cons.mp hy with rfl | z
    · exact px
    · exact leS_trans px ((List.pairwise_cons.mp ih).1 y z)
theorem pair_sorted {l : List Str} (h : sortedS l = true) : l.Pairwise leS := by
  cases l with
  | nil => exact .nil
  | cons x r => exact pair_rising r x h
theorem same_sorted : ∀ (xs ys : List Str), xs.Perm ys → xs.Pairwise leS → ys.Pairwise leS → xs = ys
  | [], ys, p, _, _ => (List.nil_perm.mp p).symm
  | x :: r, [], p, _, _ => (List.perm_nil.mp p)
  | x :: r, y :: t, p, a, b => by
    obtain ⟨a1, a2⟩ := List.pairwise_cons.mp a
    obtain ⟨b1, b2⟩ := List.pairwise_cons.mp b
    have e : x = y := by
      have hx := p.mem_iff.mp (List.mem_cons_self (a := x) (l := r))
      have hy := p.mem_iff.mpr (List.mem_cons_self (a := y) (l := t))
      rcases List.mem_cons.mp hx with z | z
      · exact z
      · rcases List.mem_cons.mp hy with z2 | z2
        · exact z2.symm
        · exact leS_anti (a1 y z2) (b1 x z)
    subst e
    rw [same_sorted r t p.cons_inv a2 b2]
instance (a b : Str) : Decidable (leS a b) := by unfold leS; exact inferInstance
def once (xs : List Str) : List Str := xs.foldr (fun x l => if x ∈ l then l else x :: l) []
theorem once_mem (y : Str) : ∀ xs : List Str, y ∈ once xs ↔ y ∈ xs
  | [] => Iff.rfl
  | x :: xs => by
    have ih := once_mem y xs
    show y ∈ (if x ∈ once xs then once xs else x :: once xs) ↔ _
    split
    · rename_i c
      rw [List.mem_cons, ih]
      exact ⟨.inr, fun z => z.elim (fun e => by rw [e]; exact (once_mem x xs).mp c) id⟩
    · rw [List.mem_cons, List.mem_cons, ih]
theorem once_nodup : ∀ xs : List Str, (once xs).Nodup
  | [] => List.nodup_nil
  | x :: xs => by
    show (if x ∈ once xs then once xs else x :: once xs).Nodup
    split
    · exact once_nodup xs
    · rename_i c
      exact List.nodup_cons.mpr ⟨c, once_nodup xs⟩
theorem once_len : ∀ xs : List Str, (once xs).length ≤ xs.length
  | [] => Nat.le_refl _
  | x :: xs => by
    have ih := once_len xs
    show (if x ∈ once xs then once xs else x :: once xs).length ≤ _
    split
    · rw [List.length_cons]; omega
    · rw [List.length_cons, List.length_cons]; omega
/-- tuple(sorted(set(xs))) -/
def kl (xs : List Str) : List Str := (once xs).mergeSort fun a b => decide (leS a b)
theorem kl_perm (xs : List Str) : (kl xs).Perm (once xs) := List.mergeSort_perm _ _
theorem kl_mem {xs : List Str} {y : Str} : y ∈ kl xs ↔ y ∈ xs := (kl_perm xs).mem_iff.trans (once_mem y xs)
theorem kl_nodup (xs : List Str) : (kl xs).Nodup := (kl_perm xs).nodup_iff.mpr (once_nodup xs)
theorem kl_len (xs : List Str) : (kl xs).length ≤ xs.length := by rw [(kl_perm xs).length_eq]; exact once_len xs
theorem kl_pair (xs : List Str) : (kl xs).Pairwise leS := by
  have h := List.pairwise_mergeSort (le := fun a b => decide (leS a b)) (fun a b c h k => by
    rw [decide_eq_true_eq] at h k ⊢
    exact leS_trans h k) (fun a b => by
    rw [Bool.or_eq_true, decide_eq_true_eq, decide_eq_true_eq]
    exact leS_total a b) (once xs)
  exact h.imp fun z => by rwa [decide_eq_true_eq] at z
theorem perm_mem {l ys : List Str} (a : l.Nodup) (b : ys.Nodup) (h : ∀ y, y ∈ l ↔ y ∈ ys) : l.Perm ys := by
  refine (perm_s l ys a (fun x hx => (h x).mp hx) ?_).symm
  exact (perm_len ys l b fun x hx => (h x).mpr hx)
where perm_len : ∀ (u v : List Str), u.Nodup → (∀ x ∈ u, x ∈ v) → u.length ≤ v.length
  | [], _, _, _ => Nat.zero_le _
  | x :: u, v, nd, hs => by
    obtain ⟨n1, n2⟩ := List.nodup_cons.mp nd
    have hx := hs x List.mem_cons_self
    have ih := perm_len u (v.erase x) n2 fun y hy => (List.mem_erase_of_ne (fun e : y = x => n1 (e ▸ hy))).mpr (hs y (List.mem_cons_of_mem _ hy))
    have e := List.length_erase_of_mem hx
    have p := List.length_pos_of_mem hx
    rw [List.length_cons]
    omega
theorem kl_uniq {xs ys : List Str} (a : ys.Nodup) (s : ys.Pairwise leS) (h : ∀ y, y ∈ ys ↔ y ∈ xs) : ys = kl xs :=
  same_sorted _ _ (perm_mem a (kl_nodup xs) fun y => (h y).trans kl_mem.symm) s (kl_pair xs)
theorem kl_of {xs l ys : List Str} (p : ys.Perm l) (s : sortedS ys = true) (nd : l.Nodup) (h : ∀ y, y ∈ l ↔ y ∈ xs) : ys = kl xs :=
  kl_uniq (p.nodup_iff.mpr nd) (pair_sorted s) fun y => p.mem_iff.trans (h y)
theorem kl_congr {xs ys : List Str} (h : ∀ y, y ∈ xs ↔ y ∈ ys) : kl xs = kl ys := kl_uniq (kl_nodup xs) (kl_pair xs) fun y => kl_mem.trans (h y)
theorem kl_kl (xs : List Str) : kl (kl xs) = kl xs := kl_congr fun _ => kl_mem
theorem len_once {xs l : List Str} (nd : l.Nodup) (h : ∀ y, y ∈ l ↔ y ∈ xs) : l.length = (kl xs).length := (perm_mem nd (kl_nodup xs) fun y => (h y).trans kl_mem.symm).length_eq
theorem kl_sub {xs ys : List Str} (h : ∀ y ∈ xs, y ∈ ys) : (kl xs).length ≤ (kl ys).length := perm_mem.perm_len _ _ (kl_nodup xs) fun y hy => kl_mem.mpr (h y (kl_mem.mp hy))
end Own

/-! list comprehensions of any number of clauses -/
namespace Own
open PySem PySem.Spec PyProof.Rows L2
/-- what a clause whose tests hold does next -/
def onward (elt : Expr) (gs : List Comprehension) (scope : Scope) (pos : Pos) (d : Nat) (acc : Value) (env : Env) : Sem Unit := match gs[d]? with
  | some g' => do
    let x ← eval g'.iter env
    standAt g'.iter.pos
    let x ← if g'.is_async != 0 then foldedIterable g'.iter x else foldedSetIterable g'.iter env x
    let _ ← runOwn (.compStart (.ListComp elt gs scope pos) d (← holding [x] (if g'.is_async != 0 then asyncIter x else pyIter x)) acc env) env
  | none => do
    let _ ← call (.builtin "list.append") [acc, ← eval elt env]
/-- the clause at d is there, or d is the end -/
def Nextly (gs : List Comprehension) (d : Nat) : Prop := gs[d]? = none ∨ ∃ t i fs, gs[d]? = some ⟨t, i, fs, 0⟩
theorem turn_of {elt tg iter : Expr} {ifs : List Expr} {gs : List Comprehension} {scope : Scope} {pos : Pos} {d : Nat} {it acc : Value} {env : Env} (hg : gs[d]? = some ⟨tg, iter, ifs, 0⟩) (hn : Nextly gs (d + 1)) :
    compTurn (.ListComp elt gs scope pos) d it acc env = (do
      standAt iter.pos
      match ← pyNext it with
      | none => pure (.done .next)
      | some v =>
        letOwnedTupleGo tg it v
        assign tg env v
        let mut ok := true
        for c in ifs do
          if ok then ok ← isTrue c env (eval c env)
        if ok then
          onward elt gs scope pos (d + 1) acc env
          again (.compLoop (.ListComp elt gs scope pos) d it acc env)
        else again (.compLoop (.ListComp elt gs scope pos) d it acc env)) := by
  unfold compTurn onward
  dsimp only
  rw [hg]
  have z : ((0 : Int) != 0) = false := rfl
  rcases hn with hn | ⟨t, i, fs, hn⟩
  · rw [hn]
    simp only [z, Bool.false_eq_true, if_false, bind_assoc, pure_bind]
    try rfl
  · rw [hn]
    simp only [z, Bool.false_eq_true, if_false, bind_assoc, pure_bind]
    try rfl
section
variable {prog : Program} {w : World} {A : Around} {R : Result → Shared → Prop} {s : Shared} {elt tg iter : Expr} {ifs : List Expr} {gs : List Comprehension} {scope : Scope} {pos : Pos} {d : Nat} {it acc : Value} {env : Env}
/-- a clause's loop, nothing raised -/
theorem loop_of (hg : gs[d]? = some ⟨tg, iter, ifs, 0⟩) (hn : Nextly gs (d + 1)) (I : Nat → Shared → Prop)
    (turn : ∀ n s, I n s → wpAny (model prog w) A (pyNext it) (fun r s1 => match r with
      | none => R (.ok .next) s1
      | some v => wpAny (model prog w) A (letOwnedTupleGo tg it v) (fun _ s2 => wpAny (model prog w) A (assign tg env v) (fun _ s3 =>
          wpAny (model prog w) A (forIn ifs true fun c r => if r = true then do let ok ← isTrue c env (eval c env); pure (ForInStep.yield ok) else pure (ForInStep.yield r)) (fun ok s4 =>
            if ok = true then wpAny (model prog w) A (onward elt gs scope pos (d + 1) acc env) (fun _ s5 => ∃ m, m < n ∧ I m s5) (fun _ _ => False) s4 else ∃ m, m < n ∧ I m s4) (fun _ _ => False) s3) (fun _ _ => False) s2) (fun _ _ => False) s1) (fun _ _ => False) s)
    (n : Nat) (h : I n s) : codeAny (model prog w) A (.compLoop (.ListComp elt gs scope pos) d it acc env) R s := by
  have no : ∀ (E : Value → Shared → Prop) (x : Value) (z : Shared), False → E x z := fun _ _ _ z => z.elim
  refine codeAny_loop rfl I (fun n s hI => ?_) n h
  show wpAny _ A ((compTurn (.ListComp elt gs scope pos) d it acc env).onRaise (fun x => do noteFrame x env; theTreesLotGoes x)) _ _ s
  refine wpAny_noted ?_
  rw [turn_of hg hn]
  refine wpAny_bind (wpAny_standAt (wpAny_bind (wpAny_mono (turn n s hI) (fun r s1 h1 => ?_) (no _))))
  cases r with
  | none => exact wpAny_pure h1
  | some v =>
    refine wpAny_bind (wpAny_mono h1 (fun _ s2 h2 => wpAny_bind (wpAny_mono h2 (fun _ s3 h3 => wpAny_bind (wpAny_mono h3 (fun b s4 h4 => ?_) (no _))) (no _))) (no _))
    cases b with
    | false => exact wpAny_pure ⟨rfl, h4⟩
    | true => exact wpAny_bind (wpAny_mono h4 (fun _ s5 h5 => wpAny_pure ⟨rfl, h5⟩) (no _))
theorem start_of (hg : gs[d]? = some ⟨tg, iter, ifs, 0⟩) (h0 : codeAny (model prog w) A (.compLoop (.ListComp elt gs scope pos) d it acc env) R s)
    (h : wpAny (model prog w) A (pyIter it) (fun it' s' => codeAny (model prog w) A (.compLoop (.ListComp elt gs scope pos) d it' acc env) R s') (fun _ _ => False) s) :
    codeAny (model prog w) A (.compStart (.ListComp elt gs scope pos) d it acc env) R s := by
  refine codeAny_of_tree ?_
  show wpAny _ _ ((compStart (.ListComp elt gs scope pos) d it acc env).onRaise (fun x => do noteFrame x env; standAt theWindowsPlace)) _ _ s
  refine wpAny_notedAt ?_
  unfold compStart
  have hc : clausesOf (.ListComp elt gs scope pos) = gs := rfl
  rw [hc, hg]
  show wpAny _ _ (ask >>= _) _ _ s
  refine wpAny_bind (wpAny_askSetting (wpAny_ite ?_))
  split
  · first
      | exact wpAny_bind (wpAny_pure (wpAny_pure (And.intro rfl h0)))
      | exact wpAny_pure (And.intro rfl h0)
  · refine wpAny_bind (wpAny_rule ?_)
    show wpAny _ _ (standAt iter.pos >>= _) _ _ s
    exact wpAny_bind (wpAny_standAt (wpAny_bind (wpAny_mono h (fun it' s' h' => wpAny_pure (And.intro rfl h')) fun _ _ x => x.elim)))
end
/-- from slots and heap to what is reached -/
abbrev TN := L2.St → Hp → (Hp → Prop) → Prop
/-- the onward step at depth d, the list at D, the slots vs its own -/
structure Does (Y : Cx) (elt : Expr) (gs : List Comprehension) (scope : Scope) (pos : Pos) (d : Nat) (D : Addr) (vs : List Nat) (t : TN) : Prop where
  run : ∀ (pins : List (Addr × Obj)) (s : Shared) (σ : L2.St) (H : Hp) (Nx : Hp → Prop) (R : Shared → Prop), Inv Y pins σ H s → t σ H Nx →
    (∀ s' σ' H', Inv Y pins σ' H' s' → σ'.length = σ.length → (∀ (i : Nat) v, i ∉ vs → σ[i]? = some (some v) → σ'[i]? = some (some v)) → Nx H' → R s') →
    wpAny (model Y.prog Y.w) Y.A (onward elt gs scope pos d (.ref D) Y.env) (fun _ => R) (fun _ _ => False) s
def tEmit (te : TE) (D : Addr) : TN := fun σ H Nx => te σ H fun y H4 => ∃ acc, H4 D = some (.lst acc) ∧ acc.length < sizeLine ∧ Nx (upd H4 D (.lst (acc ++ [y])))
def tLoop (g : TG) (tt : TT) (t : TN) (vs : List Nat) (J : It) : TN := fun σ H Nx => ∃ W : Nat → Nat → Hp → Prop, (∃ m, W 0 m H) ∧ ∀ j k H, W j k H →
  (J.stop j H ∧ Nx H) ∨ (J.go j H ∧ ∃ N1 : Hp → Prop, (∀ H', N1 H' → ∃ k', k' < k ∧ W (j + 1) k' H') ∧ ∀ x H', J.yld j H x H' → g x (wipe σ vs) H' fun σ3 H5 => wipe σ3 vs = wipe σ vs ∧ tt σ3 H5 fun b H6 =>
    if b = true then t σ3 H6 N1 else N1 H6)
/-- a further clause, and what stands behind it -/
def tFor (wi : TI) (g : TG) (tt : TT) (vs : List Nat) (t : Addr → TN) : Addr → TN := fun D σ H Nx => wi σ H fun J H4 => tLoop g tt (t D) vs J σ H4 Nx
section
variable {Y : Cx} {elt tg iter : Expr} {ifs : List Expr} {gs : List Comprehension} {scope : Scope} {pos : Pos} {d : Nat} {D : Addr} {g : TG} {tt : TT} {te : TE} {t : TN} {wi : TI} {vs vs1 : List Nat}
theorem does_emit (hg : gs[d]? = none) (hx : Y.xe = fun _ _ => False) (pe : PE Y elt te) : Does Y elt gs scope pos d D [] (tEmit te D) := by
  refine ⟨fun pins s σ H Nx R I h k => ?_⟩
  unfold onward
  rw [hg]
  refine wpAny_bind ?_
  have r := pe.run pins s σ H _ I h
  rw [hx] at r
  refine thnF r fun z s1 ⟨y, H1, I1, r1, acc, e, hz, nx⟩ => ?_
  exact wpAny_bind (app_ok I1 e hz r1 fun s2 I2 => wpAny_pure (k s2 σ _ I2 rfl (fun _ _ _ e => e) nx))
theorem loop_n (hg : gs[d]? = some ⟨tg, iter, ifs, 0⟩) (hn : Nextly gs (d + 1)) (hc : Y.calm = true) (hx : Y.xe = fun _ _ => False) (pg : PG Y tg g) (pt : PTs Y ifs tt) (dn : Does Y elt gs scope pos (d + 1) D vs1 t) (hv : ∀ i ∈ vs1, i ∈ vs)
    {pins : List (Addr × Obj)} {s : Shared} {σ : L2.St} {H : Hp} {Nx : Hp → Prop} {R : Result → Shared → Prop} {J : It} {fp : List Addr} {it : Addr} {tn : Nat → Heap → Prop} (I : Inv Y pins σ H s) (T : Turn Y.prog Y.w Y.K tg J fp it tn) (st : tn 0 s.heap) (hf : ∀ b ∈ fp, FpOk Y pins H b)
    (h : tLoop g tt t vs J σ H Nx) (fin : ∀ s' H', Inv Y pins (wipe σ vs) H' s' → Nx H' → R (.ok .next) s') :
    codeAny (model Y.prog Y.w) Y.A (.compLoop (.ListComp elt gs scope pos) d (.ref it) (.ref D) Y.env) R s := by
  obtain ⟨W, ⟨m0, w0⟩, turn⟩ := h
  have ok : ∀ {H' : Hp}, (∀ b ∈ fp, H' b = none) → ∀ b ∈ fp, FpOk Y pins H' b := fun hn b hb => ⟨hn b hb, (hf b hb).2⟩
  refine loop_of hg hn (fun n z => ∃ i H', Inv Y pins (wipe σ vs) H' z ∧ tn i z.heap ∧ (∀ b ∈ fp, H' b = none) ∧ W i n H') ?_ m0 ⟨0, H, I.weak (wipe_length _ _) fun _ _ e => (wipe_some e).1, st, fun b hb => (hf b hb).1, w0⟩
  rintro n z ⟨i, H1, I1, st1, n1, w1⟩
  rcases turn i n H1 w1 with ⟨stop, nx⟩ | ⟨go, N1, back, step⟩
  · refine thnF (T.done Y rfl rfl rfl hc i pins z _ H1 (fun _ _ => False) I1 (ok n1) st1 stop) fun r z2 ⟨hr, I2⟩ => ?_
    rw [hr]
    exact fin z2 H1 I2 nx
  · refine thnF (T.item Y rfl rfl rfl hc i pins z _ H1 (fun _ _ => False) I1 (ok n1) st1 go) fun r z2 ⟨u, hr, h2⟩ => ?_
    rw [hr]
    refine thnF h2 fun _ z3 ⟨x, H3, I3, r3, y3, st3, n3⟩ => ?_
    have J3 := I3.pinned (ok n3) (T.obj _ _ st3)
    have a := pg.run _ z3 _ H3 x u _ J3 r3 (step x H3 y3)
    rw [hx] at a
    refine thnF a fun _ z4 ⟨σ4, H4, I4, e4, q4⟩ => ?_
    have b := pt.run _ z4 σ4 H4 _ I4 q4
    rw [hx] at b
    refine thnF b fun ok5 z5 ⟨H5, I5, q5⟩ => ?_
    -- the end of a turn
    have fin1 : ∀ z6 σ6 H6, Inv Y (pins ++ pinsAt fp z3.heap) σ6 H6 z6 → σ6.length = σ4.length → (∀ (j : Nat) v, j ∉ vs1 → σ4[j]? = some (some v) → σ6[j]? = some (some v)) → N1 H6 → ∃ m, m < n ∧ ∃ i H', Inv Y pins (wipe σ vs) H' z6 ∧ tn i z6.heap ∧ (∀ b ∈ fp, H' b = none) ∧ W i m H' := fun z6 σ6 H6 I6 l6 k6 nx => by
      obtain ⟨m, lt, w6⟩ := back H6 nx
      have pin : ∀ b ∈ fp, ∀ o, z3.heap.get? b = some o → z6.heap.get? b = some o ∧ H6 b = none := fun b hb o e =>
        have q := I6.pin (b, o) (List.mem_append_right _ (List.mem_append_right _ (mem_pinsAt hb e)))
        ⟨q.1, q.2.1⟩
      refine ⟨m, lt, i + 1, H6, I6.unpinned.weak ?_ fun j v e => ?_, T.keep _ _ _ st3 fun b hb o e => (pin b hb o e).1, fun b hb => ?_, w6⟩
      · rw [l6, ← e4, wipe_length]
      · rw [← e4] at e
        obtain ⟨p, q⟩ := wipe_some e
        exact k6 j v (fun m => q (hv j m)) p
      · obtain ⟨o, e, _⟩ := T.obj _ _ st3 b hb
        exact (pin b hb o e).2
    cases ok5 with
    | false =>
      simp only [Bool.false_eq_true, if_false] at q5 ⊢
      exact fin1 z5 σ4 H5 I5 rfl (fun _ _ _ e => e) q5
    | true =>
      simp only [if_true] at q5 ⊢
      exact dn.run _ z5 σ4 H5 N1 _ I5 q5 fin1
theorem does_for {t : Addr → TN} (hg : gs[d]? = some ⟨tg, iter, ifs, 0⟩) (hn : Nextly gs (d + 1)) (hc : Y.calm = true) (hx : Y.xe = fun _ _ => False) (pi : PI Y tg iter wi) (hs : ∀ x, foldedSetIterable iter Y.env x = pure x) (pg : PG Y tg g) (pt : PTs Y ifs tt)
    (dn : Does Y elt gs scope pos (d + 1) D vs1 (t D)) (hv : ∀ i ∈ vs1, i ∈ vs) : Does Y elt gs scope pos d D vs (tFor wi g tt vs t D) := by
  refine ⟨fun pins s σ H Nx R I h k => ?_⟩
  unfold onward
  rw [hg]
  have r := pi.run pins s σ H _ I h
  rw [hx] at r
  refine wpAny_bind (thnF r fun v s1 h1 => wpAny_bind (wpAny_standAt ?_))
  dsimp only
  rw [show ((0 : Int) != 0) = false from rfl]
  simp only [Bool.false_eq_true, if_false]
  refine wpAny_bind (wpAny_of_eq (hs v) (wpAny_bind (wpAny_holding (thnF h1 fun itv s2 h2 => ?_))))
  obtain ⟨it, fp, tn, J, H2, e, I2, T, st2, f2, q⟩ := h2
  subst e
  have lp : codeAny (model Y.prog Y.w) Y.A (.compLoop (.ListComp elt gs scope pos) d (.ref it) (.ref D) Y.env) (fun r s' => match r with
      | .ok _ => R s'
      | .error _ => False) s2 :=
    loop_n hg hn hc hx pg pt dn hv I2 T st2 f2 q fun s' H' I' nx => k s' _ H' I' (wipe_length _ _) (fun i v hi e => by rw [wipe_out hi]; exact e) nx
  refine wpAny_bind (wpAny_runOwn ?_)
  rw [Around.mark_none]
  refine codeAny_mono (start_of hg lp (T.self Y.A 0 _ _ _ st2 lp)) fun r s' hr => ?_
  cases r with
  | ok f => exact wpAny_pure hr
  | error e => exact hr.elim
end
section
variable {X : Cx} {elt tg iter : Expr} {ifs : List Expr} {rest : List Comprehension} {scope : Scope} {own : List (Str × Nat)} {pos : Pos} {g : TG} {tt : TT} {wi : TI} {vs1 : List Nat} {t : Addr → TN}
/-- [elt for tg in iter if .. for ..]; t: what stands behind the first clause -/
def tLcN (wi : TI) (g : TG) (tt : TT) (t : Addr → TN) (vs : List Nat) : TE := fun σ H Q => wi σ H fun J H1 => ∀ D, H1 D = none → tLoop g tt (t D) vs J (wipe σ vs) (upd H1 D (.lst [])) (Q (.ref D))
theorem lcN_core {pins : List (Addr × Obj)} {s : Shared} {σ : L2.St} {H : Hp} {Q : VK} {pos' : Pos} {use : Option (Value → Sem Unit)} {Qf : Value → Shared → Prop} (hc : X.calm = true) (hN : X.N.Nodup) (hi : PI X tg iter wi) (ok : BlkOk X.N X.env.scope scope own) (hn : Nextly (⟨tg, iter, ifs, 0⟩ :: rest) 1) (hv : ∀ i ∈ vs1, i ∈ own.map (·.2))
    (hg : ∀ (s : Shared) (H : Hp) (C : Addr) (cl : List (Str × Addr)) (fp : List Addr), PG (X.blk s H scope (compEnvC scope cl C X.env) fp) tg g) (ht : ∀ (s : Shared) (H : Hp) (C : Addr) (cl : List (Str × Addr)) (fp : List Addr), PTs (X.blk s H scope (compEnvC scope cl C X.env) fp) ifs tt)
    (hd : ∀ (s : Shared) (H : Hp) (C : Addr) (cl : List (Str × Addr)) (fp : List Addr) (D : Addr), Does (X.blk s H scope (compEnvC scope cl C X.env) fp) elt (⟨tg, iter, ifs, 0⟩ :: rest) scope pos 1 D vs1 (t D)) (hs : ∀ x, foldedSetIterable iter X.env x = pure x)
    (I : Inv X pins σ H s) (h : tLcN wi g tt t (own.map (·.2)) σ H Q) (done : ∀ D C s' m H', Inv X pins σ H' s' → Q (.ref D) H' → s'.heap.Ns C m → FpOk X pins H' C → compPost (model X.prog X.w) X.A X.xe use Qf (.ref D) C (.ok .next) s') :
    wpAny (model X.prog X.w) X.A (comprehension (.ListComp elt (⟨tg, iter, ifs, 0⟩ :: rest) scope pos) scope X.env pos' (newList []) false (eval iter X.env) use) Qf X.xe s := by
  have cl : closureFor scope X.env = pure (cloFrom X.env.cells scope.names []) := closure_ok fun y hy e => I.ok.has _ (ok.free y hy e)
  refine wpAny_comprehension_free (use := use) rfl hs cl ok.kind (fun y hy e => (ok.uniq y hy).trans (by rw [e])) (thn (hi.run pins s σ H _ I h) fun xv s1 h1 => thn h1 fun itv s2 h2 => ?_)
  obtain ⟨it, fp, tn, J, H2, rfl, I2, T, st2, f2, q⟩ := h2
  refine wpAny_newObj_type (newEnv_comp ?_) (Nat.zero_le _)
  have q := q s2.heap.objs.size (I2.hok.fresh (Nat.le_refl _))
  have lt : ∀ b ∈ fp, b < s2.heap.objs.size := fun b hb => by
    obtain ⟨o, e, _⟩ := T.obj _ _ st2 b hb
    exact Heap.lt_size e
  have new : ∀ b o, s2.heap.get? b = some o → (s2.heap.push { cls := .type "list", data := .seq ([] : List Value).toArray }).get? b = some o := fun b o e => Heap.get?_push_of_some _ e
  -- the list is there
  have I3 := I2.laid (t' := s2.toks) (o := .lst []) (a := s2.heap.objs.size) new (Nat.le_refl _) ⟨Nat.zero_le _, [], 0, .nil, Heap.get?_push_size _ rfl⟩
  have f3 : ∀ b ∈ fp, FpOk X pins (upd H2 s2.heap.objs.size (.lst [])) b := fun b hb => ⟨by rw [upd_ne (Nat.ne_of_lt (lt b hb))]; exact (f2 b hb).1, (f2 b hb).2⟩
  have st3 := T.keep _ _ _ st2 fun b _ o e => new b o e
  generalize s2.heap.objs.size = D at q I3 f3 lt ⊢
  generalize upd H2 D (.lst []) = H3 at q I3 f3 ⊢
  have lt3 : ∀ b ∈ fp, b < (s2.heap.push { cls := .type "list", data := .seq ([] : List Value).toArray }).objs.size := fun b hb => by
    obtain ⟨o, e, _⟩ := T.obj _ _ st3 b hb
    exact Heap.lt_size e
  change Inv X pins σ H3 { s2 with heap := s2.heap.push { cls := .type "list", data := .seq ([] : List Value).toArray } } at I3
  generalize hz : ({ s2 with heap := s2.heap.push { cls := .type "list", data := .seq ([] : List Value).toArray } } : Shared) = z at I3 ⊢
  have ez : s2.heap.push { cls := .type "list", data := .seq ([] : List Value).toArray } = z.heap := by rw [← hz]
  rw [ez] at st3 lt3
  have I4 := block_start I3 ok hN fun b hb => ⟨f3 b hb, lt3 b hb⟩
  have st4 := T.keep 0 _ (pushCells (z.heap.push { cls := .type "dict", data := .dict #[] }) scope.names) st3 fun b _ o e => pushCells_keeps _ _ _ _ (Heap.get?_push_of_some _ e)
  have pg := hg z H3 z.heap.objs.size (cellsFrom (z.heap.objs.size + 1) scope.names (cloFrom X.env.cells scope.names [])) fp
  have pt := ht z H3 z.heap.objs.size (cellsFrom (z.heap.objs.size + 1) scope.names (cloFrom X.env.cells scope.names [])) fp
  have pd := hd z H3 z.heap.objs.size (cellsFrom (z.heap.objs.size + 1) scope.names (cloFrom X.env.cells scope.names [])) fp D
  change codeAny (model X.prog X.w) X.A (.compStart _ 0 (.ref it) (.ref D) (compEnvC scope (cellsFrom (z.heap.objs.size + 1) scope.names (cloFrom X.env.cells scope.names [])) z.heap.objs.size X.env)) (compPost (model X.prog X.w) X.A X.xe use Qf (.ref D) z.heap.objs.size) { z with heap := pushCells (z.heap.push { cls := .type "dict", data := .dict #[] }) scope.names }
  have fY : ∀ b ∈ fp, FpOk (X.blk z H3 scope (compEnvC scope (cellsFrom (z.heap.objs.size + 1) scope.names (cloFrom X.env.cells scope.names [])) z.heap.objs.size X.env) fp) [] H3 b := fun b hb =>
    ⟨(f3 b hb).1, (I4.ok.exf b hb).1, I4.ok.exfs b hb, .inl hb, fun x c e => (I4.ok.exf b hb).2 x c e, fun p hp => nomatch (show p ∈ ([] : List (Addr × Obj)) from by simpa using hp)⟩
  have free : X.calm = true := hc
  have lp := loop_n (Y := X.blk z H3 scope (compEnvC scope (cellsFrom (z.heap.objs.size + 1) scope.names (cloFrom X.env.cells scope.names [])) z.heap.objs.size X.env) fp) (R := compPost (model X.prog X.w) X.A X.xe use Qf (.ref D) z.heap.objs.size) rfl hn hc rfl pg pt pd hv I4 T st4 fY q fun s' H' I' q' => by
    have J : Inv X pins σ H' s' := I3.call' (ch := fp) I'.os I'.base I'.hok I'.bare fun b hb =>
      have f := f3 b hb
      ⟨f.2.2.2.1, f.2.1, f.2.2.2.2.1, f.2.2.2.2.2⟩
    obtain ⟨m, ns, _⟩ := I'.loc
    have f := I3.fpOk (b := z.heap.objs.size) (H' := H') (Nat.le_refl _) I'.free
    exact done D _ s' m H' J q' ns f
  exact codeAny_compStart_list lp (T.self X.A 0 _ _ _ st4 lp)
theorem pe_lcN (hc : X.calm = true) (hN : X.N.Nodup) (hi : PI X tg iter wi) (ok : BlkOk X.N X.env.scope scope own) (hn : Nextly (⟨tg, iter, ifs, 0⟩ :: rest) 1) (hv : ∀ i ∈ vs1, i ∈ own.map (·.2))
    (hg : ∀ (s : Shared) (H : Hp) (C : Addr) (cl : List (Str × Addr)) (fp : List Addr), PG (X.blk s H scope (compEnvC scope cl C X.env) fp) tg g) (ht : ∀ (s : Shared) (H : Hp) (C : Addr) (cl : List (Str × Addr)) (fp : List Addr), PTs (X.blk s H scope (compEnvC scope cl C X.env) fp) ifs tt)
    (hd : ∀ (s : Shared) (H : Hp) (C : Addr) (cl : List (Str × Addr)) (fp : List Addr) (D : Addr), Does (X.blk s H scope (compEnvC scope cl C X.env) fp) elt (⟨tg, iter, ifs, 0⟩ :: rest) scope pos 1 D vs1 (t D)) (hs : ∀ x, foldedSetIterable iter X.env x = pure x := by intro _; rfl) :
    PE X (.ListComp elt (⟨tg, iter, ifs, 0⟩ :: rest) scope pos) (tLcN wi g tt t (own.map (·.2))) := by
  refine ⟨fun pins s σ H Q I h => ?_⟩
  rw [eval_ListComp]
  refine lcN_core hc hN hi ok hn hv hg ht hd hs I h fun D C s' m H' J q ns f => ⟨m, ns, fun h sb => ⟨.ref D, H', J.turned (t' := s'.toks) (fun b o hb e => (sb.2 b hb).trans e) f.1 f.2.1 f.2.2.2.1 f.2.2.2.2.1 f.2.2.2.2.2, rfl, q⟩⟩
/-- y = [..] on one line, y a local -/
theorem ps_setLcN {i : Nat} {y : Str} {py spos : Pos} (hc : X.calm = true) (hN : X.N.Nodup) (hy : X.N[i]? = some y) (hyl : X.env.scope.names.lookup y = some .local)
    (hsw : swapsWith (.ListComp elt (⟨tg, iter, ifs, 0⟩ :: rest) scope pos) (some (.Name y py)) spos.line X.env = pure true) (hi : PI X tg iter wi) (ok : BlkOk X.N X.env.scope scope own) (hn : Nextly (⟨tg, iter, ifs, 0⟩ :: rest) 1) (hv : ∀ i ∈ vs1, i ∈ own.map (·.2))
    (hg : ∀ (s : Shared) (H : Hp) (C : Addr) (cl : List (Str × Addr)) (fp : List Addr), PG (X.blk s H scope (compEnvC scope cl C X.env) fp) tg g) (ht : ∀ (s : Shared) (H : Hp) (C : Addr) (cl : List (Str × Addr)) (fp : List Addr), PTs (X.blk s H scope (compEnvC scope cl C X.env) fp) ifs tt)
    (hd : ∀ (s : Shared) (H : Hp) (C : Addr) (cl : List (Str × Addr)) (fp : List Addr) (D : Addr), Does (X.blk s H scope (compEnvC scope cl C X.env) fp) elt (⟨tg, iter, ifs, 0⟩ :: rest) scope pos 1 D vs1 (t D)) (hs : ∀ x, foldedSetIterable iter X.env x = pure x := by intro _; rfl) :
    PS X (.Assign [.Name y py] (.ListComp elt (⟨tg, iter, ifs, 0⟩ :: rest) scope pos) spos) (tAsg (tLcN wi g tt t (own.map (·.2))) (gName i)) := by
  refine ⟨fun pins s σ H D I h => ?_⟩
  rw [exec_Assign_Name_used _ _ _ _ hsw]
  refine wpAny_bind (wpAny_standAt (wpAny_bind (m := comprehension _ scope X.env _ (newList []) false (eval iter X.env) (some (assign (.Name y py) X.env)) >>= fun _ => pure ()) ?_))
  refine wpAny_bind (thn (lcN_core (Q := fun x H1 => gName i x σ H1 D.nx) (Qf := fun _ z => SP X pins D .next z) hc hN hi ok hn hv hg ht hd hs I h fun L C s1 m H1 J q ns f => ?_) fun _ z hq => wpAny_pure (wpAny_pure hq))
  show wpAny _ _ (assign (.Name y py) X.env (.ref L)) _ _ _
  refine wpAny_assign_Name (store_ok2 (v := V.ref L) J hN hy (.inl hyl) rfl (fun s2 J2 ⟨a, sb, ha⟩ => ?_) (.inr hyl))
  have ne : C ≠ a := ha.elim (fun z => by rw [z]; exact f.2.1) fun z e => f.2.2.2.2.1 y a z e.symm
  exact ⟨m, ns.sameBut sb ne, fun h3 sb3 => ⟨_, H1, J2.turned (t' := s2.toks) (fun b o hb e => (sb3.2 b hb).trans e) f.1 f.2.1 f.2.2.2.1 f.2.2.2.2.1 f.2.2.2.2.2, q⟩⟩
end
section
variable {J : It} {n : Nat} {G : Hp → Prop} {Yl : Nat → Hp → V → Hp → Prop} {g : TG} {tt : TT} {t : TN} {vs : List Nat} {σ : L2.St} {H : Hp} {Nx : Hp → Prop}
/-- a clause's turns, by what holds after each; τ: the slots ahead of a turn, written out -/
theorem lp_it (τ : L2.St) (ht : wipe σ vs = τ) (w : L2.Walk J n G Yl) (Pv : Nat → Hp → Prop) (h0 : Pv 0 H) (hG : ∀ i H, i ≤ n → Pv i H → G H)
    (hs : ∀ i x H H', i < n → Pv i H → Yl i H x H' → g x τ H' fun σ3 H5 => wipe σ3 vs = τ ∧ tt σ3 H5 fun b H6 => if b = true then t σ3 H6 (Pv (i + 1)) else Pv (i + 1) H6) (hd : ∀ H, Pv n H → Nx H) :
    tLoop g tt t vs J σ H Nx := by
  subst ht
  refine ⟨fun i m H => m + i = n ∧ Pv i H, ⟨n, rfl, h0⟩, fun i m H ⟨e, p⟩ => ?_⟩
  have q := hG i H (by omega) p
  by_cases c : i = n
  · subst c
    exact .inl ⟨w.stops H q, hd H p⟩
  · exact .inr ⟨w.goes i H (by omega) q, Pv (i + 1), fun H' p' => ⟨m - 1, by omega, by omega, p'⟩, fun x H' y => hs i x H H' (by omega) p (w.yields i H x H' (by omega) q y)⟩
end
end Own

/-! zip over a text and a tuple -/
namespace Own
open PySem PySem.Spec PyProof.Rows L2 PySem.Froz
/-- an iterator that is drawn from by zip: n items; At i k: k of them have come from the one at i; keep: what else it rests on -/
structure Draws (P : Program) (w : World) (n : Nat) (itm : Nat → Value → Prop) (At : Addr → Nat → Heap → Prop) (rest : Addr → Prop) : Prop where
  keep : ∀ i k h h', At i k h → (∀ b o, b = i ∨ rest b → h.get? b = some o → h'.get? b = some o) → At i k h'
  has : ∀ i k h, At i k h → ∃ o, h.get? i = some o ∧ ∀ v, o.data ≠ .cell v
  item : ∀ (A : Around) (E : Value → Shared → Prop) (s : Shared) (Q : Value → Shared → Prop) i k, k < n → At i k s.heap → ¬ rest i → (∀ v h' tk, itm k v → At i (k + 1) h' → Heap.SameBut i s.heap h' → Q v { s with heap := h', toks := tk }) →
    wpAny (model P w) A (Builtin.SmallTypes.nextOf (.ref i)) Q E s
  stop : ∀ (A : Around) (E : Value → Shared → Prop) (s : Shared) (Q : Value → Shared → Prop) i, A.handled = none → At i n s.heap → (∀ h' e, Heap.ExtBut i s.heap h' → (∃ o, h'.get? e = some o ∧ o.cls = .type "StopIteration") → E (.ref e) { s with heap := h' }) →
    wpAny (model P w) A (Builtin.SmallTypes.nextOf (.ref i)) Q E s
/-- a text's letters -/
theorem draws_text (P : Program) (w : World) (x : Str) (u : Tok) : Draws P w x.cps.size (fun k v => ∃ c t, x.cps[k]? = some c ∧ v = .str (sing c) t) (fun i k h => h.get? i = some (itObj x u k)) (fun _ => False) where
  keep := fun i k h h' e kk => kk i _ (.inl rfl) e
  has := fun i k h e => ⟨_, e, fun v z => nomatch z⟩
  item := fun A E s Q i k lt ho _ q => by
    obtain ⟨c, hc⟩ : ∃ c, x.cps[k]? = some c := ⟨_, Array.getElem?_eq_getElem lt⟩
    have hT : s.TypeIs (.ref i) "str_ascii_iterator" := ⟨_, ho, rfl⟩
    have hd : (itObj x u k).data = .fields #[.str x u, .int k 0] := rfl
    unfold Builtin.SmallTypes.nextOf
    refine wpAny_bind (wpAny_callSpecial?_slot (name := Str.ofString "__next__") hT F.slot_str_ascii_iterator_next
      (wpAny_call_entry F.slot_str_ascii_iterator_next hT F.entry_str_ascii_iterator_next ?_ (F.args_str_ascii_iterator_next_1 _)))
    refine wpAny_bind (m := field (.ref i) 0) (wpAny_field ho hd (x := .str x u) rfl ?_)
    refine wpAny_bind (m := field (.ref i) 1) (wpAny_field ho hd (x := .int k 0) rfl ?_)
    simp only [Int.toNat_natCast, hc]
    refine wpAny_bind (wpAny_setField ho hd (by simp) (wpAny_bind (wpAny_mkStr (wpAny_pure ⟨_, rfl, wpAny_pure (q _ _ _ ⟨c, _, hc, rfl⟩ ?_ (Heap.SameBut.update ..))⟩) (by show 1 ≤ sizeLine; decide))))
    have e := upd_const (Obj.mapFields (fun vs => vs.setIfInBounds 1 (rawInt ((k : Int) + 1)))) ho
    show (s.heap.update i (Obj.mapFields (fun vs => vs.setIfInBounds 1 (rawInt ((k : Int) + 1))))).get? i = _
    rw [e, it_step x u k]
    exact get_upd _ ho rfl
  stop := fun A E s Q i hh ho q => by
    have hc : x.cps[x.cps.size]? = none := by simp
    have hT : s.TypeIs (.ref i) "str_ascii_iterator" := ⟨_, ho, rfl⟩
    have hd : (itObj x u x.cps.size).data = .fields #[.str x u, .int x.cps.size 0] := rfl
    unfold Builtin.SmallTypes.nextOf
    refine wpAny_bind (wpAny_callSpecial?_slot (name := Str.ofString "__next__") hT F.slot_str_ascii_iterator_next
      (wpAny_call_entry F.slot_str_ascii_iterator_next hT F.entry_str_ascii_iterator_next ?_ (F.args_str_ascii_iterator_next_1 _)))
    refine wpAny_bind (m := field (.ref i) 0) (wpAny_field ho hd (x := .str x u) rfl ?_)
    refine wpAny_bind (m := field (.ref i) 1) (wpAny_field ho hd (x := .int x.cps.size 0) rfl ?_)
    simp only [Int.toNat_natCast, hc]
    refine wpAny_bind (wpAny_rule (wpAny_bind (wpAny_setField ho hd (by simp) (wpAny_bind (wpAny_letGo ?_)))))
    refine wpAny_bind (m := newExc (.type "StopIteration") []) ?_
    simp only [newExc, newTuple]
    refine wpAny_bind (wpAny_newObj_type ?_ (by size_fits))
    refine wpAny_bind (m := firstArgMember _ _) (wpAny_of_eq (a := Value.none) (by first | rfl | (simp only [firstArgMember]; rfl)) (wpAny_newObj_type ?_ (by size_fits)))
    simp only [raiseNew]
    refine wpAny_bind (wpAny_handled ?_)
    first | rw [show A.in1.handled = none from hh] | rw [hh]
    exact wpAny_bind (wpAny_pure (wpAny_throw (q _ _ (((Heap.SameBut.update ..).extBut.push _).push _) ⟨_, Heap.get?_push_size _ rfl, rfl⟩)))
/-- a tuple's items -/
theorem draws_tup (P : Program) (w : World) (l : Addr) (items : Array Value) : Draws P w items.size (fun k v => items[k]? = some v) (fun i k h => h.IsTupleIter i l k ∧ h.IsTuple l items ∧ l ≠ i) (fun b => b = l) where
  keep := fun i k h h' e kk => ⟨e.1.at fun o z => kk i o (.inl rfl) z, (by
    obtain ⟨_, ⟨o, z, r⟩, _⟩ := e
    exact ⟨o, kk l o (.inr rfl) z, r⟩), e.2.2⟩
  has := fun i k h e => by
    obtain ⟨⟨o, z, _, d⟩, _⟩ := e
    exact ⟨o, z, fun v y => by rw [d] at y; cases y⟩
  item := fun A E s Q i k lt ho _ q => RZ.nextOf_tuple_item ho.1 ho.2.1 (Array.getElem?_eq_getElem lt) fun h' it sb => q _ h' s.toks (Array.getElem?_eq_getElem lt) ⟨it, (by
    obtain ⟨o, z, r⟩ := ho.2.1
    exact ⟨o, (sb.2 l ho.2.2).trans z, r⟩), ho.2.2⟩ sb
  stop := fun A E s Q i hh ho q => RZ.nextOf_tuple_end hh ho.1 ho.2.1 (by simp) q
/-- the places of a zip's turning are unlike; what its sources rest on is elsewhere -/
structure Far (z TI TO i1 i2 : Addr) (r1 r2 : Addr → Prop) : Prop where
  a : TI ≠ z
  b : TO ≠ z
  c : i1 ≠ z
  d : i2 ≠ z
  e : TI ≠ TO
  f : TI ≠ i1
  g : TI ≠ i2
  h : TO ≠ i1
  i : TO ≠ i2
  j : i1 ≠ i2
  r : ∀ q, r1 q ∨ r2 q → q ≠ z ∧ q ≠ TO ∧ q ≠ i1 ∧ q ≠ i2
section
variable {P : Program} {w : World} {A : Around} {E : Value → Shared → Prop} {s : Shared} {n1 n2 k : Nat} {it1 it2 : Nat → Value → Prop} {At1 At2 : Addr → Nat → Heap → Prop} {r1 r2 : Addr → Prop} {z TI TO i1 i2 : Addr} {x0 y0 : Value}
/-- both have an item -/
theorem zip_item (D1 : Draws P w n1 it1 At1 r1) (D2 : Draws P w n2 it2 At2 r2) (F : Far z TI TO i1 i2 r1 r2) (hz : IsZip s.heap z TI TO .none) (hI : IsPair s.heap TI (.ref i1) (.ref i2)) (hO : IsPair s.heap TO x0 y0) (h1 : At1 i1 k s.heap) (h2 : At2 i2 k s.heap) (l1 : k < n1) (l2 : k < n2)
    {Q : Value → Shared → Prop} (q : ∀ (h' : Heap) tk v1 v2, it1 k v1 → it2 k v2 → IsZip h' z TI TO (rawInt s.heap.objs.size) → IsPair h' TO v1 v2 → At1 i1 (k + 1) h' → At2 i2 (k + 1) h' → IsPair h' s.heap.objs.size v1 v2 →
      (∀ c o, c ≠ z → c ≠ TO → c ≠ i1 → c ≠ i2 → s.heap.get? c = some o → h'.get? c = some o) → Q (.ref s.heap.objs.size) { s with heap := h', toks := tk }) :
    wpAny (model P w) A (Builtin.«zip.__next__» ⟨[.ref z], []⟩) (fun fin s' => ∃ v, fin = .done (.ret v) ∧ Q v s') E s := by
  have n1r : ¬ r1 i1 := fun z => (F.r i1 (.inl z)).2.2.1 rfl
  have n2r : ¬ r2 i2 := fun z => (F.r i2 (.inr z)).2.2.2 rfl
  refine wpAny_bind (m := field (.ref z) 2) (wpAny_field hz rfl (x := .bool false) rfl ?_)
  refine wpAny_bind (m := field (.ref z) 3) (wpAny_field hz rfl (x := .ref TI) rfl ?_)
  refine wpAny_bind (wpAny_seqItems hI rfl ?_)
  refine wpAny_bind (m := Builtin.SmallTypes.ownedTupleIsFree (.ref z)) ?_
  unfold Builtin.SmallTypes.ownedTupleIsFree
  refine wpAny_bind (wpAny_field hz rfl (x := .none) rfl (wpAny_pure ?_))
  simp only [if_true]
  refine wpAny_bind (wpAny_rule (wpAny_bind (wpAny_field hz rfl (x := .ref TO) rfl (wpAny_bind (wpAny_setField_rec hz (by simp) fun ha za sa => ?_)))))
  replace za : IsZip ha z TI TO .ellipsis := za
  refine wpAny_bind ?_
  simp only [List.zipIdx_cons, List.zipIdx_nil, List.forIn_cons, List.forIn_nil]
  -- the first
  refine wpAny_bind (wpAny_bind (wpAny_onRaise (wpAny_bind (m := Builtin.SmallTypes.nextOf (.ref i1)) ?_)))
  refine D1.item _ _ { s with heap := ha } _ i1 k l1 (D1.keep _ _ _ _ h1 fun b o hb e => (sa.2 b (hb.elim (fun e => e ▸ F.c) fun r => (F.r b (.inl r)).1)).trans e) n1r fun v1 hb tb p1 a1 sb => wpAny_pure ?_
  have Ob : IsPair hb TO x0 y0 := (sb.2 TO F.h).trans ((sa.2 TO F.b).trans hO)
  refine wpAny_bind (wpAny_seqItems Ob rfl (wpAny_bind (wpAny_updateSeq_pair Ob fun hc Oc sc => wpAny_bind (wpAny_letGo (wpAny_pure ?_)))))
  replace Oc : IsPair hc TO v1 y0 := Oc
  -- the second
  refine wpAny_bind (wpAny_bind (wpAny_onRaise (wpAny_bind (m := Builtin.SmallTypes.nextOf (.ref i2)) ?_)))
  have h2c : At2 i2 k hc := D2.keep _ _ _ _ h2 fun b o hb e => by
    have f : b ≠ z ∧ b ≠ TO ∧ b ≠ i1 := hb.elim (fun e => by rw [e]; exact ⟨F.d, F.i.symm, F.j.symm⟩) fun r => have g := F.r b (.inr r); ⟨g.1, g.2.1, g.2.2.1⟩
    exact (sc.2 b f.2.1).trans ((sb.2 b f.2.2).trans ((sa.2 b f.1).trans e))
  refine D2.item _ _ { s with heap := hc, toks := tb } _ i2 k l2 h2c n2r fun v2 hd td p2 a2 sd => wpAny_pure ?_
  have Od : IsPair hd TO v1 y0 := (sd.2 TO F.i).trans Oc
  refine wpAny_bind (wpAny_seqItems Od rfl (wpAny_bind (wpAny_updateSeq_pair Od fun he Oe se => wpAny_bind (wpAny_letGo (wpAny_pure (wpAny_pure ?_))))))
  replace Oe : IsPair he TO v1 v2 := Oe
  refine wpAny_bind (wpAny_seqItems Oe rfl (wpAny_bind (wpAny_newTuple ?_)))
  have sz : he.objs.size = s.heap.objs.size := by rw [se.1, sd.1, sc.1, sb.1, sa.1]
  -- what stands as before
  have kp : ∀ c o, c ≠ z → c ≠ TO → c ≠ i1 → c ≠ i2 → s.heap.get? c = some o → he.get? c = some o := fun c o c1 c2 c3 c4 e => (se.2 c c2).trans ((sd.2 c c4).trans ((sc.2 c c2).trans ((sb.2 c c3).trans ((sa.2 c c1).trans e))))
  have ze : IsZip he z TI TO .ellipsis := (se.2 z F.b.symm).trans ((sd.2 z F.d.symm).trans ((sc.2 z F.b.symm).trans ((sb.2 z F.c.symm).trans za)))
  have a1e : At1 i1 (k + 1) he := D1.keep _ _ _ _ a1 fun b o hb e => by
    have f : b ≠ TO ∧ b ≠ i2 := hb.elim (fun e => by rw [e]; exact ⟨F.h.symm, F.j⟩) fun r => have g := F.r b (.inl r); ⟨g.2.1, g.2.2.2⟩
    exact (se.2 b f.1).trans ((sd.2 b f.2).trans ((sc.2 b f.1).trans e))
  have a2e : At2 i2 (k + 1) he := D2.keep _ _ _ _ a2 fun b o hb e => by
    have f : b ≠ TO := hb.elim (fun e => by rw [e]; exact F.i.symm) fun r => (F.r b (.inr r)).2.1
    exact (se.2 b f).trans e
  refine wpAny_bind (m := Builtin.SmallTypes.ownedTupleHandOut (.ref z) (.ref he.objs.size)) ?_
  unfold Builtin.SmallTypes.ownedTupleHandOut
  have zf : IsZip (he.push { cls := .type "tuple", data := .seq #[v1, v2] }) z TI TO .ellipsis := Heap.get?_push_of_some _ ze
  refine wpAny_bind (wpAny_setField_rec zf (by simp) fun hg zg sg => ?_)
  replace zg : IsZip hg z TI TO (rawInt he.objs.size) := zg
  refine wpAny_setField_rec zg (by simp) fun hh zh sh => ?_
  replace zh : IsZip hh z TI TO (rawInt he.objs.size) := zh
  have up : ∀ c o, c ≠ z → he.get? c = some o → hh.get? c = some o := fun c o c1 e => (sh.2 c c1).trans ((sg.2 c c1).trans (Heap.get?_push_of_some _ e))
  have zlt : z < he.objs.size := Heap.lt_size ze
  have new : IsPair hh he.objs.size v1 v2 := (sh.2 _ (Nat.ne_of_gt zlt)).trans ((sg.2 _ (Nat.ne_of_gt zlt)).trans (Heap.get?_push_size _ rfl))
  rw [sz] at zh new
  refine wpAny_pure ⟨_, rfl, ?_⟩
  show Q (.ref he.objs.size) _
  rw [sz]
  refine q hh _ v1 v2 p1 p2 zh (up _ _ F.b Oe) (D1.keep _ _ _ _ a1e fun b o hb e => up b o (hb.elim (fun e => e ▸ F.c) fun r => (F.r b (.inl r)).1) e) (D2.keep _ _ _ _ a2e fun b o hb e => up b o (hb.elim (fun e => e ▸ F.d) fun r => (F.r b (.inr r)).1) e) new fun c o c1 c2 c3 c4 e => up c o c1 (kp c o c1 c2 c3 c4 e)
/-- the first is at its end -/
theorem zip_stop (D1 : Draws P w n1 it1 At1 r1) (F : Far z TI TO i1 i2 r1 r2) (hh : A.handled = none) (hz : IsZip s.heap z TI TO .none) (hI : IsPair s.heap TI (.ref i1) (.ref i2)) (h1 : At1 i1 n1 s.heap)
    {Q : Fin → Shared → Prop} (q : ∀ (h' : Heap) e, (∀ c o, c ≠ z → c ≠ TO → c ≠ i1 → c ≠ i2 → s.heap.get? c = some o → h'.get? c = some o) → (∃ o, h'.get? e = some o ∧ o.cls = .type "StopIteration") → E (.ref e) { s with heap := h' }) :
    wpAny (model P w) A (Builtin.«zip.__next__» ⟨[.ref z], []⟩) Q E s := by
  refine wpAny_bind (m := field (.ref z) 2) (wpAny_field hz rfl (x := .bool false) rfl ?_)
  refine wpAny_bind (m := field (.ref z) 3) (wpAny_field hz rfl (x := .ref TI) rfl ?_)
  refine wpAny_bind (wpAny_seqItems hI rfl ?_)
  refine wpAny_bind (m := Builtin.SmallTypes.ownedTupleIsFree (.ref z)) ?_
  unfold Builtin.SmallTypes.ownedTupleIsFree
  refine wpAny_bind (wpAny_field hz rfl (x := .none) rfl (wpAny_pure ?_))
  simp only [if_true]
  refine wpAny_bind (wpAny_rule (wpAny_bind (wpAny_field hz rfl (x := .ref TO) rfl (wpAny_bind (wpAny_setField_rec hz (by simp) fun ha za sa => ?_)))))
  replace za : IsZip ha z TI TO .ellipsis := za
  refine wpAny_bind ?_
  simp only [List.zipIdx_cons, List.zipIdx_nil, List.forIn_cons, List.forIn_nil]
  refine wpAny_bind (wpAny_bind (wpAny_onRaise (wpAny_bind (m := Builtin.SmallTypes.nextOf (.ref i1)) ?_)))
  refine D1.stop _ _ { s with heap := ha } _ i1 hh (D1.keep _ _ _ _ h1 fun b o hb e => (sa.2 b (hb.elim (fun e => e ▸ F.c) fun r => (F.r b (.inl r)).1)).trans e) fun hb e kb ⟨o, ho, co⟩ => ?_
  have zb : IsZip hb z TI TO .ellipsis := kb z _ F.c.symm za
  have ne : e ≠ z := fun x => by
    rw [x, zb] at ho
    cases ho
    simp at co
  exact wpAny_setField_rec zb (by simp) fun hc zc sc => q hc e (fun c o c1 _ c3 _ x => (sc.2 c c1).trans (kb c o c3 ((sa.2 c c1).trans x))) ⟨o, (sc.2 e ne).trans ho, co⟩
end
end Own

namespace Own
open PySem PySem.Spec PyProof.Rows L2 PySem.Froz
abbrev zs1 (h : Heap) (x : Str) (u : Tok) : Heap := h.push (itObj x u 0)
abbrev zs2 (h : Heap) (x : Str) (u : Tok) (l : Addr) : Heap := (zs1 h x u).push { cls := .type "tuple_iterator", data := .fields #[.ref l, .int 0 0] }
abbrev zs3 (h : Heap) (x : Str) (u : Tok) (l : Addr) : Heap := (zs2 h x u l).push { cls := .type "tuple", data := .seq #[.ref h.objs.size, .ref (zs1 h x u).objs.size] }
abbrev zs4 (h : Heap) (x : Str) (u : Tok) (l : Addr) : Heap := (zs3 h x u l).push { cls := .type "tuple", data := .seq #[.none, .none] }
abbrev zs5 (h : Heap) (x : Str) (u : Tok) (l : Addr) : Heap := (zs4 h x u l).push { cls := .type "zip", data := .fields #[.none, .bool false, .bool false, .ref (zs2 h x u l).objs.size, .ref (zs3 h x u l).objs.size] }
theorem zip_made (x : Str) (u : Tok) (l : Addr) (ys : Array Value) (ha : x.cps.all (· < 128) = true) :
    Meets (Builtin.«zip.__new__» ⟨[.type "zip", .str x u, .ref l], []⟩) (fun _ R s => s.heap.IsTuple l ys ∧ R (.ok (.ret (.ref (zs4 s.heap x u l).objs.size))) { s with heap := zs5 s.heap x u l }) :=
  .of_wp fun prog w A R s h => by
    obtain ⟨hp, g, d, tk, os⟩ := s
    obtain ⟨hl, h⟩ := h
    have hsub := sub_zip
    have hL : Heap.IsTuple (Shared.heap ⟨hp.push { cls := .type "str_ascii_iterator", data := .fields #[.str x u, .int 0 0] }, g, d, tk, os⟩) l ys := Heap.IsTuple.push hl _
    wp_walk using wpAny_pyIter_ascii (x := x) (t := u) ha, wpAny_pyIter_tuple hL
    exact ⟨_, rfl, h⟩
section
variable {P : Program} {w : World} {A : Around} {E : Value → Shared → Prop} {s : Shared} {n1 n2 k : Nat} {it1 it2 : Nat → Value → Prop} {At1 At2 : Addr → Nat → Heap → Prop} {r1 r2 : Addr → Prop} {z TI TO i1 i2 : Addr} {x0 y0 : Value}
theorem call_zipS {x : Str} {u : Tok} {l : Addr} {ys : Array Value} {Q : Value → Shared → Prop} (ha : x.cps.all (· < 128) = true) (hl : s.heap.IsTuple l ys)
    (q : ∀ h', IsZip h' (s.heap.objs.size + 4) (s.heap.objs.size + 2) (s.heap.objs.size + 3) .none → IsPair h' (s.heap.objs.size + 2) (.ref s.heap.objs.size) (.ref (s.heap.objs.size + 1)) → IsPair h' (s.heap.objs.size + 3) .none .none →
      h'.get? s.heap.objs.size = some (itObj x u 0) → h'.IsTupleIter (s.heap.objs.size + 1) l 0 → (∀ c o, s.heap.get? c = some o → h'.get? c = some o) → Q (.ref (s.heap.objs.size + 4)) { s with heap := h' }) :
    wpAny (model P w) A (call (.type "zip") [.str x u, .ref l]) Q E s := by
  refine callType_new F.called_zip (by decide) (F.typeCall_zip_2 _ _) (F.newCall_zip_2 _ _) (fun obj => F.args_object_init_3 obj _ _) F.entry_zip_new (zip_made x u l ys ha) ⟨hl, ?_⟩
  have e1 : (zs1 s.heap x u).objs.size = s.heap.objs.size + 1 := Heap.size_push ..
  have e2 : (zs2 s.heap x u l).objs.size = s.heap.objs.size + 2 := by rw [Heap.size_push, e1]
  have e3 : (zs3 s.heap x u l).objs.size = s.heap.objs.size + 3 := by rw [Heap.size_push, e2]
  have e4 : (zs4 s.heap x u l).objs.size = s.heap.objs.size + 4 := by rw [Heap.size_push, e3]
  have up : ∀ {h : Heap} {o : Obj} {c : Addr} {v : Obj}, h.get? c = some v → (h.push o).get? c = some v := fun e => Heap.get?_push_of_some _ e
  have g5 : (zs5 s.heap x u l).get? (zs4 s.heap x u l).objs.size = some _ := Heap.get?_push_size _ rfl
  have g4 : (zs5 s.heap x u l).get? (zs3 s.heap x u l).objs.size = some _ := up (Heap.get?_push_size _ rfl)
  have g3 : (zs5 s.heap x u l).get? (zs2 s.heap x u l).objs.size = some _ := up (up (Heap.get?_push_size _ rfl))
  have g2 : (zs5 s.heap x u l).get? (zs1 s.heap x u).objs.size = some _ := up (up (up (Heap.get?_push_size _ rfl)))
  have g1 : (zs5 s.heap x u l).get? s.heap.objs.size = some (itObj x u 0) := up (up (up (up (Heap.get?_push_size _ rfl))))
  rw [e1] at g2 g3
  rw [e2] at g3 g5
  rw [e3] at g4 g5
  rw [e4] at g5
  show _ ∧ _
  rw [e4]
  exact ⟨⟨_, g5, rfl⟩, q _ g5 g3 g4 g1 ⟨_, g2, rfl, rfl⟩ fun c o e => up (up (up (up (up e))))⟩
theorem next_item (D1 : Draws P w n1 it1 At1 r1) (D2 : Draws P w n2 it2 At2 r2) (F : Far z TI TO i1 i2 r1 r2) (hz : IsZip s.heap z TI TO .none) (hI : IsPair s.heap TI (.ref i1) (.ref i2)) (hO : IsPair s.heap TO x0 y0) (h1 : At1 i1 k s.heap) (h2 : At2 i2 k s.heap) (l1 : k < n1) (l2 : k < n2)
    {Q : Option Value → Shared → Prop} (q : ∀ (h' : Heap) tk v1 v2, it1 k v1 → it2 k v2 → IsZip h' z TI TO (rawInt s.heap.objs.size) → IsPair h' TO v1 v2 → At1 i1 (k + 1) h' → At2 i2 (k + 1) h' → IsPair h' s.heap.objs.size v1 v2 →
      (∀ c o, c ≠ z → c ≠ TO → c ≠ i1 → c ≠ i2 → s.heap.get? c = some o → h'.get? c = some o) → Q (some (.ref s.heap.objs.size)) { s with heap := h', toks := tk }) : wpAny (model P w) A (pyNext (.ref z)) Q E s := by
  have hT : s.TypeIs (.ref z) "zip" := ⟨_, hz, rfl⟩
  unfold pyNext
  exact wpAny_bind (wpAny_attempt (wpAny_callSpecial?_slot (name := Str.ofString "__next__") hT PySem.F.slot_zip_next
    (wpAny_call_entry PySem.F.slot_zip_next hT PySem.F.entry_zip_next (zip_item D1 D2 F hz hI hO h1 h2 l1 l2 fun h' tk v1 v2 b1 b2 b3 b4 b5 b6 b7 b8 => wpAny_pure (q h' tk v1 v2 b1 b2 b3 b4 b5 b6 b7 b8)) (PySem.F.args_zip_next_1 _))))
theorem next_stop (D1 : Draws P w n1 it1 At1 r1) (F : Far z TI TO i1 i2 r1 r2) (hh : A.handled = none) (hz : IsZip s.heap z TI TO .none) (hI : IsPair s.heap TI (.ref i1) (.ref i2)) (h1 : At1 i1 n1 s.heap)
    {Q : Option Value → Shared → Prop} (q : ∀ h', (∀ c o, c ≠ z → c ≠ TO → c ≠ i1 → c ≠ i2 → s.heap.get? c = some o → h'.get? c = some o) → Q none { s with heap := h' }) : wpAny (model P w) A (pyNext (.ref z)) Q E s := by
  have hT : s.TypeIs (.ref z) "zip" := ⟨_, hz, rfl⟩
  unfold pyNext
  refine wpAny_bind (wpAny_attempt (wpAny_callSpecial?_slot (name := Str.ofString "__next__") hT PySem.F.slot_zip_next
    (wpAny_call_entry PySem.F.slot_zip_next hT PySem.F.entry_zip_next ?_ (PySem.F.args_zip_next_1 _))))
  refine zip_stop D1 F (show A.in1.handled = none from hh) hz hI h1 fun h' e kk ⟨o, ho, co⟩ => ?_
  exact wpAny_bind (wpAny_isInstance (T := "StopIteration") (b := true) ⟨o, ho, co⟩ isSubtype_stop (wpAny_pure (q h' kk)))
end
end Own

namespace Own
open PySem PySem.Spec PyProof.Rows L2 PySem.Froz
/-- the text y and the tuple at b, that is no shorter, item by item in new pairs -/
def Itzs (K : PySem.W.Frag) (y : Str) (b : Addr) : It :=
  ⟨fun i H => ∃ (ys : List V) (v : V), i < y.cps.size ∧ SqT K H b ys ∧ ys[i]? = some v,
    fun i H v H' => ∃ T c x, v = .ref T ∧ H T = none ∧ H' = upd H T (.tup [.str (sing c), x]) ∧ y.cps[i]? = some c ∧ ∀ ys, SqT K H b ys → ys[i]? = some x,
    fun i H => i = y.cps.size ∧ ∃ ys : List V, SqT K H b ys⟩
/-- the objects of such a walk -/
def ZipSt (y : Str) (u : Tok) (b z TI TO i1 i2 : Addr) (i : Nat) (h : Heap) : Prop :=
  IsZip h z TI TO .none ∧ IsPair h TI (.ref i1) (.ref i2) ∧ (∃ p q, IsPair h TO p q) ∧ h.get? i1 = some (itObj y u i) ∧ h.IsTupleIter i2 b i
theorem turn_zips {P : Program} {w : World} {K : PySem.W.Frag} {elts : List Expr} {kk : Nat} {tpos : Pos} {y : Str} {u : Tok} {b z TI TO i1 i2 : Addr} (F : Far z TI TO i1 i2 (fun _ => False) (fun q => q = b)) :
    Turn P w K (.Tuple elts kk tpos) (Itzs K y b) [z, TI, TO, i1, i2] z (ZipSt y u b z TI TO i1 i2) where
  mem := List.mem_cons_self
  obj := fun i h ⟨hz, hI, ⟨p, q, hO⟩, h1, ⟨o, h2, _, d2⟩⟩ c hc => by
    simp only [List.mem_cons, List.not_mem_nil, or_false] at hc
    rcases hc with rfl | rfl | rfl | rfl | rfl
    · exact ⟨_, hz, fun v e => nomatch e⟩
    · exact ⟨_, hI, fun v e => nomatch e⟩
    · exact ⟨_, hO, fun v e => nomatch e⟩
    · exact ⟨_, h1, fun v e => nomatch e⟩
    · exact ⟨_, h2, fun v e => by rw [d2] at e; cases e⟩
  keep := fun i h h' ⟨hz, hI, ⟨p, q, hO⟩, h1, h2⟩ k =>
    ⟨k z (by simp) _ hz, k TI (by simp) _ hI, ⟨p, q, k TO (by simp) _ hO⟩, k i1 (by simp) _ h1, h2.at fun o e => k i2 (by simp) o e⟩
  item := fun X hP hw hK hc i pins s σ H E I hf ⟨hz, hI, ⟨p, q, hO⟩, h1, h2⟩ ⟨ys, v, hi, hq, hv⟩ => by
    subst hP hw hK
    obtain ⟨its, rv, hb, _⟩ := I.tuple hq
    obtain ⟨r, hr, rr⟩ := rv.get hv
    have hi2 : i < its.toArray.size := by rw [List.size_toArray]; exact (List.getElem?_eq_some_iff.mp hr).1
    have zlt : z < s.heap.objs.size := Heap.lt_size hz
    have far := F.r b (.inr rfl)
    refine next_item (draws_text X.prog X.w y u) (draws_tup X.prog X.w b its.toArray) F hz hI hO h1 ⟨h2, hb, far.2.2.2⟩ hi hi2 fun h' tk v1 v2 ⟨c, t, hc1, e1⟩ e2 z' O' a1 a2 T' kp => ?_
    have e3 : v2 = r := by
      have q : its.toArray[i]? = some r := by simpa using hr
      rw [q] at e2
      exact (Option.some.inj e2).symm
    subst e1 e3
    refine ⟨_, rfl, wpAny_letOwnedTupleGo_zip (s := { s with heap := h', toks := tk }) z' fun h3 z3 sb => ?_⟩
    have kp3 : ∀ c o, c ∉ [z, TI, TO, i1, i2] → s.heap.get? c = some o → h3.get? c = some o := fun c o hn e => by
      simp only [List.mem_cons, List.not_mem_nil, or_false, not_or] at hn
      exact (sb.2 c hn.1).trans (kp c o hn.1 hn.2.2.1 hn.2.2.2.1 hn.2.2.2.2 e)
    have T3 : h3.get? s.heap.objs.size = some { cls := .type "tuple", data := .seq #[.str (sing c) t, v2] } := (sb.2 _ (Nat.ne_of_gt zlt)).trans T'
    have new : ObjOk X.prog X.w (upd H s.heap.objs.size (.tup [.str (sing c), v])) h3 s.heap.objs.size (.tup [.str (sing c), v]) :=
      ⟨by show 2 ≤ sizeLine; decide, [.str (sing c) t, v2], .cons ⟨t, rfl⟩ (.cons rr .nil), ⟨_, T3, rfl, _, rfl⟩⟩
    have J : Inv X pins σ (upd H s.heap.objs.size (.tup [.str (sing c), v])) { s with heap := h3, toks := tk } := I.turnedNew (t' := tk) (ch := [z, TI, TO, i1, i2]) kp3 hf (Nat.le_refl _) new
    refine ⟨.ref s.heap.objs.size, _, J, rfl, ⟨_, c, v, rfl, I.hok.fresh (Nat.le_refl _), rfl, hc1, fun l hl => by rw [I.tuple_inj hl hq]; exact hv⟩, ⟨z3, ?_, ⟨_, _, (sb.2 _ F.b).trans O'⟩, (sb.2 _ F.c).trans a1, a2.1.at fun o e => (sb.2 _ F.d).trans e⟩, fun d hd => ?_⟩
    · exact (sb.2 _ F.a).trans (kp _ _ F.a F.e F.f F.g hI)
    · have lt : d < s.heap.objs.size := by
        simp only [List.mem_cons, List.not_mem_nil, or_false] at hd
        rcases hd with rfl | rfl | rfl | rfl | rfl
        · exact zlt
        · exact Heap.lt_size hI
        · exact Heap.lt_size hO
        · exact Heap.lt_size h1
        · obtain ⟨_, e, _⟩ := h2; exact Heap.lt_size e
      rw [upd_ne (Nat.ne_of_lt lt)]
      exact (hf d hd).1
  done := fun X hP hw hK hc i pins s σ H E I hf ⟨hz, hI, ⟨p, q, hO⟩, h1, h2⟩ ⟨hi, ys, hq⟩ => by
    subst hP hw hK hi
    exact next_stop (draws_text X.prog X.w y u) F (I.ok.hd hc) hz hI h1 fun h' kp => ⟨rfl, I.turnedL (t' := s.toks) (ch := [z, TI, TO, i1, i2]) (fun c o hn e => by
      simp only [List.mem_cons, List.not_mem_nil, or_false, not_or] at hn
      exact kp c o hn.1 hn.2.2.1 hn.2.2.2.1 hn.2.2.2.2 e) hf⟩
  self := fun A i s Q E st h => wpAny_pyIter_zip st.1 h
/-- zip(text, tuple) -/
def iZips (K : PySem.W.Frag) (ta : TA) : TI := fun σ H R => ta σ H fun vs H1 => ∃ (y : Str) (b : Addr) (ys : List V), vs = [.str y, .ref b] ∧ y.cps.all (· < 128) = true ∧ SqT K H1 b ys ∧ R (Itzs K y b) H1
theorem pi_zips {X : Cx} {e e2 : Expr} {ta : TA} {p pos tpos : Pos} {elts : List Expr} {kk : Nat} (hg : Gl X "zip") (hm : X.mg "zip" = none) (ha : PA X [e, e2] ta)
    (hs : starEach [e, e2] X.env = (false, eval e X.env) :: starEach [e2] X.env := by rfl) (hpl : (backTo pos (starEach [e2] X.env)).any (·.1) = false := by rfl) :
    PI X (.Tuple elts kk tpos) (.Call (.Name "zip" p) [e, e2] [] pos) (iZips X.K ta) := by
  refine ⟨fun pins s σ H R I h => Call_ (ld_blt I hg hm PyProof.Rows.boot_zip (PyProof.Rows.callWith_type1 (thn (ha.run pos pins s σ H _ I h) fun us s1 ⟨vs, H1, I1, r1, y, b, ys, ev, asc, hq, q⟩ => ?_) hs hpl))⟩
  subst ev
  cases r1 with
  | cons r rr =>
    cases rr with
    | cons r' r2 =>
      cases r2
      obtain ⟨u, rfl⟩ := r
      cases r'
      obtain ⟨its, rv, hb, _⟩ := I1.tuple hq
      have lt : b < s1.heap.objs.size := by
        obtain ⟨o, e, _⟩ := id hb
        exact Heap.lt_size e
      refine call_zipS asc (show s1.heap.IsTuple b its.toArray from hb) fun h' hz hI hO h1 h2 kp => wpAny_pyIter_zip hz ?_
      have J : Inv X pins σ H1 { s1 with heap := h' } := I1.kept (t' := s1.toks) kp
      have far : Far (s1.heap.objs.size + 4) (s1.heap.objs.size + 2) (s1.heap.objs.size + 3) s1.heap.objs.size (s1.heap.objs.size + 1) (fun _ => False) (fun q => q = b) := by
        have nn : ∀ {m n : Nat}, m ≠ n → (m : Addr) ≠ n := fun h => h
        refine ⟨nn (by omega), nn (by omega), nn (by omega), nn (by omega), nn (by omega), nn (by omega), nn (by omega), nn (by omega), nn (by omega), nn (by omega), fun q hq => ?_⟩
        rcases hq with f | e
        · exact f.elim
        · have lt' : q < s1.heap.objs.size := e.symm ▸ lt
          exact ⟨nn (Nat.ne_of_lt (Nat.lt_add_right _ lt')), nn (Nat.ne_of_lt (Nat.lt_add_right _ lt')), nn (Nat.ne_of_lt lt'), nn (Nat.ne_of_lt (Nat.lt_add_right _ lt'))⟩
      refine ⟨s1.heap.objs.size + 4, [s1.heap.objs.size + 4, s1.heap.objs.size + 2, s1.heap.objs.size + 3, s1.heap.objs.size, s1.heap.objs.size + 1], ZipSt y u b (s1.heap.objs.size + 4) (s1.heap.objs.size + 2) (s1.heap.objs.size + 3) s1.heap.objs.size (s1.heap.objs.size + 1), _, H1, rfl, J, turn_zips far, ⟨hz, hI, ⟨_, _, hO⟩, h1, h2⟩, fun c hc => ?_, q⟩
      have le : s1.heap.objs.size ≤ c := by
        simp only [List.mem_cons, List.not_mem_nil, or_false] at hc
        rcases hc with e | e | e | e | e <;> rw [e] <;> first | exact Nat.le_add_right _ _ | exact Nat.le_refl _
      exact I1.fpOk le (I1.hok.fresh le)
theorem walk_zips {K : PySem.W.Frag} {y : Str} {b : Addr} {ys : List V} (hl : y.cps.size ≤ ys.length) : L2.Walk (Itzs K y b) y.cps.size (fun H => SqT K H b ys) (YPair (fun i => (y.cps[i]?).map fun c => .str (sing c)) (fun i => ys[i]?)) := by
  refine ⟨fun i H hi q => ⟨ys, ys[i], hi, q, List.getElem?_eq_getElem (by omega)⟩, fun H q => ⟨rfl, ys, q⟩, fun i H x H' hi q ⟨T, c, v, e1, e2, e3, e4, e5⟩ => ⟨T, .str (sing c), v, e1, e2, e3, ?_, e5 ys q⟩⟩
  show (y.cps[i]?).map _ = _
  rw [e4]
  rfl
end Own

namespace Kx
open PySem L2 Own
abbrev s_is_whole : Stmt := top 8
abbrev s_key_list : Stmt := top 11
abbrev s_check_ways : Stmt := top 29
abbrev s_keys_in : Stmt := top 30
/-! ### rows of machines -/
abbrev Way := Int × List Str
/-- a tuple of keys -/
def KeysT (H : Hp) (v : V) (ks : List Str) : Prop := ∃ a, v = .ref a ∧ H a = some (.tup (ks.map V.str))
def WayT (H : Hp) (v : V) (w : Way) : Prop := ∃ a kv, v = .ref a ∧ H a = some (.tup [.int w.1, kv]) ∧ KeysT H kv w.2
def RowT (H : Hp) (v : V) (r : List Way) : Prop := ∃ a vs, v = .ref a ∧ H a = some (.tup vs) ∧ Paired (WayT H) vs r
theorem KeysT.keep {H H' : Hp} (s : ∀ b xs, H b = some (.tup xs) → H' b = some (.tup xs)) {v : V} {ks : List Str} (h : KeysT H v ks) : KeysT H' v ks := by
  obtain ⟨a, e, h⟩ := h
  exact ⟨a, e, s _ _ h⟩
theorem WayT.keep {H H' : Hp} (s : ∀ b xs, H b = some (.tup xs) → H' b = some (.tup xs)) {v : V} {r : Way} (h : WayT H v r) : WayT H' v r := by
  obtain ⟨a, kv, e, h, k⟩ := h
  exact ⟨a, kv, e, s _ _ h, k.keep s⟩
theorem RowT.keep {H H' : Hp} (s : ∀ b xs, H b = some (.tup xs) → H' b = some (.tup xs)) {v : V} {r : List Way} (h : RowT H v r) : RowT H' v r := by
  obtain ⟨a, vs, e, h, k⟩ := h
  exact ⟨a, vs, e, s _ _ h, L2.Paired.mapP k fun _ _ z => z.keep s⟩
theorem tups {H H' : Hp} (s : Same H H') : ∀ b xs, H b = some (.tup xs) → H' b = some (.tup xs) := fun b xs e => s b _ e
def keysOfRows (R : List (List Way)) : List Str := R.flatMap fun r => r.flatMap fun w => w.2
/-- the defs of machines -/
structure MAd where
  f1 : Addr
  f2 : Addr
  f3 : Addr
  f4 : Addr
  d1 : FuncData
  d2 : FuncData
  d3 : FuncData
  d4 : FuncData
structure TxtM (K : PySem.W.Frag) (mg : Str → Option Value) (B : MAd) : Prop where
  D_is_whole : DefT K mg "is_whole" "is_whole" s_is_whole ["value"] B.f1 B.d1
  D_key_list : DefT K mg "key_list" "key_list" s_key_list ["given"] B.f2 B.d2
  D_check_ways : DefT K mg "check_ways" "check_ways" s_check_ways ["rows"] B.f3 B.d3
  D_keys_in : DefT K mg "keys_in" "keys_in" s_keys_in ["rows", "ends"] B.f4 B.d4
  n_isinstance : mg "isinstance" = none
  n_int : mg "int" = none
  n_bool : mg "bool" = none
  n_len : mg "len" = none
  n_set : mg "set" = none
  n_sorted : mg "sorted" = none
  n_tuple : mg "tuple" = none
  n_zip : mg "zip" = none
  n_enumerate : mg "enumerate" = none
section
variable {P : Program} {w : World} {K : PySem.W.Frag} {mg : Str → Option Value} {base : Heap} {B : MAd}
def spWhole : Sp := fun vs H Q _ => ∃ i : Int, vs = [.int i] ∧ Q (.bl true) H
theorem sc_is_whole : FnScope ["value"] ["value"] (defScope s_is_whole) := ⟨rfl, rfl, rfl, by decide +kernel, rfl, by decide +kernel, by decide +kernel⟩
theorem ok_is_whole (T : TxtM K mg B) : FnOk P w K mg base CX0 1 B.f1 B.d1 ["value"] spWhole := by
  have sc := sc_is_whole
  refine T.D_is_whole.F.ok sc (fun vs H Q E h => ?_) (fun cdv A1 outer s H vs Q E hr h => ?_)
  · obtain ⟨_, rfl, _⟩ := h; rfl
  · obtain ⟨i, rfl, q⟩ := h
    refine ⟨_, pss_one (ps_ret (pe_and (pe_callB call_isi (by rfl) T.n_isinstance (by decide +kernel) (pa_cons (pv 0) (pa_cons (pe_bltn (v := .ty "int") rfl T.n_int (by decide +kernel) rfl) pa_nil)))
      (pe_one (pe_notT (pe_callB call_isi (by rfl) T.n_isinstance (by decide +kernel) (pa_cons (pv 0) (pa_cons (pe_bltn (v := .ty "bool") rfl T.n_bool (by decide +kernel) rfl) pa_nil))))))), ?_⟩
    refine ⟨_, rfl, _, _, _, _, true, rfl, ClsV.ty _, .base (.int i), kit_ty (by decide +kernel), true, rfl, ?_⟩
    exact ⟨_, rfl, _, _, _, _, false, rfl, ClsV.ty _, .base (.int i), kit_ty (by decide +kernel), false, rfl, q⟩
def spKl (K : PySem.W.Frag) : Sp := fun vs H Q _ => ∃ (x : V) (xs : List Str), vs = [x] ∧ Texts K H x xs ∧ xs.length + 1 < scanBound ∧
  ∀ p H', H p = none → Same H H' → H' p = some (.tup ((kl xs).map V.str)) → Q (.ref p) H'
theorem sc_key_list : FnScope ["given"] ["given"] (defScope s_key_list) := ⟨rfl, rfl, rfl, by decide +kernel, rfl, by decide +kernel, by decide +kernel⟩
theorem ok_key_list (T : TxtM K mg B) : FnOk P w K mg base CX0 1 B.f2 B.d2 ["given"] (spKl K) := by
  have sc := sc_key_list
  refine T.D_key_list.F.ok sc (fun vs H Q E h => ?_) (fun cdv A1 outer s H vs Q E hr h => ?_)
  · obtain ⟨_, _, rfl, _⟩ := h; rfl
  · obtain ⟨x, xs, rfl, tx, hb, q⟩ := h
    refine ⟨_, pss_one (ps_ret (pe_tupleOf rfl T.n_tuple (pe_callB (cr_sortT rfl) (by rfl) T.n_sorted (by decide +kernel) (pa_cons (pe_callTy (cr_setT rfl) (by rfl) T.n_set (by decide +kernel) (pa_cons (pv 0) pa_nil)) pa_nil)))), ?_⟩
    refine ⟨_, rfl, x, xs, rfl, tx, hb, fun p l hp nd hm hl => ?_⟩
    refine ⟨p, l, rfl, upd_same, by omega, fun p2 ys hp2 pm hs => ?_⟩
    refine .inl ⟨p2, _, rfl, SqL.of upd_same, fun p3 hp3 => ?_⟩
    rw [kl_of pm hs nd hm] at *
    have h3 : H p3 = none := by
      cases e : H p3 with
      | none => rfl
      | some o => exact absurd ((Same.upd hp2 _ _ (Same.upd hp _ _ e)).symm.trans hp3) (by simp)
    exact q p3 _ h3 (fun b o e => Same.upd hp3 _ _ (Same.upd hp2 _ _ (Same.upd hp _ _ e))) upd_same
end
end Kx

namespace Kx
open PySem L2 Own
section
variable {P : Program} {w : World} {K : PySem.W.Frag} {mg : Str → Option Value} {base : Heap} {B : MAd}
local macro_rules | `(tactic| walk_at "g") => `(tactic| first | refine ⟨_, _, rfl, rfl, ?_⟩ | refine ⟨_, rfl, ?_⟩ | refine ⟨rfl, ?_⟩)
theorem pat {α β : Type} {F : α → β → Prop} : ∀ {l : List α} {m : List β} {i : Nat} {x : α}, Paired F l m → l[i]? = some x → ∃ y, m[i]? = some y ∧ F x y
  | _, _, i, _, .nil, h => by cases i <;> cases h
  | _, _, 0, _, .cons r _, h => ⟨_, rfl, by cases h; exact r⟩
  | _, _, i + 1, _, .cons _ t, h => pat (i := i) t h
theorem flat_step {α : Type} (f : α → List Str) : ∀ {l : List α} {i : Nat} {x : α}, l[i]? = some x → (l.take (i + 1)).flatMap f = (l.take i).flatMap f ++ f x
  | [], i, _, h => by cases i <;> cases h
  | a :: l, 0, x, h => by
    have e : a = x := Option.some.inj h
    subst e
    simp
  | a :: l, i + 1, x, h => by
    have ih := flat_step f (l := l) (i := i) h
    rw [List.take_succ_cons, List.take_succ_cons, List.flatMap_cons, List.flatMap_cons, ih, List.append_assoc]
theorem flat_le {α : Type} (f : α → List Str) : ∀ {l : List α} {i : Nat} {x : α}, l[i]? = some x → ((l.take i).flatMap f).length + (f x).length ≤ (l.flatMap f).length
  | [], i, _, h => by cases i <;> cases h
  | a :: l, 0, x, h => by
    have e : a = x := Option.some.inj h
    subst e
    simp
  | a :: l, i + 1, x, h => by
    have ih := flat_le f (l := l) (i := i) h
    rw [List.take_succ_cons, List.flatMap_cons, List.flatMap_cons, List.length_append, List.length_append]
    omega
theorem bound_line {n : Nat} (h : n < scanBound) : n < sizeLine := by
  rw [sizeLine_eq]
  unfold scanBound at h
  omega
def spKin (K : PySem.W.Frag) : Sp := fun vs H Q _ => ∃ (r e : Addr) (rv ev : List V) (R : List (List Way)) (Es : List (List Str)), vs = [.ref r, .ref e] ∧ H r = some (.tup rv) ∧ Paired (RowT H) rv R ∧ H e = some (.tup ev) ∧ Paired (KeysT H) ev Es ∧
  (keysOfRows R ++ Es.flatten).length + 1 < scanBound ∧ ∀ p H', H p = none → Same H H' → H' p = some (.tup ((kl (keysOfRows R ++ Es.flatten)).map V.str)) → Q (.ref p) H'
theorem sc_keys_in : FnScope ["rows", "ends", "on_ways", "row", "way", "key", "end"] ["rows", "ends"] (defScope s_keys_in) := ⟨rfl, rfl, rfl, by decide +kernel, rfl, by decide +kernel, by decide +kernel⟩
theorem ok_keys_in (T : TxtM K mg B) : FnOk P w K mg base CX0 2 B.f4 B.d4 ["rows", "ends"] (spKin K) := by
  have sc := sc_keys_in
  have G_key_list : FnOk P w K mg base CX0 1 B.f2 B.d2 ["given"] (spKl K) := ok_key_list T
  refine T.D_keys_in.F.ok sc (fun vs H Q E h => ?_) (fun cdv A1 outer s H vs Q E hr h => ?_)
  · obtain ⟨_, _, _, _, _, _, rfl, _⟩ := h; rfl
  · obtain ⟨r, e, rv, ev, R, Es, rfl, hrv, pR, hev, pE, hb, q⟩ := h
    refine ⟨_, (pss_cons (ps_setLcN (i := 2) (own := [("row", 3), ("way", 4), ("key", 5)]) (vs1 := [4, 5]) (g := gName 3) (tt := tYes) (t := tFor (iTup K (tVar 3)) (gName 4) tYes [4, 5] (tFor (iTup K (tOp (rIxT K) (tVar 4) (tC (.int 1)))) (gName 5) tYes [5] (tEmit (tVar 5)))) rfl sc.nd rfl rfl (sw_true rfl rfl rfl (by decide +kernel)) (pi_tup (pv 0)) (blkOk_by (N := ["rows", "ends", "on_ways", "row", "way", "key", "end"]) (sc := defScope s_keys_in) (own := [("row", 3), ("way", 4), ("key", 5)]) (by decide +kernel)) (.inr ⟨_, _, _, rfl⟩) (by decide)
        (fun _ _ _ _ _ => (pg_name (i := 3) sc.nd rfl (Or.inl rfl))) (fun _ _ _ _ _ => pts_nil)
        (fun _ _ _ _ _ D => does_for rfl (.inr ⟨_, _, _, rfl⟩) rfl rfl (pi_tup (pv 3)) (fun _ => rfl) (pg_name (i := 4) sc.nd rfl (Or.inl rfl)) pts_nil
          (does_for rfl (.inl rfl) rfl rfl (pi_tup (pe_ix ix_tup (pv 4) pe_int (fun _ _ => rfl))) (fun _ => rfl) (pg_name (i := 5) sc.nd rfl (Or.inl rfl)) pts_nil (does_emit rfl rfl (pv 5)) (by decide)) (by decide)))
      (pss_one (ps_ret (pe_call G_key_list (hr.mono (by decide)) rfl T.D_key_list.g T.D_key_list.F.kp T.D_key_list.b .nil pass0 (pa_cons (pe_lst (StX.pa_star (pv 2) (StX.pa_star
        (pe_lcN (own := [("end", 6), ("key", 5)]) (vs1 := [5]) (g := gName 6) (tt := tYes) (t := tFor (iTup K (tVar 6)) (gName 5) tYes [5] (tEmit (tVar 5))) rfl sc.nd (pi_tup (pv 1)) (blkOk_by (N := ["rows", "ends", "on_ways", "row", "way", "key", "end"]) (sc := defScope s_keys_in) (own := [("end", 6), ("key", 5)]) (by decide +kernel)) (.inr ⟨_, _, _, rfl⟩) (by decide)
          (fun _ _ _ _ _ => (pg_name (i := 6) sc.nd rfl (Or.inl rfl))) (fun _ _ _ _ _ => pts_nil)
          (fun _ _ _ _ _ D => does_for rfl (.inl rfl) rfl rfl (pi_tup (pv 6)) (fun _ => rfl) (pg_name (i := 5) sc.nd rfl (Or.inl rfl)) pts_nil (does_emit rfl rfl (pv 5)) (by decide)))
        pa_nil))) pa_nil))))), ?_⟩
    have hb1 : (keysOfRows R).length + Es.flatten.length + 1 < scanBound := by rw [List.length_append] at hb; exact hb
    -- on_ways
    refine ⟨_, rfl, r, rfl, ⟨_, SqT.of hrv⟩, fun D hD => ?_⟩
    have put : ∀ {H' : Hp} {xs : List V}, Same H H' → Same H (upd H' D (.lst xs)) := fun {H' xs} s1 b o e => by rw [upd_ne (ne_of_none e hD)]; exact s1 b o e
    refine lp_it [some (.ref r), some (.ref e), none, none, none, none, none] rfl walk_tup (fun i H' => Same H H' ∧ H' D = some (.lst ((keysOfRows (R.take i)).map V.str))) ⟨Same.upd hD, upd_same⟩ (fun i H' _ z => SqT.of (z.1 _ _ hrv)) ?_ ?_
    · rintro i x H1 _ hi ⟨s1, h1⟩ ⟨rfl, hx⟩
      obtain ⟨rw1, hrw, a, vs, rfl, ha, pr⟩ := pat pR hx
      have l1 := flat_le (fun r : List Way => r.flatMap fun w => w.2) hrw
      refine ⟨rfl, _, rfl, a, rfl, ⟨_, SqT.of (s1 _ _ ha)⟩, ?_⟩
      refine lp_it [some (.ref r), some (.ref e), none, some (.ref a), none, none, none] rfl walk_tup (fun j H' => Same H H' ∧ H' D = some (.lst ((keysOfRows (R.take i) ++ (rw1.take j).flatMap fun w => w.2).map V.str))) ⟨s1, by simpa using h1⟩ (fun j H' _ z => SqT.of (z.1 _ _ ha)) ?_ ?_
      · rintro j y H2 _ hj ⟨s2, h2⟩ ⟨rfl, hy⟩
        obtain ⟨wy, hwy, b, kv, rfl, hb2, kt, rfl, hk⟩ := pat pr hy
        have l2 := flat_le (fun w : Way => w.2) hwy
        refine ⟨rfl, _, rfl, b, _, 1, _, rfl, rfl, SqT.of (s2 _ _ hb2), atI_nat (j := 1) rfl, kt, rfl, ⟨_, SqT.of (s2 _ _ hk)⟩, ?_⟩
        refine lp_it [some (.ref r), some (.ref e), none, some (.ref a), some (.ref b), none, none] rfl walk_tup (fun k H' => Same H H' ∧ H' D = some (.lst ((keysOfRows (R.take i) ++ ((rw1.take j).flatMap fun w => w.2) ++ wy.2.take k).map V.str))) ⟨s2, by simpa using h2⟩ (fun k H' _ z => SqT.of (z.1 _ _ hk)) ?_ ?_
        · rintro k z H3 _ hk3 ⟨s3, h3⟩ ⟨rfl, hz⟩
          rw [List.getElem?_map] at hz
          obtain ⟨key, hkey, rfl⟩ := Option.map_eq_some_iff.mp hz
          refine ⟨rfl, _, rfl, _, h3, ?_, put s3, ?_⟩
          · refine bound_line ?_
            rw [List.length_map, List.length_append, List.length_append, List.length_take]
            unfold keysOfRows at hb1 ⊢
            omega
          · rw [upd_same, List.take_add_one, hkey]
            simp
        · rintro H3 ⟨s3, h3⟩
          refine ⟨s3, ?_⟩
          rw [List.length_map, List.take_length] at h3
          rw [flat_step _ hwy, ← List.append_assoc]
          exact h3
      · rintro H2 ⟨s2, h2⟩
        refine ⟨s2, ?_⟩
        have e : vs.length = rw1.length := Paired.length pr
        rw [e, List.take_length] at h2
        show H2 D = some (.lst (((R.take (i + 1)).flatMap _).map V.str))
        rw [flat_step _ hrw]
        exact h2
    rintro H1 ⟨s1, h1⟩
    have e1 : rv.length = R.length := Paired.length pR
    rw [e1, List.take_length] at h1
    -- the display
    refine ⟨_, rfl, D, _, rfl, .inr (SqL.of h1), ?_⟩
    refine ⟨_, rfl, e, rfl, ⟨_, SqT.of (s1 _ _ hev)⟩, fun D2 hD2 => ?_⟩
    have put2 : ∀ {H' : Hp} {xs : List V}, Same H1 H' → Same H1 (upd H' D2 (.lst xs)) := fun {H' xs} s1 b o e => by rw [upd_ne (ne_of_none e hD2)]; exact s1 b o e
    refine lp_it [some (.ref r), some (.ref e), some (.ref D), none, none, none, none] rfl walk_tup (fun i H' => Same H1 H' ∧ H' D2 = some (.lst (((Es.take i).flatMap id).map V.str))) ⟨Same.upd hD2, upd_same⟩ (fun i H' _ z => SqT.of (z.1 _ _ (s1 _ _ hev))) ?_ ?_
    · rintro i x H2 _ hi ⟨s2, h2⟩ ⟨rfl, hx⟩
      obtain ⟨ks, hks, kt, rfl, hk⟩ := pat pE hx
      have l1 := flat_le id hks
      have l2 : (Es.flatMap id).length = Es.flatten.length := by rw [List.flatMap_id]
      refine ⟨rfl, _, rfl, kt, rfl, ⟨_, SqT.of (s2 _ _ (s1 _ _ hk))⟩, ?_⟩
      refine lp_it [some (.ref r), some (.ref e), some (.ref D), none, none, none, some (.ref kt)] rfl walk_tup (fun k H' => Same H1 H' ∧ H' D2 = some (.lst (((Es.take i).flatMap id ++ ks.take k).map V.str))) ⟨s2, by simpa using h2⟩ (fun k H' _ z => SqT.of (z.1 _ _ (s1 _ _ hk))) ?_ ?_
      · rintro k z H3 _ hk3 ⟨s3, h3⟩ ⟨rfl, hz⟩
        rw [List.getElem?_map] at hz
        obtain ⟨key, hkey, rfl⟩ := Option.map_eq_some_iff.mp hz
        refine ⟨rfl, _, rfl, _, h3, ?_, put2 s3, ?_⟩
        · refine bound_line ?_
          rw [List.length_map, List.length_append, List.length_take]
          have l3 : (id ks).length = ks.length := rfl
          omega
        · rw [upd_same, List.take_add_one, hkey]
          simp
      · rintro H3 ⟨s3, h3⟩
        refine ⟨s3, ?_⟩
        rw [List.length_map, List.take_length] at h3
        rw [flat_step _ hks]
        exact h3
    rintro H2 ⟨s2, h2⟩
    have e2 : ev.length = Es.length := Paired.length pE
    rw [e2, List.take_length, List.flatMap_id] at h2
    refine ⟨D2, _, rfl, .inr (SqL.of h2), ?_⟩
    have eL : (keysOfRows R).map V.str ++ (Es.flatten.map V.str ++ []) = (keysOfRows R ++ Es.flatten).map V.str := by simp
    refine ⟨?_, fun l hl => ?_⟩
    · show ((keysOfRows R).map V.str ++ (Es.flatten.map V.str ++ [])).length ≤ sizeLine
      rw [eL, List.length_map]
      exact Nat.le_of_lt (bound_line (by omega))
    have nl : H l = none := by
      cases c : H l with
      | none => rfl
      | some o => exact absurd ((s2 _ _ (s1 _ _ c)).symm.trans hl) (by simp)
    refine ⟨.ref l, _, rfl, .list (SqL.of (upd_same.trans (congrArg (fun z => some (HO.lst z)) eL))), hb, fun p H' hp s3 h3 => ?_⟩
    have up : Same H (upd H2 l (.lst ((keysOfRows R).map V.str ++ (Es.flatten.map V.str ++ [])))) := fun b o c => Same.upd hl _ _ (s2 _ _ (s1 _ _ c))
    refine q p H' ?_ (fun b o c => s3 _ _ (up _ _ c)) h3
    cases c : H p with
    | none => rfl
    | some o => exact absurd ((up _ _ c).symm.trans hp) (by simp)
end
end Kx

namespace Kx
open PySem L2 Own
abbrev s_copied : Stmt := top 18
abbrev s_BadMachine : Stmt := inClass (top 15) 0
abbrev s_TooMany : Stmt := inClass (top 17) 0
/-! ### the errors of machines: their fields are numbers and words -/
def Flat (v : V) : Prop := (∃ i, v = .int i) ∨ ∃ x, v = .str x
abbrev tailM (M : Addr) : List Value := [.ref M, .type "ValueError", .type "Exception", .type "BaseException", .type "object"]
structure ErrC (K : PySem.W.Frag) (mg : Str → Option Value) (name : Str) (C M : Addr) : Prop where
  g : mg name = some (.ref C)
  oex : OexC K C
  exc : ExcC K C
  cls : PySem.W.isClsIn K C = true
  sub : ∀ b : Value, PySem.W.subIn K (.ref C) b = some ((Value.ref C :: tailM M).contains b)
theorem ErrC.xf {K : PySem.W.Frag} {mg : Str → Option Value} {name : Str} {C M : Addr} (e : ErrC K mg name C M) : XfC K C := ⟨e.exc.hg, e.exc.hk, e.exc.hs, e.exc.hd⟩
structure IniT (K : PySem.W.Frag) (qual : Str) (st : Stmt) (C f : Addr) (fd : FuncData) (ps : List Str) : Prop where
  iC : PySem.W.findIn K (.ref C) "__init__" = some (some (.ref f))
  tI : PySem.W.typeIn K (.ref f) = some (.type "function")
  F : Fun K "__init__" qual st f fd
  b : Binds K fd ps []
structure EAd where
  M : Addr
  c1 : Addr
  c2 : Addr
  i1 : Addr
  i2 : Addr
  e1 : FuncData
  e2 : FuncData
  fc : Addr
  dc : FuncData
structure TxtE (K : PySem.W.Frag) (mg : Str → Option Value) (A : EAd) : Prop where
  E_BadMachine : ErrC K mg "BadMachine" A.c1 A.M
  I_BadMachine : IniT K "BadMachine.__init__" s_BadMachine A.c1 A.i1 A.e1 ["self", "state", "place"]
  N_state : PySem.W.findIn K (.ref A.c1) "state" = some none
  N_place : PySem.W.findIn K (.ref A.c1) "place" = some none
  E_TooMany : ErrC K mg "TooMany" A.c2 A.M
  I_TooMany : IniT K "TooMany.__init__" s_TooMany A.c2 A.i2 A.e2 ["self", "what"]
  N_what : PySem.W.findIn K (.ref A.c2) "what" = some none
  D_copied : DefT K mg "copied" "copied" s_copied ["field"] A.fc A.dc
  n_isinstance : mg "isinstance" = none
  n_list : mg "list" = none
  n_tuple : mg "tuple" = none
  n_dict : mg "dict" = none
section
variable {P : Program} {w : World} {K : PySem.W.Frag} {mg : Str → Option Value} {base : Heap} {A : EAd}
def spFlat : Sp := fun vs H Q _ => ∃ v : V, vs = [v] ∧ Flat v ∧ Q v H
theorem sc_copied : FnScope ["field", "part", "key"] ["field"] (defScope s_copied) := ⟨rfl, rfl, rfl, by decide +kernel, rfl, by decide +kernel, by decide +kernel⟩
theorem ok_copied (T : TxtE K mg A) : FnOk P w K mg base CX0 1 A.fc A.dc ["field"] spFlat := by
  have sc := sc_copied
  refine T.D_copied.F.ok sc (fun vs H Q E h => ?_) (fun cdv A1 outer s H vs Q E hr h => ?_)
  · obtain ⟨_, rfl, _⟩ := h; rfl
  · obtain ⟨v, rfl, hf, q⟩ := h
    refine ⟨_, (pss_cons (ps_if (pt_val (pe_callB call_isi (by rfl) T.n_isinstance (by decide +kernel) (pa_cons (pv 0) (pa_cons (pe_bltn (v := .ty "list") rfl T.n_list (by decide +kernel) rfl) pa_nil)))) (pss_one ps_never)
        pss_nil)
      (pss_cons (ps_if (pt_val (pe_callB call_isi (by rfl) T.n_isinstance (by decide +kernel) (pa_cons (pv 0) (pa_cons (pe_bltn (v := .ty "tuple") rfl T.n_tuple (by decide +kernel) rfl) pa_nil)))) (pss_one ps_never)
        pss_nil)
      (pss_cons (ps_if (pt_val (pe_callB call_isi (by rfl) T.n_isinstance (by decide +kernel) (pa_cons (pv 0) (pa_cons (pe_bltn (v := .ty "dict") rfl T.n_dict (by decide +kernel) rfl) pa_nil)))) (pss_one ps_never)
        pss_nil)
      (pss_one (ps_ret (pv 0)))))), ?_⟩
    rcases hf with ⟨i, rfl⟩ | ⟨x, rfl⟩
    · refine ⟨_, rfl, _, _, _, _, false, rfl, ClsV.ty _, .base (.int i), kit_ty (by decide +kernel), _, rfl, iteF ?_⟩
      refine ⟨_, rfl, _, _, _, _, false, rfl, ClsV.ty _, .base (.int i), kit_ty (by decide +kernel), _, rfl, iteF ?_⟩
      refine ⟨_, rfl, _, _, _, _, false, rfl, ClsV.ty _, .base (.int i), kit_ty (by decide +kernel), _, rfl, iteF ?_⟩
      exact ⟨_, rfl, q⟩
    · refine ⟨_, rfl, _, _, _, _, false, rfl, ClsV.ty _, .base (.str x), kit_ty (by decide +kernel), _, rfl, iteF ?_⟩
      refine ⟨_, rfl, _, _, _, _, false, rfl, ClsV.ty _, .base (.str x), kit_ty (by decide +kernel), _, rfl, iteF ?_⟩
      refine ⟨_, rfl, _, _, _, _, false, rfl, ClsV.ty _, .base (.str x), kit_ty (by decide +kernel), _, rfl, iteF ?_⟩
      exact ⟨_, rfl, q⟩
/-- an error's __init__ of the fields fs -/
def spErr (C : Addr) (names : List Str) : Sp := fun vs H Q _ => ∃ (a : Addr) (us : List V), vs = .ref a :: us ∧ us.length = names.length ∧ H a = some (exo a C none) ∧ (∀ u ∈ us, Flat u) ∧
  ∀ (dx : Addr) (H' : Hp), H dx = none → dx ≠ a → H' a = some (exo a C (some dx)) → H' dx = some (exd dx (names.zip us).reverse) → (∀ b o, H b = some o → b ≠ a → H' b = some o) → Q .non H'
theorem sc_TooMany : FnScope ["self", "what"] ["self", "what"] (defScope s_TooMany) := ⟨rfl, rfl, rfl, by decide +kernel, rfl, by decide +kernel, by decide +kernel⟩
theorem ok_TooMany (T : TxtE K mg A) : FnOk P w K mg base CX0 2 A.i2 A.e2 ["self", "what"] (spErr A.c2 ["what"]) := by
  have sc := sc_TooMany
  have G_copied : FnOk P w K mg base CX0 1 A.fc A.dc ["field"] spFlat := ok_copied T
  refine T.I_TooMany.F.ok sc (fun vs H Q E h => ?_) (fun cdv A1 outer s H vs Q E hr h => ?_)
  · obtain ⟨_, us, rfl, l, _⟩ := h
    rw [List.length_cons, l]; rfl
  · obtain ⟨a, us, rfl, l, ha, hf, k⟩ := h
    obtain ⟨v, rfl⟩ : ∃ v, us = [v] := List.length_eq_one_iff.mp l
    refine ⟨_, (pss_one (ps_ost (pv 0) (pe_call G_copied (hr.mono (by decide)) rfl T.D_copied.g T.D_copied.F.kp T.D_copied.b .nil pass0 (pa_cons (pv 1) pa_nil)))), ?_⟩
    refine ⟨_, rfl, v, rfl, hf v List.mem_cons_self, _, rfl, a, A.c2, rfl, T.E_TooMany.oex, T.N_what, .inl ⟨ha, fun dx hd ne => ?_⟩⟩
    refine k dx _ hd ne upd_same (by rw [upd_ne ne, upd_same]; rfl) fun b o e nb => ?_
    rw [upd_ne nb, upd_ne (ne_of_none e hd)]
    exact e
theorem sc_BadMachine : FnScope ["self", "state", "place"] ["self", "state", "place"] (defScope s_BadMachine) := ⟨rfl, rfl, rfl, by decide +kernel, rfl, by decide +kernel, by decide +kernel⟩
theorem ok_BadMachine (T : TxtE K mg A) : FnOk P w K mg base CX0 2 A.i1 A.e1 ["self", "state", "place"] (spErr A.c1 ["state", "place"]) := by
  have sc := sc_BadMachine
  have G_copied : FnOk P w K mg base CX0 1 A.fc A.dc ["field"] spFlat := ok_copied T
  refine T.I_BadMachine.F.ok sc (fun vs H Q E h => ?_) (fun cdv A1 outer s H vs Q E hr h => ?_)
  · obtain ⟨_, us, rfl, l, _⟩ := h
    rw [List.length_cons, l]; rfl
  · obtain ⟨a, us, rfl, l, ha, hf, k⟩ := h
    obtain ⟨v, u, rfl⟩ : ∃ v u, us = [v, u] := by
      match us, l with
      | [v, u], _ => exact ⟨v, u, rfl⟩
    refine ⟨_, (pss_cons (ps_ost (pv 0) (pe_call G_copied (hr.mono (by decide)) rfl T.D_copied.g T.D_copied.F.kp T.D_copied.b .nil pass0 (pa_cons (pv 1) pa_nil)))
      (pss_one (ps_ost (pv 0) (pe_call G_copied (hr.mono (by decide)) rfl T.D_copied.g T.D_copied.F.kp T.D_copied.b .nil pass0 (pa_cons (pv 2) pa_nil))))), ?_⟩
    refine ⟨_, rfl, v, rfl, hf v (by simp), _, rfl, a, A.c1, rfl, T.E_BadMachine.oex, T.N_state, .inl ⟨ha, fun dx hd ne => ?_⟩⟩
    have q1 : (upd (upd H dx (exd dx [("state", v)])) a (exo a A.c1 (some dx))) a = some (exo a A.c1 (some dx)) := upd_same
    have q2 : (upd (upd H dx (exd dx [("state", v)])) a (exo a A.c1 (some dx))) dx = some (exd dx [("state", v)]) := by rw [upd_ne ne, upd_same]
    have q3 : ∀ b o, H b = some o → b ≠ a → (upd (upd H dx (exd dx [("state", v)])) a (exo a A.c1 (some dx))) b = some o := fun b o e nb => by
      rw [upd_ne nb, upd_ne (ne_of_none e hd)]
      exact e
    generalize upd (upd H dx (exd dx [("state", v)])) a (exo a A.c1 (some dx)) = H2 at q1 q2 q3 ⊢
    refine ⟨_, rfl, u, rfl, hf u (by simp), _, rfl, a, A.c1, rfl, T.E_BadMachine.oex, T.N_place, .inr ⟨dx, [("state", v)], q1, q2, (by show 1 ≤ 900; decide), ?_⟩⟩
    refine k dx _ hd ne (by rw [upd_ne (Ne.symm ne)]; exact q1) upd_same fun b o e nb => ?_
    rw [upd_ne (ne_of_none e hd)]
    exact q3 b o e nb
/-- the reading of C(e, ..) behind raise -/
theorem rsE {H : Hp} {C : Addr} {names : List Str} {us : List V} {W : XK} (l : us.length = names.length) (l2 : us.length ≤ 1000) (hf : ∀ u ∈ us, Flat u) (k : ∀ dx H', H dx = none → Same H H' → H' dx = some (.xd (names.zip us).reverse) → W (.ref C) (some dx) H') :
    us.length ≤ 1000 ∧ ∀ a, H a = none → spErr C names (.ref a :: (us ++ [])) (upd H a (exo a C none)) (fun u H2 => u = .non ∧ ∃ (dx : Addr) (fs : List (Str × V)), H2 a = some (exo a C (some dx)) ∧ H2 dx = some (exd dx fs) ∧ H dx = none ∧ W (.ref C) (some dx) (upd (del H2 a) dx (.xd fs))) (fun _ _ _ => False) := by
  refine ⟨l2, fun a ha => ⟨a, us, by rw [List.append_nil], l, upd_same, hf, fun dx H2 hd ne e1 e2 kp => ?_⟩⟩
  have hd0 : H dx = none := by rw [upd_ne ne] at hd; exact hd
  refine ⟨rfl, dx, _, e1, e2, hd0, k dx _ hd0 (fun b o z => ?_) upd_same⟩
  have nb : b ≠ a := ne_of_none z ha
  rw [upd_ne (ne_of_none z hd0), del_ne nb]
  exact kp b o (by rw [upd_ne nb]; exact z) nb
theorem ErrC.raises {X : Cx} {name : Str} {C M : Addr} (e : ErrC X.K X.mg name C M) : Raises X (.ref C) := raises_own e.oex.exC e.oex.tyC
end
end Kx

namespace Kx
open PySem L2 Own
/-! ### what is handed to a machine: lists of lists of tuples -/
def WayS (K : PySem.W.Frag) (H : Hp) (v : V) (w : Way) : Prop := ∃ a kv, v = .ref a ∧ H a = some (.tup [.int w.1, kv]) ∧ Texts K H kv w.2
def RowL (K : PySem.W.Frag) (H : Hp) (v : V) (r : List Way) : Prop := ∃ a vs, v = .ref a ∧ H a = some (.lst vs) ∧ Paired (WayS K H) vs r
theorem seqT {K : PySem.W.Frag} {H H' : Hp} {a : Addr} {xs : List V} (s : Same H H') (h : SqT K H a xs) : SqT K H' a xs := by
  rcases h with h | h
  · exact .inl (h.imp (s _ _) fun ⟨o, z⟩ => ⟨o, s _ _ z⟩)
  · exact .inr h
theorem _root_.Own.Texts.keep {K : PySem.W.Frag} {H H' : Hp} (s : Same H H') {v : V} {xs : List Str} (h : Texts K H v xs) : Texts K H' v xs := by
  cases h with
  | list h => exact .list (s.seq h)
  | tup h => exact .tup (seqT s h)
  | text y => exact .text y
theorem WayS.keep {K : PySem.W.Frag} {H H' : Hp} (s : Same H H') {v : V} {w : Way} (h : WayS K H v w) : WayS K H' v w := by
  obtain ⟨a, kv, e, h, k⟩ := h
  exact ⟨a, kv, e, s _ _ h, k.keep s⟩
theorem RowL.keep {K : PySem.W.Frag} {H H' : Hp} (s : Same H H') {v : V} {r : List Way} (h : RowL K H v r) : RowL K H' v r := by
  obtain ⟨a, vs, e, h, k⟩ := h
  exact ⟨a, vs, e, s _ _ h, L2.Paired.mapP k fun _ _ z => z.keep s⟩
def Okw (n : Nat) (w : Way) : Prop := 0 ≤ w.1 ∧ w.1 < n
section
variable {P : Program} {w : World} {K : PySem.W.Frag} {mg : Str → Option Value} {base : Heap} {A : EAd} {B : MAd}
def spCheck (K : PySem.W.Frag) (A : EAd) : Sp := fun vs H Q E => ∃ (r : Addr) (rv : List V) (R : List (List Way)), vs = [.ref r] ∧ H r = some (.lst rv) ∧ Paired (RowL K H) rv R ∧
  (∀ H', Same H H' → (∀ (i : Nat) q, R[i]? = some q → ∀ w ∈ q, Okw R.length w) → Q .non H') ∧
  ∀ (i j : Nat) (q : List Way) (w : Way) (dx : Addr) (H' : Hp), R[i]? = some q → q[j]? = some w → ¬ Okw R.length w → (∀ (i' : Nat) q', i' < i → R[i']? = some q' → ∀ w ∈ q', Okw R.length w) → (∀ (j' : Nat) w', j' < j → q[j']? = some w' → Okw R.length w') →
    H dx = none → Same H H' → H' dx = some (.xd [("place", .int j), ("state", .int i)]) → E (.ref A.c1) (some dx) H'
theorem sc_check : FnScope ["rows", "state", "row", "place", "way"] ["rows"] (defScope s_check_ways) := ⟨rfl, rfl, rfl, by decide +kernel, rfl, by decide +kernel, by decide +kernel⟩
theorem ok_check (T : TxtM K mg B) (TE : TxtE K mg A) : FnOk P w K mg base (L2.CX P w) 4 B.f3 B.d3 ["rows"] (spCheck K A) := by
  have sc := sc_check
  have G_is_whole : FnOk P w K mg base CX0 1 B.f1 B.d1 ["value"] spWhole := ok_is_whole T
  refine T.D_check_ways.F.okX sc (fun vs H Q E h => ?_) (fun cdv A1 outer s H vs Q E hr h => ?_)
  · obtain ⟨_, _, _, rfl, _⟩ := h; rfl
  · obtain ⟨r, rv, R, rfl, hrv, pR, good, bad⟩ := h
    refine ⟨_, (pss_one (ps_for (passes_of rfl) rfl (pi_enum (by rfl) T.n_enumerate (pa_cons (pv 0) pa_nil)) (pg_tup rfl (pgs_cons (pg_name (i := 1) sc.nd rfl (Or.inl rfl)) (pgs_cons (pg_name (i := 2) sc.nd rfl (Or.inl rfl)) pgs_nil)))
      (pss_one (ps_for (passes_of rfl) rfl (pi_enum (by rfl) T.n_enumerate (pa_cons (pv 2) pa_nil)) (pg_tup rfl (pgs_cons (pg_name (i := 3) sc.nd rfl (Or.inl rfl)) (pgs_cons (pg_name (i := 4) sc.nd rfl (Or.inl rfl)) pgs_nil)))
        (pss_one (ps_if (PW.pt (pw_or (pt_not (pt_val (pe_call G_is_whole (hr.mono (by decide)) rfl T.D_is_whole.g T.D_is_whole.F.kp T.D_is_whole.b .nil pass0 (pa_cons (pe_ix ix_tup (pv 4) pe_int (fun _ _ => rfl)) pa_nil)))) (pw_or (pt_cmpR op_lt (pe_ix ix_tup (pv 4) pe_int (fun _ _ => rfl)) pe_int (nomark _)) (pw_or1 (pt_cmpR op_ge (pe_ix ix_tup (pv 4) pe_int (fun _ _ => rfl)) (pe_callB call_len (by rfl) T.n_len (by decide +kernel) (pa_cons (pv 0) pa_nil)) (nomark _))))))
          (pss_one (ps_raise rfl (takes_of rfl rfl rfl rfl) (pmk_oex TE.E_BadMachine.oex TE.I_BadMachine.iC TE.I_BadMachine.tI (ok_BadMachine TE) (hr.mono (by decide)) TE.I_BadMachine.b .nil pass0 rfl TE.E_BadMachine.g (pa_cons (pv 1) (pa_cons (pv 3) pa_nil)))))
          pss_nil)))))), ?_⟩
    have shut : ∀ {b : Addr} {o : HO}, H b = none → H b = some o → False := fun e1 e2 => by rw [e1] at e2; cases e2
    refine ⟨_, rfl, r, rv, rfl, SqL.of hrv, ?_⟩
    refine for_it walk_enum (fun i σ H' => (∃ x1 x2 x3 x4, σ = [some (.ref r), x1, x2, x3, x4]) ∧ Same H H' ∧ ∀ (i' : Nat) q', i' < i → R[i']? = some q' → ∀ w ∈ q', Okw R.length w) ⟨⟨_, _, _, _, rfl⟩, Same.refl _, fun i' q' h => nomatch h⟩ (fun i σ H' _ z => SqL.of (z.2.1 _ _ hrv)) ?_ ?_
    · rintro i x σ H1 H1' hi ⟨⟨x1, x2, x3, x4, rfl⟩, s1, g1⟩ ⟨t1, u1, y, rfl, nt1, rfl, eu, hy⟩
      cases eu
      obtain ⟨q, hq, a, vs, rfl, ha, pr⟩ := pat pR hy
      have s2 : Same H (upd H1 t1 (.tup [.int (i : Nat), .ref a])) := fun b o e => Same.upd nt1 _ _ (s1 _ _ e)
      refine ⟨t1, _, rfl, SqT.of upd_same, rfl, _, _, rfl, _, _, rfl, rfl, ?_⟩
      generalize upd H1 t1 (.tup [.int (i : Nat), .ref a]) = H2 at s2 ⊢
      refine ⟨_, rfl, a, vs, rfl, SqL.of (s2 _ _ ha), ?_⟩
      refine for_it walk_enum (fun j σ H' => (∃ x3 x4, σ = [some (.ref r), some (.int (i : Nat)), some (.ref a), x3, x4]) ∧ Same H H' ∧ ∀ (j' : Nat) w', j' < j → q[j']? = some w' → Okw R.length w') ⟨⟨_, _, rfl⟩, s2, fun i' q' h => nomatch h⟩ (fun i σ H' _ z => SqL.of (z.2.1 _ _ ha)) ?_ ?_
      · rintro j x σ H3 H3' hj ⟨⟨x3, x4, rfl⟩, s3, g3⟩ ⟨t2, u2, z, rfl, nt2, rfl, eu, hz⟩
        cases eu
        obtain ⟨wy, hwy, b, kv, rfl, hb, kt⟩ := pat pr hz
        have s4 : Same H (upd H3 t2 (.tup [.int (j : Nat), .ref b])) := fun c o e => Same.upd nt2 _ _ (s3 _ _ e)
        refine ⟨t2, _, rfl, SqT.of upd_same, rfl, _, _, rfl, _, _, rfl, rfl, ?_⟩
        generalize upd H3 t2 (.tup [.int (j : Nat), .ref b]) = H4 at s4 ⊢
        have hw : SqT K H4 b [.int wy.1, kv] := SqT.of (s4 _ _ hb)
        have at0 : atI ([.int wy.1, kv] : List V) 0 = some (.int wy.1) := atI_nat (j := 0) rfl
        have go : ¬ Okw R.length wy → ([V.int (i : Nat), V.int (j : Nat)] : List V).length ≤ 1000 ∧ ∀ a, H4 a = none → spErr A.c1 ["state", "place"] (.ref a :: ([V.int (i : Nat), V.int (j : Nat)] ++ [])) (upd H4 a (exo a A.c1 none)) (fun u H2 => u = .non ∧ ∃ (dx : Addr) (fs : List (Str × V)), H2 a = some (exo a A.c1 (some dx)) ∧ H2 dx = some (exd dx fs) ∧ H4 dx = none ∧ E (.ref A.c1) (some dx) (upd (del H2 a) dx (.xd fs))) (fun _ _ _ => False) := fun nb =>
          rsE rfl (by show 2 ≤ 1000; decide) (fun u hu => .inl (by
            rcases List.mem_cons.mp hu with rfl | hu
            · exact ⟨_, rfl⟩
            · rw [List.mem_singleton.mp hu]; exact ⟨_, rfl⟩)) fun dx H5 hd s5 h5 => bad i j q wy dx H5 hq hwy nb g1 g3 (s4.free hd) (fun b o e => s5 _ _ (s4 _ _ e)) h5
        refine ⟨_, rfl, b, _, 0, _, rfl, rfl, hw, at0, wy.1, rfl, _, rfl, iteF ?_⟩
        refine ⟨_, rfl, b, _, 0, _, rfl, rfl, hw, at0, _, _, rfl, rfl, _, rfl, ?_⟩
        by_cases c1 : wy.1 < 0
        · refine ifT c1 ?_
          refine ⟨_, rfl, _, rfl, ?_⟩
          exact go fun h => by have := h.1; omega
        refine ifF c1 ?_
        refine ⟨_, rfl, b, _, 0, _, rfl, rfl, hw, at0, _, rfl, .ref r, rv.length, rfl, .inl ⟨_, SqL.of (s4 _ _ hrv), rfl⟩, _, _, rfl, rfl, _, rfl, ?_⟩
        have el : rv.length = R.length := Paired.length pR
        by_cases c2 : (rv.length : Int) ≤ wy.1
        · refine ifT c2 ?_
          refine ⟨_, rfl, _, rfl, ?_⟩
          exact go fun h => by have := h.2; omega
        refine ifF c2 ?_
        refine ⟨⟨_, _, rfl⟩, s4, fun j' w' lt hw' => ?_⟩
        by_cases c : j' < j
        · exact g3 j' w' c hw'
        · have ej : j' = j := by omega
          subst ej
          rw [hwy] at hw'
          cases hw'
          exact ⟨by omega, by omega⟩
      · rintro σ H3 ⟨⟨x3, x4, rfl⟩, s3, g3⟩
        have e : vs.length = q.length := Paired.length pr
        refine ⟨⟨_, _, _, _, rfl⟩, s3, fun i' q' lt hq' w hw => ?_⟩
        by_cases c : i' < i
        · exact g1 i' q' c hq' w hw
        · have ei : i' = i := by omega
          subst ei
          rw [hq] at hq'
          cases hq'
          obtain ⟨j', hj'⟩ := List.getElem?_of_mem hw
          exact g3 j' w (by rw [e]; exact (List.getElem?_eq_some_iff.mp hj').1) hj'
    · rintro σ H1 ⟨_, s1, g1⟩
      refine good H1 s1 fun i q hq => g1 i q ?_ hq
      rw [Paired.length pR]
      exact (List.getElem?_eq_some_iff.mp hq).1
end
end Kx

namespace Kx
open PySem L2 Own
abbrev s_init : Stmt := inClass (top 28) 0
/-- the dict of a row's ways after i signs -/
def kvUp (sg : Str) (vs : List V) : Nat → List (Key × V)
  | 0 => []
  | i + 1 => match sg.cps[i]?, vs[i]? with
    | some c, some x => putK (kvUp sg vs i) (Sum.inr (Froz.sing c)) x
    | _, _ => kvUp sg vs i
structure CAd where
  C : Addr
  f : Addr
  d : FuncData
structure TxtC (K : PySem.W.Frag) (mg : Str → Option Value) (Z : CAd) : Prop where
  cl : Cls K Z.C
  make : Mk K Z.C Z.f
  F : Fun K "__init__" "Machine.__init__" s_init Z.f Z.d
  b : Binds K Z.d ["self", "signs", "rows", "ends"] []
  g : mg "Machine" = some (.ref Z.C)
  a1 : NoAttr K Z.C "signs"
  a2 : NoAttr K Z.C "rows"
  a3 : NoAttr K Z.C "ends"
  a4 : NoAttr K Z.C "all_keys"
  a5 : NoAttr K Z.C "_ways"
  g_MOST_KEYS : ∃ t, mg "MOST_KEYS" = some (.int 12 t)
/-- what the inner displays of __init__ ask -/
def rowsTe (K : PySem.W.Frag) : TE := tThen (tLc (iList K (tVar 4)) (gTup K 2 (gCons (gName 5) (gCons (gName 6) gNil))) tYes (tTup (tCons (tVar 5) (tCons (tCall (spKl K) [] E0 (tCons (tVar 6) tNil)) tNil))) [5, 6]) (kTup K)
def waysTe (K : PySem.W.Frag) : TE := tDc (iZips K (tCons (tVar 1) (tCons (tVar 4) tNil))) (gTup K 2 (gCons (gName 8) (gCons (gName 9) gNil))) tYes (tVar 8) (tVar 9) [8, 9]
section
variable {P : Program} {w : World} {K : PySem.W.Frag} {mg : Str → Option Value} {base : Heap} {A : EAd} {B : MAd} {Z : CAd}
theorem sc_init : FnScope ["self", "signs", "rows", "ends", "row", "to", "given", "end", "sign", "way"] ["self", "signs", "rows", "ends"] (defScope s_init) := ⟨rfl, rfl, rfl, by decide +kernel, rfl, by decide +kernel, by decide +kernel⟩
end
end Kx

namespace Kx
open PySem L2 Own
/-- the turns of a display, the slots written out -/
theorem lcs_it {J : It} {n : Nat} {G : Hp → Prop} {Yl : Nat → Hp → V → Hp → Prop} {g : TG} {tt : TT} {te : TE} {vs : List Nat} {σ : L2.St} {H1 : Hp} {D : Addr} {Qd : Hp → Prop} (τ : L2.St) (ht : wipe σ vs = τ) (w : L2.Walk J n G Yl) (Pv : Nat → Hp → Prop) (h0 : Pv 0 (upd H1 D (.lst []))) (hG : ∀ i H, i ≤ n → Pv i H → G H)
    (hs : ∀ i x H H', i < n → Pv i H → Yl i H x H' → g x τ H' fun σ2 H2 => wipe σ2 vs = τ ∧ tt σ2 H2 fun b H3 =>
      if b = true then te σ2 H3 fun y H4 => ∃ acc, H4 D = some (.lst acc) ∧ acc.length < sizeLine ∧ Pv (i + 1) (upd H4 D (.lst (acc ++ [y]))) else Pv (i + 1) H3) (hd : ∀ H, Pv n H → Qd H) :
    ∃ W : Nat → Nat → Hp → Prop, (∃ m, W 0 m (upd H1 D (.lst []))) ∧ ∀ i m H, W i m H →
      (J.stop i H ∧ Qd H) ∨ (J.go i H ∧ ∃ Nx : Hp → Prop, (∀ H', Nx H' → ∃ m', m' < m ∧ W (i + 1) m' H') ∧ ∀ x H', J.yld i H x H' → g x (wipe σ vs) H' fun σ2 H2 => wipe σ2 vs = wipe σ vs ∧ tt σ2 H2 fun b H3 =>
        if b = true then te σ2 H3 fun y H4 => ∃ acc, H4 D = some (.lst acc) ∧ acc.length < sizeLine ∧ Nx (upd H4 D (.lst (acc ++ [y]))) else Nx H3) := by
  subst ht
  exact lc_it w Pv h0 hG hs hd
/-- the same of a display of a dict -/
theorem dcs_it {J : It} {n : Nat} {G : Hp → Prop} {Yl : Nat → Hp → V → Hp → Prop} {g : TG} {tt : TT} {tk tv : TE} {vs : List Nat} {σ : L2.St} {H1 : Hp} {D : Addr} {Qd : Hp → Prop} (τ : L2.St) (ht : wipe σ vs = τ) (w : L2.Walk J n G Yl) (Pv : Nat → Hp → Prop) (h0 : Pv 0 (upd H1 D (.dK []))) (hG : ∀ i H, i ≤ n → Pv i H → G H)
    (hs : ∀ i x H H', i < n → Pv i H → Yl i H x H' → g x τ H' fun σ2 H2 => wipe σ2 vs = τ ∧ tt σ2 H2 fun b H3 =>
      if b = true then tk σ2 H3 fun y H4 => tv σ2 H4 fun z H5 => ∃ kvs k, y = kV k ∧ H5 D = some (.dK kvs) ∧ kvs.length < sizeLine ∧ Pv (i + 1) (upd H5 D (.dK (putK kvs k z))) else Pv (i + 1) H3) (hd : ∀ H, Pv n H → Qd H) :
    ∃ W : Nat → Nat → Hp → Prop, (∃ m, W 0 m (upd H1 D (.dK []))) ∧ ∀ i m H, W i m H →
      (J.stop i H ∧ Qd H) ∨ (J.go i H ∧ ∃ Nx : Hp → Prop, (∀ H', Nx H' → ∃ m', m' < m ∧ W (i + 1) m' H') ∧ ∀ x H', J.yld i H x H' → g x (wipe σ vs) H' fun σ2 H2 => wipe σ2 vs = wipe σ vs ∧ tt σ2 H2 fun b H3 =>
        if b = true then tk σ2 H3 fun y H4 => tv σ2 H4 fun z H5 => ∃ kvs k, y = kV k ∧ H5 D = some (.dK kvs) ∧ kvs.length < sizeLine ∧ Nx (upd H5 D (.dK (putK kvs k z))) else Nx H3) := by
  subst ht
  refine ⟨fun i m H => m + i = n ∧ Pv i H, ⟨n, rfl, h0⟩, fun i m H ⟨e, p⟩ => ?_⟩
  have q := hG i H (by omega) p
  by_cases c : i = n
  · subst c
    exact .inl ⟨w.stops H q, hd H p⟩
  · exact .inr ⟨w.goes i H (by omega) q, Pv (i + 1), fun H' p' => ⟨m - 1, by omega, by omega, p'⟩, fun x H' y => hs i x H H' (by omega) p (w.yields i H x H' (by omega) q y)⟩
/-- a way, a row as a machine keeps them -/
def nw (w : Way) : Way := (w.1, kl w.2)
def nrm (r : List Way) : List Way := r.map nw
theorem psnoc {α β : Type} {F : α → β → Prop} : ∀ {l : List α} {m : List β} {x : α} {y : β}, Paired F l m → F x y → Paired F (l ++ [x]) (m ++ [y])
  | _, _, _, _, .nil, h => .cons h .nil
  | _, _, _, _, .cons r t, h => .cons r (psnoc t h)
/-- [(to, key_list(given)) for to, given in row] behind tuple: a row as it is kept -/
theorem row_made {K : PySem.W.Frag} {v0 v1 v2 v3 : V} {H : Hp} {a : Addr} {vs : List V} {q : List Way} {Q : VK} (ha : H a = some (.lst vs)) (pr : Paired (WayS K H) vs q) (hz : q.length ≤ 1000) (hb : ∀ w ∈ q, w.2.length + 1 < scanBound)
    (k : ∀ p H', H p = none → Same H H' → RowT H' (.ref p) (nrm q) → Q (.ref p) H') : rowsTe K [some v0, some v1, some v2, some v3, some (.ref a), none, none, none, none, none] H Q := by
  have hv : vs.length = q.length := Paired.length pr
  refine ⟨_, rfl, a, rfl, ⟨_, SqL.of ha⟩, fun D hD => ?_⟩
  have put : ∀ {H' : Hp} {xs : List V}, Same H H' → Same H (upd H' D (.lst xs)) := fun {H' xs} s1 b o e => by rw [upd_ne (ne_of_none e hD)]; exact s1 b o e
  refine lcs_it [some v0, some v1, some v2, some v3, some (.ref a), none, none, none, none, none] rfl walk_list (fun j H' => Same H H' ∧ ∃ acc, H' D = some (.lst acc) ∧ acc.length = j ∧ Paired (WayT H') acc ((q.take j).map nw)) ⟨Same.upd hD, [], upd_same, rfl, .nil⟩ (fun i H' _ z => SqL.of (z.1 _ _ ha)) ?_ ?_
  · rintro j x _ H1 hj ⟨s1, acc, hacc, hl, pa⟩ ⟨rfl, hx⟩
    obtain ⟨w, hw, b, kv, rfl, hb2, kt⟩ := pat pr hx
    refine ⟨b, _, rfl, SqT.of (s1 _ _ hb2), rfl, _, _, rfl, _, _, rfl, rfl, rfl, ?_⟩
    refine ⟨_, rfl, _, rfl, kv, w.2, rfl, kt.keep s1, hb w (List.mem_of_getElem? hw), fun p H2 hp s2 h2 => ?_⟩
    refine ⟨by show 2 ≤ sizeLine; decide, fun t ht => ⟨acc, ?_, ?_, ?_, acc ++ [.ref t], upd_same, by rw [List.length_append, hl]; rfl, ?_⟩⟩
    · exact Same.upd ht _ _ (s2 _ _ hacc)
    · rw [hl]
      exact Nat.lt_of_lt_of_le (Nat.lt_of_lt_of_le hj (hv ▸ hz)) (by decide)
    · exact put fun c o e => Same.upd ht _ _ (s2 _ _ (s1 _ _ e))
    · have tk : (q.take (j + 1)).map nw = (q.take j).map nw ++ [nw w] := by rw [List.take_add_one, hw]; simp
      rw [tk]
      have kp : ∀ b xs, H1 b = some (.tup xs) → (upd (upd H2 t (.tup [.int w.1, .ref p])) D (.lst (acc ++ [.ref t]))) b = some (.tup xs) := fun b xs e => by
        have e1 := Same.upd (o := .tup [.int w.1, .ref p]) ht _ _ (s2 _ _ e)
        rw [upd_ne (ne_of e1 (Same.upd ht _ _ (s2 _ _ hacc)) (by intro z; cases z))]
        exact e1
      have nt : t ≠ D := fun e => by
        have := s2 _ _ hacc
        rw [← e, ht] at this
        cases this
      refine psnoc (L2.Paired.mapP pa fun _ _ z => z.keep kp) ⟨t, .ref p, rfl, by rw [upd_ne nt, upd_same]; rfl, p, rfl, ?_⟩
      have e1 := Same.upd (o := .tup [.int w.1, .ref p]) ht _ _ h2
      rw [upd_ne (ne_of e1 (Same.upd ht _ _ (s2 _ _ hacc)) (by intro z; cases z))]
      exact e1
  · rintro H1 ⟨s1, acc, hacc, hl, pa⟩
    rw [hv, List.take_length] at pa
    refine .inl ⟨D, acc, rfl, SqL.of hacc, fun p hp => ?_⟩
    refine k p _ (s1.free hp) (fun b o e => Same.upd hp _ _ (s1 _ _ e)) ⟨p, acc, rfl, upd_same, L2.Paired.mapP pa fun _ _ z => z.keep (tups (Same.upd hp))⟩
theorem kvUp_len (sg : Str) (vs : List V) : ∀ i, (kvUp sg vs i).length ≤ i
  | 0 => Nat.le_refl _
  | i + 1 => by
    have ih := kvUp_len sg vs i
    unfold kvUp
    split
    · rename_i c x _ _
      have := length_putK (kvUp sg vs i) (Sum.inr (Froz.sing c)) x
      omega
    · omega
/-- {sign: way for sign, way in zip(signs, row)} -/
theorem ways_made {K : PySem.W.Frag} {v0 v2 v3 : V} {sg : Str} {H : Hp} {a : Addr} {vs : List V} {Q : VK} (ha : H a = some (.tup vs)) (asc : sg.cps.all (· < 128) = true) (hl : sg.cps.size ≤ vs.length) (hz : sg.cps.size ≤ 1000)
    (k : ∀ d H', H d = none → Same H H' → H' d = some (.dK (kvUp sg vs sg.cps.size)) → Q (.ref d) H') : waysTe K [some v0, some (.str sg), some v2, some v3, some (.ref a), none, none, none, none, none] H Q := by
  refine ⟨_, rfl, _, rfl, sg, a, vs, rfl, asc, SqT.of ha, fun D hD => ?_⟩
  refine dcs_it [some v0, some (.str sg), some v2, some v3, some (.ref a), none, none, none, none, none] rfl (walk_zips hl) (fun i H' => Same H H' ∧ H' D = some (.dK (kvUp sg vs i))) ⟨Same.upd hD, upd_same⟩ (fun i H' _ z => SqT.of (z.1 _ _ ha)) ?_ (fun H' z => k D H' hD z.1 z.2)
  rintro i x H1 H1' hi ⟨s1, h1⟩ ⟨t, y, z, rfl, nt, rfl, ey, ez⟩
  obtain ⟨c, hc, rfl⟩ := Option.map_eq_some_iff.mp ey
  have ln := kvUp_len sg vs i
  refine ⟨t, _, rfl, SqT.of upd_same, rfl, _, _, rfl, _, _, rfl, rfl, rfl, _, rfl, _, rfl, kvUp sg vs i, Sum.inr (Froz.sing c), rfl, Same.upd nt _ _ h1, ?_, ?_, ?_⟩
  · rw [sizeLine_eq]; omega
  · intro b o e
    rw [upd_ne (ne_of_none e hD)]
    exact Same.upd nt _ _ (s1 _ _ e)
  · rw [upd_same]
    have e : kvUp sg vs (i + 1) = putK (kvUp sg vs i) (Sum.inr (Froz.sing c)) z := by
      show (match sg.cps[i]?, vs[i]? with
        | some c, some x => putK (kvUp sg vs i) (Sum.inr (Froz.sing c)) x
        | _, _ => kvUp sg vs i) = _
      rw [hc, show vs[i]? = some z from ez]
    rw [e]
end Kx

namespace Kx
open PySem L2 Own
/-- an instance stands at m; all but it is as it was -/
def Kd (m : Addr) (H H' : Hp) : Prop := (∃ C dx fs, H m = some (.ins C dx fs)) ∧ ∀ b o, H b = some o → b ≠ m → H' b = some o
section
variable {m : Addr} {H H' H2 : Hp}
theorem Kd.of {C dx : Addr} {fs : List (Str × V)} (hm : H m = some (.ins C dx fs)) (s : Same H H') : Kd m H H' := ⟨⟨C, dx, fs, hm⟩, fun b o e _ => s b o e⟩
theorem Kd.trans (a : Kd m H H') (s : Same H' H2) : Kd m H H2 := ⟨a.1, fun b o e n => s b o (a.2 b o e n)⟩
theorem Kd.get (s : Kd m H H') {b : Addr} {o : HO} (e : H b = some o) (n : ∀ C dx fs, o ≠ .ins C dx fs) : H' b = some o := by
  obtain ⟨⟨C, dx, fs, hm⟩, k⟩ := s
  exact k b o e (ne_of e hm (n C dx fs))
theorem Kd.lst (s : Kd m H H') {b : Addr} {xs : List V} (e : H b = some (.lst xs)) : H' b = some (.lst xs) := s.get e fun _ _ _ z => by cases z
theorem Kd.tup (s : Kd m H H') {b : Addr} {xs : List V} (e : H b = some (.tup xs)) : H' b = some (.tup xs) := s.get e fun _ _ _ z => by cases z
end
theorem Kd.texts {K : PySem.W.Frag} {m : Addr} {H H' : Hp} (s : Kd m H H') {v : V} {xs : List Str} (h : Texts K H v xs) : Texts K H' v xs := by
  cases h with
  | list h =>
    rcases h with (h | ⟨o, h⟩) | h
    · exact .list (.inl (.inl (s.lst h)))
    · exact .list (.inl (.inr ⟨o, s.get h fun _ _ _ z => by cases z⟩))
    · exact .list (.inr h)
  | tup h =>
    rcases h with (h | ⟨o, h⟩) | h
    · exact .tup (.inl (.inl (s.tup h)))
    · exact .tup (.inl (.inr ⟨o, s.get h fun _ _ _ z => by cases z⟩))
    · exact .tup (.inr h)
  | text y => exact .text y
theorem Kd.row {K : PySem.W.Frag} {m : Addr} {H H' : Hp} (s : Kd m H H') {v : V} {r : List Way} (h : RowL K H v r) : RowL K H' v r := by
  obtain ⟨a, vs, e, h, k⟩ := h
  refine ⟨a, vs, e, s.lst h, L2.Paired.mapP k fun _ _ ⟨b, kv, e1, e2, e3⟩ => ⟨b, kv, e1, s.tup e2, s.texts e3⟩⟩
/-- the dicts of a machine's ways -/
def WaysD (sg : Str) (H : Hp) (d : V) (rw : V) : Prop := ∃ a b vs, d = .ref a ∧ rw = .ref b ∧ H b = some (.tup vs) ∧ H a = some (.dK (kvUp sg vs sg.cps.size))
/-- a machine of the signs sg, the rows R and the ends Es stands at m -/
def MachAt (C : Addr) (H : Hp) (m : Addr) (sg : Str) (R : List (List Way)) (Es : List (List Str)) : Prop := ∃ (dx r e k w : Addr) (rv ev wv : List V),
  H m = some (.ins C dx [("signs", .str sg), ("rows", .ref r), ("ends", .ref e), ("all_keys", .ref k), ("_ways", .ref w)]) ∧ H r = some (.tup rv) ∧ Paired (RowT H) rv R ∧ H e = some (.tup ev) ∧ Paired (KeysT H) ev Es ∧
  H k = some (.tup ((kl (keysOfRows R ++ Es.flatten)).map V.str)) ∧ H w = some (.tup wv) ∧ Paired (WaysD sg H) wv rv
theorem way_le {R : List (List Way)} {i : Nat} {q : List Way} {w : Way} (hq : R[i]? = some q) (hw : w ∈ q) : w.2.length ≤ (keysOfRows R).length := by
  obtain ⟨j, hj⟩ := List.getElem?_of_mem hw
  have a := flat_le (fun r : List Way => r.flatMap fun w => w.2) hq
  have b := flat_le (fun w : Way => w.2) hj
  unfold keysOfRows
  omega
theorem snap {α β : Type} (f : α → β) {l : List α} {i : Nat} {x : α} (h : l[i]? = some x) : (l.take (i + 1)).map f = (l.take i).map f ++ [f x] := by rw [List.take_add_one, h]; simp
theorem tyes {σ : L2.St} {H : Hp} {F : Bool → Hp → Prop} (h : F true H) : tYes σ H F := h
theorem mem_nrm {R : List (List Way)} {y : Str} : y ∈ keysOfRows (R.map nrm) ↔ y ∈ keysOfRows R := by
  unfold keysOfRows nrm
  simp only [List.mem_flatMap, List.mem_map]
  constructor
  · rintro ⟨_, ⟨q, hq, rfl⟩, w, hw, hy⟩
    obtain ⟨w0, hw0, rfl⟩ := List.mem_map.mp hw
    exact ⟨q, hq, w0, hw0, kl_mem.mp hy⟩
  · rintro ⟨q, hq, w, hw, hy⟩
    exact ⟨_, ⟨q, hq, rfl⟩, nw w, List.mem_map.mpr ⟨w, hw, rfl⟩, kl_mem.mpr hy⟩
theorem mem_ends {Es : List (List Str)} {y : Str} : y ∈ (Es.map kl).flatten ↔ y ∈ Es.flatten := by
  simp only [List.mem_flatten, List.mem_map]
  constructor
  · rintro ⟨_, ⟨q, hq, rfl⟩, hy⟩
    exact ⟨q, hq, kl_mem.mp hy⟩
  · rintro ⟨q, hq, hy⟩
    exact ⟨_, ⟨q, hq, rfl⟩, kl_mem.mpr hy⟩
theorem len_row : ∀ r : List Way, ((nrm r).flatMap fun w => w.2).length ≤ (r.flatMap fun w => w.2).length
  | [] => Nat.le_refl _
  | w :: r => by
    have ih := len_row r
    have k := kl_len w.2
    unfold nrm at ih ⊢
    rw [List.map_cons, List.flatMap_cons, List.flatMap_cons, List.length_append, List.length_append]
    show (kl w.2).length + _ ≤ _
    omega
theorem len_nrm : ∀ R : List (List Way), (keysOfRows (R.map nrm)).length ≤ (keysOfRows R).length
  | [] => Nat.le_refl _
  | r :: R => by
    have ih := len_nrm R
    have k := len_row r
    unfold keysOfRows at ih ⊢
    rw [List.map_cons, List.flatMap_cons, List.flatMap_cons, List.length_append, List.length_append]
    omega
theorem len_ends : ∀ Es : List (List Str), (Es.map kl).flatten.length ≤ Es.flatten.length
  | [] => Nat.le_refl _
  | e :: Es => by
    have ih := len_ends Es
    have k := kl_len e
    rw [List.map_cons, List.flatten_cons, List.flatten_cons, List.length_append, List.length_append]
    omega
theorem WaysD.keep {sg : Str} {H H' : Hp} (s : ∀ b xs, H b = some (.tup xs) → H' b = some (.tup xs)) (s2 : ∀ b xs, H b = some (.dK xs) → H' b = some (.dK xs)) {d rw1 : V} (h : WaysD sg H d rw1) : WaysD sg H' d rw1 := by
  obtain ⟨a, b, vs, e1, e2, e3, e4⟩ := h
  exact ⟨a, b, vs, e1, e2, s _ _ e3, s2 _ _ e4⟩
section
variable {P : Program} {w : World} {K : PySem.W.Frag} {mg : Str → Option Value} {base : Heap} {A : EAd} {B : MAd} {Z : CAd}
def spInit (K : PySem.W.Frag) (A : EAd) (Z : CAd) : Sp := fun vs H Q E => ∃ (m r e dx : Addr) (sg : Str) (rv ev : List V) (R : List (List Way)) (Es : List (List Str)), vs = [.ref m, .str sg, .ref r, .ref e] ∧ H m = some (.ins Z.C dx []) ∧
  H r = some (.lst rv) ∧ Paired (RowL K H) rv R ∧ H e = some (.lst ev) ∧ Paired (Texts K H) ev Es ∧ sg.cps.all (· < 128) = true ∧ sg.cps.size ≤ 1000 ∧ (∀ q ∈ R, sg.cps.size ≤ q.length ∧ q.length ≤ 1000) ∧ R.length ≤ 1000 ∧ Es.length ≤ 1000 ∧ (keysOfRows R ++ Es.flatten).length + 1 < scanBound ∧
  (∀ (i j : Nat) (q : List Way) (w : Way) (d : Addr) (H' : Hp), R[i]? = some q → q[j]? = some w → ¬ Okw R.length w → (∀ (i' : Nat) q', i' < i → R[i']? = some q' → ∀ w ∈ q', Okw R.length w) → (∀ (j' : Nat) w', j' < j → q[j']? = some w' → Okw R.length w') →
    H d = none → Kd m H H' → H' d = some (.xd [("place", .int j), ("state", .int i)]) → E (.ref A.c1) (some d) H') ∧
  ((∀ (i : Nat) q, R[i]? = some q → ∀ w ∈ q, Okw R.length w) → ∀ H', Kd m H H' → (12 < (kl (keysOfRows R ++ Es.flatten)).length → ∀ d, H d = none → H' d = some (.xd [("what", .str "keys")]) → E (.ref A.c2) (some d) H') ∧
    ((kl (keysOfRows R ++ Es.flatten)).length ≤ 12 → MachAt Z.C H' m sg (R.map nrm) (Es.map kl) → Q .non H'))
theorem ok_init (T : TxtM K mg B) (TE : TxtE K mg A) (TC : TxtC K mg Z) : FnOk P w K mg base (L2.CX P w) 5 Z.f Z.d ["self", "signs", "rows", "ends"] (spInit K A Z) := by
  have sc := sc_init
  have G_check : FnOk P w K mg base (L2.CX P w) 4 B.f3 B.d3 ["rows"] (spCheck K A) := ok_check T TE
  have G_key_list : FnOk P w K mg base CX0 1 B.f2 B.d2 ["given"] (spKl K) := ok_key_list T
  have G_keys_in : FnOk P w K mg base CX0 2 B.f4 B.d4 ["rows", "ends"] (spKin K) := ok_keys_in T
  obtain ⟨tk, g12⟩ := TC.g_MOST_KEYS
  refine TC.F.okX sc (fun vs H Q E h => ?_) (fun cdv A1 outer s H vs Q E hr h => ?_)
  · obtain ⟨_, _, _, _, _, _, _, _, _, rfl, _⟩ := h; rfl
  · obtain ⟨m, r, e, dx, sg, rv, ev, R, Es, rfl, hm, hrv, pR, hev, pE, asc, sz, rl, Rl, El, hb, bad, good⟩ := h
    refine ⟨_, (pss_cons (ps_expr (pe_callS G_check (hr.mono (by decide)) rfl T.D_check_ways.g T.D_check_ways.F.kp T.D_check_ways.b (fun σ => passAt (takes_of rfl rfl rfl rfl) σ) (pa_cons (pv 2) pa_nil)))
      (pss_cons (ps_fld (pv 0) (pv 1) rfl)
      (pss_cons (ps_fld (pv 0) (pe_tupleOf rfl T.n_tuple (pe_lc (own := [("row", 4)]) (g := gName 4) (tt := tYes) (te := rowsTe K) rfl sc.nd (pi_list (pv 2)) (blkOk_by (N := ["self", "signs", "rows", "ends", "row", "to", "given", "end", "sign", "way"]) (sc := defScope s_init) (own := [("row", 4)]) (by decide +kernel)) (fun _ _ _ _ _ => (pg_name (i := 4) sc.nd rfl (Or.inl rfl))) (fun _ _ _ _ _ => pts_nil)
        (fun _ _ _ _ _ => pe_tupleOf rfl T.n_tuple (pe_lc (own := [("to", 5), ("given", 6)]) (tt := tYes) rfl sc.nd (pi_list (pv 4)) (blkOk_by (own := [("to", 5), ("given", 6)]) (by rfl)) (fun _ _ _ _ _ => pg_tup rfl (pgs_cons (pg_name (i := 5) sc.nd rfl (Or.inl rfl)) (pgs_cons (pg_name (i := 6) sc.nd rfl (Or.inl rfl)) pgs_nil))) (fun _ _ _ _ _ => pts_nil)
          (fun _ _ _ _ _ => pe_tup (pa_cons (pv 5) (pa_cons (pe_call G_key_list (hr.mono (by decide)) rfl T.D_key_list.g T.D_key_list.F.kp T.D_key_list.b .nil pass0 (pa_cons (pv 6) pa_nil)) pa_nil))))))) rfl)
      (pss_cons (ps_fld (pv 0) (pe_tupleOf rfl T.n_tuple (pe_lc (own := [("end", 7)]) (g := gName 7) (tt := tYes) rfl sc.nd (pi_list (pv 3)) (blkOk_by (N := ["self", "signs", "rows", "ends", "row", "to", "given", "end", "sign", "way"]) (sc := defScope s_init) (own := [("end", 7)]) (by decide +kernel)) (fun _ _ _ _ _ => (pg_name (i := 7) sc.nd rfl (Or.inl rfl))) (fun _ _ _ _ _ => pts_nil)
        (fun _ _ _ _ _ => pe_call G_key_list (hr.mono (by decide)) rfl T.D_key_list.g T.D_key_list.F.kp T.D_key_list.b .nil pass0 (pa_cons (pv 7) pa_nil)))) rfl)
      (pss_cons (ps_fld (pv 0) (pe_call G_keys_in (hr.mono (by decide)) rfl T.D_keys_in.g T.D_keys_in.F.kp T.D_keys_in.b .nil pass0 (pa_cons (pe_fld (pv 0) rfl) (pa_cons (pe_fld (pv 0) rfl) pa_nil))) rfl)
      (pss_cons (ps_if (pt_cmpR op_gt (pe_callB call_len (by rfl) T.n_len (by decide +kernel) (pa_cons (pe_fld (pv 0) rfl) pa_nil)) (pe_glob (v := .int 12) rfl g12 ⟨_, rfl⟩) (nomark _))
          (pss_one (ps_raise rfl (takes_of rfl rfl rfl rfl) (pmk_oex TE.E_TooMany.oex TE.I_TooMany.iC TE.I_TooMany.tI (ok_TooMany TE) (hr.mono (by decide)) TE.I_TooMany.b .nil pass0 rfl TE.E_TooMany.g (pa_cons pe_str pa_nil))))
          pss_nil)
      (pss_one (ps_fld (pv 0) (pe_tupleOf rfl T.n_tuple (pe_lc (own := [("row", 4)]) (g := gName 4) (tt := tYes) (te := waysTe K) rfl sc.nd (pi_tup (pe_fld (pv 0) rfl)) (blkOk_by (N := ["self", "signs", "rows", "ends", "row", "to", "given", "end", "sign", "way"]) (sc := defScope s_init) (own := [("row", 4)]) (by decide +kernel)) (fun _ _ _ _ _ => (pg_name (i := 4) sc.nd rfl (Or.inl rfl))) (fun _ _ _ _ _ => pts_nil)
        (fun _ _ _ _ _ => pe_dc (own := [("sign", 8), ("way", 9)]) (tt := tYes) rfl sc.nd (pi_zips (by rfl) T.n_zip (pa_cons (pv 1) (pa_cons (pv 4) pa_nil))) (blkOk_by (own := [("sign", 8), ("way", 9)]) (by rfl)) (fun _ _ _ _ _ => pg_tup rfl (pgs_cons (pg_name (i := 8) sc.nd rfl (Or.inl rfl)) (pgs_cons (pg_name (i := 9) sc.nd rfl (Or.inl rfl)) pgs_nil))) (fun _ _ _ _ _ => pts_nil) (fun _ _ _ _ _ => pv 8) (fun _ _ _ _ _ => pv 9)))) rfl)))))))), ?_⟩
    refine ⟨_, rfl, r, rv, R, rfl, hrv, pR, fun H1 s1 ok => ?_, fun i j q w d H1 hq hw nb g1 g2 hd s1 h1 => bad i j q w d H1 hq hw nb g1 g2 hd (.of hm s1) h1⟩
    replace good := good ok
    -- self.signs
    refine ⟨_, rfl, _, rfl, m, Z.C, dx, [], rfl, s1 _ _ hm, TC.cl, TC.a1, (by show 0 < 1000; decide), ?_⟩
    have k2 : Kd m H (upd H1 m (.ins Z.C dx (putF "signs" (.str sg) []))) := ⟨⟨_, _, _, hm⟩, fun b o e n => by
      rw [upd_ne n]
      exact s1 _ _ e⟩
    have m2 : (upd H1 m (.ins Z.C dx (putF "signs" (.str sg) []))) m = some (.ins Z.C dx [("signs", .str sg)]) := upd_same
    generalize upd H1 m (.ins Z.C dx (putF "signs" (.str sg) [])) = H2 at k2 m2 ⊢
    -- self.rows
    refine ⟨_, rfl, r, rfl, ⟨_, SqL.of (k2.lst hrv)⟩, fun D hD => ?_⟩
    refine lcs_it [some (.ref m), some (.str sg), some (.ref r), some (.ref e), none, none, none, none, none, none] rfl walk_list (fun i H' => Same H2 H' ∧ ∃ acc, H' D = some (.lst acc) ∧ acc.length = i ∧ Paired (RowT H') acc ((R.take i).map nrm)) ⟨Same.upd hD, [], upd_same, rfl, .nil⟩ (fun i H' _ z => SqL.of (z.1 _ _ (k2.lst hrv))) ?_ ?_
    · rintro i x _ H3 hi ⟨s3, acc, hacc, hl, pa⟩ ⟨rfl, hx⟩
      obtain ⟨q, hq, a, vs, rfl, ha, pr⟩ := pat (L2.Paired.mapP pR fun _ _ z => k2.row z) hx
      refine ⟨rfl, ?_⟩
      refine row_made (s3 _ _ ha) (L2.Paired.mapP pr fun _ _ z => z.keep s3) (rl q (List.mem_of_getElem? hq)).2 (fun w hw => ?_) fun p H4 hp s4 h4 => ?_
      · have := way_le hq hw
        rw [List.length_append] at hb
        omega
      · have pl : rv.length = R.length := Paired.length pR
        have kp : ∀ b xs, H4 b = some (.tup xs) → (upd H4 D (.lst (acc ++ [.ref p]))) b = some (.tup xs) := fun b xs e => by
          rw [upd_ne (ne_of e (s4 _ _ hacc) (by intro z; cases z))]
          exact e
        refine ⟨acc, s4 _ _ hacc, ?_, fun b o e => ?_, acc ++ [.ref p], upd_same, by rw [List.length_append, hl]; rfl, ?_⟩
        · rw [sizeLine_eq]; omega
        · rw [upd_ne (ne_of_none e hD)]
          exact s4 _ _ (s3 _ _ e)
        · rw [snap nrm hq]
          exact psnoc (L2.Paired.mapP pa fun _ _ z => z.keep fun b xs e => kp b xs (s4 _ _ e)) (h4.keep kp)
    rintro H3 ⟨s3, rv3, hacc, hl, pa⟩
    rw [show rv.length = R.length from Paired.length pR, List.take_length] at pa
    refine .inl ⟨D, rv3, rfl, SqL.of hacc, fun r3 hr3 => ?_⟩
    have s4 : Same H2 (upd H3 r3 (.tup rv3)) := fun b o e => Same.upd hr3 _ _ (s3 _ _ e)
    have r4 : (upd H3 r3 (.tup rv3)) r3 = some (.tup rv3) := upd_same
    have pa4 : Paired (RowT (upd H3 r3 (.tup rv3))) rv3 (R.map nrm) := L2.Paired.mapP pa fun _ _ z => z.keep (tups (Same.upd hr3))
    generalize upd H3 r3 (.tup rv3) = H4 at s4 r4 pa4 ⊢
    refine ⟨_, rfl, m, Z.C, dx, [("signs", .str sg)], rfl, s4 _ _ m2, TC.cl, TC.a2, (by show 1 < 1000; decide), ?_⟩
    have next : ∀ {Ha Hb : Hp} {fs fs' : List (Str × V)}, Kd m H Ha → Same Ha Hb → Hb m = some (.ins Z.C dx fs) → Kd m H (upd Hb m (.ins Z.C dx fs')) := fun {Ha Hb fs fs'} k s e => ⟨k.1, fun b o e1 n => by
      rw [upd_ne n]
      exact s _ _ (k.2 b o e1 n)⟩
    have k5 : Kd m H (upd H4 m (.ins Z.C dx (putF "rows" (.ref r3) [("signs", .str sg)]))) := next k2 s4 (s4 _ _ m2)
    have m5 : (upd H4 m (.ins Z.C dx (putF "rows" (.ref r3) [("signs", .str sg)]))) m = some (.ins Z.C dx [("signs", .str sg), ("rows", .ref r3)]) := upd_same
    have j5 : ∀ b xs, H4 b = some (.tup xs) → (upd H4 m (.ins Z.C dx (putF "rows" (.ref r3) [("signs", .str sg)]))) b = some (.tup xs) := fun b xs e => by
      rw [upd_ne (ne_of e (s4 _ _ m2) (by intro z; cases z))]
      exact e
    have r5 := j5 _ _ r4
    have pa5 := L2.Paired.mapP pa4 fun _ _ z => z.keep j5
    clear j5
    generalize upd H4 m (.ins Z.C dx (putF "rows" (.ref r3) [("signs", .str sg)])) = H5 at k5 m5 r5 pa5 ⊢
    -- self.ends
    refine ⟨_, rfl, e, rfl, ⟨_, SqL.of (k5.lst hev)⟩, fun D5 hD5 => ?_⟩
    refine lcs_it [some (.ref m), some (.str sg), some (.ref r), some (.ref e), none, none, none, none, none, none] rfl walk_list (fun i H' => Same H5 H' ∧ ∃ acc, H' D5 = some (.lst acc) ∧ acc.length = i ∧ Paired (KeysT H') acc ((Es.take i).map kl)) ⟨Same.upd hD5, [], upd_same, rfl, .nil⟩ (fun i H' _ z => SqL.of (z.1 _ _ (k5.lst hev))) ?_ ?_
    · rintro i x _ H6 hi ⟨s6, acc, hacc, hl, pa⟩ ⟨rfl, hx⟩
      obtain ⟨ks, hks, kt⟩ := pat (L2.Paired.mapP pE fun _ _ z => k5.texts z) hx
      have l1 := flat_le id hks
      have l2 : (Es.flatMap id).length = Es.flatten.length := by rw [List.flatMap_id]
      refine ⟨rfl, _, rfl, x, ks, rfl, kt.keep s6, ?_, fun p H7 hp s7 h7 => ?_⟩
      · have l3 : (id ks).length = ks.length := rfl
        rw [List.length_append] at hb
        omega
      · have pl : ev.length = Es.length := Paired.length pE
        have kp : ∀ b xs, H7 b = some (.tup xs) → (upd H7 D5 (.lst (acc ++ [.ref p]))) b = some (.tup xs) := fun b xs e => by
          rw [upd_ne (ne_of e (s7 _ _ hacc) (by intro z; cases z))]
          exact e
        refine ⟨acc, s7 _ _ hacc, ?_, fun b o e => ?_, acc ++ [.ref p], upd_same, by rw [List.length_append, hl]; rfl, ?_⟩
        · rw [sizeLine_eq]; omega
        · rw [upd_ne (ne_of_none e hD5)]
          exact s7 _ _ (s6 _ _ e)
        · rw [snap kl hks]
          exact psnoc (L2.Paired.mapP pa fun _ _ z => z.keep fun b xs e => kp b xs (s7 _ _ e)) ⟨p, rfl, kp _ _ h7⟩
    rintro H6 ⟨s6, ev6, hacc6, hl6, pe6⟩
    rw [show ev.length = Es.length from Paired.length pE, List.take_length] at pe6
    refine .inl ⟨D5, ev6, rfl, SqL.of hacc6, fun e6 he6 => ?_⟩
    have s7 : Same H5 (upd H6 e6 (.tup ev6)) := fun b o e => Same.upd he6 _ _ (s6 _ _ e)
    have e7 : (upd H6 e6 (.tup ev6)) e6 = some (.tup ev6) := upd_same
    have pe7 : Paired (KeysT (upd H6 e6 (.tup ev6))) ev6 (Es.map kl) := L2.Paired.mapP pe6 fun _ _ z => z.keep (tups (Same.upd he6))
    generalize upd H6 e6 (.tup ev6) = H7 at s7 e7 pe7 ⊢
    refine ⟨_, rfl, m, Z.C, dx, [("signs", .str sg), ("rows", .ref r3)], rfl, s7 _ _ m5, TC.cl, TC.a3, (by show 2 < 1000; decide), ?_⟩
    have k8 : Kd m H (upd H7 m (.ins Z.C dx (putF "ends" (.ref e6) [("signs", .str sg), ("rows", .ref r3)]))) := next k5 s7 (s7 _ _ m5)
    have m8 : (upd H7 m (.ins Z.C dx (putF "ends" (.ref e6) [("signs", .str sg), ("rows", .ref r3)]))) m = some (.ins Z.C dx [("signs", .str sg), ("rows", .ref r3), ("ends", .ref e6)]) := upd_same
    have j8 : ∀ b xs, H7 b = some (.tup xs) → (upd H7 m (.ins Z.C dx (putF "ends" (.ref e6) [("signs", .str sg), ("rows", .ref r3)]))) b = some (.tup xs) := fun b xs e => by
      rw [upd_ne (ne_of e (s7 _ _ m5) (by intro z; cases z))]
      exact e
    have r8 := j8 _ _ (s7 _ _ r5)
    have pa8 := L2.Paired.mapP pa5 fun _ _ z => z.keep fun b xs e => j8 b xs (s7 _ _ e)
    have e8 := j8 _ _ e7
    have pe8 := L2.Paired.mapP pe7 fun _ _ z => z.keep j8
    clear j8
    generalize upd H7 m (.ins Z.C dx (putF "ends" (.ref e6) [("signs", .str sg), ("rows", .ref r3)])) = H8 at k8 m8 r8 pa8 e8 pe8 ⊢
    -- self.all_keys
    have mem : ∀ y, y ∈ keysOfRows (R.map nrm) ++ (Es.map kl).flatten ↔ y ∈ keysOfRows R ++ Es.flatten := fun y => by
      rw [List.mem_append, List.mem_append, mem_nrm, mem_ends]
    have len8 : (keysOfRows (R.map nrm) ++ (Es.map kl).flatten).length ≤ (keysOfRows R ++ Es.flatten).length := by
      have a := len_nrm R
      have b := len_ends Es
      rw [List.length_append, List.length_append]
      omega
    refine ⟨_, rfl, m, Z.C, dx, _, _, rfl, m8, TC.cl, TC.a2, rfl, _, rfl, m, Z.C, dx, _, _, rfl, m8, TC.cl, TC.a3, rfl, ?_⟩
    refine ⟨r3, e6, rv3, ev6, R.map nrm, Es.map kl, rfl, r8, pa8, e8, pe8, by omega, fun k9 H9 hk9 s9 h9 => ?_⟩
    rw [kl_congr mem] at h9
    refine ⟨_, rfl, m, Z.C, dx, [("signs", .str sg), ("rows", .ref r3), ("ends", .ref e6)], rfl, s9 _ _ m8, TC.cl, TC.a4, (by show 3 < 1000; decide), ?_⟩
    have k10 : Kd m H (upd H9 m (.ins Z.C dx (putF "all_keys" (.ref k9) [("signs", .str sg), ("rows", .ref r3), ("ends", .ref e6)]))) := next k8 s9 (s9 _ _ m8)
    have m10 : (upd H9 m (.ins Z.C dx (putF "all_keys" (.ref k9) [("signs", .str sg), ("rows", .ref r3), ("ends", .ref e6)]))) m = some (.ins Z.C dx [("signs", .str sg), ("rows", .ref r3), ("ends", .ref e6), ("all_keys", .ref k9)]) := upd_same
    have j10 : ∀ b xs, H9 b = some (.tup xs) → (upd H9 m (.ins Z.C dx (putF "all_keys" (.ref k9) [("signs", .str sg), ("rows", .ref r3), ("ends", .ref e6)]))) b = some (.tup xs) := fun b xs e => by
      rw [upd_ne (ne_of e (s9 _ _ m8) (by intro z; cases z))]
      exact e
    have f10 : ∀ d, (upd H9 m (.ins Z.C dx (putF "all_keys" (.ref k9) [("signs", .str sg), ("rows", .ref r3), ("ends", .ref e6)]))) d = none → H d = none := fun d hd => by
      have nd : d ≠ m := fun e => by rw [e, m10] at hd; cases hd
      rw [upd_ne nd] at hd
      cases c : H d with
      | none => rfl
      | some o =>
        have := s9 _ _ (k8.2 d o c nd)
        rw [hd] at this
        cases this
    have r10 := j10 _ _ (s9 _ _ r8)
    have pa10 := L2.Paired.mapP pa8 fun _ _ z => z.keep fun b xs e => j10 b xs (s9 _ _ e)
    have e10 := j10 _ _ (s9 _ _ e8)
    have pe10 := L2.Paired.mapP pe8 fun _ _ z => z.keep fun b xs e => j10 b xs (s9 _ _ e)
    have a10 := j10 _ _ h9
    clear j10
    generalize upd H9 m (.ins Z.C dx (putF "all_keys" (.ref k9) [("signs", .str sg), ("rows", .ref r3), ("ends", .ref e6)])) = H10 at k10 m10 f10 r10 pa10 e10 pe10 a10 ⊢
    -- if len(self.all_keys) > MOST_KEYS
    refine ⟨_, rfl, m, Z.C, dx, _, _, rfl, m10, TC.cl, TC.a4, rfl, .ref k9, _, rfl, .inr ⟨_, SqT.of a10, rfl⟩, _, _, rfl, rfl, _, rfl, ?_⟩
    rw [List.length_map]
    by_cases c : (12 : Int) < ((kl (keysOfRows R ++ Es.flatten)).length : Nat)
    · refine ifT c ?_
      refine rsE rfl (by show 1 ≤ 1000; decide) (fun u hu => ?_) fun d H11 hd s11 h11 => (good H11 (k10.trans s11)).1 (by omega) d (f10 d hd) h11
      rw [List.mem_singleton.mp hu]
      exact .inr ⟨_, rfl⟩
    refine ifF c ?_
    -- self._ways
    refine ⟨_, rfl, m, Z.C, dx, _, _, rfl, m10, TC.cl, TC.a2, rfl, r3, rfl, ⟨_, SqT.of r10⟩, fun W hW => ?_⟩
    have rl3 : rv3.length = R.length := (Paired.length pa10).trans (List.length_map ..)
    refine lcs_it [some (.ref m), some (.str sg), some (.ref r), some (.ref e), none, none, none, none, none, none] rfl walk_tup (fun i H' => Same H10 H' ∧ ∃ acc, H' W = some (.lst acc) ∧ acc.length = i ∧ Paired (WaysD sg H') acc (rv3.take i)) ⟨Same.upd hW, [], upd_same, rfl, .nil⟩ (fun i H' _ z => SqT.of (z.1 _ _ r10)) ?_ ?_
    · rintro i x _ H11 hi ⟨s11, acc, hacc, hl, pw⟩ ⟨rfl, hx⟩
      obtain ⟨row, hrow, a, vs, rfl, ha, pr⟩ := pat pa10 hx
      rw [List.getElem?_map] at hrow
      obtain ⟨q, hq, rfl⟩ := Option.map_eq_some_iff.mp hrow
      have vl : vs.length = q.length := (Paired.length pr).trans (List.length_map ..)
      have q1 := rl q (List.mem_of_getElem? hq)
      refine ⟨rfl, tyes ?_⟩
      simp only [if_true]
      refine ways_made (s11 _ _ ha) asc (by omega) sz fun d H12 hd s12 h12 => ?_
      have kt : ∀ b xs, H12 b = some (.tup xs) → (upd H12 W (.lst (acc ++ [.ref d]))) b = some (.tup xs) := fun b xs e => by
        rw [upd_ne (ne_of e (s12 _ _ hacc) (by intro z; cases z))]
        exact e
      have kd : ∀ b xs, H12 b = some (.dK xs) → (upd H12 W (.lst (acc ++ [.ref d]))) b = some (.dK xs) := fun b xs e => by
        rw [upd_ne (ne_of e (s12 _ _ hacc) (by intro z; cases z))]
        exact e
      refine ⟨acc, s12 _ _ hacc, ?_, fun b o e => ?_, acc ++ [.ref d], upd_same, by rw [List.length_append, hl]; rfl, ?_⟩
      · rw [sizeLine_eq]; omega
      · rw [upd_ne (ne_of_none e hW)]
        exact s12 _ _ (s11 _ _ e)
      · have tk : rv3.take (i + 1) = rv3.take i ++ [.ref a] := by rw [List.take_add_one, hx]; rfl
        rw [tk]
        exact psnoc (L2.Paired.mapP pw fun _ _ z => z.keep (fun b xs e => kt b xs (s12 _ _ e)) fun b xs e => kd b xs (s12 _ _ e)) ⟨d, a, vs, rfl, rfl, kt _ _ (s12 _ _ (s11 _ _ ha)), kd _ _ h12⟩
    rintro H11 ⟨s11, wv, hacc, hl, pw⟩
    rw [List.take_length] at pw
    refine .inl ⟨W, wv, rfl, SqL.of hacc, fun w6 hw6 => ?_⟩
    have s12 : Same H10 (upd H11 w6 (.tup wv)) := fun b o e => Same.upd hw6 _ _ (s11 _ _ e)
    have w12 : (upd H11 w6 (.tup wv)) w6 = some (.tup wv) := upd_same
    have pw12 : Paired (WaysD sg (upd H11 w6 (.tup wv))) wv rv3 := L2.Paired.mapP pw fun _ _ z => z.keep (tups (Same.upd hw6)) fun b xs e => Same.upd hw6 _ _ e
    generalize upd H11 w6 (.tup wv) = H12 at s12 w12 pw12 ⊢
    refine ⟨_, rfl, m, Z.C, dx, [("signs", .str sg), ("rows", .ref r3), ("ends", .ref e6), ("all_keys", .ref k9)], rfl, s12 _ _ m10, TC.cl, TC.a5, (by show 4 < 1000; decide), ?_⟩
    have j : ∀ b xs, H12 b = some (.tup xs) → (upd H12 m (.ins Z.C dx (putF "_ways" (.ref w6) [("signs", .str sg), ("rows", .ref r3), ("ends", .ref e6), ("all_keys", .ref k9)]))) b = some (.tup xs) := fun b xs e => by
      rw [upd_ne (ne_of e (s12 _ _ m10) (by intro z; cases z))]
      exact e
    have jd : ∀ b xs, H12 b = some (.dK xs) → (upd H12 m (.ins Z.C dx (putF "_ways" (.ref w6) [("signs", .str sg), ("rows", .ref r3), ("ends", .ref e6), ("all_keys", .ref k9)]))) b = some (.dK xs) := fun b xs e => by
      rw [upd_ne (ne_of e (s12 _ _ m10) (by intro z; cases z))]
      exact e
    refine (good _ (next k10 s12 (s12 _ _ m10))).2 (by omega) ⟨dx, r3, e6, k9, w6, rv3, ev6, wv, upd_same, j _ _ (s12 _ _ r10), ?_, j _ _ (s12 _ _ e10), ?_, ?_, j _ _ w12, ?_⟩
    · exact L2.Paired.mapP pa10 fun _ _ z => z.keep fun b xs e => j b xs (s12 _ _ e)
    · exact L2.Paired.mapP pe10 fun _ _ z => z.keep fun b xs e => j b xs (s12 _ _ e)
    · rw [kl_congr mem]
      exact j _ _ (s12 _ _ a10)
    · exact L2.Paired.mapP pw12 fun _ _ z => z.keep j jd
end
end Kx

/-! enumerate over a text -/
namespace Own
open PySem PySem.Spec PyProof.Rows L2 PySem.Froz
/-- the letters of the text y, each in a new pair with its place -/
def Ites (y : Str) : It :=
  ⟨fun i _ => i < y.cps.size, fun i H v H' => ∃ T c, v = .ref T ∧ H T = none ∧ H' = upd H T (.tup [.int (i : Nat), .str (sing c)]) ∧ y.cps[i]? = some c, fun i _ => i = y.cps.size⟩
theorem turn_enumS {P : Program} {w : World} {K : PySem.W.Frag} {elts : List Expr} {kk : Nat} {tpos : Pos} (y : Str) (u : Tok) (e it : Addr) :
    Turn P w K (.Tuple elts kk tpos) (Ites y) [e, it] e (fun i h => (∃ old, IsEnum h e it ((i : Nat) : Int) old) ∧ h.IsStrIter it (strIterType y) y u i ∧ e ≠ it) where
  mem := List.mem_cons_self
  obj := fun i h ⟨⟨old, he⟩, ⟨o, ho, hc, hd⟩, _⟩ b hb => by
    rcases List.mem_cons.mp hb with rfl | hb
    · exact ⟨_, he, fun v q => nomatch q⟩
    · rw [List.mem_singleton.mp hb]
      exact ⟨o, ho, fun v q => by rw [hd] at q; cases q⟩
  keep := fun i h h' ⟨⟨old, he⟩, ⟨o, ho, r⟩, hne⟩ k => ⟨⟨old, k e (by simp) _ he⟩, ⟨o, k it (by simp) _ ho, r⟩, hne⟩
  item := fun X hP hw hK hc i pins s σ H E I hf ⟨⟨old, he⟩, hit, hne⟩ hi => by
    subst hP hw hK
    have elt : e < s.heap.objs.size := Heap.lt_size he
    have ilt : it < s.heap.objs.size := by
      obtain ⟨_, q, _⟩ := hit
      exact Heap.lt_size q
    have ef : e ∉ [it] := fun m => hne (List.mem_singleton.mp m)
    refine wpAny_pyNext_enum_itemD (Draws.text (A := X.A.in1) (I.ok.hd hc) it y u) he hit hi hne ef fun x h' tk ⟨c, t, hc1, ex⟩ ho hit' hT hz kk => ?_
    subst ex
    refine ⟨_, rfl, wpAny_letOwnedTupleGo_enum (s := { s with heap := h', toks := tk + 1 }) ho fun h2 he2 sb => ?_⟩
    have hT2 : h2.get? s.heap.objs.size = some { cls := .type "tuple", data := .seq #[.int i tk, .str (sing c) t] } := (sb.2 _ (Nat.ne_of_gt elt)).trans hT
    have new : ObjOk X.prog X.w (upd H s.heap.objs.size (.tup [.int (i : Nat), .str (sing c)])) h2 s.heap.objs.size (.tup [.int (i : Nat), .str (sing c)]) :=
      ⟨by show 2 ≤ sizeLine; decide, [.int i tk, .str (sing c) t], .cons ⟨_, rfl⟩ (.cons ⟨t, rfl⟩ .nil), ⟨_, hT2, rfl, _, rfl⟩⟩
    have kp : ∀ b o, b ∉ [e, it] → s.heap.get? b = some o → h2.get? b = some o := fun b o nb q => by
      simp only [List.mem_cons, List.not_mem_nil, or_false, not_or] at nb
      exact (sb.2 b nb.1).trans (kk b o nb.1 nb.2 q)
    have J := I.turnedNew (h' := h2) (t' := tk + 1) (ch := [e, it]) kp hf (Nat.le_refl _) new
    refine ⟨.ref s.heap.objs.size, _, J, rfl, ⟨_, c, rfl, I.hok.fresh (Nat.le_refl _), rfl, hc1⟩, ⟨⟨.str (sing c) t, ?_⟩, ?_, hne⟩, fun b hb => ?_⟩
    · have e1 : ((i + 1 : Nat) : Int) = (i : Int) + 1 := by omega
      rw [e1]
      exact he2
    · obtain ⟨o, q, r⟩ := hit'
      exact ⟨o, (sb.2 it (Ne.symm hne)).trans q, r⟩
    · have lt : b < s.heap.objs.size := by
        rcases List.mem_cons.mp hb with rfl | hb
        · exact elt
        · rw [List.mem_singleton.mp hb]
          exact ilt
      rw [upd_ne (Nat.ne_of_lt lt)]
      exact (hf b hb).1
  done := fun X hP hw hK hc i pins s σ H E I hf ⟨⟨old, he⟩, hit, hne⟩ hi => by
    subst hP hw hK
    have hi : i = y.cps.size := hi
    subst hi
    obtain ⟨f0, f1, f2, f3, f4, f5⟩ := hf it (by simp)
    exact wpAny_pyNext_enum_endD (Draws.text (A := X.A.in1) (I.ok.hd hc) it y u) he hit fun h' eb => ⟨rfl, I.turned (t' := s.toks) (fun b o nb q => eb b o nb q) f0 f1 f3 f4 f5⟩
  self := fun A i s Q E ⟨⟨_, he⟩, _⟩ h => wpAny_pyIter_enum he h
/-- enumerate(text) -/
def iEnumS (ta : TA) : TI := fun σ H R => ta σ H fun vs H1 => ∃ y : Str, vs = [.str y] ∧ R (Ites y) H1
theorem pi_enumS {X : Cx} {e : Expr} {ta : TA} {p pos tpos : Pos} {elts : List Expr} {kk : Nat} (hg : Gl X "enumerate") (hm : X.mg "enumerate" = none) (ha : PA X [e] ta) (hs : starEach [e] X.env = [(false, eval e X.env)] := by rfl) :
    PI X (.Tuple elts kk tpos) (.Call (.Name "enumerate" p) [e] [] pos) (iEnumS ta) := by
  refine ⟨fun pins s σ H R I h => Call_ (ld_blt I hg hm boot_enumerate (PyProof.Rows.callWith_type1 (thn (ha.run pos pins s σ H _ I h) fun us s1 ⟨vs, H1, I1, r1, y, ev, q⟩ => ?_) hs rfl))⟩
  subst ev
  obtain ⟨v, rfl, u, rfl⟩ := vals1 r1
  refine call_enumerate_str fun h' he hit hz kp => wpAny_pyIter_enum he ?_
  have J : Inv X pins σ H1 { s1 with heap := h' } := I1.kept (t' := s1.toks) kp
  refine ⟨s1.heap.objs.size + 1, [s1.heap.objs.size + 1, s1.heap.objs.size], _, _, H1, rfl, J, turn_enumS y u (s1.heap.objs.size + 1) s1.heap.objs.size, ⟨⟨.none, he⟩, hit, Nat.succ_ne_self _⟩, fun b hb => ?_, q⟩
  have le : s1.heap.objs.size ≤ b := by
    rcases List.mem_cons.mp hb with rfl | hb
    · exact Nat.le_add_right _ _
    · rw [List.mem_singleton.mp hb]
      exact Nat.le_refl _
  exact I1.fpOk le (I1.hok.fresh le)
theorem walk_enumS {y : Str} : L2.Walk (Ites y) y.cps.size (fun _ => True) (YPair (fun i => some (.int (i : Nat))) (fun i => (y.cps[i]?).map fun c => .str (sing c))) :=
  ⟨fun _ _ hi _ => hi, fun _ _ => rfl, fun i H x H' hi _ ⟨T, c, e1, e2, e3, e4⟩ => ⟨T, .int (i : Nat), .str (sing c), e1, e2, e3, rfl, by show (y.cps[i]?).map _ = _; rw [e4]; rfl⟩⟩
end Own

namespace Kx
open PySem L2 Own
abbrev s_BadSign : Stmt := inClass (top 16) 0
abbrev s_Machine_walk : Stmt := inClass (top 28) 4
abbrev s_Machine_keys_of : Stmt := inClass (top 28) 5
abbrev s_Machine_after : Stmt := inClass (top 28) 6
/-! ### reading in plain lists -/
/-- the way of the letter c from the state s -/
def stepW (sg : Str) (R : List (List Way)) (s c : Nat) : Option Way := (sg.cps.toList.idxOf? c).bind fun j => (R[s]?).bind fun q => q[j]?
def acc1 (sg : Str) (R : List (List Way)) (p : Nat × List Str) (c : Nat) : Nat × List Str := match stepW sg R p.1 c with
  | some w => (w.1.toNat, p.2 ++ w.2)
  | none => p
/-- the state behind some letters, and the keys on the way -/
def runW (sg : Str) (R : List (List Way)) (s : Nat) (cs : List Nat) : Nat × List Str := cs.foldl (acc1 sg R) (s, [])
theorem runW_snoc (sg : Str) (R : List (List Way)) (s : Nat) (cs : List Nat) (c : Nat) : runW sg R s (cs ++ [c]) = acc1 sg R (runW sg R s cs) c := by
  unfold runW
  rw [List.foldl_append]
  rfl
/-- a machine as all of them are that were made -/
structure Full (sg : Str) (R : List (List Way)) (Es : List (List Str)) : Prop where
  nd : sg.cps.toList.Nodup
  row : ∀ q ∈ R, q.length = sg.cps.size ∧ ∀ w ∈ q, Okw R.length w
  ends : Es.length = R.length
  pos : 0 < R.length
  size : (keysOfRows R ++ Es.flatten).length + 1 < scanBound
theorem Full.way {sg : Str} {R : List (List Way)} {Es : List (List Str)} (F : Full sg R Es) {s j c : Nat} (hs : s < R.length) (hc : sg.cps[j]? = some c) : ∃ q w, R[s]? = some q ∧ q[j]? = some w ∧ stepW sg R s c = some w ∧ Okw R.length w := by
  have hq : R[s]? = some R[s] := List.getElem?_eq_getElem hs
  obtain ⟨l, g⟩ := F.row R[s] (List.getElem_mem hs)
  have hj : j < sg.cps.size := by
    obtain ⟨h, _⟩ := Array.getElem?_eq_some_iff.mp hc
    exact h
  have hw : R[s][j]? = some R[s][j] := List.getElem?_eq_getElem (by omega)
  refine ⟨R[s], R[s][j], hq, hw, ?_, g _ (List.getElem_mem _)⟩
  have hi : sg.cps.toList.idxOf? c = some j := by
    rw [List.idxOf?_eq_some_iff]
    obtain ⟨h, e⟩ := Array.getElem?_eq_some_iff.mp hc
    refine ⟨by simpa using h, by simpa using e, fun i hi => ?_⟩
    have nd := List.pairwise_iff_getElem.mp F.nd i j (by simp; omega) (by simpa using h) hi
    simp only [Array.getElem_toList, beq_iff_eq] at nd ⊢
    rw [e] at nd
    simpa using nd
  unfold stepW
  rw [hi, hq]
  exact hw
theorem Full.out {sg : Str} {R : List (List Way)} {s c : Nat} (hc : c ∉ sg.cps.toList) : stepW sg R s c = none := by
  unfold stepW
  rw [List.idxOf?_eq_none_iff.mpr hc]
  rfl
/-- what a reading within the signs comes to -/
theorem Full.run {sg : Str} {R : List (List Way)} {Es : List (List Str)} (F : Full sg R Es) {s : Nat} (hs : s < R.length) : ∀ cs : List Nat, (runW sg R s cs).1 < R.length ∧ ∀ y ∈ (runW sg R s cs).2, y ∈ keysOfRows R := by
  suffices h : ∀ (cs : List Nat) (p : Nat × List Str), p.1 < R.length → (∀ y ∈ p.2, y ∈ keysOfRows R) → (cs.foldl (acc1 sg R) p).1 < R.length ∧ ∀ y ∈ (cs.foldl (acc1 sg R) p).2, y ∈ keysOfRows R from
    fun cs => h cs (s, []) hs (fun _ z => nomatch z)
  intro cs
  induction cs with
  | nil => exact fun p a b => ⟨a, b⟩
  | cons c cs ih =>
    intro p a b
    refine ih (acc1 sg R p c) ?_ ?_
    all_goals
      unfold acc1
      cases e : stepW sg R p.1 c with
      | none => first | exact a | exact b
      | some w =>
        unfold stepW at e
        obtain ⟨j, _, e⟩ := Option.bind_eq_some_iff.mp e
        obtain ⟨q, hq, e⟩ := Option.bind_eq_some_iff.mp e
        have hqm := List.mem_of_getElem? hq
        have hwm := List.mem_of_getElem? e
        first
        | exact (by have := (F.row q hqm).2 w hwm; show w.1.toNat < R.length; have h1 := this.1; have h2 := this.2; omega)
        | exact fun y hy => (by
            rcases List.mem_append.mp hy with hy | hy
            · exact b y hy
            · exact List.mem_flatMap.mpr ⟨q, hqm, List.mem_flatMap.mpr ⟨w, hwm, hy⟩⟩)
/-! ### the dicts of ways, and of keys -/
abbrev lk (c : Nat) : Key := Sum.inr (Froz.sing c)
theorem sing_inj {a b : Nat} (h : lk a = lk b) : a = b := by
  have h1 : Froz.sing a = Froz.sing b := Sum.inr.inj h
  have h2 : (#[a] : Array Nat) = #[b] := congrArg Str.cps h1
  simpa using h2
theorem kvUp_out {sg : Str} {vs : List V} {c : Nat} (hc : c ∉ sg.cps.toList) : ∀ i, valV (kvUp sg vs i) (lk c) = none
  | 0 => rfl
  | i + 1 => by
    have ih := kvUp_out hc (vs := vs) i
    unfold kvUp
    split
    · rename_i d x hd _
      rw [valV_put, if_neg, ih]
      intro e
      have e' := sing_inj e
      subst e'
      exact hc (Array.mem_toList_iff.mpr (Array.mem_of_getElem? hd))
    · exact ih
theorem kvUp_in {sg : Str} {vs : List V} {c j : Nat} (nd : sg.cps.toList.Nodup) (hc : sg.cps[j]? = some c) : ∀ i, j < i → i ≤ sg.cps.size → sg.cps.size ≤ vs.length → valV (kvUp sg vs i) (lk c) = vs[j]?
  | i + 1, hj, hi, hl => by
    have h1 : sg.cps[i]? = some (sg.cps[i]'(by omega)) := Array.getElem?_eq_getElem (by omega)
    have h2 : vs[i]? = some (vs[i]'(by omega)) := List.getElem?_eq_getElem (by omega)
    unfold kvUp
    rw [h1, h2]
    dsimp only
    rw [valV_put]
    by_cases e : j = i
    · subst e
      have e1 : sg.cps[j]'(by omega) = c := by
        rw [h1] at hc
        exact Option.some.inj hc
      rw [e1, if_pos rfl, h2]
    · rw [if_neg]
      · exact kvUp_in nd hc i (by omega) (by omega) hl
      · intro z
        have z' := sing_inj z
        obtain ⟨hj', ec⟩ := Array.getElem?_eq_some_iff.mp hc
        have p := List.pairwise_iff_getElem.mp nd j i (by simpa using hj') (by simp; omega) (by omega)
        simp only [Array.getElem_toList] at p
        exact p (ec.trans z')
/-- a dict with the keys ys, each True -/
def gotK (ys : List Str) : List (Key × V) := ys.map fun y => (Sum.inr y, V.bl true)
theorem got_val (ys : List Str) (y : Str) : valV (gotK ys) (Sum.inr y) = if y ∈ ys then some (.bl true) else none := by
  induction ys with
  | nil => rfl
  | cons a r ih =>
    unfold gotK at ih ⊢
    rw [List.map_cons]
    by_cases e : a = y
    · subst e
      rw [valV_pos rfl, if_pos List.mem_cons_self]
    · rw [valV_neg (by simpa using e), ih]
      by_cases m : y ∈ r
      · rw [if_pos m, if_pos (List.mem_cons_of_mem _ m)]
      · rw [if_neg m, if_neg (by simp only [List.mem_cons, not_or]; exact ⟨fun z => e z.symm, m⟩)]
theorem got_put (ys : List Str) (y : Str) : putK (gotK ys) (Sum.inr y) (.bl true) = gotK (if y ∈ ys then ys else ys ++ [y]) := by
  unfold putK
  rw [valV_any, got_val]
  by_cases m : y ∈ ys
  · rw [if_pos m, if_pos m, if_pos (show (some (V.bl true)).isSome = true from rfl)]
    unfold gotK
    rw [List.map_map]
    refine List.map_congr_left fun a _ => ?_
    simp only [Function.comp]
    by_cases e : (Sum.inr a : Key) = Sum.inr y
    · rw [if_pos e]
    · rw [if_neg e]
  · rw [if_neg m, if_neg m, if_neg (show ¬ (none : Option V).isSome = true by simp)]
    unfold gotK
    rw [List.map_append]
    rfl
theorem nd_sub_len {α : Type} [DecidableEq α] : ∀ {l m : List α}, l.Nodup → (∀ x ∈ l, x ∈ m) → l.length ≤ m.length
  | [], _, _, _ => Nat.zero_le _
  | a :: l, m, nd, h => by
    obtain ⟨na, nl⟩ := List.nodup_cons.mp nd
    have ha := h a List.mem_cons_self
    have ih := nd_sub_len (l := l) (m := m.erase a) nl fun x hx => (List.mem_erase_of_ne fun z : x = a => na (z ▸ hx)).mpr (h x (List.mem_cons_of_mem _ hx))
    rw [List.length_erase_of_mem ha] at ih
    have := List.length_pos_of_mem ha
    rw [List.length_cons]
    omega
theorem got_grow {ys zs : List Str} (nd : ys.Nodup) (y : Str) : (if y ∈ ys then ys else ys ++ [y]).Nodup ∧ ∀ x, x ∈ (if y ∈ ys then ys else ys ++ [y]) ↔ x ∈ ys ∨ x = y := by
  by_cases m : y ∈ ys
  · rw [if_pos m]
    exact ⟨nd, fun x => ⟨.inl, fun z => z.elim id fun e => e ▸ m⟩⟩
  · rw [if_neg m]
    refine ⟨List.nodup_append.mpr ⟨nd, by simp, fun a ha b hb => ?_⟩, fun x => by simp⟩
    rw [List.mem_singleton.mp hb]
    exact fun e => m (e ▸ ha)
end Kx

namespace Kx
open PySem L2 Own
structure SAd where
  c : Addr
  i : Addr
  e : FuncData
  fw : Addr
  fk : Addr
  dw : FuncData
  dk : FuncData
structure TxtS (K : PySem.W.Frag) (mg : Str → Option Value) (A : EAd) (Z : CAd) (S : SAd) : Prop where
  E_BadSign : ErrC K mg "BadSign" S.c A.M
  I_BadSign : IniT K "BadSign.__init__" s_BadSign S.c S.i S.e ["self", "place"]
  N_place : PySem.W.findIn K (.ref S.c) "place" = some none
  M_walk : Meth K Z.C "walk" S.fw
  F_walk : Fun K "walk" "Machine.walk" s_Machine_walk S.fw S.dw
  b_walk : Binds K S.dw ["self", "state", "text"] []
  M_keys_of : Meth K Z.C "keys_of" S.fk
  F_keys_of : Fun K "keys_of" "Machine.keys_of" s_Machine_keys_of S.fk S.dk
  b_keys_of : Binds K S.dk ["self", "text"] []
section
variable {P : Program} {w : World} {K : PySem.W.Frag} {mg : Str → Option Value} {base : Heap} {A : EAd} {B : MAd} {Z : CAd} {S : SAd}
theorem sc_BadSign : FnScope ["self", "place"] ["self", "place"] (defScope s_BadSign) := ⟨rfl, rfl, rfl, by decide +kernel, rfl, by decide +kernel, by decide +kernel⟩
theorem ok_BadSign (T : TxtE K mg A) (TS : TxtS K mg A Z S) : FnOk P w K mg base CX0 2 S.i S.e ["self", "place"] (spErr S.c ["place"]) := by
  have sc := sc_BadSign
  have G_copied : FnOk P w K mg base CX0 1 A.fc A.dc ["field"] spFlat := ok_copied T
  refine TS.I_BadSign.F.ok sc (fun vs H Q E h => ?_) (fun cdv A1 outer s H vs Q E hr h => ?_)
  · obtain ⟨_, us, rfl, l, _⟩ := h
    rw [List.length_cons, l]; rfl
  · obtain ⟨a, us, rfl, l, ha, hf, k⟩ := h
    obtain ⟨v, rfl⟩ : ∃ v, us = [v] := List.length_eq_one_iff.mp l
    refine ⟨_, (pss_one (ps_ost (pv 0) (pe_call G_copied (hr.mono (by decide)) rfl T.D_copied.g T.D_copied.F.kp T.D_copied.b .nil pass0 (pa_cons (pv 1) pa_nil)))), ?_⟩
    refine ⟨_, rfl, v, rfl, hf v List.mem_cons_self, _, rfl, a, S.c, rfl, TS.E_BadSign.oex, TS.N_place, .inl ⟨ha, fun dx hd ne => ?_⟩⟩
    refine k dx _ hd ne upd_same (by rw [upd_ne ne, upd_same]; rfl) fun b o e nb => ?_
    rw [upd_ne nb, upd_ne (ne_of_none e hd)]
    exact e
/-- self.walk(state, text): the state behind the text and the keys on the way, or the place of the first letter that is no sign -/
def spWalk (Z : CAd) (S : SAd) : Sp := fun vs H Q E => ∃ (m : Addr) (st : Nat) (y sg : Str) (R : List (List Way)) (Es : List (List Str)), vs = [.ref m, .int st, .str y] ∧ MachAt Z.C H m sg R Es ∧ Full sg R Es ∧ st < R.length ∧
  ((∀ c ∈ y.cps.toList, c ∈ sg.cps.toList) → ∀ (p k : Addr) H', Same H H' → H' p = some (.tup [.int (runW sg R st y.cps.toList).1, .ref k]) → H' k = some (.tup ((kl (runW sg R st y.cps.toList).2).map V.str)) → Q (.ref p) H') ∧
  (∀ (i : Nat) (c : Nat) (d : Addr) H', y.cps[i]? = some c → c ∉ sg.cps.toList → (∀ (j : Nat) c', j < i → y.cps[j]? = some c' → c' ∈ sg.cps.toList) → H d = none → Same H H' → H' d = some (.xd [("place", .int i)]) → E (.ref S.c) (some d) H')
theorem sc_walk : FnScope ["self", "state", "text", "got", "place", "letter", "way", "given", "key"] ["self", "state", "text"] (defScope s_Machine_walk) := ⟨rfl, rfl, rfl, by decide +kernel, rfl, by decide +kernel, by decide +kernel⟩
theorem wayT_at {sg : Str} {H : Hp} {rv wv : List V} {R : List (List Way)} {s j c : Nat} {q : List Way} {w : Way} (pr : Paired (RowT H) rv R) (pw : Paired (WaysD sg H) wv rv) (nd : sg.cps.toList.Nodup) (hq : R[s]? = some q) (hl : q.length = sg.cps.size) (hw : q[j]? = some w) (hc : sg.cps[j]? = some c) :
    ∃ (d b kv : Addr) (kvs : List (Key × V)), wv[s]? = some (.ref d) ∧ H d = some (.dK kvs) ∧ valV kvs (lk c) = some (.ref b) ∧ H b = some (.tup [.int w.1, .ref kv]) ∧ H kv = some (.tup (w.2.map V.str)) := by
  have hs : s < R.length := (List.getElem?_eq_some_iff.mp hq).1
  have l1 := Paired.length pr
  have l2 := Paired.length pw
  have hwv : wv[s]? = some (wv[s]'(by omega)) := List.getElem?_eq_getElem (by omega)
  obtain ⟨rw1, hrw, d, b, vs, ed, eb, hb, hd⟩ := pat pw hwv
  obtain ⟨q', hq', b', vs', eb', hb', pq⟩ := pat pr hrw
  rw [hq] at hq'
  cases hq'
  rw [eb] at eb'
  cases eb'
  rw [hb] at hb'
  cases hb'
  have lv : vs.length = q.length := Paired.length pq
  have hj : j < q.length := (List.getElem?_eq_some_iff.mp hw).1
  have hvj : vs[j]? = some (vs[j]'(by omega)) := List.getElem?_eq_getElem (by omega)
  obtain ⟨w', hw', a, kv, ea, ha, kt, ek, hk⟩ := pat pq hvj
  rw [hw] at hw'
  cases hw'
  rw [ek] at ha
  refine ⟨d, a, kt, _, by rw [hwv, ed], hd, ?_, ha, hk⟩
  rw [kvUp_in nd hc sg.cps.size (by omega) (Nat.le_refl _) (by omega), hvj, ea]
theorem dict_at {sg : Str} {H : Hp} {rv wv : List V} {s c : Nat} (pw : Paired (WaysD sg H) wv rv) (hs : s < rv.length) (hc : c ∉ sg.cps.toList) : ∃ (d : Addr) (kvs : List (Key × V)), wv[s]? = some (.ref d) ∧ H d = some (.dK kvs) ∧ valV kvs (lk c) = none := by
  have l2 := Paired.length pw
  have hwv : wv[s]? = some (wv[s]'(by omega)) := List.getElem?_eq_getElem (by omega)
  obtain ⟨rw1, hrw, d, b, vs, ed, eb, hb, hd⟩ := pat pw hwv
  exact ⟨d, _, by rw [hwv, ed], hd, kvUp_out hc _⟩
theorem ok_walk (T : TxtM K mg B) (TE : TxtE K mg A) (TC : TxtC K mg Z) (TS : TxtS K mg A Z S) : FnOk P w K mg base (L2.CX P w) 4 S.fw S.dw ["self", "state", "text"] (spWalk Z S) := by
  have sc := sc_walk
  have G_key_list : FnOk P w K mg base CX0 1 B.f2 B.d2 ["given"] (spKl K) := ok_key_list T
  refine TS.F_walk.okX sc (fun vs H Q E h => ?_) (fun cdv A1 outer s H vs Q E hr h => ?_)
  · obtain ⟨_, _, _, _, _, _, rfl, _⟩ := h; rfl
  · obtain ⟨m, st, y, sg, R, Es, rfl, hm, F, hst, good, bad⟩ := h
    have hu := hu_of hr
    refine ⟨_, (pss_cons (ps_set (i := 3) sc.nd rfl (Or.inl rfl) pe_dnewK)
      (pss_cons (ps_for (passes_of rfl) rfl (pi_enumS (by rfl) T.n_enumerate (pa_cons (pv 2) pa_nil)) (pg_tup rfl (pgs_cons (pg_name (i := 4) sc.nd rfl (Or.inl rfl)) (pgs_cons (pg_name (i := 5) sc.nd rfl (Or.inl rfl)) pgs_nil)))
        (pss_cons (ps_set (i := 6) sc.nd rfl (Or.inl rfl) (pe_dget1 hu (pe_ix ix_tup (pe_fld (pv 0) rfl) (pv 1) (fun _ _ => rfl)) (pv 5) ⟨by rfl, by rfl, by rfl, by rfl⟩))
        (pss_cons (ps_if (pt_cmpR op_isN (pv 6) pe_non (nomark _))
          (pss_one (ps_raise rfl (takes_of rfl rfl rfl rfl) (pmk_oex TS.E_BadSign.oex TS.I_BadSign.iC TS.I_BadSign.tI (ok_BadSign TE TS) (hr.mono (by decide)) TS.I_BadSign.b .nil pass0 rfl TS.E_BadSign.g (pa_cons (pv 4) pa_nil))))
          pss_nil)
        (pss_cons (ps_asg (pv 6) (pg_tup rfl (pgs_cons (pg_name (i := 1) sc.nd rfl (Or.inl rfl)) (pgs_cons (pg_name (i := 7) sc.nd rfl (Or.inl rfl)) pgs_nil))))
        (pss_one (ps_for (passes_of rfl) rfl (pi_tup (pv 7)) (pg_name (i := 8) sc.nd rfl (Or.inl rfl))
          (pss_one (ps_dput hu (pv 3) (pv 8) pe_bl rfl))))))))
      (pss_one (ps_ret (pe_tup (pa_cons (pv 1) (pa_cons (pe_call G_key_list (hr.mono (by decide)) rfl T.D_key_list.g T.D_key_list.F.kp T.D_key_list.b .nil pass0 (pa_cons (pe_callTy (call_list_dK rfl) (by rfl) TE.n_list (by decide +kernel) (pa_cons (pv 3) pa_nil)) pa_nil)) pa_nil))))))), ?_⟩
    intro D hD
    obtain ⟨dx, r, e, k, w5, rv, ev, wv, hm0, hr0, pr, he0, pe, hk0, hw0, pw⟩ := hm
    have rl : rv.length = R.length := Paired.length pr
    have keepT : ∀ {H' : Hp}, Same H H' → Paired (RowT H') rv R := fun s1 => L2.Paired.mapP pr fun _ _ z => z.keep (tups s1)
    have keepW : ∀ {H' : Hp}, Same H H' → Paired (WaysD sg H') wv rv := fun s1 => L2.Paired.mapP pw fun _ _ z => z.keep (tups s1) fun b xs z => s1 b _ z
    have put : ∀ {H' : Hp} {o : HO}, Same H H' → Same H (upd H' D o) := fun {H' o} s1 b u z => by rw [upd_ne (ne_of_none z hD)]; exact s1 b u z
    refine ⟨_, rfl, y, rfl, ?_⟩
    refine for_it walk_enumS (fun i σ H' => (∃ x4 x5 x6 x7 x8, σ = [some (.ref m), some (.int (runW sg R st (y.cps.toList.take i)).1), some (.str y), some (.ref D), x4, x5, x6, x7, x8]) ∧ Same H H' ∧ (∃ ys, H' D = some (.dK (gotK ys)) ∧ ys.Nodup ∧ ∀ x, x ∈ ys ↔ x ∈ (runW sg R st (y.cps.toList.take i)).2) ∧ ∀ (j : Nat) c', j < i → y.cps[j]? = some c' → c' ∈ sg.cps.toList)
      ⟨⟨_, _, _, _, _, rfl⟩, Same.upd hD, ⟨[], upd_same, .nil, fun x => Iff.rfl⟩, fun j c' z => nomatch z⟩ (fun _ _ _ _ _ => trivial) ?_ ?_
    · rintro i x σ H1 H1' hi ⟨⟨x4, x5, x6, x7, x8, rfl⟩, s1, ⟨ys, hys, nd, mem⟩, g1⟩ ⟨t1, u1, v1, rfl, nt1, rfl, eu, ev1⟩
      cases eu
      obtain ⟨c, hc, rfl⟩ := Option.map_eq_some_iff.mp ev1
      have hct : y.cps.toList[i]? = some c := by rw [Array.getElem?_toList]; exact hc
      have s2 : Same H (upd H1 t1 (.tup [.int (i : Nat), .str (Froz.sing c)])) := fun b o z => Same.upd nt1 _ _ (s1 _ _ z)
      have hy2 : (upd H1 t1 (.tup [.int (i : Nat), .str (Froz.sing c)])) D = some (.dK (gotK ys)) := Same.upd nt1 _ _ hys
      refine ⟨t1, _, rfl, SqT.of upd_same, rfl, _, _, rfl, _, _, rfl, rfl, ?_⟩
      generalize upd H1 t1 (.tup [.int (i : Nat), .str (Froz.sing c)]) = H2 at s2 hy2 ⊢
      obtain ⟨run1, run2⟩ := F.run hst (y.cps.toList.take i)
      generalize hrun : runW sg R st (y.cps.toList.take i) = rn at run1 run2 mem ⊢
      refine ⟨_, rfl, m, Z.C, dx, _, _, rfl, s2 _ _ hm0, TC.cl, TC.a5, rfl, _, rfl, w5, wv, ((rn.1 : Nat) : Int), ?_⟩
      by_cases cm : c ∈ sg.cps.toList
      · obtain ⟨j, hj⟩ := List.getElem?_of_mem cm
        rw [Array.getElem?_toList] at hj
        obtain ⟨q, wy, hq, hw, hstep, okw⟩ := F.way run1 hj
        obtain ⟨d, b, kv, kvs, ewv, hd, hv, hb, hkv⟩ := wayT_at pr pw F.nd hq (F.row q (List.mem_of_getElem? hq)).1 hw hj
        have dg : DGet H2 d (.str (Froz.sing c)) (some (.ref b)) := by
          have z := DGet.k (k := lk c) (s2 _ _ hd)
          rw [hv] at z
          exact z
        refine ⟨_, rfl, rfl, SqT.of (s2 _ _ hw0), atI_nat ewv, d, rfl, .inl ⟨kvs, .inl (s2 _ _ hd)⟩, _, rfl, some (.ref b), dg, ?_⟩
        have hnn : 0 ≤ wy.1 := okw.1
        have hrun2 : runW sg R st (y.cps.toList.take (i + 1)) = (wy.1.toNat, rn.2 ++ wy.2) := by
          rw [List.take_add_one, hct]
          show runW sg R st (y.cps.toList.take i ++ [c]) = _
          rw [runW_snoc, hrun]
          unfold acc1
          rw [hstep]
        have kb : ∀ x ∈ rn.2 ++ wy.2, x ∈ keysOfRows R := fun x hx => by
          rcases List.mem_append.mp hx with hx | hx
          · exact run2 x hx
          · exact List.mem_flatMap.mpr ⟨q, List.mem_of_getElem? hq, List.mem_flatMap.mpr ⟨wy, List.mem_of_getElem? hw, hx⟩⟩
        refine ⟨_, rfl, rfl, _, rfl, iteF ?_⟩
        refine ⟨_, rfl, b, _, rfl, SqT.of (s2 _ _ hb), rfl, _, _, rfl, _, _, rfl, rfl, ?_⟩
        refine ⟨_, rfl, kv, rfl, ⟨_, SqT.of (s2 _ _ hkv)⟩, ?_⟩
        refine for_it walk_tup (fun j2 σ H' => (∃ x8, σ = [some (.ref m), some (.int wy.1), some (.str y), some (.ref D), some (.int (i : Nat)), some (.str (Froz.sing c)), some (.ref b), some (.ref kv), x8]) ∧ Same H H' ∧ ∃ ys, H' D = some (.dK (gotK ys)) ∧ ys.Nodup ∧ ∀ x, x ∈ ys ↔ x ∈ rn.2 ++ wy.2.take j2)
          ⟨⟨_, rfl⟩, s2, ys, hy2, nd, fun x => by simpa using mem x⟩ (fun j2 σ H' _ z => SqT.of (z.2.1 _ _ hkv)) ?_ ?_
        · rintro j2 x σ H3 H3' hj2 ⟨⟨x8, rfl⟩, s3, ys3, hys3, nd3, mem3⟩ ⟨rfl, hx⟩
          rw [List.getElem?_map] at hx
          obtain ⟨key, hkey, rfl⟩ := Option.map_eq_some_iff.mp hx
          have kin : key ∈ wy.2 := List.mem_of_getElem? hkey
          have small : (gotK ys3).length < sizeLine := by
            have l1 : ys3.length ≤ (keysOfRows R).length := nd_sub_len nd3 fun x hx => kb x (by
              rcases List.mem_append.mp ((mem3 x).mp hx) with z | z
              · exact List.mem_append_left _ z
              · exact List.mem_append_right _ (List.mem_of_mem_take z))
            have l2 := F.size
            rw [List.length_append] at l2
            unfold gotK
            rw [List.length_map]
            exact bound_line (by omega)
          refine ⟨_, rfl, _, rfl, D, _, rfl, DPut.k (k := Sum.inr key) hys3 small, ?_⟩
          obtain ⟨g2, g3⟩ := got_grow (zs := []) nd3 key
          rw [got_put]
          refine ⟨⟨_, rfl⟩, put s3, _, upd_same, g2, fun x => ?_⟩
          rw [g3, mem3, List.take_add_one, hkey]
          simp only [List.mem_append, Option.toList_some, List.mem_singleton]
          constructor
          · rintro ((z | z) | z)
            · exact .inl z
            · exact .inr (.inl z)
            · exact .inr (.inr z)
          · rintro (z | z | z)
            · exact .inl (.inl z)
            · exact .inl (.inr z)
            · exact .inr z
        · rintro σ H3 ⟨⟨x8, rfl⟩, s3, ys3, hys3, nd3, mem3⟩
          rw [List.length_map, List.take_length] at mem3
          have e0 : (((runW sg R st (y.cps.toList.take (i + 1))).1 : Nat) : Int) = wy.1 := by
            rw [hrun2]
            exact Int.toNat_of_nonneg hnn
          refine ⟨⟨some (.int (i : Nat)), some (.str (Froz.sing c)), some (.ref b), some (.ref kv), x8, by rw [e0]⟩, s3, ⟨ys3, hys3, nd3, ?_⟩, fun j' c' lt hc' => ?_⟩
          · rw [hrun2]
            exact mem3
          · by_cases e : j' < i
            · exact g1 j' c' e hc'
            · have e : j' = i := by omega
              subst e
              rw [hc] at hc'
              cases hc'
              exact cm
      · obtain ⟨d, kvs, ewv, hd, hv⟩ := dict_at pw (by omega : rn.1 < rv.length) cm
        have dg : DGet H2 d (.str (Froz.sing c)) none := by
          have z := DGet.k (k := lk c) (s2 _ _ hd)
          rw [hv] at z
          exact z
        refine ⟨_, rfl, rfl, SqT.of (s2 _ _ hw0), atI_nat ewv, d, rfl, .inl ⟨kvs, .inl (s2 _ _ hd)⟩, _, rfl, none, dg, ?_⟩
        refine ⟨_, rfl, rfl, _, rfl, iteT ?_⟩
        refine ⟨_, rfl, ?_⟩
        exact rsE rfl (by show 1 ≤ 1000; decide) (fun u hu => .inl ⟨_, List.mem_singleton.mp hu⟩) fun dx5 H5 hd5 s5 h5 => bad i c dx5 H5 hc cm g1 (s2.free hd5) (fun b o e => s5 _ _ (s2 _ _ e)) h5
    · rintro σ H1 ⟨⟨x4, x5, x6, x7, x8, rfl⟩, s1, ⟨ys, hys, nd, mem⟩, g1⟩
      have el : y.cps.toList.take y.cps.size = y.cps.toList := List.take_of_length_le (by simp)
      rw [el] at mem ⊢
      obtain ⟨run1, run2⟩ := F.run hst y.cps.toList
      have inn : ∀ c ∈ y.cps.toList, c ∈ sg.cps.toList := fun c hc => by
        obtain ⟨j, hj⟩ := List.getElem?_of_mem hc
        rw [Array.getElem?_toList] at hj
        exact g1 j c (Array.getElem?_eq_some_iff.mp hj).1 hj
      have l2 := F.size
      rw [List.length_append] at l2
      have l1 : ys.length ≤ (keysOfRows R).length := nd_sub_len nd fun x hx => run2 x ((mem x).mp hx)
      refine ⟨_, rfl, _, rfl, D, _, rfl, hys, fun q hq => ?_⟩
      have e1 : (gotK ys).map (fun kv => kV kv.1) = ys.map V.str := by
        unfold gotK
        rw [List.map_map]
        rfl
      rw [e1]
      refine ⟨.ref q, ys, rfl, .list (SqL.of upd_same), by omega, fun p2 H2 hp2 s2 h2 => ?_⟩
      refine ⟨by show 2 ≤ sizeLine; decide, fun t ht => ?_⟩
      rw [kl_congr mem] at h2
      exact good inn t p2 _ (fun b o z => Same.upd ht _ _ (s2 _ _ (Same.upd hq _ _ (s1 _ _ z)))) upd_same (Same.upd ht _ _ h2)
end
end Kx

namespace Kx
open PySem L2 Own
section
variable {P : Program} {w : World} {K : PySem.W.Frag} {mg : Str → Option Value} {base : Heap} {A : EAd} {B : MAd} {Z : CAd} {S : SAd}
def keysW (sg : Str) (R : List (List Way)) (Es : List (List Str)) (cs : List Nat) : List Str := kl ((runW sg R 0 cs).2 ++ Es.getD (runW sg R 0 cs).1 [])
/-- self.keys_of(text), self.after(text) -/
def spAsk (Z : CAd) (S : SAd) (ans : Str → List (List Way) → List (List Str) → Str → Hp → V → Prop) : Sp := fun vs H Q E => ∃ (m : Addr) (y sg : Str) (R : List (List Way)) (Es : List (List Str)), vs = [.ref m, .str y] ∧ MachAt Z.C H m sg R Es ∧ Full sg R Es ∧
  ((∀ c ∈ y.cps.toList, c ∈ sg.cps.toList) → ∀ v H', Same H H' → ans sg R Es y H' v → Q v H') ∧
  (∀ (i : Nat) (c : Nat) (d : Addr) H', y.cps[i]? = some c → c ∉ sg.cps.toList → (∀ (j : Nat) c', j < i → y.cps[j]? = some c' → c' ∈ sg.cps.toList) → H d = none → Same H H' → H' d = some (.xd [("place", .int i)]) → E (.ref S.c) (some d) H')
def ansKeys (sg : Str) (R : List (List Way)) (Es : List (List Str)) (y : Str) (H : Hp) (v : V) : Prop := KeysT H v (keysW sg R Es y.cps.toList)
def ansState (sg : Str) (R : List (List Way)) (Es : List (List Str)) (y : Str) (H : Hp) (v : V) : Prop := v = .int (runW sg R 0 y.cps.toList).1
theorem sc_keys_of : FnScope ["self", "text", "state", "given"] ["self", "text"] (defScope s_Machine_keys_of) := ⟨rfl, rfl, rfl, by decide +kernel, rfl, by decide +kernel, by decide +kernel⟩
theorem ok_keys_of (T : TxtM K mg B) (TE : TxtE K mg A) (TC : TxtC K mg Z) (TS : TxtS K mg A Z S) : FnOk P w K mg base (L2.CX P w) 5 S.fk S.dk ["self", "text"] (spAsk Z S ansKeys) := by
  have sc := sc_keys_of
  have G_walk : FnOk P w K mg base (L2.CX P w) 4 S.fw S.dw ["self", "state", "text"] (spWalk Z S) := ok_walk T TE TC TS
  have G_key_list : FnOk P w K mg base CX0 1 B.f2 B.d2 ["given"] (spKl K) := ok_key_list T
  refine TS.F_keys_of.okX sc (fun vs H Q E h => ?_) (fun cdv A1 outer s H vs Q E hr h => ?_)
  · obtain ⟨_, _, _, _, _, rfl, _⟩ := h; rfl
  · obtain ⟨m, y, sg, R, Es, rfl, hm, F, good, bad⟩ := h
    refine ⟨_, (pss_cons (ps_asg (pe_meth (pv 0) TC.cl TS.M_walk G_walk (hr.mono (by decide)) TS.b_walk .nil (passes_call (takes_of rfl rfl rfl rfl) fun _ _ _ _ h => h) (pa_cons pe_int (pa_cons (pv 1) pa_nil))) (pg_tup rfl (pgs_cons (pg_name (i := 2) sc.nd rfl (Or.inl rfl)) (pgs_cons (pg_name (i := 3) sc.nd rfl (Or.inl rfl)) pgs_nil))))
      (pss_one (ps_ret (pe_call G_key_list (hr.mono (by decide)) rfl T.D_key_list.g T.D_key_list.F.kp T.D_key_list.b .nil pass0 (pa_cons (pe_lst (StX.pa_star (pv 3) (StX.pa_star (pe_ix ix_tup (pe_fld (pv 0) rfl) (pv 2) (fun _ _ => rfl)) pa_nil))) pa_nil))))), ?_⟩
    have hm' := hm
    obtain ⟨dx, r, e, k, w5, rv, ev, wv, hm0, hr0, pr, he0, pe, hk0, hw0, pw⟩ := hm'
    refine ⟨_, rfl, m, dx, _, rfl, hm0, rfl, _, rfl, m, 0, y, sg, R, Es, rfl, hm, F, F.pos, fun inn p k2 H1 s1 h1 h2 => ?_, bad⟩
    obtain ⟨run1, run2⟩ := F.run F.pos y.cps.toList
    replace good := good inn
    have ee := F.ends
    have le : ev.length = Es.length := Paired.length pe
    have hev : ev[(runW sg R 0 y.cps.toList).1]? = some (ev[(runW sg R 0 y.cps.toList).1]'(by omega)) := List.getElem?_eq_getElem (by omega)
    obtain ⟨ks, hks, a, eka, ha⟩ := pat pe hev
    rw [eka] at hev
    have ek : Es.getD (runW sg R 0 y.cps.toList).1 [] = ks := by rw [List.getD_eq_getElem?_getD, hks]; rfl
    refine ⟨p, _, rfl, SqT.of h1, rfl, _, _, rfl, _, _, rfl, rfl, ?_⟩
    refine ⟨_, rfl, k2, _, rfl, .inl (SqT.of h2), ?_⟩
    refine ⟨_, rfl, m, Z.C, dx, _, _, rfl, s1 _ _ hm0, TC.cl, TC.a3, rfl, _, rfl, e, ev, _, _, rfl, rfl, SqT.of (s1 _ _ he0), atI_nat hev, a, _, rfl, .inl (SqT.of (s1 _ _ ha)), ?_⟩
    have l0 : (kl (runW sg R 0 y.cps.toList).2).length ≤ (keysOfRows R).length := nd_sub_len (kl_nodup _) fun x hx => run2 x (kl_mem.mp hx)
    have l1 : ks.length ≤ Es.flatten.length := by
      have := flat_le id hks
      rw [List.flatMap_id, List.flatMap_id] at this
      have : (id ks).length = ks.length := rfl
      omega
    have l2 := F.size
    rw [List.length_append] at l2
    have eL : (kl (runW sg R 0 y.cps.toList).2).map V.str ++ (ks.map V.str ++ []) = (kl (runW sg R 0 y.cps.toList).2 ++ ks).map V.str := by simp
    refine ⟨?_, fun l hl => ?_⟩
    · show ((kl (runW sg R 0 y.cps.toList).2).map V.str ++ (ks.map V.str ++ [])).length ≤ sizeLine
      rw [eL, List.length_map, List.length_append]
      exact Nat.le_of_lt (bound_line (by omega))
    refine ⟨.ref l, _, rfl, .list (SqL.of (upd_same.trans (congrArg (fun z => some (HO.lst z)) eL))), by rw [List.length_append]; omega, fun q H3 hq s3 h3 => ?_⟩
    refine good _ _ (fun b o z => s3 _ _ (Same.upd hl _ _ (s1 _ _ z))) ⟨q, rfl, ?_⟩
    have ek2 : kl (kl (runW sg R 0 y.cps.toList).2 ++ ks) = keysW sg R Es y.cps.toList := by
      unfold keysW
      rw [ek]
      exact kl_congr fun x => by rw [List.mem_append, List.mem_append, kl_mem]
    rw [← ek2]
    exact h3
end
end Kx

namespace Kx
open PySem L2 Own
abbrev s_many_of : Stmt := top 38
abbrev s_many_below : Stmt := top 39
abbrev s_texts_of : Stmt := top 40
abbrev s_texts_below : Stmt := top 41
structure FAd where
  fo : Addr
  fb : Addr
  ft : Addr
  fw : Addr
  dO : FuncData
  db : FuncData
  dt : FuncData
  dw : FuncData
structure TxtF (K : PySem.W.Frag) (mg : Str → Option Value) (F : FAd) : Prop where
  D_many_of : DefT K mg "many_of" "many_of" s_many_of ["many", "length"] F.fo F.dO
  D_many_below : DefT K mg "many_below" "many_below" s_many_below ["many", "length"] F.fb F.db
  D_texts_of : DefT K mg "texts_of" "texts_of" s_texts_of ["signs", "length"] F.ft F.dt
  D_texts_below : DefT K mg "texts_below" "texts_below" s_texts_below ["signs", "length"] F.fw F.dw
  n_range : mg "range" = none
  n_sum : mg "sum" = none
/-! ### numbers of texts, and texts -/
def below (m n : Nat) : Nat := ((List.range n).map fun k => m ^ k).sum
def textsOf (sg : Str) : Nat → List Str
  | 0 => [""]
  | n + 1 => (textsOf sg n).flatMap fun t => sg.cps.toList.map fun c => t ++ Froz.sing c
def textsBelow (sg : Str) (n : Nat) : List Str := (List.range n).flatMap (textsOf sg)
section
variable {P : Program} {w : World} {K : PySem.W.Frag} {mg : Str → Option Value} {base : Heap} {F : FAd}
def spOf : Sp := fun vs H Q _ => ∃ m n : Nat, vs = [.int m, .int n] ∧ m ≤ 4 ∧ n ≤ 17 ∧ Q (.int ((m ^ n : Nat) : Int)) H
theorem sc_of : FnScope ["many", "length", "texts", "_"] ["many", "length"] (defScope s_many_of) := ⟨rfl, rfl, rfl, by decide +kernel, rfl, by decide +kernel, by decide +kernel⟩
theorem pow_small {m n i : Nat} (h : m ≤ 4) (hn : n ≤ 17) (hi : i < n) : m ^ i ≤ 4294967296 := by
  have a := Nat.pow_le_pow_left h i
  have b := Nat.pow_le_pow_right (n := 4) (by decide) (show i ≤ 16 by omega)
  have c : (4 : Nat) ^ 16 ≤ 4294967296 := by decide
  omega
theorem ok_of (T : TxtF K mg F) : FnOk P w K mg base CX0 1 F.fo F.dO ["many", "length"] spOf := by
  have sc := sc_of
  refine T.D_many_of.F.ok sc (fun vs H Q E h => ?_) (fun cdv A1 outer s H vs Q E hr h => ?_)
  · obtain ⟨_, _, rfl, _⟩ := h; rfl
  · obtain ⟨m, n, rfl, m4, n12, k⟩ := h
    refine ⟨_, (pss_cons (ps_set (i := 2) sc.nd rfl (Or.inl rfl) pe_int)
      (pss_cons (ps_for PassesOwn.never rfl (pi_range1 rfl T.n_range (pa_cons (pv 1) pa_nil)) (pg_name (i := 3) sc.nd rfl (Or.inl rfl)) (pss_one (ps_set (i := 2) sc.nd rfl (Or.inl rfl) (pe_op op_mulN (pv 2) (pv 0)))))
      (pss_one (ps_ret (pv 2))))), ?_⟩
    refine ⟨_, rfl, _, rfl, by omega, by omega, ?_⟩
    rw [Int.toNat_natCast]
    refine for_range (lo := 0) (n := n) (fun i σ H' => H' = H ∧ ∃ o3 : Option V, σ = [some (.int m), some (.int n), some (.int ((m ^ i : Nat) : Int)), o3]) ⟨rfl, none, rfl⟩ ?_ ?_
    · rintro i σ H' hi ⟨rfl, o3, rfl⟩
      refine ⟨_, rfl, _, rfl, _, _, rfl, rfl, pow_small m4 n12 hi, rfl, some (.int (0 + (i : Nat))), ?_⟩
      rw [Nat.pow_succ]
      rfl
    · rintro σ H' ⟨rfl, o3, rfl⟩
      exact ⟨_, rfl, k⟩
def spBelow : Sp := fun vs H Q _ => ∃ m n : Nat, vs = [.int m, .int n] ∧ m ≤ 4 ∧ n ≤ 17 ∧ ∀ H', Same H H' → Q (.int ((below m n : Nat) : Int)) H'
abbrev Nmb : List Str := ["many", "length", "shorter"]
theorem sc_below : FnScope Nmb ["many", "length"] (defScope s_many_below) := ⟨rfl, rfl, rfl, by decide +kernel, rfl, by decide +kernel, by decide +kernel⟩
theorem sum_nat : ∀ l : List Nat, (l.map fun x : Nat => (x : Int)).sum = ((l.sum : Nat) : Int)
  | [] => rfl
  | x :: l => by rw [List.map_cons, List.sum_cons, List.sum_cons, sum_nat l, Int.natCast_add]
theorem ok_below (T : TxtF K mg F) : FnOk P w K mg base CX0 2 F.fb F.db ["many", "length"] spBelow := by
  have sc := sc_below
  have G_of : FnOk P w K mg base CX0 1 F.fo F.dO ["many", "length"] spOf := ok_of T
  refine T.D_many_below.F.ok sc (fun vs H Q E h => ?_) (fun cdv A1 outer s H vs Q E hr h => ?_)
  · obtain ⟨_, _, rfl, _⟩ := h; rfl
  · obtain ⟨m, n, rfl, m4, n12, k⟩ := h
    refine ⟨_, (pss_one (ps_ret (pe_callB (cr_sum rfl) (by rfl) T.n_sum (by decide +kernel) (pa_cons (pe_lc (own := [("shorter", 2)]) (g := gName 2) (tt := tYes) (te := tCall spOf [] E0 (tCons (tVar 0) (tCons (tVar 2) tNil))) rfl sc.nd (pi_range1 rfl T.n_range (pa_cons (pv 1) pa_nil)) (blkOk_by (N := Nmb) (sc := defScope s_many_below) (own := [("shorter", 2)]) (by decide +kernel)) (fun _ _ _ _ _ => (pg_name (i := 2) sc.nd rfl (Or.inl rfl))) (fun _ _ _ _ _ => pts_nil) (fun _ _ _ _ _ => (pe_call G_of (hr.mono (by decide)) rfl T.D_many_of.g T.D_many_of.F.kp T.D_many_of.b .nil pass0 (pa_cons (pv 0) (pa_cons (pv 2) pa_nil))))) pa_nil)))), ?_⟩
    refine ⟨_, rfl, _, rfl, by omega, by omega, fun D hD => ?_⟩
    rw [Int.toNat_natCast]
    refine lc_range (lo := 0) (n := n) (fun i H' => Same H H' ∧ H' D = some (.lst (((List.range i).map fun k => ((m ^ k : Nat) : Int)).map V.int))) ⟨Same.upd hD, upd_same⟩ ?_ ?_
    · rintro i H' hi ⟨s1, h1⟩
      refine ⟨rfl, _, rfl, _, rfl, m, i, ?_, m4, by omega, _, h1, ?_, ?_, ?_⟩
      · rw [Int.zero_add]; rfl
      · rw [List.length_map, List.length_map, List.length_range, sizeLine_eq]; omega
      · intro b o z
        rw [upd_ne (ne_of_none z hD)]; exact s1 _ _ z
      · rw [upd_same, List.range_succ, List.map_append, List.map_append]
        rfl
    · rintro H' ⟨s1, h1⟩
      refine ⟨D, _, rfl, SqL.of h1, ?_⟩
      have e : ((List.range n).map fun k => ((m ^ k : Nat) : Int)).sum = ((below m n : Nat) : Int) := by
        unfold below
        rw [← sum_nat, List.map_map]
        rfl
      rw [e]
      exact k _ s1
def spTexts : Sp := fun vs H Q _ => ∃ (sg : Str) (n : Nat), vs = [.str sg, .int n] ∧ sg.cps.size ≤ 4 ∧ n ≤ 17 ∧ (∀ j, j ≤ n → (textsOf sg j).length ≤ 100) ∧ ∀ q H', Same H H' → H q = none → H' q = some (.lst ((textsOf sg n).map V.str)) → Q (.ref q) H'
abbrev Nto : List Str := ["signs", "length", "texts", "_", "text", "sign"]
theorem sc_texts : FnScope Nto ["signs", "length"] (defScope s_texts_of) := ⟨rfl, rfl, rfl, by decide +kernel, rfl, by decide +kernel, by decide +kernel⟩
theorem texts_len {sg : Str} : ∀ {n : Nat} {t : Str}, t ∈ textsOf sg n → t.length = n
  | 0, t, h => by rw [List.mem_singleton.mp h]; rfl
  | n + 1, t, h => by
    obtain ⟨u, hu, h⟩ := List.mem_flatMap.mp h
    obtain ⟨c, _, rfl⟩ := List.mem_map.mp h
    have := texts_len hu
    rw [TL.len_tl, TL.tl_append, List.length_append, ← TL.len_tl, this]
    rfl
theorem fm_le {α : Type} (f : α → List Str) (m : Nat) : ∀ {l : List α}, (∀ x ∈ l, (f x).length ≤ m) → (l.flatMap f).length ≤ m * l.length
  | [], _ => by simp
  | x :: l, h => by
    have := fm_le f m fun y hy => h y (List.mem_cons_of_mem _ hy)
    have := h x List.mem_cons_self
    rw [List.flatMap_cons, List.length_append, List.length_cons, Nat.mul_succ]
    omega
theorem fm_len {α : Type} {f : α → Nat → Str} {xs : List Nat} : ∀ l : List α, (l.flatMap fun t => xs.map (f t)).length = l.length * xs.length
  | [] => by simp
  | x :: l => by rw [List.flatMap_cons, List.length_append, fm_len l, List.length_map, List.length_cons, Nat.succ_mul, Nat.add_comm]
theorem ok_texts (T : TxtF K mg F) : FnOk P w K mg base CX0 1 F.ft F.dt ["signs", "length"] spTexts := by
  have sc := sc_texts
  refine T.D_texts_of.F.ok sc (fun vs H Q E h => ?_) (fun cdv A1 outer s H vs Q E hr h => ?_)
  · obtain ⟨_, _, rfl, _⟩ := h; rfl
  · obtain ⟨sg, n, rfl, z4, n12, few, k⟩ := h
    refine ⟨_, (pss_cons (ps_set (i := 2) sc.nd rfl (Or.inl rfl) (pe_lst (pa_cons pe_str pa_nil)))
      (pss_cons (ps_for PassesOwn.never rfl (pi_range1 rfl T.n_range (pa_cons (pv 1) pa_nil)) (pg_name (i := 3) sc.nd rfl (Or.inl rfl)) (pss_one (ps_setLcN (i := 2) (own := [("text", 4), ("sign", 5)]) (vs1 := [5]) (g := gName 4) (tt := tYes) (t := tFor (iStr (tVar 0)) (gName 5) tYes [5] (tEmit (tOp rCatS (tVar 4) (tVar 5)))) rfl sc.nd rfl rfl (sw_true rfl rfl rfl (by decide +kernel)) (pi_list (pv 2)) (blkOk_by (N := Nto) (sc := defScope s_texts_of) (own := [("text", 4), ("sign", 5)]) (by decide +kernel)) (.inr ⟨_, _, _, rfl⟩) (by decide)
        (fun _ _ _ _ _ => (pg_name (i := 4) sc.nd rfl (Or.inl rfl))) (fun _ _ _ _ _ => pts_nil)
        (fun _ _ _ _ _ D => does_for rfl (.inl rfl) rfl rfl (pi_str (pv 0)) (fun _ => rfl) (pg_name (i := 5) sc.nd rfl (Or.inl rfl)) pts_nil (does_emit rfl rfl (pe_op op_add_str (pv 4) (pv 5))) (by decide)))))
      (pss_one (ps_ret (pv 2))))), ?_⟩
    refine ⟨by show 1 ≤ sizeLine; decide, fun q0 hq0 => ?_⟩
    refine ⟨_, rfl, _, rfl, by omega, by omega, ?_⟩
    rw [Int.toNat_natCast]
    refine for_range (lo := 0) (n := n) (fun i σ H' => Same H H' ∧ ∃ (q : Addr) (o3 : Option V), σ = [some (.str sg), some (.int n), some (.ref q), o3, none, none] ∧ H q = none ∧ H' q = some (.lst ((textsOf sg i).map V.str))) ⟨Same.upd hq0, q0, none, rfl, hq0, upd_same⟩ ?_ ?_
    · rintro i σ H1 hi ⟨s1, q, o3, rfl, nq, hq⟩
      refine ⟨_, rfl, q, rfl, ⟨_, SqL.of hq⟩, fun D hD => ?_⟩
      have nD : H D = none := by
        cases e : H D with
        | none => rfl
        | some o => rw [s1 _ _ e] at hD; cases hD
      have put : ∀ {H' : Hp} {xs : List V}, Same H1 H' → Same H1 (upd H' D (.lst xs)) := fun {H' xs} s2 b o e => by rw [upd_ne (ne_of_none e hD)]; exact s2 b o e
      refine lp_it [some (.str sg), some (.int n), some (.ref q), some (.int (0 + (i : Nat))), none, none] rfl walk_list (fun a H' => Same H1 H' ∧ H' D = some (.lst ((((textsOf sg i).take a).flatMap fun t => sg.cps.toList.map fun c => t ++ Froz.sing c).map V.str))) ⟨Same.upd hD, upd_same⟩ (fun a H' _ z => SqL.of (z.1 _ _ hq)) ?_ ?_
      · rintro a x H2 _ ha ⟨s2, h2⟩ ⟨rfl, hx⟩
        rw [List.getElem?_map] at hx
        obtain ⟨t, ht, rfl⟩ := Option.map_eq_some_iff.mp hx
        refine ⟨rfl, _, rfl, sg, rfl, ?_⟩
        refine lp_it [some (.str sg), some (.int n), some (.ref q), some (.int (0 + (i : Nat))), some (.str t), none] rfl walk_str (fun b H' => Same H1 H' ∧ H' D = some (.lst (((((textsOf sg i).take a).flatMap fun t => sg.cps.toList.map fun c => t ++ Froz.sing c) ++ (sg.cps.toList.take b).map fun c => t ++ Froz.sing c).map V.str))) ⟨s2, by simpa using h2⟩ (fun _ _ _ _ => trivial) ?_ ?_
        · rintro b y H3 _ hb ⟨s3, h3⟩ ⟨rfl, c, hc, rfl⟩
          have tl := texts_len (List.mem_of_getElem? ht)
          have f1 := few i (by omega)
          refine ⟨rfl, _, rfl, _, rfl, t, _, rfl, rfl, by rw [tl, sizeLine_eq]; show i + 1 ≤ _; omega, _, h3, ?_, put s3, ?_⟩
          · simp only [List.length_map, List.length_append, fm_len, List.length_take, Array.length_toList]
            rw [sizeLine_eq]
            have h1 : min a (textsOf sg i).length * sg.cps.size ≤ 100 * 4 := Nat.mul_le_mul (by omega) z4
            omega
          · have hc' : sg.cps.toList[b]? = some c := by rw [Array.getElem?_toList]; exact hc
            rw [upd_same, List.take_add_one, hc', Option.toList_some, List.map_append, List.map_append, List.map_append, List.map_append, List.append_assoc]
            rfl
        · rintro H3 ⟨s3, h3⟩
          refine ⟨s3, ?_⟩
          have e0 : sg.cps.toList.take sg.cps.size = sg.cps.toList := List.take_of_length_le (by rw [Array.length_toList]; exact Nat.le_refl _)
          rw [e0] at h3
          rw [h3, List.take_add_one, ht, Option.toList_some, List.flatMap_append, List.flatMap_cons, List.flatMap_nil, List.append_nil]
      · rintro H2 ⟨s2, h2⟩
        rw [List.length_map, List.take_length] at h2
        exact ⟨fun b o z => s2 _ _ (s1 _ _ z), D, _, rfl, nD, h2⟩
    · rintro σ H1 ⟨s1, q, o3, rfl, nq, hq⟩
      exact ⟨_, rfl, k q H1 s1 nq hq⟩
def spTextsB : Sp := fun vs H Q _ => ∃ (sg : Str) (n : Nat), vs = [.str sg, .int n] ∧ sg.cps.size ≤ 4 ∧ n ≤ 17 ∧ (∀ j, j < n → (textsOf sg j).length ≤ 100) ∧ ∀ q H', Same H H' → H q = none → H' q = some (.lst ((textsBelow sg n).map V.str)) → Q (.ref q) H'
abbrev Ntb : List Str := ["signs", "length", "shorter", "text"]
theorem sc_tb : FnScope Ntb ["signs", "length"] (defScope s_texts_below) := ⟨rfl, rfl, rfl, by decide +kernel, rfl, by decide +kernel, by decide +kernel⟩
theorem ok_tb (T : TxtF K mg F) : FnOk P w K mg base CX0 2 F.fw F.dw ["signs", "length"] spTextsB := by
  have sc := sc_tb
  have G_texts : FnOk P w K mg base CX0 1 F.ft F.dt ["signs", "length"] spTexts := ok_texts T
  refine T.D_texts_below.F.ok sc (fun vs H Q E h => ?_) (fun cdv A1 outer s H vs Q E hr h => ?_)
  · obtain ⟨_, _, rfl, _⟩ := h; rfl
  · obtain ⟨sg, n, rfl, z4, n12, few, k⟩ := h
    refine ⟨_, (pss_one (ps_ret (pe_lcN (own := [("shorter", 2), ("text", 3)]) (vs1 := [3]) (g := gName 2) (tt := tYes) (t := tFor (iList K (tCall spTexts [] E0 (tCons (tVar 0) (tCons (tVar 2) tNil)))) (gName 3) tYes [3] (tEmit (tVar 3))) rfl sc.nd (pi_range1 rfl T.n_range (pa_cons (pv 1) pa_nil)) (blkOk_by (N := Ntb) (sc := defScope s_texts_below) (own := [("shorter", 2), ("text", 3)]) (by decide +kernel)) (.inr ⟨_, _, _, rfl⟩) (by decide)
        (fun _ _ _ _ _ => (pg_name (i := 2) sc.nd rfl (Or.inl rfl))) (fun _ _ _ _ _ => pts_nil)
        (fun _ _ _ _ _ D => does_for rfl (.inl rfl) rfl rfl (pi_list (pe_call G_texts (hr.mono (by decide)) rfl T.D_texts_of.g T.D_texts_of.F.kp T.D_texts_of.b .nil pass0 (pa_cons (pv 0) (pa_cons (pv 2) pa_nil)))) (fun _ => rfl) (pg_name (i := 3) sc.nd rfl (Or.inl rfl)) pts_nil (does_emit rfl rfl (pv 3)) (by decide))))), ?_⟩
    refine ⟨_, rfl, _, rfl, by omega, by omega, fun D hD => ?_⟩
    rw [Int.toNat_natCast]
    have put : ∀ {H' : Hp} {xs : List V}, Same H H' → Same H (upd H' D (.lst xs)) := fun {H' xs} s2 b o e => by rw [upd_ne (ne_of_none e hD)]; exact s2 b o e
    refine lp_it [some (.str sg), some (.int n), none, none] rfl walk_range (fun a H' => Same H H' ∧ H' D = some (.lst (((List.range a).flatMap (textsOf sg)).map V.str))) ⟨Same.upd hD, upd_same⟩ (fun _ _ _ _ => trivial) ?_ ?_
    · rintro a x H1 _ ha ⟨s1, h1⟩ ⟨rfl, rfl⟩
      refine ⟨rfl, _, rfl, _, rfl, sg, a, by show [V.str sg, V.int (0 + (a : Nat))] = _; rw [Int.zero_add], z4, by omega, fun j hj => few j (by omega), fun q H2 s2 nq hq => ?_⟩
      have nqD : q ≠ D := fun e => by rw [e, h1] at nq; cases nq
      refine ⟨q, rfl, ⟨_, SqL.of hq⟩, ?_⟩
      refine lp_it [some (.str sg), some (.int n), some (.int (0 + (a : Nat))), none] rfl walk_list (fun b H' => (∀ c o, H c = some o → H' c = some o) ∧ H' q = some (.lst ((textsOf sg a).map V.str)) ∧ H' D = some (.lst (((List.range a).flatMap (textsOf sg) ++ (textsOf sg a).take b).map V.str))) ⟨fun c o z => s2 _ _ (s1 _ _ z), hq, by rw [List.take_zero, List.append_nil]; exact s2 _ _ h1⟩ (fun b H' _ z => SqL.of z.2.1) ?_ ?_
      · rintro b y H3 _ hb ⟨s3, q3, h3⟩ ⟨rfl, hy⟩
        rw [List.getElem?_map] at hy
        obtain ⟨t, ht, rfl⟩ := Option.map_eq_some_iff.mp hy
        refine ⟨rfl, _, rfl, _, h3, ?_, put s3, by rw [upd_ne nqD]; exact q3, ?_⟩
        · have l1 := fm_le (textsOf sg) 100 (l := List.range a) fun x hx => few x (by have := List.mem_range.mp hx; omega)
          have l2 := few a ha
          simp only [List.length_map, List.length_append, List.length_take, List.length_range] at l1 ⊢
          rw [sizeLine_eq]
          omega
        · rw [upd_same, List.take_add_one, ht, Option.toList_some, List.map_append, List.map_append, List.map_append, List.append_assoc]
          rfl
      · rintro H3 ⟨s3, q3, h3⟩
        rw [List.length_map, List.take_length] at h3
        refine ⟨s3, ?_⟩
        rw [h3, List.range_succ, List.flatMap_append, List.flatMap_cons, List.flatMap_nil, List.append_nil]
    · rintro H1 ⟨s1, h1⟩
      exact k D H1 s1 hD h1
end
end Kx

/-! Functions that are handed on: the cells of a waiting frame stand still, each with its object. -/
namespace PinX
open PySem PySem.Spec PyProof.Rows L2 LamX NdefX
/-- the object at c is o -/
def PinO (c : Addr) (o : Obj) : HO := .ext fun h => h.get? c = some o
/-- the heap without these -/
def unp (cs : List Addr) (H : Hp) : Hp := fun b => if b ∈ cs then none else H b
/-- H1, these as in H -/
def rep (cs : List Addr) (H H1 : Hp) : Hp := fun b => if b ∈ cs then H b else H1 b
/-- these stand still in H -/
def Pinned (cs : List Addr) (H : Hp) : Prop := ∀ c ∈ cs, ∃ o, H c = some (PinO c o)
theorem unp_in {cs : List Addr} {H : Hp} {b : Addr} (h : b ∈ cs) : unp cs H b = none := if_pos h
theorem unp_out {cs : List Addr} {H : Hp} {b : Addr} (h : b ∉ cs) : unp cs H b = H b := if_neg h
theorem rep_in {cs : List Addr} {H H1 : Hp} {b : Addr} (h : b ∈ cs) : rep cs H H1 b = H b := if_pos h
theorem rep_out {cs : List Addr} {H H1 : Hp} {b : Addr} (h : b ∉ cs) : rep cs H H1 b = H1 b := if_neg h
theorem Pinned.out {cs : List Addr} {H : Hp} (p : Pinned cs H) {b : Addr} {o : HO} (e : H b = some o) (n : ∀ c u, o ≠ PinO c u) : b ∉ cs := fun hb => by
  obtain ⟨u, z⟩ := p b hb
  rw [e] at z
  exact n _ _ (Option.some.inj z)
theorem Pinned.none {cs : List Addr} {H : Hp} (p : Pinned cs H) {b : Addr} (e : H b = none) : b ∉ cs := fun hb => by
  obtain ⟨u, z⟩ := p b hb
  rw [e] at z
  cases z
/-- what held goes on to hold where the heaps agree on all but ext's -/
theorem hok_less {P : Program} {w : World} {cs : List Addr} {H : Hp} {h : Heap} (p : Pinned cs H) (k : HOk P w H h) : HOk P w (unp cs H) h := fun a o e => by
  by_cases ha : a ∈ cs
  · rw [unp_in ha] at e; cases e
  · rw [unp_out ha] at e
    refine (k a o e).stay (fun _ _ _ q => q) (fun b q => ?_) fun b xs q => ?_
    · rw [unp_out (p.out q fun c u z => by cases z)]; exact q
    · rw [unp_out (p.out q fun c u z => by cases z)]; exact q
theorem hok_more {P : Program} {w : World} {cs : List Addr} {H H1 : Hp} {h' : Heap} (p : Pinned cs H) (n : ∀ c ∈ cs, H1 c = none) (z : ∀ c ∈ cs, ∀ o, H c = some (PinO c o) → h'.get? c = some o) (k : HOk P w H1 h') : HOk P w (rep cs H H1) h' := fun a o e => by
  by_cases ha : a ∈ cs
  · rw [rep_in ha] at e
    obtain ⟨u, hu⟩ := p a ha
    rw [hu] at e
    cases e
    have hz := z a ha u hu
    exact ⟨hz, ⟨u, hz⟩, fun h1 h2 q st => st _ q⟩
  · rw [rep_out ha] at e
    have out : ∀ {b : Addr} {u : HO}, H1 b = some u → b ∉ cs := fun {b u} q hb => by
      rw [n b hb] at q; cases q
    refine (k a o e).stay (fun _ _ _ q => q) (fun b q => ?_) fun b xs q => ?_
    · rw [rep_out (out q)]; exact q
    · rw [rep_out (out q)]; exact q
section
variable {P : Program} {w : World} {K : PySem.W.Frag} {mg : Str → Option Value} {base : Heap} {A : Around} {outer : List Env} {s : Shared} {H : Hp} {cs : List Addr}
/-- the callee's start, without the pins -/
theorem env_less (p : Pinned cs H) (e : Env0 P w K mg base A outer s H) : Env0 P w K mg base A outer s (unp cs H) :=
  ⟨e.frames, e.mod, fun b o q => ⟨(e.bs b o q).1, by rw [unp_out (p.none (e.bs b o q).2)]; exact (e.bs b o q).2⟩, e.bsz, e.funs, fun b hb => by rw [unp_out (p.none (e.frf b hb))]; exact e.frf b hb, hok_less p e.hok, e.bare⟩
/-- the callee's end, with the pins again -/
theorem ce_more {Q : VK} {u : Value} {s' : Shared} (p : Pinned cs H) (e : Env0 P w K mg base A outer s H) (h : CE outer P w (unp cs H) s (fun v H1 => (∀ c ∈ cs, H1 c = none) → Q v (rep cs H H1)) u s') : CE outer P w H s Q u s' := by
  obtain ⟨v, H1, os, bare, un, hok, r, q⟩ := h
  have at_ : ∀ c ∈ cs, ∀ o, H c = some (PinO c o) → s.heap.get? c = some o := fun c hc o z => (e.hok c _ z).1
  have ex : ∀ c ∈ cs, ∃ o, s.heap.get? c = some o := fun c hc => by
    obtain ⟨o, z⟩ := p c hc
    exact ⟨o, at_ c hc o z⟩
  have n1 : ∀ c ∈ cs, H1 c = none := fun c hc => by
    obtain ⟨o, z⟩ := ex c hc
    exact un.free c o z (unp_in hc) (by simp)
  have nf : ∀ c ∈ cs, c ∉ frs outer := fun c hc hb => by
    obtain ⟨o, z⟩ := p c hc
    rw [e.frf c hb] at z
    cases z
  have st : ∀ c ∈ cs, ∀ o, H c = some (PinO c o) → s'.heap.get? c = some o := fun c hc o z => un.keep c o (at_ c hc o z) (unp_in hc) (nf c hc) (by simp)
  have mid : ∀ {b : Addr} {u : HO}, (∀ c v, u ≠ PinO c v) → H b = some u → b ∉ cs ∧ unp cs H b = some u := fun {b u} n z => ⟨p.out z n, by rw [unp_out (p.out z n)]; exact z⟩
  refine ⟨v, rep cs H H1, os, bare, ⟨fun b o z n hf hx => ?_, fun b o z n hf hx => ?_, fun b o z n hx => ?_, un.there, fun b xs z => ?_, fun b o u z => ?_, fun b ps z => ?_⟩, hok_more p n1 st hok, r, q n1⟩
  · exact un.keep b o z (by rw [unp_out (p.none n)]; exact n) hf hx
  · exact un.slot b o z (by rw [unp_out (p.none n)]; exact n) hf hx
  · rw [rep_out (p.none n)]
    exact un.free b o z (by rw [unp_out (p.none n)]; exact n) hx
  · obtain ⟨a, c⟩ := mid (fun c v y => by cases y) z
    rw [rep_out a]
    exact un.tups b xs c
  · obtain ⟨a, c⟩ := mid (fun c v y => by cases y) z
    rw [rep_out a]
    exact un.frzs b o u c
  · obtain ⟨a, c⟩ := mid (fun c v y => by cases y) z
    rw [rep_out a]
    exact un.tbls b ps c
end
/-! ### a function with pinned cells -/
def cells (F : NF) : List Addr := F.cl.map (·.2)
/-- the function F at f; its captured cells stand still and hold ws -/
structure CloAt (H : Hp) (f : Addr) (F : NF) (fr : List Str) (ws : List (Option V)) : Prop where
  fn : H f = some (FnO f F)
  code : H F.c = some (CodeO F.c F.qual)
  len : ws.length = fr.length
  all : ∀ c ∈ cells F, ∃ o v, H c = some (PinO c o) ∧ o.data = .cell v
  inj : ∀ x y c, F.cl.lookup x = some c → F.cl.lookup y = some c → x = y
  has : ∀ (i : Nat) (y : Str), fr[i]? = some y → ∃ c, F.cl.lookup y = some c ∧ ∀ v, ws[i]? = some (some v) → ∃ o u, L2.RelV v u ∧ H c = some (PinO c o) ∧ o.data = .cell (some u)
theorem CloAt.pin {H : Hp} {f : Addr} {F : NF} {fr : List Str} {ws : List (Option V)} (c : CloAt H f F fr ws) : Pinned (cells F) H := fun a ha => by
  obtain ⟨o, v, z, _⟩ := c.all a ha
  exact ⟨o, z⟩
theorem CloAt.keep {H H' : Hp} {f : Addr} {F : NF} {fr : List Str} {ws : List (Option V)} (e : ∀ b o, (∃ φ, o = HO.ext φ) → H b = some o → H' b = some o) (c : CloAt H f F fr ws) : CloAt H' f F fr ws :=
  ⟨e _ _ ⟨_, rfl⟩ c.fn, e _ _ ⟨_, rfl⟩ c.code, c.len, fun a ha => by
    obtain ⟨o, v, z, k⟩ := c.all a ha
    exact ⟨o, v, e _ _ ⟨_, rfl⟩ z, k⟩, c.inj, fun i y hy => by
    obtain ⟨a, ha, k⟩ := c.has i y hy
    exact ⟨a, ha, fun v hv => by
      obtain ⟨o, u, r, z, d⟩ := k v hv
      exact ⟨o, u, r, e _ _ ⟨_, rfl⟩ z, d⟩⟩⟩
theorem CloAt.same {H H' : Hp} {f : Addr} {F : NF} {fr : List Str} {ws : List (Option V)} (e : ∀ b o, H b = some o → H' b = some o) (c : CloAt H f F fr ws) : CloAt H' f F fr ws := c.keep fun b o _ z => e b o z
theorem fn_out {H : Hp} {f : Addr} {F : NF} {fr : List Str} {ws : List (Option V)} {h : Heap} {P : Program} {w : World} (k : HOk P w H h) (c : CloAt H f F fr ws) : f ∉ cells F ∧ F.c ∉ cells F := by
  refine ⟨fun hf => ?_, fun hc => ?_⟩
  · obtain ⟨o, v, z, d⟩ := c.all f hf
    have hz : h.get? f = some o := (k f _ z).1
    obtain ⟨od, sl, doc, pm, ctv, ho⟩ := fnO_at k c.fn
    rw [hz] at ho
    cases ho
    cases d
  · obtain ⟨o, v, z, d⟩ := c.all F.c hc
    have hz : h.get? F.c = some o := (k F.c _ z).1
    obtain ⟨⟨oc, vs, t, h1, h2, h3⟩, _, _⟩ := k F.c _ c.code
    rw [hz] at h1
    cases h1
    rw [d] at h2
    cases h2
section
variable {P : Program} {w : World} {K : PySem.W.Frag} {mg : Str → Option Value} {base : Heap} {A : Around} {outer : List Env} {s : Shared} {H : Hp} {cs : List Addr}
theorem cell_mem {F : NF} {y : Str} {c : Addr} (h : F.cl.lookup y = some c) : c ∈ cells F := List.mem_map.mpr ⟨(y, c), PySem.mem_of_lookup h, rfl⟩
theorem clo_cells {f : Addr} {F : NF} {fr : List Str} {ws : List (Option V)} (k : HOk P w H s.heap) (c : CloAt H f F fr ws) : CellsAt F.cl fr ws s.heap (unp (cells F) H) :=
  ⟨c.len, fun y a e => ⟨unp_in (cell_mem e), by
    obtain ⟨o, v, z, d⟩ := c.all a (cell_mem e)
    exact ⟨v, o, (k a _ z).1, d⟩⟩, c.inj, fun i y hy => by
    obtain ⟨a, ha, g⟩ := c.has i y hy
    exact ⟨a, ha, fun v hv => by
      obtain ⟨o, u, r, z, d⟩ := g v hv
      exact ⟨u, r, o, (k a _ z).1, d⟩⟩⟩
/-- the promise of a function whose cells stand still -/
theorem clo_run {k : Nat} {f : Addr} {F : NF} {ps fr : List Str} {ws : List (Option V)} {sp : List (Option V) → Sp} {us : List Value} {vs : List V} {Q : VK} (Fn : NOk P w K mg base CX0 k f F ps fr sp) (hr : Room k A) (e : Env0 P w K mg base A outer s H) (c : CloAt H f F fr ws) (r : Vals vs us)
    (q : sp ws vs (unp (cells F) H) (fun v H2 => (∀ a ∈ cells F, H2 a = none) → Q v (rep (cells F) H H2)) E0) : codeAny (model P w) A (.call (.ref f) ⟨us, []⟩) (CR CX0 outer P w H s Q E0) s := by
  obtain ⟨o1, o2⟩ := fn_out e.hok c
  refine codeAny_mono (Fn.run A outer s (unp (cells F) H) us vs ws _ E0 hr (env_less c.pin e) (by rw [unp_out o1]; exact c.fn) (by rw [unp_out o2]; exact c.code) (clo_cells e.hok c) r q) fun r s' hq => ?_
  cases r with
  | error e' => exact hq
  | ok fl =>
    cases fl with
    | ret u => exact ce_more c.pin e hq
    | next => exact hq
    | brk => exact hq
    | cont => exact hq
end
/-- f(..), f a name that holds a function whose cells stand still -/
def tCallC (P : Program) (w : World) (K : PySem.W.Frag) (mg : Str → Option Value) (base : Heap) (k i : Nat) (t : TA) : TE := fun σ H Q => ∃ (f : Addr) (F : NF) (ps fr : List Str) (ws : List (Option V)) (sp : List (Option V) → Sp), σ[i]? = some (some (.ref f)) ∧ H f = some (FnO f F) ∧ NOk P w K mg base CX0 k f F ps fr sp ∧
  t σ H fun vs H1 => CloAt H1 f F fr ws ∧ sp ws vs (unp (cells F) H1) (fun v H2 => (∀ a ∈ cells F, H2 a = none) → Q v (rep (cells F) H1 H2)) E0
section
variable {X : Cx} {i j k : Nat} {x : Str} {t : TA} {e : Expr} {es : List Expr} {p pos : Pos}
theorem pe_callc (hr : Room j X.A) (hk : k ≤ j) (hN : X.N[i]? = some x) (hv : Vis X.env.scope x) (ha : PA X (e :: es) t)
    (hd : (x == ("__debug__" : Str)) = false := by decide)
    (hcd : (x == ("__classdict__" : Str)) = false := by decide) (he : starEach (e :: es) X.env = (false, eval e X.env) :: starEach es X.env := by rfl)
    (hpl : (backTo pos (starEach es X.env)).any (·.1) = false := by rfl) :
    PE X (.Call (.Name x p) (e :: es) [] pos) (tCallC X.prog X.w X.K X.mg X.base k i t) := by
  refine ⟨fun pins s σ H Q I h => ?_⟩
  obtain ⟨f, F, ps, fr, ws, sp, hs, hf, Fn, ht⟩ := h
  have slot := (pe_var (pos := p) hN hv hd hcd).run pins s σ H (fun v H1 => v = .ref f ∧ H1 = H) I ⟨.ref f, hs, rfl, rfl⟩
  refine wpAny_Call_Name_kw (thn slot ?_)
  rintro u s1 ⟨v, H1, I1, r1, q1⟩
  obtain ⟨ev, eH⟩ := q1
  subst ev
  rw [eH] at I1
  obtain rfl : u = Value.ref f := r1
  refine PySem.W.callWith_F (first := []) (fnAt_of I1 hf) (thn (ha.run pos pins s1 σ H _ I1 ht) fun us s2 ⟨vs, H2, I2, r, c, q⟩ => ⟨fnAt_of I2 c.fn, ?_⟩) he hpl
  show wpAny _ _ (call (.ref f) us) _ _ _
  refine wpAny_call (codeAny_mono (clo_run Fn (hr.mono hk) I2.env0 c r q) fun r s' hq => ?_)
  cases r with
  | error e' => exact False.elim hq
  | ok fl =>
    cases fl with
    | ret u => exact I2.after hq
    | next => exact False.elim hq
    | brk => exact False.elim hq
    | cont => exact False.elim hq
end
/-! ### a call that hands functions of this frame on -/
def pinA (cs : List Addr) (h : Heap) (H : Hp) : Hp := fun b => if b ∈ cs then (h.get? b).map (PinO b) else H b
theorem pinA_in {cs : List Addr} {h : Heap} {H : Hp} {b : Addr} {o : Obj} (m : b ∈ cs) (e : h.get? b = some o) : pinA cs h H b = some (PinO b o) := by
  unfold pinA
  rw [if_pos m, e] <;> rfl
theorem pinA_out {cs : List Addr} {h : Heap} {H : Hp} {b : Addr} (m : b ∉ cs) : pinA cs h H b = H b := if_neg m
/-- the heap of the callee: the cells cs of the running frame stand still -/
structure PinsP (X : Cx) (σ : L2.St) (cs : List Addr) (H1 Hp : L2.Hp) : Prop where
  out : ∀ b, b ∉ cs → Hp b = H1 b
  new : ∀ c ∈ cs, H1 c = none
  pin : Pinned cs Hp
  dat : ∀ c ∈ cs, ∃ o v, Hp c = some (PinO c o) ∧ o.data = .cell v
  clo : ∀ (f : Addr) (F : NF) (fr : List Str) (js : List Nat), Caps X F.cl fr js → (∀ p ∈ F.cl, X.env.cells.lookup p.1 = some p.2) → H1 f = some (FnO f F) → H1 F.c = some (CodeO F.c F.qual) → CloAt Hp f F fr (js.map (slotAt σ))
theorem PinsP.at_ {X : Cx} {σ : L2.St} {cs : List Addr} {H1 Hp : L2.Hp} (p : PinsP X σ cs H1 Hp) {b : Addr} {o : HO} (e : H1 b = some o) : Hp b = some o := by
  rw [p.out b fun z => by rw [p.new b z] at e; cases e]
  exact e
theorem PinsP.kept {X : Cx} {σ : L2.St} {cs : List Addr} {H1 Hp H2 : L2.Hp} (p : PinsP X σ cs H1 Hp) (e : ∀ b o, Hp b = some o → H2 b = some o) : ∀ c ∈ cs, H2 c = Hp c := fun c hc => by
  obtain ⟨o, z⟩ := p.pin c hc
  rw [z, e _ _ z]
theorem PinsP.back {X : Cx} {σ : L2.St} {cs : List Addr} {H1 Hp H2 : L2.Hp} (p : PinsP X σ cs H1 Hp) (e : ∀ b o, Hp b = some o → H2 b = some o) : ∀ b o, H1 b = some o → unp cs H2 b = some o := fun b o z => by
  rw [unp_out fun m => by rw [p.new b m] at z; cases z]
  exact e _ _ (p.at_ z)
theorem PinsP.keptN {X : Cx} {σ : L2.St} {cs : List Addr} {H1 Hp H2 : L2.Hp} (p : PinsP X σ cs H1 Hp) (e : ExtN Hp H2) : ∀ c ∈ cs, H2 c = Hp c := fun c hc => by
  obtain ⟨o, z⟩ := p.pin c hc
  rw [z, e _ _ z fun ps y => by cases y]
theorem PinsP.backN {X : Cx} {σ : L2.St} {cs : List Addr} {H1 Hp H2 : L2.Hp} (p : PinsP X σ cs H1 Hp) (e : ExtN Hp H2) : ExtN H1 (unp cs H2) := fun b o z nt => by
  rw [unp_out fun m => by rw [p.new b m] at z; cases z]
  exact e _ _ (p.at_ z) nt
theorem PinsP.gotN {X : Cx} {σ : L2.St} {cs : List Addr} {H1 Hp H2 : L2.Hp} (p : PinsP X σ cs H1 Hp) (e : ExtN Hp H2) {a : Addr} {o : HO} (h : H2 a = some o) (n : ∀ c u, o ≠ PinO c u) : unp cs H2 a = some o := by
  rw [unp_out fun m => ?_]
  · exact h
  · obtain ⟨u, z⟩ := p.pin a m
    rw [p.keptN e a m, z] at h
    exact n _ _ (Option.some.inj h).symm
/-- a cell is no code object -/
theorem pin_code {c : Addr} {o : Obj} {v : Option Value} {q : Str} (d : o.data = .cell v) : PinO c o ≠ CodeO c q := fun e => by
  have e1 : (fun h : Heap => h.get? c = some o) = fun h : Heap => ∃ (oc : Obj) (vs : Array Value) (t : Tok), h.get? c = some oc ∧ oc.data = .fields vs ∧ vs[1]? = some (.str q t) := HO.ext.inj e
  have g : Heap.get? { objs := Array.replicate (c + 1) o } c = some o := by
    unfold Heap.get?
    have h : (Array.replicate (c + 1) o)[c]? = some o := by
      rw [Array.getElem?_replicate, if_pos (Nat.lt_succ_self c)]
    simp only [h]
    obtain ⟨a, b, dt, sl⟩ := o
    cases d
    rfl
  obtain ⟨oc, vs, t, h1, h2, _⟩ := (congrFun e1 _).mp g
  rw [g] at h1
  cases h1
  rw [d] at h2
  cases h2
theorem PinsP.tabs {X : Cx} {σ : L2.St} {cs : List Addr} {H1 Hp H2 : L2.Hp} {T : List NTab} (p : PinsP X σ cs H1 Hp) (e : ExtN Hp H2) (t : TabsN T H2) : TabsN T (unp cs H2) := fun q hq => by
  obtain ⟨ps, h1, h2, h3⟩ := t q hq
  refine ⟨ps, p.gotN e h1 (fun c u y => by cases y), h2, fun pos cv hc => ?_⟩
  obtain ⟨c, e1, e2⟩ := h3 pos cv hc
  refine ⟨c, e1, ?_⟩
  rw [unp_out fun m => ?_]
  · exact e2
  · obtain ⟨o, v, z, d⟩ := p.dat c m
    rw [p.keptN e c m, z] at e2
    exact pin_code d (Option.some.inj e2)
/-- what is found behind, and is no pin -/
theorem PinsP.got {X : Cx} {σ : L2.St} {cs : List Addr} {H1 Hp H2 : L2.Hp} (p : PinsP X σ cs H1 Hp) (e : ∀ b o, Hp b = some o → H2 b = some o) {a : Addr} {o : HO} (h : H2 a = some o) (n : ∀ c u, o ≠ PinO c u) : unp cs H2 a = some o := by
  rw [unp_out fun m => ?_]
  · exact h
  · obtain ⟨u, z⟩ := p.pin a m
    rw [e _ _ z] at h
    exact n _ _ (Option.some.inj h).symm
section
variable {P : Program} {w : World} {K : PySem.W.Frag} {mg : Str → Option Value} {base : Heap} {A : Around} {outer : List Env} {s : Shared} {H : L2.Hp} {cs : List Addr}
theorem pinA_pinned {h : Heap} (ex : ∀ c ∈ cs, ∃ o, h.get? c = some o) : Pinned cs (pinA cs h H) := fun c hc => by
  obtain ⟨o, z⟩ := ex c hc
  exact ⟨o, pinA_in hc z⟩
theorem env_pin (ex : ∀ c ∈ cs, ∃ o, s.heap.get? c = some o) (nH : ∀ c ∈ cs, H c = none) (nb : ∀ c ∈ cs, base.get? c = none) (nf : ∀ c ∈ cs, c ∉ frs outer) (e : Env0 P w K mg base A outer s H) : Env0 P w K mg base A outer s (pinA cs s.heap H) := by
  refine ⟨e.frames, e.mod, fun b o q => ⟨(e.bs b o q).1, ?_⟩, e.bsz, e.funs, fun b hb => ?_, fun a o z => ?_, e.bare⟩
  · rw [pinA_out fun m => by rw [nb b m] at q; cases q]
    exact (e.bs b o q).2
  · rw [pinA_out fun m => nf b m hb]
    exact e.frf b hb
  · by_cases ha : a ∈ cs
    · obtain ⟨u, hu⟩ := ex a ha
      rw [pinA_in ha hu] at z
      cases z
      exact ⟨hu, ⟨u, hu⟩, fun h1 h2 q st => st _ q⟩
    · rw [pinA_out ha] at z
      have out : ∀ {b : Addr} {u : HO}, H b = some u → b ∉ cs := fun {b u} q hb => by
        rw [nH b hb] at q; cases q
      refine (e.hok a o z).stay (fun _ _ _ q => q) (fun b q => ?_) fun b xs q => ?_
      · rw [pinA_out (out q)]; exact q
      · rw [pinA_out (out q)]; exact q
theorem ce_less {Q : VK} {u : Value} {s' : Shared} (ex : ∀ c ∈ cs, ∃ o, s.heap.get? c = some o) (nH : ∀ c ∈ cs, H c = none) (nf : ∀ c ∈ cs, c ∉ frs outer)
    (h : CE outer P w (pinA cs s.heap H) s (fun v H2 => (∀ c ∈ cs, H2 c = pinA cs s.heap H c) ∧ Q v (unp cs H2)) u s') : CE outer P w H s Q u s' := by
  obtain ⟨v, H2, os, bare, un, hok, r, st, q⟩ := h
  have pn : Pinned cs H2 := fun c hc => by
    obtain ⟨o, z⟩ := ex c hc
    exact ⟨o, (st c hc).trans (pinA_in hc z)⟩
  have mid : ∀ {b : Addr} {u : HO}, H b = some u → b ∉ cs ∧ pinA cs s.heap H b = some u := fun {b u} z => by
    have n : b ∉ cs := fun m => by rw [nH b m] at z; cases z
    exact ⟨n, by rw [pinA_out n]; exact z⟩
  refine ⟨v, unp cs H2, os, bare, ⟨fun b o z n hf hx => ?_, fun b o z n hf hx => ?_, fun b o z n hx => ?_, un.there, fun b xs z => ?_, fun b o u z => ?_, fun b ps z => ?_⟩, hok_less pn hok, r, q⟩
  · by_cases hb : b ∈ cs
    · exact (hok b _ ((st b hb).trans (pinA_in hb z))).1
    · exact un.keep b o z (by rw [pinA_out hb]; exact n) hf hx
  · exact un.slot b o z (by rw [pinA_out fun m => nf b m hf]; exact n) hf hx
  · by_cases hb : b ∈ cs
    · exact unp_in hb
    · rw [unp_out hb]
      exact un.free b o z (by rw [pinA_out hb]; exact n) hx
  · obtain ⟨a, c⟩ := mid z
    rw [unp_out a]
    exact un.tups b xs c
  · obtain ⟨a, c⟩ := mid z
    rw [unp_out a]
    exact un.frzs b o u c
  · obtain ⟨a, c⟩ := mid z
    rw [unp_out a]
    exact un.tbls b ps c
end
/-- f(..), f a def of the module, with functions of this frame among the arguments -/
def tCallP (X : Cx) (cs : List Addr) (sp : Sp) (t : TA) : TE := fun σ H Q => t σ H fun vs H1 => ∀ Hp, PinsP X σ cs H1 Hp → sp vs Hp (fun v H2 => (∀ c ∈ cs, H2 c = Hp c) ∧ Q v (unp cs H2)) E0
section
variable {X : Cx} {k : Nat} {f : Addr} {fd : FuncData} {ps : List Str} {sp : Sp} {x : Str} {p pos : Pos} {e : Expr} {es : List Expr} {t : TA} {cs : List Addr}
theorem own_cells {pins : List (Addr × Obj)} {σ : L2.St} {H : L2.Hp} {s : Shared} (I : Inv X pins σ H s) (h1 : ∀ c ∈ cs, ∃ y, X.fn y = true ∧ X.env.cells.lookup y = some c) :
    (∀ c ∈ cs, ∃ o v, s.heap.get? c = some o ∧ o.data = .cell v) ∧ (∀ c ∈ cs, H c = none) ∧ (∀ c ∈ cs, X.base.get? c = none) ∧ ∀ c ∈ cs, c ∉ frs X.stack := by
  have ex : ∀ c ∈ cs, ∃ o v, s.heap.get? c = some o ∧ o.data = .cell v := fun c hc => by
    obtain ⟨y, _, hy⟩ := h1 c hc
    obtain ⟨v, o, ho, d⟩ := I.cell y c hy
    exact ⟨o, v, ho, d⟩
  have big : ∀ c ∈ cs, X.s_0.heap.objs.size ≤ c := fun c hc => by
    obtain ⟨y, hf, hy⟩ := h1 c hc
    exact I.ok.cab y c hf hy
  refine ⟨ex, fun c hc => ?_, fun c hc => ?_, fun c hc hb => ?_⟩
  · obtain ⟨y, _, hy⟩ := h1 c hc
    exact I.freeC y c hy
  · cases e : X.base.get? c with
    | none => rfl
    | some o => exact absurd (Nat.lt_of_lt_of_le (Heap.lt_size e) (Nat.le_trans I.ok.bsz (big c hc))) (Nat.lt_irrefl _)
  · have no : c ∉ X.fs := fun hb => by
      obtain ⟨_, o, ho, _⟩ := I.ok.funs.mem hb
      exact absurd (Nat.lt_of_lt_of_le (Heap.lt_size ho) (big c hc)) (Nat.lt_irrefl _)
    rcases I.ok.stk with z | ⟨z, zf⟩
    · rw [z] at hb
      exact no hb
    · rw [z] at hb
      unfold frs at hb
      rw [List.filterMap_cons, zf] at hb
      rcases List.mem_cons.mp hb with rfl | hb
      · obtain ⟨o, v, ho, d⟩ := ex _ hc
        obtain ⟨m, hn, _⟩ := I.loc
        obtain ⟨o', es, ep, ho', d', _⟩ := hn
        rw [ho] at ho'
        cases ho'
        rw [d] at d'
        cases d'
      · exact no hb
theorem pe_callP (F : FnOk X.prog X.w X.K X.mg X.base CX0 k f fd ps sp) (hr : Room k X.A) (hg : Gl X x) (hm : X.mg x = some (.ref f)) (hk : PySem.W.keepIn X.K (.ref f) = true) (hb : Binds X.K fd ps [])
    (h1 : ∀ c ∈ cs, ∃ y, X.fn y = true ∧ X.env.cells.lookup y = some c) (h2 : ∀ y c, X.env.cells.lookup y = some c → c ∈ cs)
    (ha : PA X (e :: es) t)
    (hdb : (x == ("__debug__" : Str)) = false := by decide)
    (he : starEach (e :: es) X.env = (false, eval e X.env) :: starEach es X.env := by rfl)
    (hpl : (backTo pos (starEach es X.env)).any (·.1) = false := by rfl) :
    PE X (.Call (.Name x p) (e :: es) [] pos) (tCallP X cs sp t) := by
  refine ⟨fun pins s σ H Q I h => ?_⟩
  have args := ha.run pos pins s σ H _ I h
  refine wpAny_Call_Name_kw (ld_glob I hg hm (PySem.W.callWith_K (h₀ := X.base) I.ok.mod.kin hk (thn args ?_) he hpl) hdb)
  rintro us s1 ⟨vs, H1, I1, r, q⟩
  refine ⟨I1.kIn, ?_⟩
  obtain ⟨ex, nH, nb, nf⟩ := own_cells I1 h1
  have ex' : ∀ c ∈ cs, ∃ o, s1.heap.get? c = some o := fun c hc => by
    obtain ⟨o, _, z, _⟩ := ex c hc
    exact ⟨o, z⟩
  have q := q (pinA cs s1.heap H1) ⟨fun b hb => pinA_out hb, nH, pinA_pinned ex', fun c hc => (by obtain ⟨o, v, z, d⟩ := ex c hc; exact ⟨o, v, pinA_in hc z, d⟩), fun g G fr js cp sub hg hc => by
    have C := cells_of I1 cp
    refine ⟨by rw [pinA_out fun m => by rw [nH g m] at hg; cases hg]; exact hg, by rw [pinA_out fun m => by rw [nH G.c m] at hc; cases hc]; exact hc, C.len, fun c hc => ?_, C.inj, fun i y hy => ?_⟩
    · obtain ⟨⟨y, c'⟩, hp, rfl⟩ := List.mem_map.mp hc
      have hm := h2 y c' (sub _ hp)
      obtain ⟨o, v, z, d⟩ := ex c' hm
      exact ⟨o, v, pinA_in hm z, d⟩
    · obtain ⟨c, hc, hv⟩ := C.has i y hy
      refine ⟨c, hc, fun v ev => ?_⟩
      obtain ⟨u, ru, o, ho, d⟩ := hv v ev
      exact ⟨o, u, ru, pinA_in (h2 y c (cp.sub y c hc)) ho, d⟩⟩
  have hl : us.length = ps.length := by rw [← r.length]; exact F.len _ _ _ _ q
  have hb1 : BindsTo s1 fd ⟨us, []⟩ (ps.zip us) := by
    have z := hb s1 us I1.kIn (by rw [List.append_nil]; exact hl)
    rw [List.append_nil] at z
    exact z
  refine wpAny_call (codeAny_mono (F.run X.A X.stack s1 _ ⟨us, []⟩ us vs _ E0 hr (env_pin ex' nH nb nf I1.env0) hb1 r q) fun r s' hq => ?_)
  cases r with
  | error e => exact False.elim hq
  | ok fl =>
    cases fl with
    | ret u => exact I1.after (ce_less ex' nH nf hq)
    | next => exact False.elim hq
    | brk => exact False.elim hq
    | cont => exact False.elim hq
end
end PinX

/-! defs that make functions and hand them on -/
namespace PinX
open PySem PySem.Spec PyProof.Rows L2 LamX NdefX
/-- a def of the text, its code object at c -/
structure FunC (K : PySem.W.Frag) (x qual : Str) (st : Stmt) (f : Addr) (fd : FuncData) (c : Addr) : Prop where
  ex : ∃ (oc : Value) (od : Option Addr) (kV doc pm : Value) (an : Option Addr) (ct : Value) (osl : Array (Option Value)),
    fd = PySem.W.fnOf x qual (defArgs st) (defBody st) (defScope st) .none kV doc pm an (.ref c) ct ∧ K.lookup f = some ⟨oc, od, .func fd, osl⟩ ∧ PySem.W.codeIn K (.ref c) qual = true
  kp : PySem.W.keepIn K (.ref f) = true
section
variable {P : Program} {w : World} {K : PySem.W.Frag} {mg : Str → Option Value} {base : Heap}
theorem FunC.fn {x qual : Str} {st : Stmt} {f : Addr} {fd : FuncData} {c : Addr} (F : FunC K x qual st f fd c) : Fun K x qual st f fd := by
  obtain ⟨oc, od, kV, doc, pm, an, ct, osl, e, lk, hcd⟩ := F.ex
  exact ⟨⟨oc, od, kV, doc, pm, an, .ref c, ct, osl, e, lk, hcd⟩, F.kp⟩
theorem FunC.ok {x qual : Str} {st : Stmt} {f : Addr} {fd : FuncData} {c : Addr} {N ps : List Str} {k : Nat} {sp : Sp} (F : FunC K x qual st f fd c) (S : FnScope N ps (defScope st)) (len : ∀ vs H Q E, sp vs H Q E → vs.length = ps.length)
    (hbody : ∀ (A : Around) (outer : List Env) (s : Shared) (H : Hp) (vs : List V) (Q : VK) (E : XK), Room k (A.deeper (envOfC qual (defScope st) s.heap.objs.size f (.ref c))) → sp vs H Q E →
      ∃ t, PSs (cxOf CX0 P w K mg base N qual (defScope st) f (.ref c) A outer s H E).nox (defBody st) t ∧ t { nx := fun _ H' => Q .non H', rt := Q } (start N vs) H) : FnOk P w K mg base CX0 (k + 1) f fd ps sp := by
  obtain ⟨oc, od, kV, doc, pm, an, ct, osl, rfl, lk, hcd⟩ := F.ex
  refine fn_of lk hcd S len fun A outer s H vs Q E hr hsp => ?_
  obtain ⟨t, h, q⟩ := hbody A outer s H vs Q E hr hsp
  exact ⟨t, h.nox, q⟩
theorem FunC.okX {x qual : Str} {st : Stmt} {f : Addr} {fd : FuncData} {c : Addr} {N ps : List Str} {k : Nat} {sp : Sp} (F : FunC K x qual st f fd c) (S : FnScope N ps (defScope st)) (len : ∀ vs H Q E, sp vs H Q E → vs.length = ps.length)
    (hbody : ∀ (A : Around) (outer : List Env) (s : Shared) (H : Hp) (vs : List V) (Q : VK) (E : XK), Room k (A.deeper (envOfC qual (defScope st) s.heap.objs.size f (.ref c))) → sp vs H Q E →
      ∃ t, PSs (cxOf (L2.CX P w) P w K mg base N qual (defScope st) f (.ref c) A outer s H E) (defBody st) t ∧ t { nx := fun _ H' => Q .non H', rt := Q } (start N vs) H) : FnOk P w K mg base (L2.CX P w) (k + 1) f fd ps sp := by
  obtain ⟨oc, od, kV, doc, pm, an, ct, osl, rfl, lk, hcd⟩ := F.ex
  exact fn_of lk hcd S len fun A outer s H vs Q E hr hsp => hbody A outer s H vs Q E hr hsp
end
/-- the addresses of cells -/
theorem cells_at {cl : List (Str × Addr)} (nd : (cl.map (·.1)).Nodup) : ∀ c ∈ cl.map (·.2), ∃ y, cl.lookup y = some c := by
  induction cl with
  | nil => intro c h; cases h
  | cons p cl ih =>
    intro c h
    obtain ⟨y, a⟩ := p
    rw [List.map_cons] at nd h
    rcases List.mem_cons.mp h with rfl | h
    · exact ⟨y, by simp [List.lookup]⟩
    · obtain ⟨z, hz⟩ := ih (List.nodup_cons.mp nd).2 c h
      refine ⟨z, ?_⟩
      have ne : z ≠ y := fun e => (List.nodup_cons.mp nd).1 (by rw [← e]; exact List.mem_map.mpr ⟨(z, c), PySem.mem_of_lookup hz, rfl⟩)
      have : (z == y) = false := by simpa using ne
      simp [List.lookup, this, hz]
theorem cells_in {cl : List (Str × Addr)} : ∀ y c, cl.lookup y = some c → c ∈ cl.map (·.2) := fun y c h => List.mem_map.mpr ⟨(y, c), PySem.mem_of_lookup h, rfl⟩
/-- called with vs in a heap that has all of H it comes to a value as R tells -/
def CanCall (P : Program) (w : World) (K : PySem.W.Frag) (mg : Str → Option Value) (base : Heap) (k : Nat) (H : Hp) (v : V) (vs : List V) (R : Hp → V → Prop) : Prop :=
  ∃ (f : Addr) (F : NdefX.NF) (ps fr : List Str) (ws : List (Option V)) (sp : List (Option V) → Sp), v = .ref f ∧ CloAt H f F fr ws ∧ NdefX.NOk P w K mg base CX0 k f F ps fr sp ∧
  ∀ H1, ExtN H H1 → ∀ Q : VK, (∀ z H2, Same H1 H2 → R H2 z → Q z H2) → sp ws vs (unp (cells F) H1) (fun z H2 => (∀ a ∈ cells F, H2 a = none) → Q z (rep (cells F) H1 H2)) E0
section
variable {P : Program} {w : World} {K : PySem.W.Frag} {mg : Str → Option Value} {base : Heap}
/-- a function of the frame, as the callee of a call that hands it on may call it -/
theorem can_made {X : Cx} {σ : L2.St} {cs : List Addr} {H1 Hp : L2.Hp} {f : Addr} {F : NF} {ps fr : List Str} {js : List Nat} {k : Nat} {sp : List (Option V) → Sp} {vs : List V} {R : L2.Hp → V → Prop}
    (p : PinsP X σ cs H1 Hp) (fn : H1 f = some (FnO f F)) (co : H1 F.c = some (CodeO F.c F.qual)) (cap : Caps X F.cl fr js) (sub : ∀ q ∈ F.cl, X.env.cells.lookup q.1 = some q.2) (h2 : ∀ y c, X.env.cells.lookup y = some c → c ∈ cs)
    (Fn : NOk P w K mg base CX0 k f F ps fr sp) (mono : ∀ H H' z, Same H H' → R H z → R H' z)
    (hs : ∀ H2, ExtN H1 H2 → ∀ Q : VK, (∀ z H3, Same H2 H3 → R H3 z → Q z H3) → sp (js.map (slotAt σ)) vs H2 Q E0) : CanCall P w K mg base k Hp (.ref f) vs R := by
  have inc : ∀ a ∈ cells F, a ∈ cs := fun a ha => by
    obtain ⟨⟨y, c⟩, hp, rfl⟩ := List.mem_map.mp ha
    exact h2 y c (sub _ hp)
  refine ⟨f, F, ps, fr, _, sp, rfl, p.clo f F fr js cap sub fn co, Fn, fun G sG Q q => ?_⟩
  refine hs (unp (cells F) G) (fun b o z nt => ?_) _ fun z H3 s3 r nn => q z _ (fun b o e => ?_) (mono _ _ _ (fun b o e => ?_) r)
  · rw [unp_out fun m => by rw [p.new b (inc b m)] at z; cases z]
    exact sG _ _ (p.at_ z) nt
  · by_cases m : b ∈ cells F
    · rw [rep_in m]; exact e
    · rw [rep_out m]
      exact s3 _ _ (by rw [unp_out m]; exact e)
  · by_cases m : b ∈ cells F
    · rw [nn b m] at e; cases e
    · rw [rep_out m]; exact e
theorem sameN {H H' : L2.Hp} (s : Same H H') : ExtN H H' := fun b o e _ => s b o e
theorem extN_trans {H H1 H2 : L2.Hp} (a : ExtN H H1) (b : ExtN H1 H2) : ExtN H H2 := fun c o e n => b c o (a c o e n) n
theorem CanCall.keep {k : Nat} {H H' : L2.Hp} {v : V} {vs : List V} {R : L2.Hp → V → Prop} (e : ExtN H H') (h : CanCall P w K mg base k H v vs R) : CanCall P w K mg base k H' v vs R := by
  obtain ⟨f, F, ps, fr, ws, sp, h1, h2, h3, h4⟩ := h
  exact ⟨f, F, ps, fr, ws, sp, h1, h2.keep fun b o ⟨φ, z⟩ q => e b o q fun ps y => (by rw [z] at y; cases y), h3, fun H1 s => h4 H1 (extN_trans e s)⟩
/-- the call of a slot -/
theorem callc_of {k i : Nat} {H0 H : L2.Hp} {v : V} {vs : List V} {R : L2.Hp → V → Prop} {σ : L2.St} {t : TA} {Q : VK} (c : CanCall P w K mg base k H0 v vs R) (hs : σ[i]? = some (some v)) (e : ExtN H0 H)
    (ht : ∀ G : List V → L2.Hp → Prop, (∀ H1, Same H H1 → G vs H1) → t σ H G) (q : ∀ z H2, Same H H2 → R H2 z → Q z H2) : tCallC P w K mg base k i t σ H Q := by
  have c' := c.keep e
  obtain ⟨f, F, ps, fr, ws, sp, rfl, h2, h3, h4⟩ := c'
  refine ⟨f, F, ps, fr, ws, sp, hs, h2.fn, h3, ht _ fun H1 s1 => ⟨h2.same s1, h4 H1 (sameN s1) Q fun z H2 s2 r => q z H2 (s1.trans s2) r⟩⟩
theorem pe_cc {X : Cx} {e : Expr} {es : List Expr} {t : TA} {p pos : Pos} {j k : Nat} {x : Str} (i : Nat) (hr : Room j X.A) (hk : k ≤ j) (ha : PA X (e :: es) t) (hN : X.N[i]? = some x := by rfl)
    (hv : Vis X.env.scope x := by first | exact Or.inl rfl | exact Or.inr (Or.inl rfl) | exact Or.inr (Or.inr rfl)) (hd : (x == ("__debug__" : Str)) = false := by decide)
    (hcd : (x == ("__classdict__" : Str)) = false := by decide) (he : starEach (e :: es) X.env = (false, eval e X.env) :: starEach es X.env := by rfl)
    (hpl : (backTo pos (starEach es X.env)).any (·.1) = false := by rfl) :
    PE X (.Call (.Name x p) (e :: es) [] pos) (tCallC X.prog X.w X.K X.mg X.base k i t) := pe_callc hr hk hN hv ha hd hcd he hpl
end
/-! ### the captured names of a function that a def of the module makes -/
section
variable {CX : CXT} {P : Program} {w : World} {K : PySem.W.Frag} {mg : Str → Option Value} {base : Heap} {N : List Str} {qual : Str} {sc nsc : Scope} {f : Addr} {cd : Value} {A : Around} {outer : List Env} {s : Shared} {H : L2.Hp} {E : XK} {fr : List Str} {js : List Nat} {L : Nat}
theorem own_has (h : ∀ y ∈ nsc.names, y.2 = .free → sc.names.lookup y.1 = some .cell) : ∀ y ∈ nsc.names, y.2 = .free → ∃ c, (cellsFrom L sc.names []).lookup y.1 = some c := fun y hy e => cell_has (h y hy e)
theorem clo_mem {cl : List (Str × Addr)} {names : List (Str × NameKind)} (hfree : ∀ y ∈ names, y.2 = .free → ∃ c, cl.lookup y.1 = some c) : ∀ q ∈ cloFrom cl names [], cl.lookup q.1 = some q.2 := fun ⟨y, c⟩ hq => by
  rcases cloFrom_mem hq with hm | ⟨h1, h2⟩
  · cases hm
  · obtain ⟨c1, hc⟩ := hfree _ h1 rfl
    have hc : cl.lookup y = some c1 := hc
    have e2 : c = c1 := by
      rw [h2, hc] <;> rfl
    rw [e2]
    exact hc
theorem caps_own {X : Cx} (hc : X.env.cells = cellsFrom L sc.names []) (hs : X.env.scope = sc) (h : ∀ y ∈ nsc.names, y.2 = .free → sc.names.lookup y.1 = some .cell) (hfr : ∀ y ∈ fr, (y, NameKind.free) ∈ nsc.names) (hjs : js.map (fun j => X.N[j]?) = fr.map some) :
    Caps X (cloFrom X.env.cells nsc.names []) fr js ∧ ∀ q ∈ cloFrom X.env.cells nsc.names [], X.env.cells.lookup q.1 = some q.2 := by
  have hf : ∀ y ∈ nsc.names, y.2 = .free → ∃ c, X.env.cells.lookup y.1 = some c := by rw [hc]; exact own_has h
  exact ⟨⟨fun y c e => clo_cm hf e, fun y hy => .inl (by rw [hs]; exact h (y, .free) (hfr y hy) rfl), fun y hy c hc => clo_has hf (hfr y hy) hc, hjs⟩, clo_mem hf⟩
end
end PinX

/-! a call that hands functions on and may raise -/
namespace PinX
open PySem PySem.Spec PyProof.Rows L2 LamX NdefX
section
variable {P : Program} {w : World} {outer : List Env} {s : Shared} {H : L2.Hp} {cs : List Addr}
theorem cx_less {E : XK} {u : Value} {s' : Shared} (ex : ∀ c ∈ cs, ∃ o, s.heap.get? c = some o) (nH : ∀ c ∈ cs, H c = none)
    (h : L2.CX P w outer (pinA cs s.heap H) s (fun cl d H2 => (∀ c ∈ cs, H2 c = pinA cs s.heap H c) ∧ E cl d (unp cs H2)) u s') : L2.CX P w outer H s E u s' := by
  obtain ⟨a, B, H2, cls, d, rfl, fl, hok, ub, na, os, ag, st, hE⟩ := h
  have pn : Pinned cs H2 := fun c hc => by
    obtain ⟨o, z⟩ := ex c hc
    exact ⟨o, (st c hc).trans (pinA_in hc z)⟩
  have mid : ∀ {b : Addr} {u : HO}, H b = some u → b ∉ cs ∧ pinA cs s.heap H b = some u := fun {b u} z => by
    have n : b ∉ cs := fun m => by rw [nH b m] at z; cases z
    exact ⟨n, by rw [pinA_out n]; exact z⟩
  refine ⟨a, B, unp cs H2, cls, d, rfl, fl, hok_less pn hok, ⟨fun b o z n hf => ?_, ub.slot, fun b o z n => ?_, ub.there, fun b xs z => ?_, fun b o u z => ?_, fun b ps z => ?_⟩, ?_, os, ag, hE⟩
  · by_cases hb : b ∈ cs
    · exact (hok b _ ((st b hb).trans (pinA_in hb z))).1
    · exact ub.keep b o z (by rw [pinA_out hb]; exact n) hf
  · by_cases hb : b ∈ cs
    · exact unp_in hb
    · rw [unp_out hb]
      exact ub.free b o z (by rw [pinA_out hb]; exact n)
  · obtain ⟨a, c⟩ := mid z
    rw [unp_out a]
    exact ub.tups b xs c
  · obtain ⟨a, c⟩ := mid z
    rw [unp_out a]
    exact ub.frzs b o u c
  · obtain ⟨a, c⟩ := mid z
    rw [unp_out a]
    exact ub.tbls b ps c
  · rw [unp_out (pn.none na)]
    exact na
end
def tCallPS (X : Cx) (cs : List Addr) (sp : Sp) (E : L2.St → XK) (t : TA) : TE := fun σ H Q => t σ H fun vs H1 => ∀ Hp, PinsP X σ cs H1 Hp → sp vs Hp (fun v H2 => (∀ c ∈ cs, H2 c = Hp c) ∧ Q v (unp cs H2)) (fun cl d H2 => (∀ c ∈ cs, H2 c = Hp c) ∧ E σ cl d (unp cs H2))
section
variable {X : Cx} {k : Nat} {f : Addr} {fd : FuncData} {ps : List Str} {sp : Sp} {E : L2.St → XK} {x : Str} {p pos : Pos} {e : Expr} {es : List Expr} {t : TA} {cs : List Addr}
theorem pe_callPS (F : FnOk X.prog X.w X.K X.mg X.base (L2.CX X.prog X.w) k f fd ps sp) (hr : Room k X.A) (hg : Gl X x) (hm : X.mg x = some (.ref f)) (hk : PySem.W.keepIn X.K (.ref f) = true) (hb : Binds X.K fd ps [])
    (h1 : ∀ c ∈ cs, ∃ y, X.fn y = true ∧ X.env.cells.lookup y = some c) (h2 : ∀ y c, X.env.cells.lookup y = some c → c ∈ cs) (hx : ∀ σ, PassesAt (L2.CX X.prog X.w) X σ (E σ))
    (ha : PA X (e :: es) t)
    (hdb : (x == ("__debug__" : Str)) = false := by decide)
    (he : starEach (e :: es) X.env = (false, eval e X.env) :: starEach es X.env := by rfl)
    (hpl : (backTo pos (starEach es X.env)).any (·.1) = false := by rfl) :
    PE X (.Call (.Name x p) (e :: es) [] pos) (tCallPS X cs sp E t) := by
  refine ⟨fun pins s σ H Q I h => ?_⟩
  have args := ha.run pos pins s σ H _ I h
  refine wpAny_Call_Name_kw (ld_glob I hg hm (PySem.W.callWith_K (h₀ := X.base) I.ok.mod.kin hk (thn args ?_) he hpl) hdb)
  rintro us s1 ⟨vs, H1, I1, r, q⟩
  refine ⟨I1.kIn, ?_⟩
  obtain ⟨ex, nH, nb, nf⟩ := own_cells I1 h1
  have ex' : ∀ c ∈ cs, ∃ o, s1.heap.get? c = some o := fun c hc => by
    obtain ⟨o, _, z, _⟩ := ex c hc
    exact ⟨o, z⟩
  have q := q (pinA cs s1.heap H1) ⟨fun b hb => pinA_out hb, nH, pinA_pinned ex', fun c hc => (by obtain ⟨o, v, z, d⟩ := ex c hc; exact ⟨o, v, pinA_in hc z, d⟩), fun g G fr js cp sub hg hc => by
    have C := cells_of I1 cp
    refine ⟨by rw [pinA_out fun m => by rw [nH g m] at hg; cases hg]; exact hg, by rw [pinA_out fun m => by rw [nH G.c m] at hc; cases hc]; exact hc, C.len, fun c hc => ?_, C.inj, fun i y hy => ?_⟩
    · obtain ⟨⟨y, c'⟩, hp, rfl⟩ := List.mem_map.mp hc
      have hm := h2 y c' (sub _ hp)
      obtain ⟨o, v, z, d⟩ := ex c' hm
      exact ⟨o, v, pinA_in hm z, d⟩
    · obtain ⟨c, hc, hv⟩ := C.has i y hy
      refine ⟨c, hc, fun v ev => ?_⟩
      obtain ⟨u, ru, o, ho, d⟩ := hv v ev
      exact ⟨o, u, ru, pinA_in (h2 y c (cp.sub y c hc)) ho, d⟩⟩
  have hl : us.length = ps.length := by rw [← r.length]; exact F.len _ _ _ _ q
  have hb1 : BindsTo s1 fd ⟨us, []⟩ (ps.zip us) := by
    have z := hb s1 us I1.kIn (by rw [List.append_nil]; exact hl)
    rw [List.append_nil] at z
    exact z
  refine wpAny_call (codeAny_mono (F.run X.A X.stack s1 _ ⟨us, []⟩ us vs _ _ hr (env_pin ex' nH nb nf I1.env0) hb1 r q) fun r s' hq => ?_)
  cases r with
  | error e => exact hx σ pins H1 s1 e s' I1 (cx_less ex' nH hq)
  | ok fl =>
    cases fl with
    | ret u => exact I1.after (ce_less ex' nH nf hq)
    | next => exact False.elim hq
    | brk => exact False.elim hq
    | cont => exact False.elim hq
end
end PinX

/-! functions handed on that may make functions themselves: tables grow -/
namespace PinX
open PySem PySem.Spec PyProof.Rows L2 LamX NdefX
/-- tables where cells are taken out -/
theorem tabs_unp {T : List NTab} {cs : List Addr} {G : Hp} (d : ∀ c ∈ cs, ∃ o v, G c = some (PinO c o) ∧ o.data = .cell v) (t : TabsN T G) : TabsN T (unp cs G) := fun q hq => by
  obtain ⟨ps, h1, h2, h3⟩ := t q hq
  refine ⟨ps, ?_, h2, fun pos cv hc => ?_⟩
  · rw [unp_out fun m => ?_]
    · exact h1
    · obtain ⟨o, v, z, _⟩ := d _ m
      rw [h1] at z
      cases z
  · obtain ⟨c, e1, e2⟩ := h3 pos cv hc
    refine ⟨c, e1, ?_⟩
    rw [unp_out fun m => ?_]
    · exact e2
    · obtain ⟨o, v, z, dd⟩ := d _ m
      rw [e2] at z
      exact pin_code dd (Option.some.inj z).symm
theorem tabs_rep {T : List NTab} {cs : List Addr} {G H3 : Hp} (nn : ∀ a ∈ cs, H3 a = none) (t : TabsN T H3) : TabsN T (rep cs G H3) := fun q hq => by
  obtain ⟨ps, h1, h2, h3⟩ := t q hq
  have out : ∀ {b : Addr} {o : HO}, H3 b = some o → rep cs G H3 b = some o := fun {b o} z => by
    rw [rep_out fun m => by rw [nn b m] at z; cases z]
    exact z
  exact ⟨ps, out h1, h2, fun pos cv hc => by
    obtain ⟨c, e1, e2⟩ := h3 pos cv hc
    exact ⟨c, e1, out e2⟩⟩
theorem ext_rep {cs : List Addr} {G H3 : Hp} (nn : ∀ a ∈ cs, H3 a = none) (e : ExtN (unp cs G) H3) : ExtN G (rep cs G H3) ∧ ExtN H3 (rep cs G H3) := by
  refine ⟨fun b o z nt => ?_, fun b o z nt => ?_⟩
  · by_cases m : b ∈ cs
    · rw [rep_in m]; exact z
    · rw [rep_out m]
      exact e _ _ (by rw [unp_out m]; exact z) nt
  · rw [rep_out fun m => by rw [nn b m] at z; cases z]
    exact z
/-- called with vs in a heap that has all of H, and the tables, it comes to a value as R tells -/
def CanT (P : Program) (w : World) (K : PySem.W.Frag) (mg : Str → Option Value) (base : Heap) (T : List NTab) (k : Nat) (H : Hp) (v : V) (vs : List V) (R : Hp → V → Prop) : Prop :=
  ∃ (f : Addr) (F : NF) (ps fr : List Str) (ws : List (Option V)) (sp : List (Option V) → Sp), v = .ref f ∧ CloAt H f F fr ws ∧ NOk P w K mg base CX0 k f F ps fr sp ∧
  ∀ H1, ExtN H H1 → TabsN T H1 → ∀ Q : VK, (∀ z H2, ExtN H1 H2 → TabsN T H2 → R H2 z → Q z H2) → sp ws vs (unp (cells F) H1) (fun z H2 => (∀ a ∈ cells F, H2 a = none) → Q z (rep (cells F) H1 H2)) E0
section
variable {P : Program} {w : World} {K : PySem.W.Frag} {mg : Str → Option Value} {base : Heap} {T : List NTab}
theorem canT_made {X : Cx} {σ : L2.St} {cs : List Addr} {H1 Hp : L2.Hp} {f : Addr} {F : NF} {ps fr : List Str} {js : List Nat} {k : Nat} {sp : List (Option V) → Sp} {vs : List V} {R : L2.Hp → V → Prop}
    (p : PinsP X σ cs H1 Hp) (fn : H1 f = some (FnO f F)) (co : H1 F.c = some (CodeO F.c F.qual)) (cap : Caps X F.cl fr js) (sub : ∀ q ∈ F.cl, X.env.cells.lookup q.1 = some q.2) (h2 : ∀ y c, X.env.cells.lookup y = some c → c ∈ cs)
    (Fn : NOk P w K mg base CX0 k f F ps fr sp) (mono : ∀ H H' z, ExtN H H' → R H z → R H' z)
    (hs : ∀ H2, ExtN H1 H2 → TabsN T H2 → ∀ Q : VK, (∀ z H3, ExtN H2 H3 → TabsN T H3 → R H3 z → Q z H3) → sp (js.map (slotAt σ)) vs H2 Q E0) : CanT P w K mg base T k Hp (.ref f) vs R := by
  have inc : ∀ a ∈ cells F, a ∈ cs := fun a ha => by
    obtain ⟨⟨y, c⟩, hp, rfl⟩ := List.mem_map.mp ha
    exact h2 y c (sub _ hp)
  refine ⟨f, F, ps, fr, _, sp, rfl, p.clo f F fr js cap sub fn co, Fn, fun G sG tG Q q => ?_⟩
  have dG : ∀ c ∈ cells F, ∃ o v, G c = some (PinO c o) ∧ o.data = .cell v := fun c hc => by
    obtain ⟨o, v, z, d⟩ := p.dat c (inc c hc)
    exact ⟨o, v, sG _ _ z fun ps y => (by cases y), d⟩
  refine hs (unp (cells F) G) (fun b o z nt => ?_) (tabs_unp dG tG) _ fun z H3 e3 t3 r nn => q z _ (ext_rep nn e3).1 (tabs_rep nn t3) (mono _ _ _ (ext_rep nn e3).2 r)
  rw [unp_out fun m => by rw [p.new b (inc b m)] at z; cases z]
  exact sG _ _ (p.at_ z) nt
theorem CanT.keep {k : Nat} {H H' : L2.Hp} {v : V} {vs : List V} {R : L2.Hp → V → Prop} (e : ExtN H H') (h : CanT P w K mg base T k H v vs R) : CanT P w K mg base T k H' v vs R := by
  obtain ⟨f, F, ps, fr, ws, sp, h1, h2, h3, h4⟩ := h
  exact ⟨f, F, ps, fr, ws, sp, h1, h2.keep fun b o ⟨φ, z⟩ q => e b o q fun ps y => (by rw [z] at y; cases y), h3, fun H1 s => h4 H1 (extN_trans e s)⟩
theorem callT_of {k i : Nat} {H0 H : L2.Hp} {v : V} {vs : List V} {R : L2.Hp → V → Prop} {σ : L2.St} {t : TA} {Q : VK} (c : CanT P w K mg base T k H0 v vs R) (hs : σ[i]? = some (some v)) (e : ExtN H0 H) (tb : TabsN T H)
    (ht : ∀ G : List V → L2.Hp → Prop, (∀ H1, Same H H1 → G vs H1) → t σ H G) (q : ∀ z H2, ExtN H H2 → TabsN T H2 → R H2 z → Q z H2) : tCallC P w K mg base k i t σ H Q := by
  obtain ⟨f, F, ps, fr, ws, sp, rfl, h2, h3, h4⟩ := c.keep e
  exact ⟨f, F, ps, fr, ws, sp, hs, h2.fn, h3, ht _ fun H1 s1 => ⟨h2.same s1, h4 H1 (sameN s1) (tb.ext s1) Q fun z H2 s2 t2 r => q z H2 (extN_trans (sameN s1) s2) t2 r⟩⟩
end
end PinX

/-! dicts whose keys are tuples of numbers, bools, texts, None and such tuples -/
namespace DicN
open PySem PySem.Spec PyProof.Rows L2
abbrev NK := PySem.NestedKey
mutual
/-- the value is this key -/
def KeyN (H : Hp) : NK → V → Prop
  | .none, v => v = .non
  | .num i, v => v = .int i ∨ ∃ b : Bool, v = .bl b ∧ i = (if b = true then 1 else 0)
  | .text x, v => v = .str x
  | .tup ks, v => ∃ a ys, v = .ref a ∧ H a = some (.tup ys) ∧ KeysN H ks ys
def KeysN (H : Hp) : List NK → List V → Prop
  | [], ys => ys = []
  | k :: ks, ys => ∃ y zs, ys = y :: zs ∧ KeyN H k y ∧ KeysN H ks zs
end
mutual
theorem KeyN.keep {H H' : Hp} (s : ∀ b xs, H b = some (.tup xs) → H' b = some (.tup xs)) : ∀ (k : NK) (v : V), KeyN H k v → KeyN H' k v
  | .none, _, h => h
  | .num _, _, h => h
  | .text _, _, h => h
  | .tup ks, _, ⟨a, ys, e, ha, h⟩ => ⟨a, ys, e, s _ _ ha, KeysN.keep s ks ys h⟩
theorem KeysN.keep {H H' : Hp} (s : ∀ b xs, H b = some (.tup xs) → H' b = some (.tup xs)) : ∀ (ks : List NK) (ys : List V), KeysN H ks ys → KeysN H' ks ys
  | [], _, h => h
  | k :: ks, _, ⟨y, zs, e, h1, h2⟩ => ⟨y, zs, e, KeyN.keep s k y h1, KeysN.keep s ks zs h2⟩
end
section
variable {P : Program} {w : World} {H : Hp} {h : Heap}
mutual
theorem nested_of (ok : HOk P w H h) : ∀ (k : NK) (v : V) (u : Value), KeyN H k v → RelV v u → NestedIs h k u
  | .none, _, u, e, r => by
    subst e
    cases (show u = Value.none from r)
    exact .none
  | .num i, _, u, e, r => by
    rcases e with rfl | ⟨b, rfl, e⟩
    · obtain ⟨t, rfl⟩ := (show ∃ t, u = Value.int i t from r)
      exact .int i t
    · cases (show u = Value.bool b from r)
      exact .bool e
  | .text x, _, u, e, r => by
    subst e
    obtain ⟨t, rfl⟩ := (show ∃ t, u = Value.str x t from r)
    exact .text x t
  | .tup ks, _, u, ⟨a, ys, e, ha, q⟩, r => by
    subst e
    cases (show u = Value.ref a from r)
    obtain ⟨_, its, rv, o, h1, h2, n, h3⟩ := (show ObjOk P w H h a (.tup ys) from ok a _ ha)
    exact .tup h1 h2 h3 (by simpa using nesteds_of ok ks ys its q rv)
theorem nesteds_of (ok : HOk P w H h) : ∀ (ks : List NK) (ys : List V) (us : List Value), KeysN H ks ys → Vals ys us → NestedAll h ks us
  | [], _, us, e, r => by
    subst e
    cases r
    exact .nil
  | k :: ks, _, us, ⟨y, zs, e, h1, h2⟩, r => by
    subst e
    cases r with
    | cons r rs => exact .cons (nested_of ok k y _ h1 r) (nesteds_of ok ks zs _ h2 rs)
end
end
abbrev Row := NK × Addr × Value
/-- the dict's object, row by row -/
def dN (w : World) (D : Addr) (xs : List Row) : HO := .ext fun h => ∃ (o : Obj) (es : Array DictEntry) (ep : Nat), h.get? D = some o ∧ o.ExactDict ∧ o.data = .dict es ep ∧ es.toList = xs.map fun x => ⟨x.1.hash w, .ref x.2.1, x.2.2⟩
abbrev RowOk (H : Hp) (p : NK × V) (q : Row) : Prop := p.1 = q.1 ∧ p.1.depth ≤ 8 ∧ KeyN H p.1 (.ref q.2.1) ∧ RelV p.2 q.2.2
/-- the dict at D holds these -/
def DN (w : World) (H : Hp) (D : Addr) (kvs : List (NK × V)) : Prop := (D == sysModules) = false ∧ kvs.length ≤ sizeLine ∧ ∃ xs : List Row, H D = some (dN w D xs) ∧ Paired (RowOk H) kvs xs ∧ (xs.map (·.1)).Nodup
theorem rows_val {H : Hp} {kvs : List (NK × V)} {xs : List Row} (r : Paired (RowOk H) kvs xs) (k : NK) : RelO (valV kvs k) ((atKey xs k).map (·.2)) := by
  induction r with
  | nil => trivial
  | @cons p q ps qs h t ih =>
    unfold atKey at ih ⊢
    by_cases e : p.1 = k
    · rw [valV_pos e, List.find?_cons_of_pos (by simpa using h.1.symm.trans e)]
      exact h.2.2.2
    · rw [valV_neg e, List.find?_cons_of_neg (by simpa using fun z => e (h.1.trans z))]
      exact ih
theorem rows_put {H : Hp} {kvs : List (NK × V)} {xs : List Row} {k : NK} {b : Addr} {v : V} {u : Value} (r : Paired (RowOk H) kvs xs) (hd : k.depth ≤ 8) (hk : KeyN H k (.ref b)) (rv : RelV v u) : Paired (RowOk H) (putK kvs k v) (storedH xs k b u) := by
  have e : (kvs.any fun kv => decide (kv.1 = k)) = (atKey xs k).isSome := by rw [valV_any, (rows_val r k).isSome_eq, Option.isSome_map]
  unfold putK storedH
  rw [e]
  by_cases q : (atKey xs k).isSome = true
  · rw [if_pos q, if_pos q]
    clear q e
    induction r with
    | nil => exact .nil
    | @cons p q ps qs h t ih =>
      refine .cons ?_ ih
      unfold putAt
      dsimp only
      by_cases z : p.1 = k
      · rw [if_pos z, if_pos (h.1.symm.trans z)]; exact ⟨h.1, h.2.1, h.2.2.1, rv⟩
      · rw [if_neg z, if_neg fun y => z (h.1.trans y)]; exact h
  · rw [if_neg q, if_neg q]
    exact Paired.snoc r ⟨rfl, hd, hk, rv⟩
theorem DN.keep {w : World} {H H' : Hp} {D : Addr} {kvs : List (NK × V)} (e : ∀ b φ, H b = some (.ext φ) → H' b = some (.ext φ)) (s : ∀ b xs, H b = some (.tup xs) → H' b = some (.tup xs)) (d : DN w H D kvs) : DN w H' D kvs := by
  obtain ⟨a, b, xs, c, r, n⟩ := d
  exact ⟨a, b, xs, e _ _ c, L2.Paired.mapP r fun _ _ z => ⟨z.1, z.2.1, KeyN.keep s _ _ z.2.2.1, z.2.2.2⟩, n⟩
theorem DN.same {w : World} {H H' : Hp} {D : Addr} {kvs : List (NK × V)} (s : ∀ b o, H b = some o → H' b = some o) (d : DN w H D kvs) : DN w H' D kvs := d.keep (fun b φ z => s _ _ z) fun b xs z => s _ _ z
theorem DN.at_ {w : World} {H : Hp} {D : Addr} {kvs : List (NK × V)} (d : DN w H D kvs) : ∃ φ, H D = some (.ext φ) := by
  obtain ⟨_, _, xs, c, _⟩ := d
  exact ⟨_, c⟩
section
variable {P : Program} {w : World} {H : Hp} {h : Heap} {D : Addr} {kvs : List (NK × V)}
theorem dn_of (ok : HOk P w H h) (d : DN w H D kvs) : ∃ xs, H D = some (dN w D xs) ∧ Paired (RowOk H) kvs xs ∧ (xs.map (·.1)).Nodup ∧ h.DictOfH (nestedKind P w) D xs := by
  obtain ⟨_, b, xs, c, r, n⟩ := d
  obtain ⟨o, es, ep, h1, h2, h3, h4⟩ := (ok D _ c).1
  refine ⟨xs, c, r, n, o, es, ep, h1, h2, h3, h4, ?_, n⟩
  clear h4 n c b
  induction r with
  | nil => intro x hx; cases hx
  | @cons p q ps qs z t ih =>
    intro x hx
    rcases List.mem_cons.mp hx with rfl | hx
    · exact ⟨z.1 ▸ nested_of ok _ _ _ z.2.2.1 rfl, z.1 ▸ z.2.1⟩
    · exact ih x hx
theorem dn_empty (h : Heap) (hb : sysModules < h.objs.size) : ObjOk P w H (h.push { cls := .type "dict", data := .dict #[] }) h.objs.size (dN w h.objs.size []) ∧ (h.objs.size == sysModules) = false := by
  have g : (h.push { cls := .type "dict", data := .dict #[] }).get? h.objs.size = some { cls := .type "dict", data := .dict #[] } := Heap.get?_push_size _ rfl
  exact ⟨⟨⟨_, #[], 0, g, ⟨rfl, rfl, rfl⟩, rfl, rfl⟩, ⟨_, g⟩, fun _ _ ⟨o, es, ep, a, b⟩ st => ⟨o, es, ep, st _ a, b⟩⟩, beq_eq_false_iff_ne.mpr (Ne.symm (Nat.ne_of_lt hb))⟩
end
/-- a put: the heap behind it -/
def PutN (w : World) (H : Hp) (D : Addr) (y z : V) (H' : Hp) : Prop := ∃ (kvs : List (NK × V)) (k : NK) (b : Addr), DN w H D kvs ∧ y = .ref b ∧ KeyN H k y ∧ k.depth ≤ 8 ∧ kvs.length < sizeLine ∧ (∃ φ, H' = upd H D (.ext φ)) ∧ DN w H' D (putK kvs k z)
section
variable {X : Cx} {pins : List (Addr × Obj)} {σ : L2.St} {H : Hp} {s : Shared} {D b : Addr} {kvs : List (NK × V)} {k : NK} {v : V} {r : Value} {E : Value → Shared → Prop} {A : Around}
theorem dn_new {h' : Heap} {tk : Nat} {xs : List Row} (I : Inv X pins σ H s) (d : DN X.w H D kvs) (hz : kvs.length < sizeLine) (hd : k.depth ≤ 8) (hk : KeyN H k (.ref b)) (rv : RelV v r) (hx : H D = some (dN X.w D xs)) (rr : Paired (RowOk H) kvs xs)
    (dd : h'.DictOfH (nestedKind X.prog X.w) D (storedH xs k b r)) (sb : Heap.SameBut D s.heap h') : ∃ φ, Inv X pins σ (upd H D (.ext φ)) { s with heap := h', toks := tk } ∧ DN X.w (upd H D (.ext φ)) D (putK kvs k v) := by
  obtain ⟨o, es, ep, h1, h2, h3, h4, _, n⟩ := dd
  have kt : ∀ c ys, H c = some (.tup ys) → upd H D (dN X.w D (storedH xs k b r)) c = some (.tup ys) := fun c ys z => by
    rw [upd_ne (ne_of z hx (by intro y; unfold dN at y; cases y))]
    exact z
  refine ⟨_, d_write (ob := dN X.w D (storedH xs k b r)) I (by rw [hx]; exact True.intro) sb ⟨o, h1⟩ ⟨⟨o, es, ep, h1, h2, h3, h4⟩, ⟨o, h1⟩, fun _ _ ⟨o, es, ep, a, c⟩ st => ⟨o, es, ep, st _ a, c⟩⟩, d.1, ?_, _, upd_same, L2.Paired.mapP (rows_put rr hd hk rv) fun _ _ z => ⟨z.1, z.2.1, KeyN.keep kt _ _ z.2.2.1, z.2.2.2⟩, n⟩
  have := length_putK kvs k v
  omega
theorem dn_dictSet {Q : Unit → Shared → Prop} (hu : A.units + 8 < cLine) (I : Inv X pins σ H s) (d : DN X.w H D kvs) (hz : kvs.length < sizeLine) (hd : k.depth ≤ 8) (hk : KeyN H k (.ref b)) (rv : RelV v r)
    (h : ∀ φ s', Inv X pins σ (upd H D (.ext φ)) s' → DN X.w (upd H D (.ext φ)) D (putK kvs k v) → Q () s') : wpAny (model X.prog X.w) A (dictSet D (.ref b) r) Q E s := by
  obtain ⟨xs, c, rr, n, dd⟩ := dn_of I.hok d
  have lx : xs.length ≤ sizeLine := by rw [← Paired.length rr]; exact d.2.1
  refine wpAny_dictSet_heap (hsz := lx) (knd := nestedKind X.prog X.w) hu ⟨nested_of I.hok _ _ _ hk rfl, hd⟩ dd fun h' dd' sb => ?_
  obtain ⟨φ, I', d'⟩ := dn_new (tk := _) I d hz hd hk rv c rr dd' sb
  exact h φ _ I' d'
theorem dn_setItem {Q : Unit → Shared → Prop} (hu : A.units + 9 < cLine) (I : Inv X pins σ H s) (d : DN X.w H D kvs) (hz : kvs.length < sizeLine) (hd : k.depth ≤ 8) (hk : KeyN H k (.ref b)) (rv : RelV v r)
    (h : ∀ φ s', Inv X pins σ (upd H D (.ext φ)) s' → DN X.w (upd H D (.ext φ)) D (putK kvs k v) → Q () s') : wpAny (model X.prog X.w) A (setItem (.ref D) (.ref b) r) Q E s := by
  obtain ⟨xs, c, rr, n, dd⟩ := dn_of I.hok d
  have lx : xs.length ≤ sizeLine := by rw [← Paired.length rr]; exact d.2.1
  refine wpAny_setItem_heap (hsz := lx) (knd := nestedKind X.prog X.w) (show A.in1.units + 8 < cLine by show A.units + 1 + 8 < cLine; omega) ⟨nested_of I.hok _ _ _ hk rfl, hd⟩ dd fun h' dd' sb => ?_
  obtain ⟨φ, I', d'⟩ := dn_new (tk := _) I d hz hd hk rv c rr dd' sb
  exact h φ _ I' d'
theorem dn_getItem {Q : Value → Shared → Prop} (hu : A.units + 9 < cLine) (I : Inv X pins σ H s) (d : DN X.w H D kvs) (hd : k.depth ≤ 8) (hk : KeyN H k (.ref b)) (l : valV kvs k = some v) (h : ∀ u s', Inv X pins σ H s' → RelV v u → Q u s') :
    wpAny (model X.prog X.w) A (getItem (.ref D) (.ref b)) Q E s := by
  obtain ⟨xs, c, rr, n, dd⟩ := dn_of I.hok d
  obtain ⟨u, hu', ru⟩ := RelO.some_of (v := v) (o := (atKey xs k).map (·.2)) (by rw [← l]; exact rows_val rr k)
  obtain ⟨p, hp, rfl⟩ := Option.map_eq_some_iff.mp hu'
  exact wpAny_getItem_heap (knd := nestedKind X.prog X.w) (show A.in1.units + 8 < cLine by show A.units + 1 + 8 < cLine; omega) ⟨nested_of I.hok _ _ _ hk rfl, hd⟩ dd hp (h _ _ (I.tok _) ru)
theorem dn_in {Q : Value → Shared → Prop} (hu : A.units + 9 < cLine) (I : Inv X pins σ H s) (d : DN X.w H D kvs) (hd : k.depth ≤ 8) (hk : KeyN H k (.ref b)) (h : ∀ s', Inv X pins σ H s' → Q (.bool (valV kvs k).isSome) s') :
    wpAny (model X.prog X.w) A (compareOp .In (.ref b) (.ref D)) Q E s := by
  obtain ⟨xs, c, rr, n, dd⟩ := dn_of I.hok d
  refine wpAny_in_heap (knd := nestedKind X.prog X.w) (show A.in1.units + 8 < cLine by show A.units + 1 + 8 < cLine; omega) ⟨nested_of I.hok _ _ _ hk rfl, hd⟩ d.1 dd ?_
  have e := (rows_val rr k).isSome_eq
  rw [Option.isSome_map] at e
  rw [← e]
  exact h _ (I.tok _)
theorem dn_notIn {Q : Value → Shared → Prop} (hu : A.units + 9 < cLine) (I : Inv X pins σ H s) (d : DN X.w H D kvs) (hd : k.depth ≤ 8) (hk : KeyN H k (.ref b)) (h : ∀ s', Inv X pins σ H s' → Q (.bool (!(valV kvs k).isSome)) s') :
    wpAny (model X.prog X.w) A (compareOp .NotIn (.ref b) (.ref D)) Q E s := by
  obtain ⟨xs, c, rr, n, dd⟩ := dn_of I.hok d
  refine wpAny_notIn_heap (knd := nestedKind X.prog X.w) (show A.in1.units + 8 < cLine by show A.units + 1 + 8 < cLine; omega) ⟨nested_of I.hok _ _ _ hk rfl, hd⟩ d.1 dd ?_
  have e := (rows_val rr k).isSome_eq
  rw [Option.isSome_map] at e
  rw [← e]
  exact h _ (I.tok _)
theorem dn_type (I : Inv X pins σ H s) (d : DN X.w H D kvs) : s.TypeIs (.ref D) "dict" := by
  obtain ⟨_, _, _, _, dd⟩ := dn_of I.hok d
  exact dd.typeIs
end
/-! ### readings -/
/-- d[y] -/
def tGetN (w : World) (td ty : TE) : TE := fun σ H Q => td σ H fun x H1 => ty σ H1 fun y H2 => ∃ (a b : Addr) (kvs : List (NK × V)) (k : NK) (v : V), x = .ref a ∧ y = .ref b ∧ DN w H2 a kvs ∧ KeyN H2 k y ∧ k.depth ≤ 8 ∧ valV kvs k = some v ∧ Q v H2
/-- y in d, y not in d: a tuple asked -/
def tInN (w : World) (neg : Bool) (ty td : TE) : TE := fun σ H Q => ty σ H fun y H1 => td σ H1 fun x H2 => ∃ (a b : Addr) (kvs : List (NK × V)) (k : NK), x = .ref a ∧ y = .ref b ∧ DN w H2 a kvs ∧ KeyN H2 k y ∧ k.depth ≤ 8 ∧ Q (.bl (xor neg (valV kvs k).isSome)) H2
/-- d[y] = v -/
def sPutN (w : World) (td ty tv : TE) : TS := fun D σ H => tv σ H fun v H1 => td σ H1 fun x H2 => ty σ H2 fun y H3 => ∃ (a b : Addr) (kvs : List (NK × V)) (k : NK), x = .ref a ∧ y = .ref b ∧ DN w H3 a kvs ∧ KeyN H3 k y ∧ k.depth ≤ 8 ∧ kvs.length < sizeLine ∧ ∀ φ, DN w (upd H3 a (.ext φ)) a (putK kvs k v) → D.nx σ (upd H3 a (.ext φ))
section
variable {X : Cx} {o i value : Expr} {pos pos' : Pos} {td ty tv : TE}
theorem pe_getN (hu : X.A.units + 9 < cLine) (ho : PE X o td) (hi : PE X i ty) (hs : NoSl i) : PE X (.Subscript o i pos) (tGetN X.w td ty) := by
  refine ⟨fun pins s σ H Q I h => subD_of PySem.F.slot_dict_getitem.lookup hs (thn (ho.run pins s σ H _ I h) fun u s1 ⟨x, H1, I1, rx, q1⟩ => thn (hi.run pins s1 σ H1 _ I1 q1) fun iv s2 ⟨y, H2, I2, ry, a, b, kvs, k, v, ex, ey, d, hk, hd, l, q2⟩ => ?_)⟩
  subst ex; subst ey
  cases rx; cases ry
  exact ⟨dn_type I2 d, dn_getItem hu I2 d hd hk l fun w' s3 I3 rw' => ⟨v, H2, I3, rw', q2⟩⟩
theorem pc_inN (hu : X.A.units + 9 < cLine) (hi : PE X i ty) (ho : PE X o td) : PC X .In i o (tInN X.w false ty td) := by
  refine ⟨fun pins s σ H Q I h => thn (hi.run pins s σ H _ I h) fun iv s1 ⟨y, H1, I1, ry, q1⟩ => thn (ho.run pins s1 σ H1 _ I1 q1) fun u s2 ⟨x, H2, I2, rx, a, b, kvs, k, ex, ey, d, hk, hd, q2⟩ => ?_⟩
  subst ex; subst ey
  cases rx; cases ry
  exact dn_in hu I2 d hd hk fun s3 I3 => ⟨.bl (valV kvs k).isSome, H2, I3, rfl, by simpa using q2⟩
theorem pc_notinN (hu : X.A.units + 9 < cLine) (hi : PE X i ty) (ho : PE X o td) : PC X .NotIn i o (tInN X.w true ty td) := by
  refine ⟨fun pins s σ H Q I h => thn (hi.run pins s σ H _ I h) fun iv s1 ⟨y, H1, I1, ry, q1⟩ => thn (ho.run pins s1 σ H1 _ I1 q1) fun u s2 ⟨x, H2, I2, rx, a, b, kvs, k, ex, ey, d, hk, hd, q2⟩ => ?_⟩
  subst ex; subst ey
  cases rx; cases ry
  exact dn_notIn hu I2 d hd hk fun s3 I3 => ⟨.bl (!(valV kvs k).isSome), H2, I3, rfl, by simpa using q2⟩
theorem ps_putN (hu : X.A.units + 9 < cLine) (ho : PE X o td) (hi : PE X i ty) (hv : PE X value tv) (hs : swapsWith value (some (.Subscript o i pos')) pos.line X.env = pure false) : PS X (.Assign [.Subscript o i pos'] value pos) (sPutN X.w td ty tv) := by
  refine ⟨fun pins s σ H D I h => wpAny_Assign_Subscript (thn (hv.run pins s σ H _ I h) fun r s1 ⟨v, H1, I1, rv, q1⟩ => thn (ho.run pins s1 σ H1 _ I1 q1) fun u s2 ⟨x, H2, I2, rx, q2⟩ => thn (hi.run pins s2 σ H2 _ I2 q2) fun iv s3 ⟨y, H3, I3, ry, a, b, kvs, k, ex, ey, d, hk, hd, hz, q3⟩ => ?_) hs⟩
  subst ex; subst ey
  cases rx; cases ry
  exact dn_setItem hu I3 d hz hd hk rv fun φ s4 I4 d4 => ⟨σ, _, I4, q3 φ d4⟩
end
end DicN

/-! {k: v for ..} with such keys -/
namespace DicN
open PySem PySem.Spec PyProof.Rows L2
/-- a turn's end: the put into the dict at D -/
def putsN (w : World) (D : Addr) (Nx : Hp → Prop) (y z : V) (H5 : Hp) : Prop := ∃ (kvs : List (NK × V)) (k : NK) (b : Addr), y = .ref b ∧ DN w H5 D kvs ∧ KeyN H5 k y ∧ k.depth ≤ 8 ∧ kvs.length < sizeLine ∧ ∀ φ, DN w (upd H5 D (.ext φ)) D (putK kvs k z) → Nx (upd H5 D (.ext φ))
/-- what one item comes to -/
def turnN (w : World) (D : Addr) (g : TG) (tt : TT) (tk tv : TE) (vs : List Nat) (σ : L2.St) (Nx : Hp → Prop) (x : V) (H' : Hp) : Prop := g x (wipe σ vs) H' fun σ2 H2 => wipe σ2 vs = wipe σ vs ∧ tt σ2 H2 fun b H3 => if b = true then tk σ2 H3 fun y H4 => tv σ2 H4 fun z H5 => putsN w D Nx y z H5 else Nx H3
def tDcN (w : World) (wi : TI) (g : TG) (tt : TT) (tk tv : TE) (vs : List Nat) : TE := fun σ H Q => wi σ H fun J H1 => ∀ D, H1 D = none → ∃ (m0 : Nat) (W : Nat → Nat → Hp → Prop), (∀ φ, DN w (upd H1 D (.ext φ)) D [] → W 0 m0 (upd H1 D (.ext φ))) ∧
  ∀ i m H, W i m H → (J.stop i H ∧ Q (.ref D) H) ∨ (J.go i H ∧ ∃ Nx : Hp → Prop, (∀ H', Nx H' → ∃ m', m' < m ∧ W (i + 1) m' H') ∧ ∀ x H', J.yld i H x H' → turnN w D g tt tk tv vs σ Nx x H')
section
variable {X : Cx} {kx vx tg iter : Expr} {ifs : List Expr} {scope : Scope} {own : List (Str × Nat)} {wi : TI} {g : TG} {tt : TT} {tk tv : TE}
theorem dcn_core {pins : List (Addr × Obj)} {s : Shared} {σ : L2.St} {H : Hp} {Q : VK} {pos pos' : Pos} {use : Option (Value → Sem Unit)} {Qf : Value → Shared → Prop} (calm : X.calm = true) (hu : X.A.units + 8 < cLine) (nd : X.N.Nodup) (I : Inv X pins σ H s) (walk : PI X tg iter wi) (ok : BlkOk X.N X.env.scope scope own)
    (hg : ∀ s H C cl fp, PG (X.blk s H scope (compEnvC scope cl C X.env) fp) tg g) (ht : ∀ s H C cl fp, PTs (X.blk s H scope (compEnvC scope cl C X.env) fp) ifs tt) (hk : ∀ s H C cl fp, PE (X.blk s H scope (compEnvC scope cl C X.env) fp) kx tk) (hv : ∀ s H C cl fp, PE (X.blk s H scope (compEnvC scope cl C X.env) fp) vx tv)
    (fold : ∀ x, foldedSetIterable iter X.env x = pure x) (h : tDcN X.w wi g tt tk tv (own.map (·.2)) σ H Q)
    (back : ∀ D C s' m H', Inv X pins σ H' s' → Q (.ref D) H' → s'.heap.Ns C m → FpOk X pins H' C → compPost (model X.prog X.w) X.A X.xe use Qf (.ref D) C (.ok .next) s') :
    wpAny (model X.prog X.w) X.A (comprehension (.DictComp kx vx [⟨tg, iter, ifs, 0⟩] scope pos) scope X.env pos' newDict false (eval iter X.env) use) Qf X.xe s := by
  have free : ∀ y ∈ scope.names, y.2 = .free → ∃ c, X.env.cells.lookup y.1 = some c := fun y hy e => (ok.free y hy e).elim (fun z => I.ok.has _ (.inl z)) fun z => I.ok.has _ (.inr z)
  refine wpAny_comprehension_free (use := use) rfl fold (closure_ok free) ok.kind (fun y hy e => by rw [ok.uniq y hy, e]) (thn (walk.run pins s σ H _ I h) fun _ _ z => thn z fun _ a ⟨it, fp, tn, J, Ha, e, Ia, T, sta, fa, q⟩ => ?_)
  subst e
  refine wpAny_newObj_type (newEnv_comp ?_)
  -- the new dict
  have new : Ha a.heap.objs.size = none := Ia.hok.fresh (Nat.le_refl _)
  obtain ⟨m0, W, w0, turn⟩ := q _ new
  obtain ⟨em, nsys⟩ := dn_empty (P := X.prog) (w := X.w) (H := upd Ha a.heap.objs.size (dN X.w a.heap.objs.size [])) a.heap Ia.big
  generalize hD : a.heap.objs.size = D at new w0 turn em nsys
  have w0 : W 0 m0 (upd Ha D (dN X.w D [])) := w0 _ ⟨nsys, Nat.zero_le _, [], (upd_same : upd Ha D (dN X.w D []) D = _), .nil, List.nodup_nil⟩
  have Ib0 := Ia.laid (t' := a.toks) (fun b o z => Heap.get?_push_of_some _ z) (Nat.le_of_eq hD) em
  have less : ∀ b ∈ fp, b < a.heap.objs.size := fun b hb => let ⟨_, z, _⟩ := T.obj _ _ sta b hb; Heap.lt_size z
  generalize hb : ({ a with heap := a.heap.push { cls := .type "dict", data := .dict #[] }, toks := a.toks } : Shared) = b at Ib0
  have bh : b.heap = a.heap.push { cls := .type "dict", data := .dict #[] } := by rw [← hb]
  generalize hHb : upd Ha D (dN X.w D []) = Hb at Ib0 w0
  have fb : ∀ c ∈ fp, FpOk X pins Hb c ∧ c < b.heap.objs.size := fun c hc => by
    have l := less c hc
    refine ⟨⟨?_, (fa c hc).2⟩, by rw [bh, Heap.size_push]; exact Nat.lt_succ_of_lt l⟩
    rw [← hHb, upd_ne (by rw [← hD]; exact Nat.ne_of_lt l)]
    exact (fa c hc).1
  have stb : tn 0 b.heap := T.keep _ _ _ sta fun c _ o z => by rw [bh]; exact Heap.get?_push_of_some _ z
  have Ic := block_start Ib0 ok nd fb
  show codeAny _ _ (.compStart (.DictComp kx vx [⟨tg, iter, ifs, 0⟩] scope pos) 0 (.ref it) (.ref D) (compEnvC scope (cellsFrom (b.heap.objs.size + 1) scope.names (cloFrom X.env.cells scope.names [])) b.heap.objs.size X.env)) (compPost (model X.prog X.w) X.A X.xe use Qf (.ref D) b.heap.objs.size) { b with heap := pushCells (b.heap.push { cls := .type "dict", data := .dict #[] }) scope.names }
  generalize hC : b.heap.objs.size = C at Ic fb ⊢
  have rg := hg b Hb C (cellsFrom (C + 1) scope.names (cloFrom X.env.cells scope.names [])) fp
  have rt := ht b Hb C (cellsFrom (C + 1) scope.names (cloFrom X.env.cells scope.names [])) fp
  have rk := hk b Hb C (cellsFrom (C + 1) scope.names (cloFrom X.env.cells scope.names [])) fp
  have rv := hv b Hb C (cellsFrom (C + 1) scope.names (cloFrom X.env.cells scope.names [])) fp
  have cloc : (compEnvC scope (cellsFrom (C + 1) scope.names (cloFrom X.env.cells scope.names [])) C X.env).locals = C := rfl
  generalize compEnvC scope (cellsFrom (C + 1) scope.names (cloFrom X.env.cells scope.names [])) C X.env = ce at Ic rg rt rk rv cloc ⊢
  have stc : tn 0 (pushCells (b.heap.push { cls := .type "dict", data := .dict #[] }) scope.names) := T.keep _ _ _ stb fun c _ o z => pushCells_keeps _ _ _ _ (Heap.get?_push_of_some _ z)
  generalize hc : ({ b with heap := pushCells (b.heap.push { cls := .type "dict", data := .dict #[] }) scope.names } : Shared) = c at Ic ⊢
  replace stc : tn 0 c.heap := by rw [← hc]; exact stc
  have idle : ∀ {σ' : L2.St} {H' : Hp} {s' : Shared}, Inv (X.blk b Hb scope ce fp) [] σ' H' s' → (∀ d ∈ fp, H' d = none) → ∀ d ∈ fp, FpOk (X.blk b Hb scope ce fp) [] H' d := fun J n d hd => ⟨n d hd, (J.ok.exf d hd).1, J.ok.exfs d hd, .inl hd, fun x c e => (J.ok.exf d hd).2 x c e, fun p hp => nomatch (show p ∈ ([] : List (Addr × Obj)) from hp)⟩
  have whole : codeAny (model X.prog X.w) X.A (.compLoop (.DictComp kx vx [⟨tg, iter, ifs, 0⟩] scope pos) 0 (.ref it) (.ref D) ce) (compPost (model X.prog X.w) X.A X.xe use Qf (.ref D) C) c := by
    refine compLoop_anyD (fun n s' => ∃ i H', Inv (X.blk b Hb scope ce fp) [] (wipe σ (own.map (·.2))) H' s' ∧ tn i s'.heap ∧ (∀ d ∈ fp, H' d = none) ∧ W i n H') (fun n d ⟨i, Hd, Id, std, nd', wd⟩ => ?_) m0 ⟨0, Hb, Ic, stc, fun d hd => (fb d hd).1.1, w0⟩
    rcases turn i n Hd wd with ⟨stop, fin⟩ | ⟨go, Nx, next, step⟩
    · refine thnF (T.done (X.blk b Hb scope ce fp) rfl rfl rfl calm i [] d _ Hd (fun _ _ => False) Id (idle Id nd') std stop) fun r e ⟨er, Ie⟩ => ?_
      subst er
      have If : Inv X pins σ Hd e := Ib0.call' (ch := fp) Ie.os Ie.base Ie.hok Ie.bare fun z hz => ⟨(fb z hz).1.2.2.2.1, (fb z hz).1.2.1, (fb z hz).1.2.2.2.2.1, (fb z hz).1.2.2.2.2.2⟩
      obtain ⟨mm, ns, _⟩ := id Ie.loc
      exact back D C e mm Hd If fin (by rw [← cloc]; exact ns) (Ib0.fpOk (Nat.le_of_eq hC) (by rw [← cloc]; exact Ie.free))
    · refine thnF (T.item (X.blk b Hb scope ce fp) rfl rfl rfl calm i [] d _ Hd (fun _ _ => False) Id (idle Id nd') std go) fun r e ⟨u, er, z⟩ => ?_
      subst er
      refine thnF z fun _ f ⟨x, Hf, If, rf, yf, stf, nf⟩ => ?_
      refine thnF (rg.run _ f _ Hf x u _ (If.pinned (idle If nf) (T.obj _ _ stf)) rf (step x Hf yf)) fun _ k ⟨σk, Hk, Ik, wk, qk⟩ => ?_
      refine thnF (rt.run _ k σk Hk _ Ik qk) fun yes l ⟨Hl, Il, ql⟩ => ?_
      have over : ∀ {s' : Shared} {H' : Hp}, Inv (X.blk b Hb scope ce fp) ([] ++ pinsAt fp f.heap) σk H' s' → Nx H' → ∃ m, m < n ∧ ∃ i H', Inv (X.blk b Hb scope ce fp) [] (wipe σ (own.map (·.2))) H' s' ∧ tn i s'.heap ∧ (∀ d ∈ fp, H' d = none) ∧ W i m H' := fun {s' H'} J nx => by
        obtain ⟨m', lt, w'⟩ := next H' nx
        have kept : ∀ d ∈ fp, ∀ o, f.heap.get? d = some o → s'.heap.get? d = some o ∧ H' d = none := fun d hd o z => let y := J.pin (d, o) (List.mem_append_right _ (List.mem_append_right _ (mem_pinsAt hd z))); ⟨y.1, y.2.1⟩
        refine ⟨m', lt, i + 1, H', (J.unpinned (pins := [])).weak (by rw [← wk, wipe_length]) fun j v z => ?_, T.keep _ _ _ stf fun d hd o z => (kept d hd o z).1, fun d hd => ?_, w'⟩
        · rw [← wk] at z
          exact (wipe_some z).1
        · obtain ⟨o, z, _⟩ := T.obj _ _ stf d hd
          exact (kept d hd o z).2
      cases yes with
      | false => exact over Il ql
      | true =>
        refine thnF (rk.run _ l σk Hl _ Il ql) fun _ o1 ⟨y, H1, I1, r1, q1⟩ => thnF (rv.run _ o1 σk H1 _ I1 q1) fun _ o2 ⟨z, H2, I2, r2, kvs, kk, ad, ey, dn, hkk, dep, room, nx⟩ => ?_
        subst ey
        cases r1
        exact dn_dictSet (X := X.blk b Hb scope ce fp) hu I2 dn room dep hkk r2 fun φ o3 I3 d3 => over I3 (nx φ d3)
  exact codeAny_compStart_dict whole (T.self X.A 0 _ _ _ stc whole)
theorem pe_dcN {pos : Pos} (calm : X.calm = true) (hu : X.A.units + 8 < cLine) (nd : X.N.Nodup) (walk : PI X tg iter wi) (ok : BlkOk X.N X.env.scope scope own)
    (hg : ∀ s H C cl fp, PG (X.blk s H scope (compEnvC scope cl C X.env) fp) tg g) (ht : ∀ s H C cl fp, PTs (X.blk s H scope (compEnvC scope cl C X.env) fp) ifs tt) (hk : ∀ s H C cl fp, PE (X.blk s H scope (compEnvC scope cl C X.env) fp) kx tk) (hv : ∀ s H C cl fp, PE (X.blk s H scope (compEnvC scope cl C X.env) fp) vx tv)
    (fold : ∀ x, foldedSetIterable iter X.env x = pure x := by intro _; rfl) : PE X (.DictComp kx vx [⟨tg, iter, ifs, 0⟩] scope pos) (tDcN X.w wi g tt tk tv (own.map (·.2))) := by
  refine ⟨fun pins s σ H Q I h => ?_⟩
  rw [arm_eval_DictComp]
  exact dcn_core calm hu nd I walk ok hg ht hk hv fold h fun D C s' m H' J q ns ⟨f0, f1, f2, f3, f4, f5⟩ => ⟨m, ns, fun h'' sb => ⟨.ref D, H', J.turned (t' := s'.toks) (fun b o hb e => (sb.2 b hb).trans e) f0 f1 f3 f4 f5, rfl, q⟩⟩
end
/-- over a walk of known length: Pv tells the heap -/
theorem dcn_it {w : World} {J : It} {n : Nat} {G : Hp → Prop} {Y : Nat → Hp → V → Hp → Prop} {g : TG} {tt : TT} {tk tv : TE} {vs : List Nat} {σ τ : L2.St} {H1 : Hp} {D : Addr} {Qd : Hp → Prop} (hτ : wipe σ vs = τ) (wk : Walk J n G Y) (Pv : Nat → Hp → Prop) (h0 : ∀ φ, DN w (upd H1 D (.ext φ)) D [] → Pv 0 (upd H1 D (.ext φ)))
    (hG : ∀ i H, i ≤ n → Pv i H → G H) (hs : ∀ i x H H', i < n → Pv i H → Y i H x H' → g x τ H' fun σ2 H2 => wipe σ2 vs = τ ∧ tt σ2 H2 fun b H3 => if b = true then tk σ2 H3 fun y H4 => tv σ2 H4 fun z H5 => putsN w D (Pv (i + 1)) y z H5 else Pv (i + 1) H3) (hd : ∀ H, Pv n H → Qd H) :
    ∃ (m0 : Nat) (W : Nat → Nat → Hp → Prop), (∀ φ, DN w (upd H1 D (.ext φ)) D [] → W 0 m0 (upd H1 D (.ext φ))) ∧ ∀ i m H, W i m H → (J.stop i H ∧ Qd H) ∨ (J.go i H ∧ ∃ Nx : Hp → Prop, (∀ H', Nx H' → ∃ m', m' < m ∧ W (i + 1) m' H') ∧ ∀ x H', J.yld i H x H' → turnN w D g tt tk tv vs σ Nx x H') := by
  subst hτ
  refine ⟨n, fun i m H => m = n - i ∧ i ≤ n ∧ Pv i H, fun φ d => ⟨by omega, Nat.zero_le _, h0 φ d⟩, ?_⟩
  rintro i m H ⟨rfl, hi, p⟩
  by_cases lt : i < n
  · exact .inr ⟨wk.goes i H lt (hG i H hi p), Pv (i + 1), fun H' p' => ⟨n - (i + 1), by omega, rfl, by omega, p'⟩, fun x H' y => hs i x H H' lt p (wk.yields i H x H' lt (hG i H hi p) y)⟩
  · have e : i = n := by omega
    subst e
    exact .inl ⟨wk.stops H (hG i H hi p), hd H p⟩
end DicN

namespace Kx
open PySem L2 Own PinX DicN
abbrev s_built : Stmt := top 34
structure TxtBu (K : PySem.W.Frag) (mg : Str → Option Value) (f : Addr) (d : FuncData) : Prop where
  D_built : DefT K mg "built" "built" s_built ["signs", "labels", "step", "at_end"] f d
  n_enumerate : mg "enumerate" = none
section
/-! ### built, the labels being tuples -/
def lbl (ks : List NK) : Nat → List (NK × V)
  | 0 => []
  | i + 1 => match ks[i]? with
    | some k => putK (lbl ks i) k (.int (i : Nat))
    | none => lbl ks i
theorem lbl_at {ks : List NK} (nd : ks.Nodup) {j : Nat} {k : NK} (hj : ks[j]? = some k) : ∀ i, j < i → i ≤ ks.length → valV (lbl ks i) k = some (.int (j : Nat))
  | i + 1, h, l => by
    have hi : ks[i]? = some (ks[i]'(by omega)) := List.getElem?_eq_getElem (by omega)
    show valV (match ks[i]? with
      | some k => putK (lbl ks i) k (.int (i : Nat))
      | none => lbl ks i) k = _
    rw [hi]
    dsimp only
    rw [valV_put]
    by_cases e : j = i
    · subst e
      rw [hj] at hi
      rw [if_pos (Option.some.inj hi)]
    · rw [if_neg, lbl_at nd hj i (by omega) (by omega)]
      intro z
      obtain ⟨lj, ej⟩ := List.getElem?_eq_some_iff.mp hj
      exact e ((List.getElem_inj nd).mp (ej.trans z))
theorem lbl_len (ks : List NK) : ∀ i, (lbl ks i).length ≤ i
  | 0 => Nat.le_refl _
  | i + 1 => by
    have ih := lbl_len ks i
    unfold lbl
    split
    · rename_i k _
      have := length_putK (lbl ks i) k (V.int (i : Nat))
      omega
    · omega
def rowB (sg : Str) (nx : Nat → Nat → Nat) (gv : Nat → Nat → List Str) (i : Nat) : List Way := sg.cps.toList.map fun c => ((nx i c : Nat), gv i c)
def rowsB (sg : Str) (m : Nat) (nx : Nat → Nat → Nat) (gv : Nat → Nat → List Str) : List (List Way) := (List.range m).map (rowB sg nx gv)
def endsB (m : Nat) (en : Nat → List Str) : List (List Str) := (List.range m).map en
abbrev TupK (H H' : Hp) : Prop := ∀ b xs, H b = some (.tup xs) → H' b = some (.tup xs)
theorem tupE {H H' : Hp} (e : LamX.ExtN H H') : TupK H H' := fun b xs z => e b _ z fun ps y => by cases y
theorem DNe {w : World} {H H' : Hp} {D : Addr} {kvs : List (NK × V)} (e : LamX.ExtN H H') (d : DN w H D kvs) : DN w H' D kvs := d.keep (fun b φ z => e b _ z fun ps y => by cases y) (tupE e)
theorem lstE {H H' : Hp} {b : Addr} {xs : List V} (e : LamX.ExtN H H') (z : H b = some (.lst xs)) : H' b = some (.lst xs) := e b _ z fun ps y => by cases y
theorem tabs_put {T : List NdefX.NTab} {H : Hp} {a : Addr} {xs : List V} {o : HO} (h : H a = some (.lst xs)) (t : NdefX.TabsN T H) : NdefX.TabsN T (upd H a o) := fun q hq => by
  obtain ⟨ps, h1, h2, h3⟩ := t q hq
  refine ⟨ps, (upd_ne (ne_of h1 h (by intro z; cases z))).trans h1, h2, fun pos cv hc => ?_⟩
  obtain ⟨c, e1, e2⟩ := h3 pos cv hc
  exact ⟨c, e1, (upd_ne (ne_of e2 h (by unfold LamX.CodeO; intro z; cases z))).trans e2⟩
/-- a label -/
abbrev LabAt (H : Hp) (u : V) (k : NK) : Prop := (∃ b, u = .ref b) ∧ KeyN H k u ∧ k.depth ≤ 8
theorem LabAt.keep {H H' : Hp} {u : V} {k : NK} (s : TupK H H') (h : LabAt H u k) : LabAt H' u k := ⟨h.1, KeyN.keep s _ _ h.2.1, h.2.2⟩
/-- what a step tells -/
def StepR (ks : List NK) (n : Nat) (g : List Str) (H : Hp) (z : V) : Prop := ∃ (p a b : Addr) (k : NK), z = .ref p ∧ ks[n]? = some k ∧ KeyN H k (.ref b) ∧ k.depth ≤ 8 ∧ H p = some (.tup [.ref b, .ref a]) ∧ H a = some (.tup (g.map V.str))
def WayG (H : Hp) (v : V) (w : Way) : Prop := ∃ b g, v = .ref b ∧ H b = some (.tup [.int w.1, .ref g]) ∧ H g = some (.tup (w.2.map V.str))
def RowF (rr : Addr) (H : Hp) (v : V) (r : List Way) : Prop := ∃ a vs, v = .ref a ∧ a ≠ rr ∧ H a = some (.lst vs) ∧ Paired (WayG H) vs r
theorem StepR.keep {ks : List NK} {n : Nat} {g : List Str} {H H' : Hp} {z : V} (s : TupK H H') (h : StepR ks n g H z) : StepR ks n g H' z := by
  obtain ⟨p, a, b, k, e1, e2, e3, e4, e5, e6⟩ := h
  exact ⟨p, a, b, k, e1, e2, KeyN.keep s _ _ e3, e4, s _ _ e5, s _ _ e6⟩
theorem WayG.keep {H H' : Hp} {v : V} {w : Way} (s : TupK H H') (h : WayG H v w) : WayG H' v w := by
  obtain ⟨b, g, e1, e2, e3⟩ := h
  exact ⟨b, g, e1, s _ _ e2, s _ _ e3⟩
def spBuilt (P : Program) (w : World) (K : PySem.W.Frag) (mg : Str → Option Value) (base : Heap) (T : List NdefX.NTab) (Z : CAd) : Sp := fun vs H Q _ => ∃ (sg : Str) (q : Addr) (us : List V) (ks : List NK) (sv av : V) (nx : Nat → Nat → Nat) (gv : Nat → Nat → List Str) (en : Nat → List Str),
  vs = [.str sg, .ref q, sv, av] ∧ H q = some (.lst us) ∧ Paired (LabAt H) us ks ∧ ks.Nodup ∧ 1 ≤ ks.length ∧ ks.length ≤ 16 ∧ sg.cps.size ≤ 4 ∧ sg.cps.all (· < 128) = true ∧ NdefX.TabsN T H ∧
  (∀ i u c, us[i]? = some u → c ∈ sg.cps.toList → nx i c < ks.length ∧ (gv i c).length ≤ 4 ∧ CanT P w K mg base T 5 H sv [u, .str (Froz.sing c)] (StepR ks (nx i c) (gv i c))) ∧
  (∀ i u, us[i]? = some u → (en i).length ≤ 4 ∧ CanT P w K mg base T 5 H av [u] fun H2 z => KeysT H2 z (en i)) ∧
  (kl (keysOfRows (rowsB sg ks.length nx gv) ++ (endsB ks.length en).flatten)).length ≤ 12 ∧
  ∀ m H', LamX.ExtN H H' → NdefX.TabsN T H' → MachAt Z.C H' m sg ((rowsB sg ks.length nx gv).map nrm) ((endsB ks.length en).map kl) → Q (.ref m) H'
abbrev Nbuilt : List Str := ["signs", "labels", "step", "at_end", "label", "states", "rows", "ways", "state", "sign", "to", "given"]
theorem sc_built : FnScope Nbuilt ["signs", "labels", "step", "at_end"] (defScope s_built) := ⟨rfl, rfl, rfl, by decide +kernel, rfl, by decide +kernel, by decide +kernel⟩
end
theorem passX {P : Program} {w : World} {X : Cx} {E : XK} (hE : ∀ c d H, ¬ E c d H) : Passes (L2.CX P w) X E := fun _ _ _ _ _ _ _ ⟨_, _, _, _, _, _, _, _, _, _, _, _, h⟩ => (hE _ _ _ h).elim
section
variable {P : Program} {w : World} {K : PySem.W.Frag} {mg : Str → Option Value} {base : Heap} {A : EAd} {B : MAd} {Z : CAd} {f : Addr} {d : FuncData} {T : List NdefX.NTab}
theorem init_okL {H1 : Hp} {m dx r e : Addr} {sg : Str} {rv ev : List V} {R : List (List Way)} {Es : List (List Str)} {Q : VK} {E : XK} (hm : H1 m = none) (hdx : H1 dx = none) (hr : H1 r = some (.lst rv)) (pr : Paired (RowL K H1) rv R) (he : H1 e = some (.lst ev)) (pe : Paired (Texts K H1) ev Es)
    (asc : sg.cps.all (· < 128) = true) (z4 : sg.cps.size ≤ 4) (row : ∀ q ∈ R, q.length = sg.cps.size ∧ ∀ w ∈ q, Okw R.length w ∧ w.2.length ≤ 4) (l16 : R.length ≤ 16) (e16 : Es.length ≤ 16) (ends : ∀ ks ∈ Es, ks.length ≤ 4) (few : (kl (keysOfRows R ++ Es.flatten)).length ≤ 12)
    (q : ∀ H', Same H1 H' → MachAt Z.C H' m sg (R.map nrm) (Es.map kl) → Q .non H') : spInit K A Z [.ref m, .str sg, .ref r, .ref e] (upd (upd H1 dx (.own m)) m (.ins Z.C dx [])) Q E := by
  have s0 : Same H1 (upd (upd H1 dx (.own m)) m (.ins Z.C dx [])) := fun b o z => by
    rw [upd_ne (ne_of_none z hm), upd_ne (ne_of_none z hdx)]
    exact z
  have a : (keysOfRows R).length ≤ 16 * R.length := by
    have fb : ∀ {α : Type} (f : α → List Str) (m : Nat) {l : List α}, (∀ x ∈ l, (f x).length ≤ m) → (l.flatMap f).length ≤ m * l.length := by
      intro α f m l
      induction l with
      | nil => intro _; simp
      | cons x l ih =>
        intro h
        have := ih fun y hy => h y (List.mem_cons_of_mem _ hy)
        have := h x List.mem_cons_self
        rw [List.flatMap_cons, List.length_append, List.length_cons, Nat.mul_succ]
        omega
    refine fb _ 16 fun q hq => ?_
    have := fb (fun w : Way => w.2) 4 (l := q) fun w hw => ((row q hq).2 w hw).2
    have := (row q hq).1
    omega
  have b : Es.flatten.length ≤ 4 * Es.length := by
    clear pe few q
    induction Es with
    | nil => simp
    | cons x l ih =>
      have := ih (by simp at e16; omega) fun ks hk => ends ks (List.mem_cons_of_mem _ hk)
      have := ends x List.mem_cons_self
      rw [List.flatten_cons, List.length_append, List.length_cons]
      omega
  have bound : (keysOfRows R ++ Es.flatten).length + 1 < scanBound := by
    rw [List.length_append]
    have e : scanBound = 4096 := rfl
    omega
  refine ⟨m, r, e, dx, sg, rv, ev, R, Es, rfl, upd_same, s0 _ _ hr, L2.Paired.mapP pr fun _ _ z => z.keep s0, s0 _ _ he, L2.Paired.mapP pe fun _ _ z => z.keep s0, asc, by omega, fun q hq => ⟨by rw [(row q hq).1]; exact Nat.le_refl _, by rw [(row q hq).1]; omega⟩, by omega, by omega, bound, ?_, ?_⟩
  · intro i j q w d H' hq hw nb
    exact absurd ((row q (List.mem_of_getElem? hq)).2 w (List.mem_of_getElem? hw)).1 nb
  · intro _ H' kd
    refine ⟨fun big => absurd big (by omega), fun _ ma => q H' (fun b o z => ?_) ma⟩
    exact kd.2 b o (s0 _ _ z) (ne_of_none z hm)
theorem ok_built (TM : TxtM K mg B) (TE : TxtE K mg A) (TC : TxtC K mg Z) (TB : TxtBu K mg f d) : FnOk P w K mg base CX0 7 f d ["signs", "labels", "step", "at_end"] (spBuilt P w K mg base T Z) := by
  have sc := sc_built
  have G_init : FnOk P w K mg base (L2.CX P w) 5 Z.f Z.d ["self", "signs", "rows", "ends"] (spInit K A Z) := ok_init TM TE TC
  refine TB.D_built.F.ok sc (fun vs H Q E h => ?_) (fun cdv A1 outer s H vs Q E hr h => ?_)
  · obtain ⟨_, _, _, _, _, _, _, _, _, rfl, _⟩ := h; rfl
  · obtain ⟨sg, q, us, ks, sv, av, nx, gv, en, rfl, hq, pk, nd, k1, k16, z4, asc, hT, hst, hen, few, kQ⟩ := h
    have lu : us.length = ks.length := Paired.length pk
    have hu : (A1.deeper (PyProof.Rows.envOfC "built" (defScope s_built) s.heap.objs.size f cdv)).units + 9 < cLine := by have := hr.units; omega
    have hu8 := Nat.lt_trans (Nat.lt_succ_self _) hu
    refine ⟨_, (pss_cons (ps_set (i := 5) sc.nd rfl (Or.inr rfl) (pe_dcN (own := [("state", 8), ("label", 4)]) (g := gTup K 2 (gCons (gName 8) (gCons (gName 4) gNil))) (tt := tYes) (tk := tVar 4) (tv := tVar 8) rfl hu8 sc.nd (pi_enum (by rfl) TB.n_enumerate (pa_cons (pv 1) pa_nil)) (blkOk_by (N := Nbuilt) (sc := defScope s_built) (own := [("state", 8), ("label", 4)]) (by decide +kernel)) (fun _ _ _ _ _ => (pg_tup rfl (pgs_cons (pg_name (i := 8) sc.nd rfl (Or.inl rfl)) (pgs_cons (pg_name (i := 4) sc.nd rfl (Or.inl rfl)) pgs_nil)))) (fun _ _ _ _ _ => pts_nil) (fun _ _ _ _ _ => pv 4) (fun _ _ _ _ _ => pv 8)))
      (pss_cons (ps_set (i := 6) sc.nd rfl (Or.inl rfl) (pe_lst pa_nil))
      (pss_cons (ps_for PassesOwn.never rfl (pi_list (pv 1)) (pg_name (i := 4) sc.nd rfl (Or.inr rfl))
      (pss_cons (ps_setLc (i := 7) (own := [("sign", 9)]) (g := gName 9) (tt := tYes) (te := tCallC P w K mg base 5 2 (tCons (tVar 4) (tCons (tVar 9) tNil))) rfl sc.nd rfl rfl (sw_true rfl rfl rfl (by decide +kernel)) (pi_str (pv 0)) (blkOk_by (N := Nbuilt) (sc := defScope s_built) (own := [("sign", 9)]) (by decide +kernel)) (fun _ _ _ _ _ => (pg_name (i := 9) sc.nd rfl (Or.inl rfl))) (fun _ _ _ _ _ => pts_nil) (fun _ _ _ _ _ => pe_cc (k := 5) 2 hr (by decide) (pa_cons (pv 4) (pa_cons (pv 9) pa_nil))))
      (pss_one (ps_expr (pe_bm PySem.F.plainAttrs_list PySem.F.slot_list_append PySem.F.type_list_append mt_append (pv 6) (pa_cons (pe_lc (own := [("to", 10), ("given", 11)]) (g := gTup K 2 (gCons (gName 10) (gCons (gName 11) gNil))) (tt := tYes) (te := tTup (tCons (tGetN w (tVar 5) (tVar 10)) (tCons (tVar 11) tNil))) rfl sc.nd (pi_list (pv 7)) (blkOk_by (N := Nbuilt) (sc := defScope s_built) (own := [("to", 10), ("given", 11)]) (by decide +kernel)) (fun _ _ _ _ _ => (pg_tup rfl (pgs_cons (pg_name (i := 10) sc.nd rfl (Or.inl rfl)) (pgs_cons (pg_name (i := 11) sc.nd rfl (Or.inl rfl)) pgs_nil)))) (fun _ _ _ _ _ => pts_nil) (fun _ _ _ _ _ => (pe_tup (pa_cons (pe_getN hu (pv 5) (pv 10) (fun _ _ => rfl)) (pa_cons (pv 11) pa_nil))))) pa_nil))))))
      (pss_one (ps_ret (pe_make TC.make G_init (hr.mono (by decide)) rfl TC.g TC.b .nil (passX fun _ _ _ h => h) (pa_cons (pv 0) (pa_cons (pv 6) (pa_cons (pe_lc (own := [("label", 4)]) (g := gName 4) (tt := tYes) (te := tCallC P w K mg base 5 3 (tCons (tVar 4) tNil)) rfl sc.nd (pi_list (pv 1)) (blkOk_by (N := Nbuilt) (sc := defScope s_built) (own := [("label", 4)]) (by decide +kernel)) (fun _ _ _ _ _ => (pg_name (i := 4) sc.nd rfl (Or.inl rfl))) (fun _ _ _ _ _ => pts_nil) (fun _ _ _ _ _ => pe_cc (k := 5) 3 hr (by decide) (pa_cons (pv 4) pa_nil))) pa_nil))))))))), ?_⟩
    refine ⟨_, rfl, q, _, rfl, SqL.of hq, fun D hD => ?_⟩
    refine dcn_it (τ := [some (.str sg), some (.ref q), some sv, some av, none, none, none, none, none, none, none, none]) rfl walk_enum (fun i H' => Same H H' ∧ DN w H' D (lbl ks i)) (fun φ d0 => ⟨Same.upd hD, d0⟩) (fun i H' _ z => SqL.of (z.1 _ _ hq)) ?_ ?_
    · rintro i x H1 H1' hi ⟨s1, d1⟩ ⟨t, y, z, rfl, nt, rfl, ey, ez⟩
      cases ey
      have ez' : us[i]? = some z := ez
      obtain ⟨k, hk, ⟨b, rfl⟩, kk, dk⟩ := pat pk ez'
      have kk1 : KeyN (upd H1 t (.tup [V.int (i : Nat), .ref b])) k (.ref b) := KeyN.keep (fun c xs y => Same.upd nt _ _ (s1 _ _ y)) _ _ kk
      refine ⟨t, _, rfl, SqT.of upd_same, rfl, _, _, rfl, _, _, rfl, rfl, rfl, _, rfl, _, rfl, lbl ks i, k, b, rfl, d1.same (Same.upd nt), kk1, dk, ?_, fun φ d2 => ⟨?_, ?_⟩⟩
      · have := lbl_len ks i
        rw [sizeLine_eq]; omega
      · intro c o e
        rw [upd_ne (ne_of_none e hD)]
        exact Same.upd nt _ _ (s1 _ _ e)
      · have e : lbl ks (i + 1) = putK (lbl ks i) k (.int (i : Nat)) := by
          show (match ks[i]? with
            | some k => putK (lbl ks i) k (.int (i : Nat))
            | none => lbl ks i) = _
          rw [hk]
        rw [e]
        exact d2
    · rintro H1 ⟨s1, h1⟩
      rw [lu] at h1
      refine ⟨by show 0 ≤ sizeLine; decide, fun rr hrr => ?_⟩
      have s2 : Same H (upd H1 rr (.lst [])) := fun b o z => Same.upd hrr _ _ (s1 _ _ z)
      have nrr : H rr = none := by
        cases e : H rr with
        | none => rfl
        | some o => rw [s1 _ _ e] at hrr; cases hrr
      have hD2 : DN w (upd H1 rr (.lst [])) D (lbl ks ks.length) := h1.same (Same.upd hrr)
      have hr2 : (upd H1 rr (.lst [])) rr = some (.lst []) := upd_same
      have T2 : NdefX.TabsN T (upd H1 rr (.lst [])) := hT.ext s2
      generalize upd H1 rr (.lst []) = H2 at s2 hD2 hr2 T2 ⊢
      clear h1 s1 hrr
      have nD : D ≠ rr := by
        obtain ⟨φ, z⟩ := hD2.at_
        exact ne_of z hr2 (by intro y; cases y)
      refine ⟨_, rfl, q, rfl, ⟨_, SqL.of (s2 _ _ hq)⟩, ?_⟩
      have nq : q ≠ rr := fun e => by rw [← e, hq] at nrr; cases nrr
      refine for_it walk_list (fun i σ H' => (∃ o4 o7 : Option V, σ = [some (.str sg), some (.ref q), some sv, some av, o4, some (.ref D), some (.ref rr), o7, none, none, none, none]) ∧ (∀ b o, H2 b = some o → (∀ ps, o ≠ .tbl ps) → b ≠ rr → H' b = some o) ∧ NdefX.TabsN T H' ∧ ∃ rv, H' rr = some (.lst rv) ∧ Paired (RowF rr H') rv ((rowsB sg ks.length nx gv).take i)) ⟨⟨_, _, rfl⟩, fun _ _ z _ _ => z, T2, [], hr2, .nil⟩ (fun i σ H' _ z => SqL.of (z.2.1 _ _ (s2 _ _ hq) (fun ps y => by cases y) nq)) ?_ ?_
      · rintro i x σ _ H3 hi ⟨⟨o4, o7, rfl⟩, s3, T3, rv, hr3, pr⟩ ⟨rfl, hx⟩
        rw [lu] at hi
        have sH3 : LamX.ExtN H H3 := fun b o z nt => s3 _ _ (s2 _ _ z) nt fun e => by rw [e, nrr] at z; cases z
        refine ⟨_, rfl, sg, rfl, fun W hW => ?_⟩
        refine lcs_it [some (.str sg), some (.ref q), some sv, some av, some x, some (.ref D), some (.ref rr), o7, none, none, none, none] rfl walk_str (fun j H' => LamX.ExtN H3 H' ∧ NdefX.TabsN T H' ∧ ∃ zs, H' W = some (.lst zs) ∧ Paired (fun z c => StepR ks (nx i c) (gv i c) H' z) zs (sg.cps.toList.take j)) ⟨sameN (Same.upd hW), T3.ext (Same.upd hW), [], upd_same, .nil⟩ (fun _ _ _ _ => trivial) ?_ ?_
        · rintro j y _ H4 hj ⟨s4, T4, zs, h4, p4⟩ ⟨rfl, c, hc, rfl⟩
          have hc' : sg.cps.toList[j]? = some c := by rw [Array.getElem?_toList]; exact hc
          have cm := List.mem_of_getElem? hc'
          refine ⟨rfl, ?_⟩
          dsimp only [tYes]
          rw [if_pos rfl]
          refine callT_of (hst i x c hx cm).2.2 rfl (sH3.trans s4) T4 (fun G hG => ⟨_, rfl, _, rfl, hG _ (Same.refl _)⟩) fun z H5 s5 T5 r => ⟨zs, lstE s5 h4, ?_, ?_, tabs_put (lstE s5 h4) T5, zs ++ [z], upd_same, ?_⟩
          · have := Paired.length p4
            rw [List.length_take, Array.length_toList (xs := sg.cps)] at this
            rw [sizeLine_eq]; omega
          · intro b o e nt
            rw [upd_ne (ne_of_none e hW)]
            exact s5 _ _ (s4 _ _ e nt) nt
          · have kt : TupK H5 (upd H5 W (.lst (zs ++ [z]))) := fun b xs e => by
              rw [upd_ne (ne_of e (lstE s5 h4) (by intro y; cases y))]; exact e
            rw [List.take_add_one, hc']
            exact psnoc (L2.Paired.mapP p4 fun _ _ y => y.keep fun b xs e => kt _ _ (tupE s5 _ _ e)) (r.keep kt)
        · rintro H4 ⟨s4, T4, zs, h4, p4⟩
          have e0 : sg.cps.toList.take sg.cps.size = sg.cps.toList := List.take_of_length_le (by rw [Array.length_toList]; exact Nat.le_refl _)
          rw [e0] at p4
          have lz := Paired.length p4
          rw [Array.length_toList (xs := sg.cps)] at lz
          have lrow : (rowB sg nx gv i).length = sg.cps.size := by unfold rowB; rw [List.length_map, Array.length_toList (xs := sg.cps)]
          have hr4 := lstE s4 hr3
          have hD3 : DN w H3 D (lbl ks ks.length) := hD2.keep (fun b φ z => s3 _ _ z (fun ps y => by cases y) (ne_of z hr2 (by intro y; cases y))) fun b xs z => s3 _ _ z (fun ps y => by cases y) (ne_of z hr2 (by intro y; cases y))
          have hD4 := DNe s4 hD3
          refine ⟨_, rfl, .inl ⟨rfl, _, SqL.of hr4⟩, ?_⟩
          refine ⟨_, rfl, W, rfl, ⟨_, SqL.of h4⟩, fun L hL => ?_⟩
          have nL : L ≠ rr := (ne_of_none hr4 hL).symm
          refine lcs_it [some (.str sg), some (.ref q), some sv, some av, some x, some (.ref D), some (.ref rr), some (.ref W), none, none, none, none] rfl walk_list (fun j H' => Same H4 H' ∧ ∃ us, H' L = some (.lst us) ∧ Paired (WayG H') us ((rowB sg nx gv i).take j)) ⟨Same.upd hL, [], upd_same, .nil⟩ (fun j H' _ z => SqL.of (z.1 _ _ h4)) ?_ ?_
          · rintro j z _ H5 hj ⟨s5, us', h5, p5⟩ ⟨rfl, hz⟩
            obtain ⟨c, hc, p, a, b', k', rfl, hk', kn', dp', hp, ha⟩ := pat p4 hz
            have cm := List.mem_of_getElem? hc
            refine ⟨p, _, rfl, SqT.of (s5 _ _ hp), rfl, _, _, rfl, _, _, rfl, rfl, rfl, ?_⟩
            refine ⟨_, rfl, _, rfl, D, b', lbl ks ks.length, k', _, rfl, rfl, hD4.same s5, KeyN.keep (fun b xs z => s5 _ _ z) _ _ kn', dp', lbl_at nd hk' ks.length (hst i x c hx cm).1 (Nat.le_refl _), _, rfl, by show 2 ≤ sizeLine; decide, fun T hT => ⟨us', Same.upd hT _ _ h5, ?_, ?_, us' ++ [.ref T], upd_same, ?_⟩⟩
            · have := Paired.length p5
              rw [List.length_take, lrow] at this
              rw [sizeLine_eq]; omega
            · intro b o e
              rw [upd_ne (ne_of_none e hL)]
              exact Same.upd hT _ _ (s5 _ _ e)
            · have h5' := Same.upd (o := .tup [V.int (nx i c : Nat), V.ref a]) hT _ _ h5
              have kt : TupK (upd H5 T (.tup [V.int (nx i c : Nat), V.ref a])) (upd (upd H5 T (.tup [V.int (nx i c : Nat), V.ref a])) L (.lst (us' ++ [.ref T]))) := fun b xs e => by
                rw [upd_ne (ne_of e h5' (by intro y; cases y))]; exact e
              have hcj : (rowB sg nx gv i)[j]? = some (((nx i c : Nat) : Int), gv i c) := by
                unfold rowB
                rw [List.getElem?_map, hc]
                rfl
              rw [List.take_add_one, hcj]
              exact psnoc (L2.Paired.mapP p5 fun _ _ y => y.keep fun b xs e => kt _ _ (Same.upd hT _ _ e)) ⟨T, a, rfl, kt _ _ upd_same, kt _ _ (Same.upd hT _ _ (s5 _ _ ha))⟩
          · rintro H5 ⟨s5, us', h5, p5⟩
            have lr : (rowB sg nx gv i).length = zs.length := by rw [lrow, lz]
            rw [← lr, List.take_length] at p5
            have hr5 := s5 _ _ hr4
            have lrv := Paired.length pr
            rw [List.length_take] at lrv
            refine ⟨rr, rv, _, rfl, rfl, hr5, by rw [sizeLine_eq]; omega, ⟨_, _, rfl⟩, fun b o z nt n => ?_, tabs_put hr5 (T4.ext s5), rv ++ [.ref L], upd_same, ?_⟩
            · rw [upd_ne n]
              exact s5 _ _ (s4 _ _ (s3 _ _ z nt n) nt)
            · have kt : TupK H5 (upd H5 rr (.lst (rv ++ [.ref L]))) := fun b xs e => by
                rw [upd_ne (ne_of e hr5 (by intro y; cases y))]; exact e
              have hri : (rowsB sg ks.length nx gv)[i]? = some (rowB sg nx gv i) := by
                unfold rowsB
                rw [List.getElem?_map, List.getElem?_range hi]
                rfl
              rw [List.take_add_one, hri]
              refine psnoc (L2.Paired.mapP pr fun _ _ ⟨a, vs, e1, e2, e3, e4⟩ => ⟨a, vs, e1, e2, by rw [upd_ne e2]; exact s5 _ _ (lstE s4 e3), L2.Paired.mapP e4 fun _ _ y => y.keep fun b xs e => kt _ _ (s5 _ _ (tupE s4 _ _ e))⟩) ⟨L, us', rfl, nL, by rw [upd_ne nL]; exact h5, L2.Paired.mapP p5 fun _ _ y => y.keep kt⟩
      · rintro σ H3 ⟨⟨o4, o7, rfl⟩, s3, T3, rv, hr3, pr⟩
        have lrs : (rowsB sg ks.length nx gv).length = ks.length := by unfold rowsB; rw [List.length_map, List.length_range]
        have e9 : (rowsB sg ks.length nx gv).take us.length = rowsB sg ks.length nx gv := List.take_of_length_le (by rw [lrs, lu]; exact Nat.le_refl _)
        rw [e9] at pr
        have sH3 : LamX.ExtN H H3 := fun b o z nt => s3 _ _ (s2 _ _ z) nt fun e => by rw [e, nrr] at z; cases z
        have tailL : Paired (RowL K H3) rv (rowsB sg ks.length nx gv) := L2.Paired.mapP pr fun _ _ ⟨a, vs, e1, e2, e3, e4⟩ => ⟨a, vs, e1, e3, L2.Paired.mapP e4 fun _ _ ⟨b, g, f1, f2, f3⟩ => ⟨b, .ref g, f1, f2, .tup (SqT.of f3)⟩⟩
        refine ⟨_, rfl, _, rfl, _, rfl, q, rfl, ⟨_, SqL.of (lstE sH3 hq)⟩, fun W hW => ?_⟩
        refine lcs_it [some (.str sg), some (.ref q), some sv, some av, none, some (.ref D), some (.ref rr), o7, none, none, none, none] rfl walk_list (fun j H' => LamX.ExtN H3 H' ∧ NdefX.TabsN T H' ∧ ∃ zs, H' W = some (.lst zs) ∧ Paired (KeysT H') zs ((endsB ks.length en).take j)) ⟨sameN (Same.upd hW), T3.ext (Same.upd hW), [], upd_same, .nil⟩ (fun j H' _ z => SqL.of (lstE z.1 (lstE sH3 hq))) ?_ ?_
        · rintro j x _ H4 hj ⟨s4, T4, zs, h4, p4⟩ ⟨rfl, hx⟩
          rw [lu] at hj
          refine ⟨rfl, ?_⟩
          dsimp only [tYes]
          rw [if_pos rfl]
          refine callT_of (hen j x hx).2 rfl (sH3.trans s4) T4 (fun G hG => ⟨_, rfl, hG _ (Same.refl _)⟩) fun z H5 s5 T5 r => ⟨zs, lstE s5 h4, ?_, ?_, tabs_put (lstE s5 h4) T5, zs ++ [z], upd_same, ?_⟩
          · have := Paired.length p4
            rw [List.length_take] at this
            rw [sizeLine_eq]; omega
          · intro b o e nt
            rw [upd_ne (ne_of_none e hW)]
            exact s5 _ _ (s4 _ _ e nt) nt
          · have kt : TupK H5 (upd H5 W (.lst (zs ++ [z]))) := fun b xs e => by
              rw [upd_ne (ne_of e (lstE s5 h4) (by intro y; cases y))]; exact e
            have hej : (endsB ks.length en)[j]? = some (en j) := by
              unfold endsB
              rw [List.getElem?_map, List.getElem?_range hj]
              rfl
            rw [List.take_add_one, hej]
            exact psnoc (L2.Paired.mapP p4 fun _ _ y => KeysT.keep (fun b xs e => kt _ _ (tupE s5 _ _ e)) y) (KeysT.keep kt r)
        · rintro H4 ⟨s4, T4, zs, h4, p4⟩
          have les : (endsB ks.length en).length = ks.length := by unfold endsB; rw [List.length_map, List.length_range]
          have e8 : (endsB ks.length en).take us.length = endsB ks.length en := List.take_of_length_le (by rw [les, lu]; exact Nat.le_refl _)
          rw [e8] at p4
          intro m dx hm hdx nm
          have at_ : ∀ i, i < ks.length → ∃ u, us[i]? = some u := fun i hi => ⟨_, List.getElem?_eq_getElem (by omega)⟩
          have rowk : ∀ i u, us[i]? = some u → (rowB sg nx gv i).length = sg.cps.size ∧ ∀ w ∈ rowB sg nx gv i, Okw ks.length w ∧ w.2.length ≤ 4 := fun i u hu' => by
            unfold rowB
            refine ⟨by rw [List.length_map, Array.length_toList (xs := sg.cps)], fun w hw => ?_⟩
            obtain ⟨c, hc, rfl⟩ := List.mem_map.mp hw
            obtain ⟨g1, g2, _⟩ := hst i u c hu' hc
            exact ⟨⟨Int.natCast_nonneg _, by show ((nx i c : Nat) : Int) < (ks.length : Int); omega⟩, g2⟩
          have tail4 : Paired (RowL K H4) rv (rowsB sg ks.length nx gv) := L2.Paired.mapP pr fun _ _ ⟨a, vs, e1, e2, e3, e4⟩ => ⟨a, vs, e1, lstE s4 e3, L2.Paired.mapP e4 fun _ _ ⟨b, g, f1, f2, f3⟩ => ⟨b, .ref g, f1, tupE s4 _ _ f2, .tup (SqT.of (tupE s4 _ _ f3))⟩⟩
          refine init_okL hm hdx (lstE s4 hr3) tail4 h4 (L2.Paired.mapP p4 fun _ _ ⟨a, e1, e2⟩ => e1 ▸ .tup (SqT.of e2)) asc z4 (fun r hr => ?_) (by omega) (by omega) (fun e he => ?_) few fun H5 s5 ma => ⟨rfl, ?_⟩
          · obtain ⟨i, hi, rfl⟩ := List.mem_map.mp hr
            obtain ⟨k, hk⟩ := at_ i (List.mem_range.mp hi)
            rw [lrs]
            exact rowk i k hk
          · obtain ⟨i, hi, rfl⟩ := List.mem_map.mp he
            obtain ⟨k, hk⟩ := at_ i (List.mem_range.mp hi)
            exact (hen i k hk).1
          · exact kQ m H5 ((sH3.trans s4).trans (sameN s5)) (T4.ext s5) ma
end
end Kx

/-! lambdas with parameters: known objects, their promise; the key of min -/
namespace PinX
open PySem PySem.Spec PyProof.Rows L2 LamX NdefX
/-- the object at f is the lambda with the words of F and the body e -/
def LamO (f : Addr) (F : NF) (e : Expr) : HO := .ext fun h => ∃ pm ctv : Value, h.get? f = some (PySem.W.kla_obj "<lambda>" F.qual F.params e F.scope F.cl pm F.c ctv)
theorem lamO_ne {f : Addr} {F : NF} {e : Expr} (ps : Array Value) : LamO f F e ≠ .tbl ps := fun z => HO.noConfusion z
theorem lamO_at {P : Program} {w : World} {H : Hp} {h : Heap} {f : Addr} {F : NF} {e : Expr} (k : HOk P w H h) (z : H f = some (LamO f F e)) : ∃ pm ctv : Value, h.get? f = some (PySem.W.kla_obj "<lambda>" F.qual F.params e F.scope F.cl pm F.c ctv) := (k f _ z).1
/-- a table with one row more -/
theorem tabs_more {T : List NTab} {nm : Nat → Nat → Str} {Pt c' : Addr} {pos : Pos} {ps : Array Value} {H H' : Hp} (t : TabsN T H) (e : H Pt = some (.tbl ps)) (hu : ∀ p ∈ T, p.1 = Pt → p.2 = nm) (x : ExtN H H') (ok : TriplesOk ps.toList)
    (was : ∀ (pos : Pos) (cv : Value), codeAmong pos ps.toList = some cv → ∃ c, cv = .ref c ∧ H c = some (CodeO c (nm pos.line pos.col)))
    (now : H' Pt = some (.tbl (ps ++ #[rawInt pos.line, rawInt pos.col, .ref c']))) (new : H' c' = some (CodeO c' (nm pos.line pos.col))) (oth : ∀ b, b ≠ Pt → ∀ qs, H b = some (.tbl qs) → H' b = some (.tbl qs)) : TabsN T H' := by
  have el : (ps ++ #[rawInt pos.line, rawInt pos.col, .ref c']).toList = ps.toList ++ [rawInt pos.line, rawInt pos.col, .ref c'] := by simp
  intro p hp
  by_cases hb : p.1 = Pt
  · refine ⟨_, hb ▸ now, el ▸ PySem.TriplesOk_snoc _ _ _ _ ok, fun q cv hq => ?_⟩
    rw [hu p hp hb]
    rcases among_app2 _ ok (el ▸ hq) with z | ⟨z, l1, l2⟩
    · obtain ⟨d, d1, d2⟩ := was q cv z
      exact ⟨d, d1, x _ _ d2 codeO_ne⟩
    · rw [← l1, ← l2]
      exact ⟨c', z, new⟩
  · obtain ⟨qs, a1, a2, a3⟩ := t p hp
    refine ⟨qs, oth _ hb _ a1, a2, fun q cv hq => ?_⟩
    obtain ⟨d, d1, d2⟩ := a3 q cv hq
    exact ⟨d, d1, x _ _ d2 codeO_ne⟩
section
variable {X : Cx} {pins : List (Addr × Obj)} {σ : L2.St} {H : Hp} {s : Shared}
/-- a lambda just laid is known from now on -/
theorem inv_lam {F : NF} {e : Expr} {h' : Heap} {tk : Nat} {pm ctv : Value} (I : Inv X pins σ H { s with heap := h', toks := tk }) :
    Inv X pins σ (upd H h'.objs.size (LamO h'.objs.size F e)) { s with heap := h'.push (PySem.W.kla_obj "<lambda>" F.qual F.params e F.scope F.cl pm F.c ctv), toks := tk } := by
  have g : (h'.push (PySem.W.kla_obj "<lambda>" F.qual F.params e F.scope F.cl pm F.c ctv)).get? h'.objs.size = some (PySem.W.kla_obj "<lambda>" F.qual F.params e F.scope F.cl pm F.c ctv) := Heap.get?_push_size _ rfl
  exact I.laid (a := h'.objs.size) (fun b u z => Heap.get?_push_of_some _ z) (Nat.le_refl _) ⟨⟨pm, ctv, g⟩, ⟨_, g⟩, fun _ _ ⟨a, b, z⟩ st => ⟨a, b, st _ z⟩⟩
/-- «lambda ..: e» is made -/
theorem lam_made {T : List NTab} {nm : Nat → Nat → Str} {c Pt : Addr} {params : Arguments} {body : Expr} {scope : Scope} {pos : Pos} {E : Value → Shared → Prop} {Q : Value → Shared → Prop} (I : Inv X pins σ H s) (TB : TabB X.base X.mg c Pt) (hc : X.env.code = .ref c) (hm : (Pt, nm) ∈ T)
    (hn : nm pos.line pos.col = X.env.qual ++ "<lambda>") (hu : ∀ p ∈ T, p.1 = Pt → p.2 = nm) (hT : TabsN T H) (hdef : defaultsOf params X.env = ([], [])) (hfree : ∀ y ∈ scope.names, y.2 = .free → ∃ c, X.env.cells.lookup y.1 = some c)
    (h : ∀ (f c' : Addr) (H1 : Hp) (s' : Shared), Inv X pins σ H1 s' → ExtN H H1 → (∀ b, H1 b = Option.none → H b = Option.none) → TabsN T H1 → H f = none → H1 f = some (LamO f ⟨"<lambda>", X.env.qual ++ "<lambda>", params, [], scope, cloFrom X.env.cells scope.names [], c'⟩ body) → H1 c' = some (CodeO c' (X.env.qual ++ "<lambda>")) → Q (.ref f) s') :
    wpAny (model X.prog X.w) X.A (eval (.Lambda params body scope pos) X.env) Q E s := by
  obtain ⟨ps, tP, ok, was⟩ := (show TabN H Pt nm from hT _ hm)
  have oP : s.heap.get? Pt = some { cls := .none, data := .fields ps } := I.hok Pt _ tP
  refine PySem.W.kla_eval hdef ?_
  cases look : codeAmong pos ps.toList with
  | some cv =>
    obtain ⟨c', rfl, was'⟩ := was pos cv look
    rw [hn] at was'
    refine PySem.W.kla_makeFunctionHit (mg := X.mg) (c := c) (P := Pt) (ps := ps) (closure_ok hfree) I.ok.glob (I.mod.glob.keeps I.bk) hc (TB.code.keeps I.bk) oP ok look (TB.bm.keeps I.bk) fun ctv h' tk kp sz => ?_
    have J : Inv X pins σ H { s with heap := h', toks := tk } := I.kept kp
    have nf : H h'.objs.size = none := J.hok.fresh (Nat.le_refl _)
    refine h _ c' _ _ (inv_lam (F := ⟨"<lambda>", X.env.qual ++ "<lambda>", params, [], scope, cloFrom X.env.cells scope.names [], c'⟩) (e := body) (pm := (X.mg "__name__").getD .none) (ctv := ctv) J) ?_ (fun b z => upd_none z) (hT.ext ?_) nf upd_same ((upd_ne (ne_of_none was' nf)).trans was')
    · exact fun b o z _ => (upd_ne (ne_of_none z nf)).trans z
    · exact fun b o z => (upd_ne (ne_of_none z nf)).trans z
  | none =>
    refine PySem.W.kla_makeFunction (mg := X.mg) (c := c) (P := Pt) (ps := ps) (closure_ok hfree) I.ok.glob (I.mod.glob.keeps I.bk) hc (TB.code.keeps I.bk) oP ok look TB.gP (TB.bm.keeps I.bk) fun c' ctv h' tk kp ge lt ⟨c2, oc, vs, t, e2, hoc, hd, hv⟩ htb => ?_
    cases e2
    have nc : H c' = none := I.hok.fresh ge
    have J := inv_table (t' := tk) (more := #[rawInt pos.line, rawInt pos.col, .ref c']) (h' := h') I tP kp htb ge ⟨oc, vs, t, hoc, hd, hv⟩
    have x0 : ExtN H (upd (upd H Pt (.tbl (ps ++ #[rawInt pos.line, rawInt pos.col, .ref c']))) c' (CodeO c' (X.env.qual ++ "<lambda>"))) := fun b o z nt => by
      have n1 : b ≠ Pt := fun y => nt ps (by rw [y, tP] at z; exact (Option.some.inj z).symm)
      exact ((upd_ne (ne_of_none z nc)).trans (upd_ne n1)).trans z
    have nf := J.hok.fresh (Nat.le_refl h'.objs.size)
    have ncf : c' ≠ h'.objs.size := Nat.ne_of_lt lt
    have put : ∀ b o, upd (upd H Pt (.tbl (ps ++ #[rawInt pos.line, rawInt pos.col, .ref c']))) c' (CodeO c' (X.env.qual ++ "<lambda>")) b = some o → upd (upd (upd H Pt (.tbl (ps ++ #[rawInt pos.line, rawInt pos.col, .ref c']))) c' (CodeO c' (X.env.qual ++ "<lambda>"))) h'.objs.size (LamO h'.objs.size ⟨"<lambda>", X.env.qual ++ "<lambda>", params, [], scope, cloFrom X.env.cells scope.names [], c'⟩ body) b = some o := fun b o z => (upd_ne (ne_of_none z nf)).trans z
    refine h _ c' _ _ (inv_lam (F := ⟨"<lambda>", X.env.qual ++ "<lambda>", params, [], scope, cloFrom X.env.cells scope.names [], c'⟩) (e := body) (pm := (X.mg "__name__").getD .none) (ctv := ctv) J) (fun b o z nt => put _ _ (x0 b o z nt)) (fun b z => upd_none (upd_none (upd_none z))) (TabsN.ext ?_ put) (I.hok.fresh (Nat.le_trans ge (Nat.le_of_lt lt))) upd_same (put _ _ upd_same)
    refine tabs_more (pos := pos) (c' := c') hT tP hu x0 ok was (by rw [upd_ne (ne_of_none tP nc), upd_same]) (by rw [hn, upd_same]) fun b nb qs z => ?_
    exact ((upd_ne (ne_of_none z nc)).trans (upd_ne nb)).trans z
end
/-- the reading of a lambda -/
def tLamE (T : List NTab) (mk : Addr → NF) (body : Expr) : TE := fun σ H Q => TabsN T H ∧ ∀ (f c' : Addr) (H1 : Hp), ExtN H H1 → (∀ b, H1 b = Option.none → H b = Option.none) → TabsN T H1 → H f = none → H1 f = some (LamO f (mk c') body) → H1 (mk c').c = some (CodeO (mk c').c (mk c').qual) → Q (.ref f) H1
theorem pe_lam {X : Cx} {T : List NTab} {nm : Nat → Nat → Str} {c Pt : Addr} {params : Arguments} {body : Expr} {scope : Scope} {pos : Pos} (TB : TabB X.base X.mg c Pt) (hc : X.env.code = .ref c) (hm : (Pt, nm) ∈ T) (hn : nm pos.line pos.col = X.env.qual ++ "<lambda>") (hu : ∀ p ∈ T, p.1 = Pt → p.2 = nm)
    (hfree : ∀ y ∈ scope.names, y.2 = .free → X.env.scope.names.lookup y.1 = some .cell ∨ X.env.scope.names.lookup y.1 = some .free) (hdef : defaultsOf params X.env = ([], [])) :
    PE X (.Lambda params body scope pos) (tLamE T (fun c' => ⟨"<lambda>", X.env.qual ++ "<lambda>", params, [], scope, cloFrom X.env.cells scope.names [], c'⟩) body) :=
  ⟨fun pins s σ H Q I ⟨hT, h⟩ => lam_made I TB hc hm hn hu hT hdef (fun y hy e => (hfree y hy e).elim (fun z => I.ok.has _ (.inl z)) fun z => I.ok.has _ (.inr z)) fun f c' H1 s' J x nn T1 f0 f1 c1 => ⟨.ref f, H1, J, rfl, h f c' H1 x nn T1 f0 f1 c1⟩⟩
/-! ### its promise -/
structure LOk (P : Program) (w : World) (K : PySem.W.Frag) (mg : Str → Option Value) (base : Heap) (CX : CXT) (k : Nat) (f : Addr) (F : NF) (e : Expr) (ps fr : List Str) (sp : List (Option V) → Sp) : Prop where
  len : ∀ ws vs H Q E, sp ws vs H Q E → vs.length = ps.length
  run : ∀ (A : Around) (outer : List Env) (s : Shared) (H : Hp) (us : List Value) (vs : List V) (ws : List (Option V)) (Q : VK) (E : XK), Room k A → Env0 P w K mg base A outer s H → H f = some (LamO f F e) → H F.c = some (CodeO F.c F.qual) →
    CellsAt F.cl fr ws s.heap H → Vals vs us → sp ws vs H Q E → codeAny (model P w) A (.call (.ref f) ⟨us, []⟩) (CR CX outer P w H s Q E) s
theorem lok_of {CX : CXT} {P : Program} {w : World} {K : PySem.W.Frag} {mg : Str → Option Value} {base : Heap} {N ps fr : List Str} {F : NF} {f : Addr} {e : Expr} {k : Nat} {sp : List (Option V) → Sp} (S : NScope N ps fr F.scope)
    (hb : ∀ (pm ctv : Value) (us : List Value), us.length = ps.length → bindArgs (PySem.W.kla_fn "<lambda>" F.qual F.params e F.scope F.cl pm (.ref F.c) ctv) ⟨us, []⟩ = pure (ps.zip us)) (len : ∀ ws vs H Q E, sp ws vs H Q E → vs.length = ps.length)
    (hbody : ∀ (A : Around) (outer : List Env) (s : Shared) (H : Hp) (vs : List V) (ws : List (Option V)) (Q : VK) (E : XK), Room k (A.deeper (envF F f s.heap.objs.size)) → ws.length = fr.length → sp ws vs H Q E →
      ∃ t, PE (ncx CX P w K mg base N F f A outer s H E) e t ∧ t (startF N vs ws) H Q) : LOk P w K mg base CX (k + 1) f F e ps fr sp := by
  refine ⟨len, fun A outer s H us vs ws Q E hr e0 hf hc C r q => ?_⟩
  have lv := len _ _ _ _ _ q
  obtain ⟨pm, ctv, ho⟩ := lamO_at e0.hok hf
  refine PySem.W.kla_callFunE hr.depth ho rfl S.co S.gen rfl (codeO_at e0.hok hc) ?_
  rw [hb pm ctv us (r.length ▸ lv)]
  have lim : s.heap.NoLimit := e0.mod.nolimit.keeps fun b o z => (e0.bs b o z).1
  refine wpAny_pure (wpAny_newFunctionEnv S.nocell (fun ⟨n, _⟩ hy => S.par n (List.of_mem_zip hy).1) (fun h₁ hns new => ⟨lim.fresh _ new, ?_⟩) S.kind)
  have kp : ∀ b o, s.heap.get? b = some o → h₁.get? b = some o := fun b o z => new.extBut b o (Nat.ne_of_lt (Heap.lt_size z)) (Heap.get?_push_of_some _ z)
  obtain ⟨t, ht, hq⟩ := hbody A outer s H vs ws Q E (hr.deeper _) C.len q
  have I := inv_startN (CX := CX) (f := f) (E := E) (tk := s.toks + (ps.zip us).length) S hr.hd e0 lv r C hns kp
  show codeAny _ _ (.expr e (envF F f s.heap.objs.size)) _ _
  refine PySem.W.kla_codeExpr (wpAny_mono (ht.run [] _ _ H _ I hq) (fun u s' z => ?_) fun _ _ z => z)
  obtain ⟨v, H', J, rv, q⟩ := z
  exact ⟨v, H', J.os, J.bare, J.base, J.hok, rv, q⟩
end PinX

/-! min(xs, key=lambda x: ..) where the keys are lists of numbers -/
namespace PinX
open PySem PySem.Spec PyProof.Rows L2 LamX NdefX
/-- the lists' order -/
def ltK (ks : List (List Int)) (i j : Nat) : Bool := PySem.W.DatumOrd.lt (ks.getD i []) (ks.getD j [])
theorem reads_ints {h : Heap} : ∀ {ns : List Int} {its : List Value}, Vals (ns.map V.int) its → ∃ as, ReadsAll h its (ns.map PySem.W.Datum.toD) as
  | [], _, .nil => ⟨[], .nil⟩
  | n :: ns, _, .cons (b := u) r rs => by
    obtain ⟨as, z⟩ := reads_ints (h := h) rs
    obtain ⟨t, rfl⟩ : ∃ t, u = Value.int n t := r
    exact ⟨_, .cons (.int n t) z⟩
/-- a list that is walked while functions are called -/
theorem walksV {prog : Program} {w : World} {A : Around} {l I : Addr} {xs : List V} (hh : A.handled = none) (nl : l ≠ I) :
    WalksS prog w A I [I, l] [I] (fun a b => b = a) xs.length (fun i v => ∃ x, xs[i]? = some x ∧ RelV x v) (fun i s => s.heap.IsListIter I l i ∧ ∃ its : List Value, s.heap.IsList l its.toArray ∧ Vals xs its) := by
  have lone : ∀ its : List Value, Vals xs its → its.toArray.size = xs.length := fun its r => by rw [List.size_toArray]; exact r.length.symm
  refine ⟨fun b hb => ?_, fun _ => rfl, fun _ _ _ a b => b.trans a, fun i s h' tk ⟨h1, its, h2, r⟩ _ kp => ?_, fun i s Q E hi ⟨h1, its, h2, r⟩ hQ => ?_, fun s Q E ⟨h1, its, h2, r⟩ hQ => ?_, fun i s Q E ⟨h1, its, h2, r⟩ hQ => ?_⟩
  · rw [List.mem_singleton.mp hb]; exact List.mem_cons_self
  · obtain ⟨h1', h2'⟩ := (Walks.list (prog := prog) (w := w) hh I l nl its.toArray).toS.frame i s h' s.toks ⟨h1, h2⟩ (Nat.le_refl _) kp
    exact ⟨h1', its, h2', r⟩
  · refine (Walks.list (prog := prog) (w := w) hh I l nl its.toArray).toS.item i s Q E (by rw [lone _ r]; exact hi) ⟨h1, h2⟩ fun v s' hv ⟨a, b⟩ m => hQ v s' ?_ ⟨a, its, b, r⟩ m
    have hv' : its[i]? = some v := by simpa using hv
    obtain ⟨u, hu, rr⟩ := r.get (i := i) (x := xs[i]) (by simp [hi])
    rw [hv'] at hu
    cases hu
    exact ⟨xs[i], by simp [hi], rr⟩
  · have e := lone _ r
    exact (Walks.list (prog := prog) (w := w) hh I l nl its.toArray).toS.done s Q E (by rw [e]; exact ⟨h1, h2⟩) hQ
  · exact (Walks.list (prog := prog) (w := w) hh I l nl its.toArray).toS.self i s Q E ⟨h1, h2⟩ hQ
section
variable {X : Cx} {pins : List (Addr × Obj)} {σ : L2.St} {H : Hp} {s s' : Shared}
/-- two records of ours have turned -/
theorem inv_moved {b1 b2 : Addr} (I : Inv X pins σ H s) (h1 : FpOk X pins H b1) (h2 : FpOk X pins H b2) (m : Moved [b1, b2] (fun a b => b = a) s s') : Inv X pins σ H s' := by
  have two : ∀ b ∈ [b1, b2], FpOk X pins H b := fun b hb => by
    rcases List.mem_cons.mp hb with rfl | hb
    · exact h1
    · rw [List.mem_singleton.mp hb]; exact h2
  have nin : ∀ b o, H b = some o → b ∉ [b1, b2] := fun b o z hb => by rw [(two b hb).1] at z; cases z
  obtain ⟨mh, mg, md, mo, mt⟩ := m
  obtain ⟨hp, g, d, t, os⟩ := s'
  cases mo
  cases mg
  cases md
  refine I.step (g' := s.gens) (d' := s.drawn) (t' := t) (ch := [b1, b2]) (fun b hb => ⟨(two b hb).2.2.2.1, (two b hb).2.1, (two b hb).2.2.2.2.1, (two b hb).2.2.2.2.2⟩) (fun b o _ _ nb z _ => mh b o nb z) (fun b o _ _ nb z _ => ⟨o.slots, mh b o nb z⟩) (fun _ _ _ _ n => n) (fun b o nb z => ⟨o, mh b o nb z⟩) (fun _ _ z => z) (fun _ _ _ z => z) (fun b ps z => ⟨#[], by simpa using z⟩) (fun mm ⟨o, es, ep, ho, r⟩ => ⟨o, es, ep, mh _ _ (fun hb => (two _ hb).2.1 rfl) ho, r⟩) (fun b u z => ?_) I.bare
  refine (I.hok b u z).stay (fun c v hc q => mh c v ?_ q) (fun _ q => q) fun _ _ q => q
  rcases hc with rfl | q'
  · exact nin _ _ z
  · exact nin _ _ q'
/-- the new list at a is forgotten -/
theorem inv_forget {a : Addr} {ys : List V} (I : Inv X pins σ H s) (ho : s'.os = s.os) (hb : AllBare s'.gens) (na : H a = none) (un : Un (frs X.stack) [] H (upd H a (.lst ys)) s.heap s'.heap) (hok : HOk X.prog X.w (upd H a (.lst ys)) s'.heap) : Inv X pins σ H s' := by
  refine I.call' (ch := []) ho ⟨un.keep, un.slot, fun _ _ _ n _ => n, un.there, fun _ _ z => z, fun _ _ _ z => z, fun b ps z => ⟨#[], by simpa using z⟩⟩ (fun b o z => ?_) hb fun b z => absurd z (by simp)
  refine (hok b o (by rw [upd_ne (ne_of_none z na)]; exact z)).stay (fun _ _ _ q => q) (fun c q => ?_) fun c xs q => ?_
  · by_cases e : c = a
    · rw [e, upd_same] at q; cases q
    · rw [upd_ne e] at q; exact q
  · by_cases e : c = a
    · rw [e, upd_same] at q; cases q
    · rw [upd_ne e] at q; exact q
/-- a told list of numbers, untracked -/
def KeyAt (X : Cx) (H : Hp) (ns : List Int) (k : Value) (s : Shared) : Prop := ∃ (a : Addr) (its : List Value) (n : Nat), k = .ref a ∧ s.heap.get? a = some { cls := .type "list", data := .seq its.toArray n } ∧ Vals (ns.map V.int) its ∧ H a = none ∧ a ∉ frs X.stack
theorem KeyAt.holds {ns : List Int} {k : Value} (h : KeyAt X H ns k s) : PySem.W.Holds s.heap k ns := by
  obtain ⟨a, its, n, rfl, ho, r, _⟩ := h
  obtain ⟨as, z⟩ := reads_ints (h := s.heap) r
  exact ⟨_, .list ho rfl rfl (by simpa using z)⟩
end
/-- the key's lambda at f, and what it tells of each item -/
def tMinL (X : Cx) (k : Nat) (F : Addr → NF) (e : Expr) (ps fr : List Str) (js : List Nat) (sp : List (Option V) → Sp) (t tk : TA) : TE := fun σ H Q => t σ H fun vs H1 => tk σ H1 fun zs H2 => ∃ (l f c' : Addr) (xs : List V) (ks : List (List Int)), vs = [.ref l] ∧ zs = [.ref f] ∧ SqL X.K H2 l xs ∧ 0 < xs.length ∧
  H2 f = some (LamO f (F c') e) ∧ H2 (F c').c = some (CodeO (F c').c (F c').qual) ∧
  (∀ i x, xs[i]? = some x → sp (js.map (slotAt σ)) [x] H2 (fun v H' => ∃ a, v = .ref a ∧ H2 a = none ∧ H' = upd H2 a (.lst ((ks.getD i []).map V.int))) E0) ∧
  ∀ x, xs[PySem.argBest (ltK ks) (xs.length - 1)]? = some x → Q x H2
section
variable {X : Cx} {k : Nat} {F : Addr → NF} {b : Expr} {ps fr : List Str} {js : List Nat} {cl : List (Str × Addr)} {sp : List (Option V) → Sp} {x : Str} {p pos : Pos} {e : Expr} {es : List Expr} {kws : List Keyword} {t tk : TA}
theorem pe_minL (L : ∀ f c', LOk X.prog X.w X.K X.mg X.base CX0 k f (F c') b ps fr sp) (hcl : ∀ c', (F c').cl = cl) (cp : X.Ok → Caps X cl fr js) (hr : Room (k + 1) X.A) (hg : Gl X x) (hm : X.mg x = none) (hv : bootBuiltins x = some (.builtin "min")) (ha : PA X (e :: es) t) (hk : PK X kws tk)
    (hn : x ≠ "__name__" := by decide) (hdb : (x == ("__debug__" : Str)) = false := by decide)
    (he : backTo pos (starEach (e :: es) X.env) = (false, eval e X.env) :: backTo pos (starEach es X.env) := by rfl) (hpl : (backTo pos (starEach (e :: es) X.env)).any (·.1) = false := by rfl)
    (hall : (backToKw pos (keywordEach kws X.env)).all (·.1.isSome) = true := by rfl) (hnone : (backToKw pos (keywordEach kws X.env)).any (·.1.isNone) = false := by rfl) (hks : (backToKw pos (keywordEach kws X.env)).filterMap (·.1) = [Str.ofString "key"] := by rfl) :
    PE X (.Call (.Name x p) (e :: es) kws pos) (tMinL X k F b ps fr js sp t tk) := by
  refine ⟨fun pins s0 σ H Q I0 h => wpAny_Call_Name_kw (ld_blt I0 hg hm hv (PyProof.Rows.callWith_kw (thn (ha.run pos pins s0 σ H _ I0 h) fun us s1 ⟨vs, H1, I1, r1, q1⟩ => thn (hk.run pos pins s1 σ H1 _ I1 q1) fun ws s ⟨zs, H2, I, r2, q2⟩ => ?_) he hpl hall hnone) hn hdb)⟩
  rw [hks]
  obtain ⟨l, f, c', xs, ks, rfl, rfl, hl, ne, hf, hc, key, ans⟩ := q2
  obtain ⟨u, rfl, ru⟩ := r1.one
  obtain ⟨z, rfl, rz⟩ := r2.one
  cases ru
  cases rz
  show wpAny _ _ (call (.builtin "min") [.ref l] [(Str.ofString "key", .ref f)]) _ _ _
  have hd : X.A.handled = none := hr.hd
  refine PySem.call_min_walkK ?_
  obtain ⟨its, rv, pl, hz⟩ := I.list hl
  have hil := pl.isList
  have ltl : l < s.heap.objs.size := by obtain ⟨o, ho, _⟩ := id hil; exact Heap.lt_size ho
  refine wpAny_pyIter_list hil ?_
  have I2 : Inv X pins σ H2 { s with heap := s.heap.push { cls := .type "list_iterator", data := .fields #[.ref l, .int 0 0] } } := I.kept (t' := s.toks) fun b o z => Heap.get?_push_of_some _ z
  have fI : FpOk X pins H2 s.heap.objs.size := I.fpOk (Nat.le_refl _) (I.hok.fresh (Nat.le_refl _))
  have gI : (s.heap.push { cls := .type "list_iterator", data := .fields #[.ref l, .int 0 0] }).get? s.heap.objs.size = some { cls := .type "list_iterator", data := .fields #[.ref l, .int 0 0] } := Heap.get?_push_size _ rfl
  have fS := I2.fpOk (H' := H2) (Nat.le_refl _) (I2.hok.fresh (Nat.le_refl _))
  have szS : s.heap.objs.size < (s.heap.push { cls := .type "list_iterator", data := .fields #[.ref l, .int 0 0] }).objs.size := Heap.lt_size gI
  have nIk : ∀ b ∈ frs X.stack, b < s.heap.objs.size := fun b hb => by
    have := I.stkSub b hb
    rcases List.mem_cons.mp this with z | z
    · rw [z]; exact I.lt
    · obtain ⟨_, o, ho, _⟩ := I.ok.funs.mem z
      exact Nat.lt_of_lt_of_le (Heap.lt_size ho) I.sz
  generalize hS : (s.heap.push { cls := .type "list_iterator", data := .fields #[.ref l, .int 0 0] }).objs.size = S at fS szS
  generalize hI : s.heap.objs.size = It at fI gI szS nIk ltl
  have hil2 : (s.heap.push { cls := .type "list_iterator", data := .fields #[.ref l, .int 0 0] }).IsList l its.toArray := by
    obtain ⟨o, ho, r⟩ := hil
    exact ⟨o, Heap.get?_push_of_some _ ho, r⟩
  generalize hs2 : ({ s with heap := s.heap.push { cls := .type "list_iterator", data := .fields #[.ref l, .int 0 0] } } : Shared) = s2 at I2
  have hit2 : s2.heap.IsListIter It l 0 := by rw [← hs2]; exact ⟨_, gI, rfl, rfl⟩
  have hil3 : s2.heap.IsList l its.toArray := by rw [← hs2]; exact hil2
  have hsz2 : s2.heap.objs.size = S := by rw [← hs2]; exact hS
  have nlI : l ≠ It := Nat.ne_of_lt ltl
  have nS : S ∉ frs X.stack := fun hb => absurd (Nat.lt_trans (nIk S hb) szS) (Nat.lt_irrefl _)
  have nI' : It ∉ frs X.stack := fun hb => absurd (nIk It hb) (Nat.lt_irrefl _)
  refine ⟨It, [It, l], [It], _, xs.length, _, _, fun s => Inv X pins σ H2 s, fun i k s => KeyAt X H2 (ks.getD i []) k s ∧ k ≠ .ref S ∧ k ≠ .ref It, ltK ks, rfl, walksV (by exact hd) nlI, ⟨hit2, its, hil3, rv⟩, fun b hb => ?_, ne, ?_, I2, fun v s' ⟨x, hx, r⟩ J => ⟨x, H2, J, r, ans x hx⟩⟩
  · try rw [hsz2]
    rcases List.mem_cons.mp hb with rfl | hb
    · exact szS
    · rw [List.mem_singleton.mp hb]; exact Nat.lt_trans ltl szS
  · try rw [hsz2]
    refine ⟨fun s s' J m => inv_moved J fS fI m, fun i k s s' ⟨⟨a, its, n, e, ho, r, h1, h2⟩, k1, k2⟩ m => ⟨⟨a, its, n, e, m.heap a _ (fun hb => ?_) ho, r, h1, h2⟩, k1, k2⟩, fun i v s o Q' E' hi ⟨x, hx, r⟩ J ⟨st1, _⟩ ho go => ?_, fun i j ki kj s Q' E' J ⟨a, _⟩ ⟨b, _⟩ q => PySem.W.lt_datum a.holds b.holds (by have := hr.units; show X.A.units + 1 + 1 < _; omega) q⟩
    · subst e
      rcases List.mem_cons.mp hb with z | z
      · exact k1 (by rw [z])
      · exact k2 (by rw [List.mem_singleton.mp z])
    · have C := cells_of J (cp J.ok)
      rw [← hcl c'] at C
      refine wpAny_call (codeAny_mono ((L f c').run X.A.in1 X.stack s H2 [v] [x] _ _ E0 hr.in1 J.env0.in1 hf hc C (.cons r .nil) (key i x hx)) fun r s' hq => ?_)
      cases r with
      | error e => exact False.elim hq
      | ok fl =>
        cases fl with
        | next => exact False.elim hq
        | brk => exact False.elim hq
        | cont => exact False.elim hq
        | ret u =>
          obtain ⟨w', H', os, bare, un, hok, rw', a, rfl, na, rfl⟩ := hq
          obtain ⟨_, its', n', ri, hoa⟩ := hok a _ upd_same
          cases rw'
          have frl : ∀ b o, s.heap.get? b = some o → H2 b = none → b ≠ a := fun b o hb nb e => by
            have z := un.free b o hb nb (by simp)
            rw [e, upd_same] at z
            cases z
          have J' := inv_forget J os bare na un hok
          obtain ⟨its2, rv2, pl2, _⟩ := J'.list hl
          obtain ⟨oI, hoI, hcI, hdI⟩ := id st1
          have kI := un.keep _ _ hoI fI.1 nI' (by simp)
          have kS := un.keep _ _ ho fS.1 nS (by simp)
          refine go (.ref a) s' J' ⟨⟨oI, kI, hcI, hdI⟩, its2, pl2.isList, rv2⟩ kS ⟨⟨a, its', n', rfl, hoa, ri, na, fun hb => ?_⟩, fun e => frl S o ho fS.1 (Value.ref.inj e).symm, fun e => frl It oI hoI fI.1 (Value.ref.inj e).symm⟩ fun j k' ⟨⟨b, jts, m, e, hb, rj, h1, h2⟩, k1, k2⟩ => ⟨⟨b, jts, m, e, un.keep b _ hb h1 h2 (by simp), rj, h1, h2⟩, k1, k2⟩
          obtain ⟨_, ob, hob, _⟩ := J.env0.funs.mem hb
          exact frl a ob hob (J.stkFree a hb) rfl
end
end PinX

namespace Own
open PySem PySem.Spec L2 PyProof.Rows PySem.Froz
/-- the place of a sign in a text -/
theorem occ_sign (x : Str) (c j : Nat) (hj : x.cps[j]? = some c) (hn : ∀ k, k < j → x.cps[k]? ≠ some c) : ∃ r, Builtin.Str.occurrences x (sing c) 0 x.length 1 = j :: r := by
  have here : ∀ i, StrLaws.At x (sing c) x.length i ↔ x.cps.toList[i]? = some c := fun i => StrLaws.subAt_one x c i
  rcases StrLaws.occ_head x (sing c) 1 (Nat.le_refl _) with ⟨_, h⟩ | ⟨i, r, e, ha, hk⟩
  · exact absurd ((here j).mpr (by rw [Array.getElem?_toList]; exact hj)) (h j)
  · have ia := (here i).mp ha
    rw [Array.getElem?_toList] at ia
    rcases Nat.lt_trichotomy i j with z | z | z
    · exact absurd ia (hn i z)
    · subst z
      exact ⟨r, e⟩
    · exact absurd ((here j).mpr (by rw [Array.getElem?_toList]; exact hj)) (hk j z)
def rSignAt : V → List V → Hp → VK → Prop := fun x xs H Q => ∃ (a : Str) (c j : Nat), x = .str a ∧ xs = [.str (sing c)] ∧ a.cps[j]? = some c ∧ (∀ k, k < j → a.cps[k]? ≠ some c) ∧ Q (.int j) H
theorem mt_signAt {X : Cx} : MtR X "str.index" rSignAt := by
  intro pins s σ H x xs v us Q I rx rs h
  obtain ⟨a, c, j, rfl, rfl, hj, hn, h⟩ := h
  obtain ⟨t, rfl⟩ := rx
  obtain ⟨u, rfl, t2, rfl⟩ := vals1 rs
  obtain ⟨r, e⟩ := occ_sign a c j hj hn
  exact PySem.SC.index e ⟨.int j, H, I.tok _, ⟨_, rfl⟩, h⟩
end Own

namespace Kx
open PySem L2 Own PinX
/-- the j-th statement of a def -/
def inDef (st : Stmt) (j : Nat) : Stmt := (defBody st).getD j (.Pass ⟨0, 0, 0, 0⟩)
abbrev s_least_piece : Stmt := top 37
/-! ### the words of a lambda that is a keyword of what is returned -/
def lamE : Stmt → Expr
  | .Return (some (.Call _ _ [⟨_, e, _⟩] _)) _ => e
  | _ => .Constant .none 0 ⟨0, 0, 0, 0⟩
def lamA : Expr → Arguments
  | .Lambda a _ _ _ => a
  | _ => { posonlyargs := [], args := [], vararg := none, kwonlyargs := [], kw_defaults := [], kwarg := none, defaults := [] }
def lamB : Expr → Expr
  | .Lambda _ b _ _ => b
  | e => e
def lamSc : Expr → Scope → Scope
  | .Lambda _ _ s _, _ => s
  | _, s => s
abbrev sc00 : Scope := defScope s_least_piece
abbrev LF (e : Expr) (q : Str) (cl : List (Str × Addr)) (c : Addr) : NdefX.NF := ⟨"<lambda>", q, lamA e, [], lamSc e sc00, cl, c⟩
theorem pe_lamS {X : Cx} {T : List NdefX.NTab} {nm : Nat → Nat → Str} {c Pt : Addr} {e : Expr} {pos : Pos} (he : e = .Lambda (lamA e) (lamB e) (lamSc e sc00) pos) (TB : LamX.TabB X.base X.mg c Pt) (hc : X.env.code = .ref c) (hm : (Pt, nm) ∈ T) (hn : nm pos.line pos.col = X.env.qual ++ "<lambda>") (hu : ∀ p ∈ T, p.1 = Pt → p.2 = nm)
    (hfree : ∀ y ∈ (lamSc e sc00).names, y.2 = .free → X.env.scope.names.lookup y.1 = some .cell ∨ X.env.scope.names.lookup y.1 = some .free) (hdef : defaultsOf (lamA e) X.env = ([], [])) :
    PE X e (tLamE T (LF e (X.env.qual ++ "<lambda>") (cloFrom X.env.cells (lamSc e sc00).names [])) (lamB e)) := by
  have q := pe_lam (X := X) (body := lamB e) (pos := pos) TB hc hm hn hu hfree hdef
  rw [← he] at q
  exact q
abbrev s_lpLam : Expr := lamE (inDef s_least_piece 1)
/-! ### runs, keys -/
def subS (t : Str) (a n : Nat) : Str := cutS t (some (a : Int)) (some ((a + n : Nat) : Int))
theorem sub_tl {t : Str} {a n : Nat} (h : a + n ≤ t.length) : TL.tl (subS t a n) = ((TL.tl t).drop a).take n := by
  unfold subS cutS
  rw [HT.sIx_nat, HT.sIx_nat]
  show List.take (min (a + n) t.length - min a t.length) (List.drop (min a t.length) t.cps.toList) = _
  rw [Nat.min_eq_left (show a ≤ t.length by omega), Nat.min_eq_left h, show a + n - a = n by omega]
theorem sub_len {t : Str} {a n : Nat} (h : a + n ≤ t.length) : (subS t a n).length = n := by
  rw [TL.len_tl, sub_tl h, List.length_take, List.length_drop, ← TL.len_tl]
  omega
def runsOf (t : Str) (n : Nat) : List Str := (List.range (t.length + 1 - n)).map fun a => subS t a n
def ixS (sg : Str) (c : Nat) : Int := ((sg.cps.toList.idxOf c : Nat) : Int)
def keyR (sg run : Str) : List Int := (TL.tl run).map (ixS sg)
def bestR (sg : Str) (runs : List Str) : Nat := PySem.argBest (ltK (runs.map (keyR sg))) (runs.length - 1)
def leastR (sg : Str) (runs : List Str) : Str := runs.getD (bestR sg runs) ""
theorem best_le (bt : Nat → Nat → Bool) : ∀ n, PySem.argBest bt n ≤ n
  | 0 => Nat.le_refl _
  | n + 1 => by
    have := best_le bt n
    unfold PySem.argBest
    split <;> omega
theorem best_lt {sg : Str} {runs : List Str} (h : 0 < runs.length) : bestR sg runs < runs.length := by
  have := best_le (ltK (runs.map (keyR sg))) (runs.length - 1)
  unfold bestR
  omega
theorem find_sign {sg : Str} {c : Nat} (hc : c ∈ sg.cps.toList) : Txt.find sg (Froz.sing c) = ixS sg c := by
  have hl := List.idxOf_lt_length_of_mem hc
  have hj : sg.cps[sg.cps.toList.idxOf c]? = some c := by
    rw [← Array.getElem?_toList, List.getElem?_eq_getElem hl, List.getElem_idxOf]
  have hn : ∀ k, k < sg.cps.toList.idxOf c → sg.cps[k]? ≠ some c := fun k hk e => by
    rw [← Array.getElem?_toList] at e
    obtain ⟨h1, h2⟩ := List.getElem?_eq_some_iff.mp e
    have := List.not_of_lt_findIdx (p := (· == c)) (xs := sg.cps.toList) (i := k) hk
    rw [h2] at this
    simp at this
  obtain ⟨r, e⟩ := Own.occ_sign sg c _ hj hn
  unfold Txt.find
  rw [e]
  rfl
section
variable {P : Program} {w : World} {K : PySem.W.Frag} {mg : Str → Option Value} {base : Heap}
/-! ### the key's lambda -/
def spLK : List (Option V) → Sp := fun ws vs H Q _ => ∃ sg run : Str, ws = [some (.str sg)] ∧ vs = [.str run] ∧ run.length ≤ 1000 ∧ (∀ c ∈ TL.tl run, c ∈ sg.cps.toList) ∧ ∀ a, H a = none → Q (.ref a) (upd H a (.lst ((keyR sg run).map V.int)))
theorem nsc_lk : NdefX.NScope ["run", "signs", "letter"] ["run"] ["signs"] (lamSc s_lpLam sc00) := NdefX.nscope_by (by decide +kernel)
theorem lok_lk (f c' : Addr) (q : Str) (cl : List (Str × Addr)) : LOk P w K mg base CX0 1 f (LF s_lpLam q cl c') (lamB s_lpLam) ["run"] ["signs"] spLK := by
  refine lok_of (k := 0) (N := ["run", "signs", "letter"]) nsc_lk (fun _ _ us hl => match us, hl with | [_], _ => rfl) (fun ws vs H Q E h => ?_) (fun A outer s H vs ws Q E hr hl h => ?_)
  · obtain ⟨_, _, _, rfl, _⟩ := h; rfl
  · obtain ⟨sg, run, rfl, rfl, rl, rin, k⟩ := h
    refine ⟨_, (pe_lc (own := [("letter", 2)]) (g := gName 2) (tt := tYes) (te := tM1 (fun x xs H Q => ∃ a b, x = .str a ∧ xs = [.str b] ∧ Q (.int (Txt.find a b)) H) (tVar 1) (tVar 2)) rfl nsc_lk.nd (pi_str (pv 0)) (blkOk_by (N := ["run", "signs", "letter"]) (sc := lamSc s_lpLam sc00) (own := [("letter", 2)]) (by decide +kernel)) (fun _ _ _ _ _ => (pg_name (i := 2) nsc_lk.nd rfl (Or.inl rfl))) (fun _ _ _ _ _ => pts_nil) (fun _ _ _ _ _ => pe_m1 PySem.F.slot_str_find PySem.F.type_str_find mt_find (pv 1) (pv 2))), ?_⟩
    refine ⟨_, rfl, run, rfl, fun D hD => ?_⟩
    refine lcs_it [some (.str run), some (.str sg), none] rfl walk_str (fun j H' => H' = upd H D (.lst ((((TL.tl run).take j).map (ixS sg)).map V.int))) rfl (fun _ _ _ _ => trivial) ?_ ?_
    · rintro j x _ H1 hj rfl ⟨rfl, c, hc, rfl⟩
      have hc' : (TL.tl run)[j]? = some c := by show run.cps.toList[j]? = some c; rw [Array.getElem?_toList]; exact hc
      refine ⟨rfl, _, rfl, ⟨_, rfl⟩, _, rfl, sg, ⟨#[c]⟩, rfl, rfl, _, upd_same, ?_, ?_⟩
      · have h1 : run.length = run.cps.size := rfl
        rw [List.length_map, List.length_map, List.length_take, sizeLine_eq]
        omega
      · rw [upd_upd, List.take_add_one, hc', Option.toList_some, List.map_append, List.map_append, show Txt.find sg ⟨#[c]⟩ = ixS sg c from find_sign (rin c (List.mem_of_getElem? hc'))]
        rfl
    · rintro H1 rfl
      have e0 : (TL.tl run).take run.cps.size = TL.tl run := List.take_of_length_le (by show run.cps.toList.length ≤ _; rw [Array.length_toList]; exact Nat.le_refl _)
      rw [e0]
      exact k D hD
/-! ### least_piece -/
abbrev nmLp (_ : Nat) (_ : Nat) : Str := "least_piece.<locals>.<lambda>"
structure TxtLp (K : PySem.W.Frag) (mg : Str → Option Value) (base : Heap) (T : List NdefX.NTab) (f : Addr) (d : FuncData) (c Pt : Addr) : Prop where
  g : mg "least_piece" = some (.ref f)
  F : FunC K "least_piece" "least_piece" s_least_piece f d c
  b : Binds K d ["signs", "text", "size"] []
  tb : LamX.TabB base mg c Pt
  mem : (Pt, nmLp) ∈ T
  one : ∀ p ∈ T, p.1 = Pt → p.2 = nmLp
  n_len : mg "len" = none
  n_range : mg "range" = none
  n_min : mg "min" = none
def spLp (T : List NdefX.NTab) : Sp := fun vs H Q _ => ∃ (sg t : Str) (n : Nat), vs = [.str sg, .str t, .int n] ∧ 1 ≤ n ∧ n ≤ t.length ∧ t.length ≤ 1000 ∧ (∀ c ∈ TL.tl t, c ∈ sg.cps.toList) ∧ NdefX.TabsN T H ∧ ∀ H', LamX.ExtN H H' → NdefX.TabsN T H' → Q (.str (leastR sg (runsOf t n))) H'
abbrev Nlp : List Str := ["signs", "text", "size", "runs", "at"]
theorem sc_lp : FnScope Nlp ["signs", "text", "size"] (defScope s_least_piece) := ⟨rfl, rfl, rfl, by decide +kernel, rfl, by decide +kernel, by decide +kernel⟩
theorem ok_lp {T : List NdefX.NTab} {f : Addr} {d : FuncData} {c Pt : Addr} (TL' : TxtLp K mg base T f d c Pt) : FnOk P w K mg base CX0 3 f d ["signs", "text", "size"] (spLp T) := by
  have sc := sc_lp
  refine TL'.F.ok sc (fun vs H Q E h => ?_) (fun A1 outer s H vs Q E hr h => ?_)
  · obtain ⟨_, _, _, rfl, _⟩ := h; rfl
  · obtain ⟨sg, t, n, rfl, n1, nt, t1, tin, hT, k⟩ := h
    refine ⟨_, (pss_cons (ps_setLc (i := 3) (own := [("at", 4)]) (g := gName 4) (tt := tYes) (te := tSl rSlS (tVar 1) (tPart (tVar 4)) (tPart (tOp rAdd (tVar 4) (tVar 2)))) rfl sc.nd rfl rfl (sw_true rfl rfl rfl (by decide +kernel)) (pi_range1 rfl TL'.n_range (pa_cons (pe_op op_add (pe_op op_sub (pe_callB call_len (by rfl) TL'.n_len (by decide +kernel) (pa_cons (pv 1) pa_nil)) (pv 2)) pe_int) pa_nil)) (blkOk_by (N := Nlp) (sc := defScope s_least_piece) (own := [("at", 4)]) (by decide +kernel)) (fun _ _ _ _ _ => (pg_name (i := 4) sc.nd rfl (Or.inl rfl))) (fun _ _ _ _ _ => pts_nil) (fun _ _ _ _ _ => pe_slice sl_str (pv 1) (po_some (pv 4)) (po_some (pe_op op_add (pv 4) (pv 2)))))
      (pss_one (ps_ret (pe_minL (js := [0]) (fun f' c' => lok_lk f' c' (("least_piece" : Str) ++ ".<locals>." ++ "<lambda>") _) (fun _ => rfl) (fun ok => NdefX.Caps.made ok (fr := ["signs"]) (NdefX.ndef_free (fr := ["signs"]) (show NdefX.ndefB (defScope s_least_piece) (lamSc s_lpLam sc00) ["signs"] = true by decide +kernel)) (by decide +kernel) rfl) hr rfl TL'.n_min (by decide +kernel) (pa_cons (pv 3) pa_nil)
        (pk_cons (pe_lamS (e := s_lpLam) rfl TL'.tb rfl TL'.mem rfl TL'.one (NdefX.ndef_free (fr := ["signs"]) (show NdefX.ndefB (defScope s_least_piece) (lamSc s_lpLam sc00) ["signs"] = true by decide +kernel)) rfl) pk_nil))))), ?_⟩
    have rl : (runsOf t n).length = t.length + 1 - n := by unfold runsOf; rw [List.length_map, List.length_range]
    have at_ : ∀ i, i < t.length + 1 - n → (runsOf t n)[i]? = some (subS t i n) := fun i hi => by unfold runsOf; rw [List.getElem?_map, List.getElem?_range hi]; rfl
    refine ⟨_, rfl, .str t, t.length, rfl, ⟨by rw [sizeLine_eq]; omega, rfl⟩, _, rfl, _, _, rfl, rfl, _, _, rfl, rfl, ((t.length + 1 - n : Nat) : Int), by show [V.int ((t.length : Int) - n + 1)] = _; rw [show (t.length : Int) - n + 1 = ((t.length + 1 - n : Nat) : Int) by omega], by omega, by omega, fun D hD => ?_⟩
    rw [Int.toNat_natCast]
    refine lcs_it [some (.str sg), some (.str t), some (.int n), none, none] rfl walk_range (fun i H' => Same H H' ∧ H' D = some (.lst (((runsOf t n).take i).map V.str))) ⟨Same.upd hD, upd_same⟩ (fun _ _ _ _ => trivial) ?_ ?_
    · rintro i x _ H1 hi ⟨s1, h1⟩ ⟨rfl, rfl⟩
      refine ⟨rfl, _, rfl, _, rfl, _, rfl, _, rfl, _, rfl, _, _, rfl, rfl, _, rfl, t, rfl, by rw [sizeLine_eq]; omega, _, h1, ?_, ?_, ?_⟩
      · rw [List.length_map, List.length_take, sizeLine_eq]; omega
      · intro b o z
        rw [upd_ne (ne_of_none z hD)]; exact s1 _ _ z
      · rw [upd_same, List.take_add_one, at_ i hi, Option.toList_some, List.map_append, Int.zero_add, ← Int.natCast_add]
        rfl
    · rintro H1 ⟨s1, h1⟩
      rw [← rl, List.take_length] at h1
      have T1 := hT.ext s1
      refine ⟨_, rfl, T1, fun f2 c2 H2 e2 m2 T2 f2n f2a c2a => ?_⟩
      have h2 := lstE e2 h1
      refine ⟨D, f2, c2, (runsOf t n).map V.str, (runsOf t n).map (keyR sg), rfl, rfl, SqL.of h2, by rw [List.length_map, rl]; omega, f2a, c2a, fun i x hx => ?_, fun x hx => ?_⟩
      · rw [List.getElem?_map] at hx
        obtain ⟨r, hr', rfl⟩ := Option.map_eq_some_iff.mp hx
        have li := (List.getElem?_eq_some_iff.mp hr').1
        rw [rl] at li
        rw [at_ i li] at hr'
        cases hr'
        have e : ((runsOf t n).map (keyR sg)).getD i [] = keyR sg (subS t i n) := by rw [List.getD_eq_getElem?_getD, List.getElem?_map, at_ i li]; rfl
        rw [e]
        refine ⟨sg, subS t i n, rfl, rfl, by rw [sub_len (by omega)]; omega, fun c hc => tin c ?_, fun a ha => ⟨a, rfl, ha, rfl⟩⟩
        rw [sub_tl (by omega)] at hc
        exact List.mem_of_mem_drop (List.mem_of_mem_take hc)
      · have lb := best_lt (sg := sg) (runs := runsOf t n) (by rw [rl]; omega)
        rw [List.length_map] at hx
        rw [show PySem.argBest (ltK ((runsOf t n).map (keyR sg))) ((runsOf t n).length - 1) = bestR sg (runsOf t n) from rfl, List.getElem?_map] at hx
        obtain ⟨r, hr', rfl⟩ := Option.map_eq_some_iff.mp hx
        have e : r = leastR sg (runsOf t n) := by unfold leastR; rw [List.getD_eq_getElem?_getD, hr']; rfl
        rw [e]
        exact k _ (extN_trans (sameN s1) e2) T2
end
end Kx

namespace Kx
open PySem L2 Own PinX DicN
abbrev s_check_pieces : Stmt := top 36
abbrev s_least_pieces : Stmt := top 35
abbrev s_lp_step : Stmt := inDef s_least_pieces 2
abbrev s_lp_end : Stmt := inDef s_least_pieces 3
/-! ### texts by their letters -/
theorem int_eq (a b : Nat) : decide (V.int (a : Nat) = V.int (b : Nat)) = decide (a = b) := by
  rw [decide_eq_decide]
  exact ⟨fun z => Int.ofNat.inj (V.int.inj z), fun z => by rw [z]⟩
theorem texts_num {sg : Str} : ∀ n, (textsOf sg n).length = sg.cps.size ^ n
  | 0 => rfl
  | n + 1 => by
    show ((textsOf sg n).flatMap fun t => sg.cps.toList.map fun c => t ++ Froz.sing c).length = _
    rw [fm_len, texts_num n, Array.length_toList (xs := sg.cps), Nat.pow_succ]
theorem below_num {sg : Str} (n : Nat) : (textsBelow sg n).length = below sg.cps.size n := by
  unfold textsBelow below
  rw [List.length_flatMap]
  congr 1
  exact List.map_congr_left fun k _ => texts_num k
theorem sing_tl (c : Nat) : TL.tl (Froz.sing c) = [c] := rfl
theorem str_tl {x y : Str} (h : TL.tl x = TL.tl y) : x = y := by
  have e : x.cps = y.cps := Array.toList_inj.mp h
  cases x; cases y
  exact congrArg Str.mk e
theorem snoc_inj {t u : Str} {c d : Nat} (h : t ++ Froz.sing c = u ++ Froz.sing d) : t = u ∧ c = d := by
  have e : TL.tl (t ++ Froz.sing c) = TL.tl (u ++ Froz.sing d) := congrArg TL.tl h
  rw [TL.tl_append, TL.tl_append, sing_tl, sing_tl] at e
  obtain ⟨e1, e2⟩ := List.append_inj' e rfl
  exact ⟨str_tl e1, by injection e2⟩
theorem nodup_fm {α β : Type} {f : α → List β} : ∀ {l : List α}, l.Nodup → (∀ x ∈ l, (f x).Nodup) → (∀ x ∈ l, ∀ y ∈ l, ∀ b, b ∈ f x → b ∈ f y → x = y) → (l.flatMap f).Nodup
  | [], _, _, _ => by simp
  | x :: l, nd, h1, h2 => by
    rw [List.flatMap_cons, List.nodup_append]
    have nd' := List.nodup_cons.mp nd
    refine ⟨h1 x List.mem_cons_self, nodup_fm nd'.2 (fun y hy => h1 y (List.mem_cons_of_mem _ hy)) fun y hy z hz => h2 y (List.mem_cons_of_mem _ hy) z (List.mem_cons_of_mem _ hz), fun a ha b hb e => ?_⟩
    subst e
    obtain ⟨y, hy, hb⟩ := List.mem_flatMap.mp hb
    have := h2 x List.mem_cons_self y (List.mem_cons_of_mem _ hy) a ha hb
    exact nd'.1 (this ▸ hy)
theorem texts_nodup {sg : Str} (nd : sg.cps.toList.Nodup) : ∀ n, (textsOf sg n).Nodup
  | 0 => by show [("" : Str)].Nodup; simp
  | n + 1 => nodup_fm (texts_nodup nd n) (fun t _ => by
      rw [List.nodup_iff_pairwise_ne, List.pairwise_map]
      exact List.Pairwise.imp (fun hne e => hne (snoc_inj e).2) (List.nodup_iff_pairwise_ne.mp nd)) fun x _ y _ b hb hb' => by
      obtain ⟨c, _, rfl⟩ := List.mem_map.mp hb
      obtain ⟨d, _, e⟩ := List.mem_map.mp hb'
      exact (snoc_inj e).1.symm
theorem below_nodup {sg : Str} (nd : sg.cps.toList.Nodup) (n : Nat) : (textsBelow sg n).Nodup :=
  nodup_fm List.nodup_range (fun k _ => texts_nodup nd k) fun x _ y _ b hb hb' => by
    have h1 := texts_len hb
    have h2 := texts_len hb'
    omega
theorem below_mem {sg t : Str} {n : Nat} : t ∈ textsBelow sg n ↔ t.length < n ∧ t ∈ textsOf sg t.length := by
  unfold textsBelow
  rw [List.mem_flatMap]
  constructor
  · rintro ⟨k, hk, ht⟩
    have e := texts_len ht
    rw [e]
    exact ⟨List.mem_range.mp hk, ht⟩
  · rintro ⟨h1, h2⟩
    exact ⟨_, List.mem_range.mpr h1, h2⟩
theorem kl_few (l : List Str) : (kl l).length ≤ l.length := nd_sub_len (kl_nodup _) fun _ h => kl_mem.mp h
theorem app_len (t : Str) (c : Nat) : (t ++ Froz.sing c).length = t.length + 1 := by
  rw [TL.len_tl, TL.tl_append, List.length_append, ← TL.len_tl]
  rfl
theorem cut1_tl (x : Str) : TL.tl (cutS x (some 1) none) = (TL.tl x).drop 1 := by
  unfold cutS
  rw [show (1 : Int) = ((1 : Nat) : Int) from rfl, HT.sIx_none, HT.sIx_nat]
  show List.take _ _ = _
  by_cases h : 1 ≤ x.length
  · rw [Nat.min_eq_left h, List.take_of_length_le]
    rw [List.length_drop]
    exact Nat.le_refl _
  · have e : x.cps.toList = [] := List.length_eq_zero_iff.mp (by
      have : x.cps.toList.length = x.length := Array.length_toList
      omega)
    show List.take _ (List.drop _ x.cps.toList) = List.drop 1 (TL.tl x)
    rw [show TL.tl x = x.cps.toList from rfl, e]
    simp
theorem texts_iff {sg : Str} : ∀ {n : Nat} {t : Str}, t ∈ textsOf sg n ↔ t.length = n ∧ ∀ c ∈ TL.tl t, c ∈ sg.cps.toList
  | 0, t => by
    constructor
    · intro h
      rw [List.mem_singleton.mp h]
      exact ⟨rfl, fun c hc => nomatch hc⟩
    · rintro ⟨h, _⟩
      refine List.mem_singleton.mpr (str_tl ?_)
      rw [TL.len_tl] at h
      rw [List.length_eq_zero_iff.mp h]
      rfl
  | n + 1, t => by
    constructor
    · intro h
      refine ⟨texts_len h, fun c hc => ?_⟩
      obtain ⟨u, hu, h⟩ := List.mem_flatMap.mp h
      obtain ⟨d, hd, rfl⟩ := List.mem_map.mp h
      rw [TL.tl_append, sing_tl] at hc
      rcases List.mem_append.mp hc with hc | hc
      · exact (texts_iff.mp hu).2 c hc
      · rw [List.mem_singleton.mp hc]; exact hd
    · rintro ⟨h, g⟩
      rw [TL.len_tl] at h
      obtain ⟨l, d, e⟩ : ∃ l d, TL.tl t = l ++ [d] := by
        refine ⟨(TL.tl t).dropLast, (TL.tl t).getLast (by intro z; rw [z] at h; cases h), ?_⟩
        exact (List.dropLast_concat_getLast _).symm
      have et : t = (⟨l.toArray⟩ : Str) ++ Froz.sing d := str_tl (by rw [TL.tl_append, sing_tl, e])
      rw [e, List.length_append] at h
      refine List.mem_flatMap.mpr ⟨⟨l.toArray⟩, texts_iff.mpr ⟨?_, fun c hc => g c ?_⟩, List.mem_map.mpr ⟨d, g d ?_, et.symm⟩⟩
      · show l.toArray.size = n
        simp at h ⊢
        exact h
      · rw [e]
        exact List.mem_append_left _ hc
      · rw [e]
        exact List.mem_append_right _ (List.mem_singleton.mpr rfl)
theorem below_iff {sg t : Str} {n : Nat} : t ∈ textsBelow sg n ↔ t.length < n ∧ ∀ c ∈ TL.tl t, c ∈ sg.cps.toList := by
  rw [below_mem, texts_iff]
  exact ⟨fun h => ⟨h.1, h.2.2⟩, fun h => ⟨h.1, rfl, h.2⟩⟩
section
/-! ### states -/
abbrev Lab := Bool × Str
def labK (x : Lab) : NK := .tup [.num (if x.1 = true then 1 else 0), .text x.2]
def labsL (sg : Str) (wd : Nat) : List Lab := (textsBelow sg wd).map (fun t => (false, t)) ++ (textsOf sg (wd - 1)).map fun t => (true, t)
def nxL (wd : Nat) (r : Str) (c : Nat) : Lab := if r.length + 1 < wd then (false, r ++ Froz.sing c) else (true, cutS (r ++ Froz.sing c) (some 1) none)
def gvL (l sg : Str) (n wd : Nat) (r : Str) (c : Nat) : List Str := if r.length + 1 < wd then [] else [l ++ leastR sg (runsOf (r ++ Froz.sing c) n)]
def enL (l sg : Str) (n : Nat) (x : Lab) : List Str := if x.1 = true then [] else if x.2.length < n then ["short"] else [l ++ leastR sg (runsOf x.2 n)]
theorem run_mem {t x : Str} {n : Nat} (h : x ∈ runsOf t n) : ∃ a, a + n ≤ t.length ∧ x = subS t a n := by
  unfold runsOf at h
  obtain ⟨a, ha, rfl⟩ := List.mem_map.mp h
  have := List.mem_range.mp ha
  by_cases e : n ≤ t.length
  · exact ⟨a, by omega, rfl⟩
  · exact ⟨a, by omega, rfl⟩
theorem runs_len {t : Str} {n : Nat} : (runsOf t n).length = t.length + 1 - n := by unfold runsOf; rw [List.length_map, List.length_range]
theorem least_mem {sg : Str} {runs : List Str} (h : 0 < runs.length) : leastR sg runs ∈ runs := by
  unfold leastR
  rw [List.getD_eq_getElem?_getD, List.getElem?_eq_getElem (best_lt h)]
  exact List.getElem_mem _
/-- the least run is a text of its own length -/
theorem least_in {sg t : Str} {n : Nat} (nt : n ≤ t.length) (tin : ∀ c ∈ TL.tl t, c ∈ sg.cps.toList) : leastR sg (runsOf t n) ∈ textsOf sg n := by
  obtain ⟨a, ha, e⟩ := run_mem (least_mem (sg := sg) (runs := runsOf t n) (by rw [runs_len]; omega))
  rw [e]
  refine texts_iff.mpr ⟨sub_len ha, fun c hc => tin c ?_⟩
  rw [sub_tl ha] at hc
  exact List.mem_of_mem_drop (List.mem_of_mem_take hc)
theorem least_len {sg t : Str} {n : Nat} (nt : n ≤ t.length) (tin : ∀ c ∈ TL.tl t, c ∈ sg.cps.toList) : (leastR sg (runsOf t n)).length = n := (texts_iff.mp (least_in nt tin)).1
theorem app_in {sg r : Str} {c : Nat} (rin : ∀ x ∈ TL.tl r, x ∈ sg.cps.toList) (cin : c ∈ sg.cps.toList) : ∀ x ∈ TL.tl (r ++ Froz.sing c), x ∈ sg.cps.toList := fun x hx => by
  rw [TL.tl_append, sing_tl] at hx
  rcases List.mem_append.mp hx with hx | hx
  · exact rin x hx
  · rw [List.mem_singleton.mp hx]; exact cin
end
section
variable {P : Program} {w : World} {K : PySem.W.Frag} {mg : Str → Option Value} {base : Heap} {T : List NdefX.NTab}
/-! ### step -/
def spLs (T : List NdefX.NTab) : List (Option V) → Sp := fun ws vs H Q _ => ∃ (l sg r : Str) (n wd c : Nat) (b : Addr) (o : Bool), ws = [some (.str l), some (.str sg), some (.int n), some (.int wd)] ∧ vs = [.ref b, .str (Froz.sing c)] ∧ H b = some (.tup [.bl o, .str r]) ∧
  l.length ≤ 10 ∧ 1 ≤ n ∧ n ≤ wd ∧ r.length < wd ∧ wd ≤ 100 ∧ (∀ x ∈ TL.tl r, x ∈ sg.cps.toList) ∧ c ∈ sg.cps.toList ∧ NdefX.TabsN T H ∧
  ∀ p b' a H', LamX.ExtN H H' → NdefX.TabsN T H' → H' p = some (.tup [.ref b', .ref a]) → H' b' = some (.tup [.bl (nxL wd r c).1, .str (nxL wd r c).2]) → H' a = some (.tup ((gvL l sg n wd r c).map V.str)) → Q (.ref p) H'
abbrev Nls : List Str := ["label", "sign", "letter", "signs", "size", "width", "read"]
theorem nsc_ls : NdefX.NScope Nls ["label", "sign"] ["letter", "signs", "size", "width"] (C8.fnScope s_lp_step) := NdefX.nscope_by (by decide +kernel)
theorem nok_ls {f0 : Addr} {d0 : FuncData} {c0 P0 : Addr} (TP : TxtLp K mg base T f0 d0 c0 P0) (f c' : Addr) (q : Str) (cl : List (Str × Addr)) : NdefX.NOk P w K mg base CX0 5 f (NdefX.NF.of s_lp_step "step" q cl c') ["label", "sign"] ["letter", "signs", "size", "width"] (spLs T) := by
  have G_lp : FnOk P w K mg base CX0 3 f0 d0 ["signs", "text", "size"] (spLp T) := ok_lp TP
  refine NdefX.nok_of (k := 4) (N := Nls) nsc_ls (fun _ _ _ us hl => match us, hl with | [_, _], _ => rfl) (fun ws vs H Q E h => ?_) (fun A outer s H vs ws Q E hr hf hc hl h => ?_)
  · obtain ⟨_, _, _, _, _, _, _, _, _, rfl, _⟩ := h; rfl
  · obtain ⟨l, sg, r, n, wd, c, b, o, rfl, rfl, hb, l10, n1, nw, rw0, w100, rin, cin, hT, k⟩ := h
    refine ⟨_, (pss_cons (ps_set (i := 6) nsc_ls.nd rfl (Or.inl rfl) (pe_op op_add_str (pe_ix ix_tup (pv 0) pe_int (fun _ _ => rfl)) (pv 1)))
      (pss_cons (ps_if (pt_cmpR op_lt (pe_callB call_len (by rfl) TP.n_len (by decide +kernel) (pa_cons (pv 6) pa_nil)) (pv 5) (nomark _)) (pss_one (ps_ret (pe_tup (pa_cons (pe_tup (pa_cons pe_bl (pa_cons (pv 6) pa_nil))) (pa_cons (pe_tup pa_nil) pa_nil))))) pss_nil)
      (pss_one (ps_ret (pe_tup (pa_cons (pe_tup (pa_cons pe_bl (pa_cons (pe_slice sl_str (pv 6) (po_some pe_int) po_none) pa_nil))) (pa_cons (pe_tup (pa_cons (pe_op op_add_str (pv 2) (pe_call G_lp (hr.mono (by decide)) rfl TP.g TP.F.kp TP.b .nil pass0 (pa_cons (pv 3) (pa_cons (pv 6) (pa_cons (pv 4) pa_nil))))) pa_nil)) pa_nil))))))), ?_⟩
    have rl := app_len r c
    refine ⟨_, rfl, b, _, _, _, rfl, rfl, SqT.of hb, rfl, _, rfl, r, _, rfl, rfl, by rw [sizeLine_eq]; show r.length + 1 ≤ _; omega, ?_⟩
    refine ⟨_, rfl, .str (r ++ Froz.sing c), (r ++ Froz.sing c).length, rfl, ⟨by rw [sizeLine_eq]; omega, rfl⟩, _, rfl, _, _, rfl, rfl, _, rfl, ?_⟩
    by_cases e : r.length + 1 < wd
    · refine ifT (by omega) ?_
      have e1 : nxL wd r c = (false, r ++ Froz.sing c) := if_pos e
      have e2 : gvL l sg n wd r c = [] := if_pos e
      rw [e1, e2] at k
      refine ⟨_, rfl, by show 2 ≤ sizeLine; decide, fun b' hb' => ⟨by show 0 ≤ sizeLine; decide, fun a ha => ⟨by show 2 ≤ sizeLine; decide, fun p hp => ?_⟩⟩⟩
      refine k p b' a _ (sameN ((Same.upd hb').trans ((Same.upd ha).trans (Same.upd hp)))) (hT.ext ((Same.upd hb').trans ((Same.upd ha).trans (Same.upd hp)))) upd_same (Same.upd hp _ _ (Same.upd ha _ _ upd_same)) (Same.upd hp _ _ upd_same)
    · refine ifF (by omega) ?_
      have e1 : nxL wd r c = (true, cutS (r ++ Froz.sing c) (some 1) none) := if_neg e
      have e2 : gvL l sg n wd r c = [l ++ leastR sg (runsOf (r ++ Froz.sing c) n)] := if_neg e
      rw [e1, e2] at k
      have ain := app_in rin cin
      have nl : n ≤ (r ++ Froz.sing c).length := by omega
      refine ⟨_, rfl, _, rfl, r ++ Froz.sing c, rfl, by rw [sizeLine_eq]; omega, by show 2 ≤ sizeLine; decide, fun b' hb' => ?_⟩
      refine ⟨_, rfl, _, rfl, _, rfl, _, rfl, sg, _, n, rfl, n1, nl, by omega, ain, hT.ext (Same.upd hb'), fun H1 x1 T1 => ?_⟩
      refine ⟨l, _, rfl, rfl, by rw [least_len nl ain, sizeLine_eq]; omega, by show 1 ≤ sizeLine; decide, fun a ha => ⟨by show 2 ≤ sizeLine; decide, fun p hp => ?_⟩⟩
      have b1 := x1 _ _ (upd_same : (upd H b' (.tup [.bl true, .str (cutS (r ++ Froz.sing c) (some 1) none)])) b' = _) fun ps y => by cases y
      have s2 : Same H1 (upd (upd H1 a (.tup [.str (l ++ leastR sg (runsOf (r ++ Froz.sing c) n))])) p (.tup [.ref b', .ref a])) := (Same.upd ha).trans (Same.upd hp)
      exact k p b' a _ (extN_trans (extN_trans (sameN (Same.upd hb')) x1) (sameN s2)) (T1.ext s2) upd_same (s2 _ _ b1) (Same.upd hp _ _ upd_same)
/-! ### at_end -/
def spLe (T : List NdefX.NTab) : List (Option V) → Sp := fun ws vs H Q _ => ∃ (l sg : Str) (x : Lab) (n : Nat) (b : Addr), ws = [some (.str l), some (.str sg), some (.int n)] ∧ vs = [.ref b] ∧ H b = some (.tup [.bl x.1, .str x.2]) ∧
  l.length ≤ 10 ∧ 1 ≤ n ∧ x.2.length ≤ 100 ∧ (∀ c ∈ TL.tl x.2, c ∈ sg.cps.toList) ∧ NdefX.TabsN T H ∧ ∀ p H', LamX.ExtN H H' → NdefX.TabsN T H' → H' p = some (.tup ((enL l sg n x).map V.str)) → Q (.ref p) H'
abbrev Nle : List Str := ["label", "letter", "signs", "size", "over", "read"]
theorem nsc_le : NdefX.NScope Nle ["label"] ["letter", "signs", "size"] (C8.fnScope s_lp_end) := NdefX.nscope_by (by decide +kernel)
theorem nok_le {f0 : Addr} {d0 : FuncData} {c0 P0 : Addr} (TP : TxtLp K mg base T f0 d0 c0 P0) (f c' : Addr) (q : Str) (cl : List (Str × Addr)) : NdefX.NOk P w K mg base CX0 5 f (NdefX.NF.of s_lp_end "at_end" q cl c') ["label"] ["letter", "signs", "size"] (spLe T) := by
  have G_lp : FnOk P w K mg base CX0 3 f0 d0 ["signs", "text", "size"] (spLp T) := ok_lp TP
  refine NdefX.nok_of (k := 4) (N := Nle) nsc_le (fun _ _ _ us hl => match us, hl with | [_], _ => rfl) (fun ws vs H Q E h => ?_) (fun A outer s H vs ws Q E hr hf hc hl h => ?_)
  · obtain ⟨_, _, _, _, _, _, rfl, _⟩ := h; rfl
  · obtain ⟨l, sg, ⟨o, r⟩, n, b, rfl, rfl, hb, l10, n1, r100, rin, hT, k⟩ := h
    dsimp only at hb r100 rin
    refine ⟨_, (pss_cons (ps_asg (pv 0) (pg_tup rfl (pgs_cons (pg_name (i := 4) nsc_le.nd rfl (Or.inl rfl)) (pgs_cons (pg_name (i := 5) nsc_le.nd rfl (Or.inl rfl)) pgs_nil))))
      (pss_cons (ps_if (pt_val (pv 4)) (pss_one (ps_ret (pe_tup pa_nil))) pss_nil)
      (pss_cons (ps_if (pt_cmpR op_lt (pe_callB call_len (by rfl) TP.n_len (by decide +kernel) (pa_cons (pv 5) pa_nil)) (pv 3) (nomark _)) (pss_one (ps_ret (pe_tup (pa_cons pe_str pa_nil)))) pss_nil)
      (pss_one (ps_ret (pe_tup (pa_cons (pe_op op_add_str (pv 1) (pe_call G_lp (hr.mono (by decide)) rfl TP.g TP.F.kp TP.b .nil pass0 (pa_cons (pv 2) (pa_cons (pv 5) (pa_cons (pv 3) pa_nil))))) pa_nil))))))), ?_⟩
    refine ⟨_, rfl, b, _, rfl, SqT.of hb, rfl, _, _, rfl, _, _, rfl, rfl, ?_⟩
    refine ⟨_, rfl, o, rfl, ?_⟩
    cases o with
    | true =>
      refine iteT ⟨by show 0 ≤ sizeLine; decide, fun p hp => ?_⟩
      exact k p _ (sameN (Same.upd hp)) (hT.ext (Same.upd hp)) upd_same
    | false =>
      refine iteF ?_
      refine ⟨_, rfl, .str r, r.length, rfl, ⟨by rw [sizeLine_eq]; omega, rfl⟩, _, rfl, _, _, rfl, rfl, _, rfl, ?_⟩
      by_cases e : r.length < n
      · refine ifT (by omega) ⟨by show 1 ≤ sizeLine; decide, fun p hp => ?_⟩
        have e1 : enL l sg n (false, r) = [("short" : Str)] := by unfold enL; rw [if_neg Bool.false_ne_true, if_pos e]
        rw [e1] at k
        exact k p _ (sameN (Same.upd hp)) (hT.ext (Same.upd hp)) upd_same
      · refine ifF (by omega) ?_
        have e1 : enL l sg n (false, r) = [l ++ leastR sg (runsOf r n)] := by unfold enL; rw [if_neg Bool.false_ne_true, if_neg e]
        rw [e1] at k
        refine ⟨_, rfl, _, rfl, _, rfl, _, rfl, sg, r, n, rfl, n1, by omega, by omega, rin, hT, fun H1 x1 T1 => ?_⟩
        refine ⟨l, _, rfl, rfl, by rw [least_len (by omega) rin, sizeLine_eq]; omega, by show 1 ≤ sizeLine; decide, fun p hp => ?_⟩
        exact k p _ (extN_trans x1 (sameN (Same.upd hp))) (T1.ext (Same.upd hp)) upd_same
end
end Kx

namespace Kx
open PySem L2 Own PinX DicN
section
/-! ### the labels -/
theorem labK_inj {x y : Lab} (h : labK x = labK y) : x = y := by
  obtain ⟨a, b⟩ := x
  obtain ⟨c, d⟩ := y
  unfold labK at h
  injection h with h
  injection h with h1 h2
  injection h2 with h2 _
  injection h1 with h1
  injection h2 with h2
  dsimp only at h1 h2
  subst h2
  cases a <;> cases c <;> first | rfl | (exfalso; simp at h1)
theorem labs_nodup {sg : Str} (nd : sg.cps.toList.Nodup) (wd : Nat) : (labsL sg wd).Nodup := by
  unfold labsL
  rw [List.nodup_append]
  have inj : ∀ b : Bool, ∀ l : List Str, l.Nodup → (l.map fun t => (b, t)).Nodup := fun b l h => by
    rw [List.nodup_iff_pairwise_ne, List.pairwise_map]
    exact List.Pairwise.imp (fun ne e => ne (Prod.mk.inj e).2) (List.nodup_iff_pairwise_ne.mp h)
  refine ⟨inj _ _ (below_nodup nd wd), inj _ _ (texts_nodup nd _), fun x hx y hy e => ?_⟩
  obtain ⟨_, _, rfl⟩ := List.mem_map.mp hx
  obtain ⟨_, _, rfl⟩ := List.mem_map.mp hy
  cases (Prod.mk.inj e).1
theorem labs_keys {sg : Str} (nd : sg.cps.toList.Nodup) (wd : Nat) : ((labsL sg wd).map labK).Nodup := by
  rw [List.nodup_iff_pairwise_ne, List.pairwise_map]
  exact List.Pairwise.imp (fun ne e => ne (labK_inj e)) (List.nodup_iff_pairwise_ne.mp (labs_nodup nd wd))
theorem labs_len {sg : Str} (wd : Nat) : (labsL sg wd).length = below sg.cps.size wd + sg.cps.size ^ (wd - 1) := by
  unfold labsL
  rw [List.length_append, List.length_map, List.length_map, below_num, texts_num]
theorem labs_iff {sg : Str} {wd : Nat} {x : Lab} : x ∈ labsL sg wd ↔ (∀ c ∈ TL.tl x.2, c ∈ sg.cps.toList) ∧ (x.1 = false ∧ x.2.length < wd ∨ x.1 = true ∧ x.2.length = wd - 1) := by
  obtain ⟨o, t⟩ := x
  unfold labsL
  rw [List.mem_append, List.mem_map, List.mem_map]
  constructor
  · rintro (⟨u, hu, e⟩ | ⟨u, hu, e⟩)
    · cases e
      obtain ⟨h1, h2⟩ := below_iff.mp hu
      exact ⟨h2, .inl ⟨rfl, h1⟩⟩
    · cases e
      obtain ⟨h1, h2⟩ := texts_iff.mp hu
      exact ⟨h2, .inr ⟨rfl, h1⟩⟩
  · rintro ⟨h, ⟨e, l⟩ | ⟨e, l⟩⟩
    · have e : o = false := e
      subst e
      exact .inl ⟨t, below_iff.mpr ⟨l, h⟩, rfl⟩
    · have e : o = true := e
      subst e
      exact .inr ⟨t, texts_iff.mpr ⟨l, h⟩, rfl⟩
theorem lab_len {sg : Str} {wd : Nat} {x : Lab} (w1 : 1 ≤ wd) (h : x ∈ labsL sg wd) : x.2.length < wd := by
  rcases (labs_iff.mp h).2 with ⟨_, z⟩ | ⟨_, z⟩ <;> omega
theorem cut1_in {sg t : Str} (h : ∀ c ∈ TL.tl t, c ∈ sg.cps.toList) : ∀ c ∈ TL.tl (cutS t (some 1) none), c ∈ sg.cps.toList := fun c hc => h c (by rw [cut1_tl] at hc; exact List.mem_of_mem_drop hc)
theorem nxL_in {sg r : Str} {wd c : Nat} (w1 : 1 ≤ wd) (rl : r.length < wd) (rin : ∀ x ∈ TL.tl r, x ∈ sg.cps.toList) (cin : c ∈ sg.cps.toList) : nxL wd r c ∈ labsL sg wd := by
  unfold nxL
  have al := app_len r c
  split
  · exact labs_iff.mpr ⟨app_in rin cin, .inl ⟨rfl, by show (r ++ Froz.sing c).length < wd; omega⟩⟩
  · refine labs_iff.mpr ⟨cut1_in (app_in rin cin), .inr ⟨rfl, ?_⟩⟩
    show (cutS (r ++ Froz.sing c) (some 1) none).length = wd - 1
    rw [TL.len_tl, cut1_tl, List.length_drop, ← TL.len_tl]
    omega
def labD (sg : Str) (wd i : Nat) : Lab := (labsL sg wd).getD i (false, "")
theorem labD_at {sg : Str} {wd i : Nat} {x : Lab} (h : (labsL sg wd)[i]? = some x) : labD sg wd i = x := by
  unfold labD
  rw [List.getD_eq_getElem?_getD, h]
  rfl
def nxI (sg : Str) (wd i c : Nat) : Nat := (labsL sg wd).idxOf (nxL wd (labD sg wd i).2 c)
def rowsP (l sg : Str) (n wd : Nat) : List (List Way) := rowsB sg (labsL sg wd).length (nxI sg wd) fun i c => gvL l sg n wd (labD sg wd i).2 c
def endsP (l sg : Str) (n wd : Nat) : List (List Str) := endsB (labsL sg wd).length fun i => enL l sg n (labD sg wd i)
def machLP (Z : CAd) (H' : Hp) (m : Addr) (l sg : Str) (n wd : Nat) : Prop := MachAt Z.C H' m sg ((rowsP l sg n wd).map nrm) ((endsP l sg n wd).map kl)
theorem few_keys {l sg : Str} {n wd : Nat} (nw : n ≤ wd) (n1 : 1 ≤ n) (w1 : 1 ≤ wd) (k11 : sg.cps.size ^ n ≤ 11) : (kl (keysOfRows (rowsP l sg n wd) ++ (endsP l sg n wd).flatten)).length ≤ 12 := by
  have sub : ∀ y ∈ kl (keysOfRows (rowsP l sg n wd) ++ (endsP l sg n wd).flatten), y ∈ (("short" : Str) :: (textsOf sg n).map fun t => l ++ t) := fun y hy => by
    rcases List.mem_append.mp (kl_mem.mp hy) with hy | hy
    · obtain ⟨q, hq, hy⟩ := List.mem_flatMap.mp hy
      obtain ⟨w, hw, hy⟩ := List.mem_flatMap.mp hy
      obtain ⟨i, hi, rfl⟩ := List.mem_map.mp hq
      obtain ⟨c, hc, rfl⟩ := List.mem_map.mp hw
      have hi := List.mem_range.mp hi
      have hx : (labsL sg wd)[i]? = some (labsL sg wd)[i] := List.getElem?_eq_getElem hi
      have xm := List.getElem_mem hi
      have e := labD_at hx
      dsimp only at hy
      rw [e] at hy
      unfold gvL at hy
      split at hy
      · cases hy
      · rename_i nl
        rw [List.mem_singleton.mp hy]
        have al := app_len (labsL sg wd)[i].2 c
        exact List.mem_cons_of_mem _ (List.mem_map.mpr ⟨_, least_in (by omega) (app_in (labs_iff.mp xm).1 hc), rfl⟩)
    · obtain ⟨q, hq, hy⟩ := List.mem_flatten.mp hy
      obtain ⟨i, hi, rfl⟩ := List.mem_map.mp hq
      have hi := List.mem_range.mp hi
      have hx : (labsL sg wd)[i]? = some (labsL sg wd)[i] := List.getElem?_eq_getElem hi
      have xm := List.getElem_mem hi
      have e := labD_at hx
      rw [e] at hy
      unfold enL at hy
      split at hy
      · cases hy
      · split at hy
        · rw [List.mem_singleton.mp hy]; exact List.mem_cons_self
        · rw [List.mem_singleton.mp hy]
          exact List.mem_cons_of_mem _ (List.mem_map.mpr ⟨_, least_in (by omega) (labs_iff.mp xm).1, rfl⟩)
  have h := nd_sub_len (kl_nodup _) sub
  rw [List.length_cons, List.length_map, texts_num] at h
  omega
end
section
variable {P : Program} {w : World} {K : PySem.W.Frag} {mg : Str → Option Value} {base : Heap} {A : EAd} {B : MAd} {Z : CAd} {F : FAd} {T : List NdefX.NTab}
/-! ### check_pieces -/
structure TxtCp (K : PySem.W.Frag) (mg : Str → Option Value) (f : Addr) (d : FuncData) : Prop where
  D_check_pieces : DefT K mg "check_pieces" "check_pieces" s_check_pieces ["many", "size", "width"] f d
  g_MOST_KEYS : ∃ t, mg "MOST_KEYS" = some (.int 12 t)
  g_MOST_STATES : ∃ t, mg "MOST_STATES" = some (.int 16 t)
def manyS (m wd : Nat) : Nat := below m wd + m ^ (wd - 1)
def spCp (A : EAd) : Sp := fun vs H Q E => ∃ m n wd : Nat, vs = [.int m, .int n, .int wd] ∧ m ≤ 4 ∧ n ≤ 17 ∧ 1 ≤ wd ∧ wd ≤ 17 ∧
  (11 < m ^ n → ∀ d H', H d = none → Same H H' → H' d = some (.xd [("what", .str "keys")]) → E (.ref A.c2) (some d) H') ∧
  (m ^ n ≤ 11 → 16 < manyS m wd → ∀ d H', H d = none → Same H H' → H' d = some (.xd [("what", .str "states")]) → E (.ref A.c2) (some d) H') ∧
  (m ^ n ≤ 11 → manyS m wd ≤ 16 → ∀ H', Same H H' → Q .non H')
theorem sc_cp : FnScope ["many", "size", "width"] ["many", "size", "width"] (defScope s_check_pieces) := ⟨rfl, rfl, rfl, by decide +kernel, rfl, by decide +kernel, by decide +kernel⟩
theorem same_none {H H' : Hp} {d : Addr} (s : Same H H') (h : H' d = none) : H d = none := by
  cases e : H d with
  | none => rfl
  | some o => rw [s _ _ e] at h; cases h
theorem ok_cp {f : Addr} {d : FuncData} (TE : TxtE K mg A) (TF : TxtF K mg F) (TC : TxtCp K mg f d) : FnOk P w K mg base (L2.CX P w) 4 f d ["many", "size", "width"] (spCp A) := by
  have sc := sc_cp
  have G_of : FnOk P w K mg base CX0 1 F.fo F.dO ["many", "length"] spOf := ok_of TF
  have G_below : FnOk P w K mg base CX0 2 F.fb F.db ["many", "length"] spBelow := ok_below TF
  obtain ⟨t1, g1⟩ := TC.g_MOST_KEYS
  obtain ⟨t2, g2⟩ := TC.g_MOST_STATES
  refine TC.D_check_pieces.F.okX sc (fun vs H Q E h => ?_) (fun cdv A1 outer s H vs Q E hr h => ?_)
  · obtain ⟨_, _, _, rfl, _⟩ := h; rfl
  · obtain ⟨m, n, wd, rfl, m4, n17, w1, w17, bad1, bad2, good⟩ := h
    refine ⟨_, (pss_cons (ps_if (pt_cmpR op_gt (pe_call G_of (hr.mono (by decide)) rfl TF.D_many_of.g TF.D_many_of.F.kp TF.D_many_of.b .nil pass0 (pa_cons (pv 0) (pa_cons (pv 1) pa_nil))) (pe_op op_sub (pe_glob (v := .int 12) rfl g1 ⟨_, rfl⟩) pe_int) (nomark _))
        (pss_one (ps_raise rfl (takes_of rfl rfl rfl rfl) (pmk_oex TE.E_TooMany.oex TE.I_TooMany.iC TE.I_TooMany.tI (ok_TooMany TE) (hr.mono (by decide)) TE.I_TooMany.b .nil pass0 rfl TE.E_TooMany.g (pa_cons pe_str pa_nil)))) pss_nil)
      (pss_one (ps_if (pt_cmpR op_gt (pe_op op_add (pe_call G_below (hr.mono (by decide)) rfl TF.D_many_below.g TF.D_many_below.F.kp TF.D_many_below.b .nil pass0 (pa_cons (pv 0) (pa_cons (pv 2) pa_nil))) (pe_call G_of (hr.mono (by decide)) rfl TF.D_many_of.g TF.D_many_of.F.kp TF.D_many_of.b .nil pass0 (pa_cons (pv 0) (pa_cons (pe_op op_sub (pv 2) pe_int) pa_nil)))) (pe_glob (v := .int 16) rfl g2 ⟨_, rfl⟩) (nomark _))
        (pss_one (ps_raise rfl (takes_of rfl rfl rfl rfl) (pmk_oex TE.E_TooMany.oex TE.I_TooMany.iC TE.I_TooMany.tI (ok_TooMany TE) (hr.mono (by decide)) TE.I_TooMany.b .nil pass0 rfl TE.E_TooMany.g (pa_cons pe_str pa_nil)))) pss_nil))), ?_⟩
    refine ⟨_, rfl, _, rfl, m, n, rfl, m4, n17, _, _, rfl, rfl, _, _, rfl, rfl, _, rfl, ?_⟩
    by_cases c0 : 11 < m ^ n
    · refine ifT (by show (12 : Int) - 1 < _; omega) ?_
      refine rsE rfl (by show 1 ≤ 1000; decide) (fun u hu => ?_) fun d H2 hd s2 h2 => bad1 c0 d H2 hd s2 h2
      rw [List.mem_singleton.mp hu]
      exact .inr ⟨_, rfl⟩
    refine ifF (by show ¬ (12 : Int) - 1 < _; omega) ?_
    refine ⟨_, rfl, _, rfl, m, wd, rfl, m4, w17, fun H1 s1 => ?_⟩
    refine ⟨_, rfl, _, rfl, _, _, rfl, rfl, m, wd - 1, by show [V.int (m : Nat), V.int ((wd : Nat) - 1 : Int)] = _; rw [show ((wd : Nat) : Int) - 1 = ((wd - 1 : Nat) : Int) by omega], m4, by omega, _, _, rfl, rfl, _, _, rfl, rfl, _, rfl, ?_⟩
    have e : ((below m wd : Nat) : Int) + ((m ^ (wd - 1) : Nat) : Int) = ((manyS m wd : Nat) : Int) := by unfold manyS; rw [Int.natCast_add]
    rw [e]
    by_cases c1 : 16 < manyS m wd
    · refine ifT (by omega) ?_
      refine rsE rfl (by show 1 ≤ 1000; decide) (fun u hu => ?_) fun d H2 hd s2 h2 => bad2 (by omega) c1 d H2 (same_none s1 hd) (s1.trans s2) h2
      rw [List.mem_singleton.mp hu]
      exact .inr ⟨_, rfl⟩
    · exact ifF (by omega) (good (by omega) (by omega) H1 s1)
end
end Kx

namespace Kx
open PySem L2 Own PinX DicN
abbrev nmLs (l : Nat) (_ : Nat) : Str := if l = (match s_lp_step with | .FunctionDef (pos := p) .. => p.line | _ => 0) then "least_pieces.<locals>.step" else "least_pieces.<locals>.at_end"
structure TxtLs (K : PySem.W.Frag) (mg : Str → Option Value) (base : Heap) (T : List NdefX.NTab) (f : Addr) (d : FuncData) (c Pt : Addr) : Prop where
  g : mg "least_pieces" = some (.ref f)
  F : FunC K "least_pieces" "least_pieces" s_least_pieces f d c
  b : Binds K d ["letter", "signs", "places", "size"] []
  tb : LamX.TabB base mg c Pt
  mem : (Pt, nmLs) ∈ T
  one : ∀ p ∈ T, p.1 = Pt → p.2 = nmLs
  n_len : mg "len" = none
/-- a pair that stands for a label -/
def PairL (H : Hp) (v : V) (x : Lab) : Prop := ∃ b, v = .ref b ∧ H b = some (.tup [.bl x.1, .str x.2])
theorem PairL.keep {H H' : Hp} {v : V} {x : Lab} (s : TupK H H') (h : PairL H v x) : PairL H' v x := by
  obtain ⟨b, e, z⟩ := h
  exact ⟨b, e, s _ _ z⟩
theorem PairL.key {H : Hp} {b : Addr} {x : Lab} (h : H b = some (.tup [.bl x.1, .str x.2])) : KeyN H (labK x) (.ref b) := ⟨b, _, rfl, h, _, _, rfl, .inr ⟨x.1, rfl, rfl⟩, _, _, rfl, rfl, rfl⟩
theorem PairL.lab {H : Hp} {v : V} {x : Lab} (h : PairL H v x) : LabAt H v (labK x) := by
  obtain ⟨b, rfl, z⟩ := h
  exact ⟨⟨b, rfl⟩, PairL.key z, by unfold labK; simp [PySem.NestedKey.depth, PySem.NestedKey.depthAll]⟩
def spLss (A : EAd) (Z : CAd) (T : List NdefX.NTab) : Sp := fun vs H Q E => ∃ (l sg : Str) (pl n : Nat), vs = [.str l, .str sg, .int pl, .int n] ∧ l.length ≤ 10 ∧ 1 ≤ sg.cps.size ∧ sg.cps.size ≤ 4 ∧ sg.cps.toList.Nodup ∧ sg.cps.all (· < 128) = true ∧ 1 ≤ pl ∧ pl ≤ 9 ∧ 1 ≤ n ∧ n ≤ 9 ∧ NdefX.TabsN T H ∧
  (11 < sg.cps.size ^ n → ∀ d H', H d = none → LamX.ExtN H H' → NdefX.TabsN T H' → H' d = some (.xd [("what", .str "keys")]) → E (.ref A.c2) (some d) H') ∧
  (sg.cps.size ^ n ≤ 11 → 16 < manyS sg.cps.size (pl + n - 1) → ∀ d H', H d = none → LamX.ExtN H H' → NdefX.TabsN T H' → H' d = some (.xd [("what", .str "states")]) → E (.ref A.c2) (some d) H') ∧
  (sg.cps.size ^ n ≤ 11 → manyS sg.cps.size (pl + n - 1) ≤ 16 → ∀ m H', LamX.ExtN H H' → NdefX.TabsN T H' → machLP Z H' m l sg n (pl + n - 1) → Q (.ref m) H')
abbrev Nlss : List Str := ["letter", "signs", "places", "size", "step", "at_end", "few", "enough", "width", "read"]
theorem sc_lss : FnScope Nlss ["letter", "signs", "places", "size"] (defScope s_least_pieces) := ⟨rfl, rfl, rfl, by decide +kernel, rfl, by decide +kernel, by decide +kernel⟩
theorem MachAt.keepO {C : Addr} {H H' : Hp} {m : Addr} {sg : Str} {R : List (List Way)} {Es : List (List Str)} (k : ∀ b o, H b = some o → (∀ φ, o ≠ .ext φ) → H' b = some o) (h : MachAt C H m sg R Es) : MachAt C H' m sg R Es := by
  obtain ⟨dx, r, e, k0, w, rv, ev, wv, hm0, hr0, pr, he0, pe, hk0, hw0, pw⟩ := h
  have kt : ∀ b xs, H b = some (.tup xs) → H' b = some (.tup xs) := fun b xs z => k b _ z (fun _ y => by cases y)
  exact ⟨dx, r, e, k0, w, rv, ev, wv, k _ _ hm0 (fun _ y => by cases y), kt _ _ hr0, L2.Paired.mapP pr fun _ _ z => z.keep kt, kt _ _ he0, L2.Paired.mapP pe fun _ _ z => z.keep kt, kt _ _ hk0, kt _ _ hw0, L2.Paired.mapP pw fun _ _ ⟨a, b, vs, e1, e2, e3, e4⟩ => ⟨a, b, vs, e1, e2, kt _ _ e3, k _ _ e4 (fun _ y => by cases y)⟩⟩
theorem papp {α β : Type} {F : α → β → Prop} : ∀ {l1 l2 : List α} {m1 m2 : List β}, Paired F l1 m1 → Paired F l2 m2 → Paired F (l1 ++ l2) (m1 ++ m2)
  | _, _, _, _, .nil, q => q
  | _, _, _, _, .cons h t, q => .cons h (papp t q)
theorem pmap {α β γ : Type} {F : α → γ → Prop} {f : β → γ} : ∀ {l : List α} {m : List β}, Paired (fun a b => F a (f b)) l m → Paired F l (m.map f)
  | _, _, .nil => .nil
  | _, _, .cons h t => .cons h (pmap t)
theorem enL_len (l sg : Str) (n : Nat) (x : Lab) : (enL l sg n x).length ≤ 4 := by
  unfold enL
  split
  · exact (by decide : 0 ≤ 4)
  · split <;> exact (by decide : 1 ≤ 4)
section
variable {P : Program} {w : World} {K : PySem.W.Frag} {mg : Str → Option Value} {base : Heap} {A : EAd} {B : MAd} {Z : CAd} {F : FAd} {T : List NdefX.NTab}
theorem ok_lss {fb fp fc f : Addr} {db dp dc d : FuncData} {cp Pp c Pt : Addr} (TM : TxtM K mg B) (TE : TxtE K mg A) (TC : TxtC K mg Z) (TF : TxtF K mg F) (TB : TxtBu K mg fb db) (TP : TxtLp K mg base T fp dp cp Pp) (TK : TxtCp K mg fc dc) (TS : TxtLs K mg base T f d c Pt) : FnOk P w K mg base (L2.CX P w) 8 f d ["letter", "signs", "places", "size"] (spLss A Z T) := by
  have sc := sc_lss
  have G_texts : FnOk P w K mg base CX0 1 F.ft F.dt ["signs", "length"] spTexts := ok_texts TF
  have G_tb : FnOk P w K mg base CX0 2 F.fw F.dw ["signs", "length"] spTextsB := ok_tb TF
  have G_cp : FnOk P w K mg base (L2.CX P w) 4 fc dc ["many", "size", "width"] (spCp A) := ok_cp TE TF TK
  have G_built : FnOk P w K mg base CX0 7 fb db ["signs", "labels", "step", "at_end"] (spBuilt P w K mg base T Z) := ok_built TM TE TC TB
  refine TS.F.okX sc (fun vs H Q E h => ?_) (fun A1 outer s H vs Q E hr h => ?_)
  · obtain ⟨_, _, _, _, rfl, _⟩ := h; rfl
  · obtain ⟨l, sg, pl, n, rfl, l10, z1, z4, nd, asc, p1, p9, n1, n9, hT, bad1, bad2, good⟩ := h
    have comp : ∀ (j : Nat) (b : Bool), True := fun _ _ => trivial
    refine ⟨_, (pss_cons (ps_set (i := 8) sc.nd rfl (Or.inr rfl) (pe_op op_sub (pe_op op_add (pv 2) (pv 3)) pe_int))
      (pss_cons (ps_expr (pe_callS G_cp (hr.mono (by decide)) rfl TK.D_check_pieces.g TK.D_check_pieces.F.kp TK.D_check_pieces.b (fun σ => passAt (takes_of rfl rfl rfl rfl) σ) (pa_cons (pe_callB call_len (by rfl) TS.n_len (by decide +kernel) (pa_cons (pv 1) pa_nil)) (pa_cons (pv 3) (pa_cons (pv 8) pa_nil)))))
      (pss_cons (NdefX.ps_ndefMS (st := s_lp_step) (i := 4) rfl TS.tb rfl TS.mem (by rfl) TS.one (NdefX.ndef_free (fr := ["letter", "signs", "size", "width"]) (show NdefX.ndefB (defScope s_least_pieces) (C8.fnScope s_lp_step) ["letter", "signs", "size", "width"] = true by decide +kernel)) rfl rfl rfl sc.nd rfl (Or.inl rfl) (Or.inl rfl))
      (pss_cons (NdefX.ps_ndefMS (st := s_lp_end) (i := 5) rfl TS.tb rfl TS.mem (by rfl) TS.one (NdefX.ndef_free (fr := ["letter", "signs", "size"]) (show NdefX.ndefB (defScope s_least_pieces) (C8.fnScope s_lp_end) ["letter", "signs", "size"] = true by decide +kernel)) rfl rfl rfl sc.nd rfl (Or.inl rfl) (Or.inl rfl))
      (pss_cons (ps_setLc (i := 6) (own := [("read", 9)]) (g := gName 9) (tt := tYes) (te := tTup (tCons (tC (.bl false)) (tCons (tVar 9) tNil))) rfl sc.nd rfl rfl (sw_true rfl rfl rfl (by decide +kernel)) (pi_list (pe_call G_tb (hr.mono (by decide)) rfl TF.D_texts_below.g TF.D_texts_below.F.kp TF.D_texts_below.b .nil pass0 (pa_cons (pv 1) (pa_cons (pv 8) pa_nil)))) (blkOk_by (N := Nlss) (sc := defScope s_least_pieces) (own := [("read", 9)]) (by decide +kernel)) (fun _ _ _ _ _ => (pg_name (i := 9) sc.nd rfl (Or.inl rfl))) (fun _ _ _ _ _ => pts_nil) (fun _ _ _ _ _ => pe_tup (pa_cons pe_bl (pa_cons (pv 9) pa_nil))))
      (pss_cons (ps_setLc (i := 7) (own := [("read", 9)]) (g := gName 9) (tt := tYes) (te := tTup (tCons (tC (.bl true)) (tCons (tVar 9) tNil))) rfl sc.nd rfl rfl (sw_true rfl rfl rfl (by decide +kernel)) (pi_list (pe_call G_texts (hr.mono (by decide)) rfl TF.D_texts_of.g TF.D_texts_of.F.kp TF.D_texts_of.b .nil pass0 (pa_cons (pv 1) (pa_cons (pe_op op_sub (pv 8) pe_int) pa_nil)))) (blkOk_by (N := Nlss) (sc := defScope s_least_pieces) (own := [("read", 9)]) (by decide +kernel)) (fun _ _ _ _ _ => (pg_name (i := 9) sc.nd rfl (Or.inl rfl))) (fun _ _ _ _ _ => pts_nil) (fun _ _ _ _ _ => pe_tup (pa_cons pe_bl (pa_cons (pv 9) pa_nil))))
      (pss_one (ps_ret (pe_callP G_built (hr.mono (by decide)) rfl TB.D_built.g TB.D_built.F.kp TB.D_built.b
        (fun c hc => by obtain ⟨y, hy⟩ := cells_at (cl := _) (by show (["width", "size", "signs", "letter"] : List Str).Nodup; decide +kernel) c hc; exact ⟨y, rfl, hy⟩) cells_in
        (pa_cons (pv 1) (pa_cons (pe_op op_cat (pv 6) (pv 7)) (pa_cons (pv 4) (pa_cons (pv 5) pa_nil))))))))))))), ?_⟩
    generalize hwd : pl + n - 1 = wd at bad2 good
    have w1 : 1 ≤ wd := by omega
    have w17 : wd ≤ 17 := by omega
    have nw : n ≤ wd := by omega
    refine ⟨_, rfl, _, rfl, _, _, rfl, rfl, _, _, rfl, rfl, ?_⟩
    dsimp only
    rw [show ((pl : Nat) : Int) + (n : Nat) - 1 = ((wd : Nat) : Int) by omega]
    refine ⟨_, rfl, .str sg, sg.cps.size, rfl, ⟨by show sg.cps.size ≤ _; rw [sizeLine_eq]; omega, rfl⟩, _, rfl, _, rfl, sg.cps.size, n, wd, rfl, z4, by omega, w1, w17, fun b d H1 hd s1 h1 => bad1 b d H1 hd (sameN s1) (hT.ext s1) h1, fun b0 b d H1 hd s1 h1 => bad2 b0 b d H1 hd (sameN s1) (hT.ext s1) h1, fun k11 m16 H1 s1 => ?_⟩
    have T1 := hT.ext s1
    have few16 : ∀ j, j ≤ wd - 1 → (textsOf sg j).length ≤ 100 := fun j hj => by
      have h1 : (textsOf sg j).length ≤ (textsBelow sg wd).length := nd_sub_len (texts_nodup nd j) fun x hx => List.mem_flatMap.mpr ⟨j, List.mem_range.mpr (by omega), hx⟩
      rw [below_num] at h1
      unfold manyS at m16
      omega
    refine ⟨T1, fun f4 c4 H2 e2 m2 T2 f4n f4a c4a => ?_⟩
    refine ⟨T2, fun f5 c5 H3 e3 m3 T3 f5n f5a c5a => ?_⟩
    refine ⟨_, rfl, _, rfl, sg, wd, rfl, z4, w17, fun j hj => few16 j (by omega), fun q H4 s4 nq hq => ?_⟩
    refine ⟨q, rfl, ⟨_, SqL.of hq⟩, fun D1 hD1 => ?_⟩
    refine lcs_it [some (.str l), some (.str sg), some (.int pl), some (.int n), some (.ref f4), some (.ref f5), none, none, some (.int wd), none] rfl walk_list (fun i H' => Same H4 H' ∧ ∃ us, H' D1 = some (.lst us) ∧ Paired (PairL H') us (((textsBelow sg wd).map fun t => (false, t)).take i)) ⟨Same.upd hD1, [], upd_same, .nil⟩ (fun i H' _ z => SqL.of (z.1 _ _ hq)) ?_ ?_
    · rintro i x _ H5 hi ⟨s5, us, h5, p5⟩ ⟨rfl, hx⟩
      rw [List.getElem?_map] at hx
      obtain ⟨t, ht, rfl⟩ := Option.map_eq_some_iff.mp hx
      refine ⟨rfl, _, rfl, by show 2 ≤ sizeLine; decide, fun b hb => ⟨us, Same.upd hb _ _ h5, ?_, ?_, us ++ [.ref b], upd_same, ?_⟩⟩
      · have h1 := Paired.length p5
        rw [List.length_take, List.length_map] at h1
        have h2 := labs_len (sg := sg) wd
        unfold labsL at h2
        rw [List.length_append, List.length_map, List.length_map] at h2
        unfold manyS at m16
        rw [sizeLine_eq]; omega
      · intro b' o e
        rw [upd_ne (ne_of_none e hD1)]
        exact Same.upd hb _ _ (s5 _ _ e)
      · have h5' := Same.upd (o := .tup [V.bl false, V.str t]) hb _ _ h5
        have kt : TupK (upd H5 b (.tup [V.bl false, V.str t])) (upd (upd H5 b (.tup [V.bl false, V.str t])) D1 (.lst (us ++ [.ref b]))) := fun b xs e => by
          rw [upd_ne (ne_of e h5' (by intro y; cases y))]; exact e
        rw [List.take_add_one, List.getElem?_map, ht]
        exact psnoc (L2.Paired.mapP p5 fun _ _ y => y.keep fun b xs e => kt _ _ (Same.upd hb _ _ e)) ⟨b, rfl, kt _ _ upd_same⟩
    rintro H5 ⟨s5, us5, h5, p5⟩
    rw [List.take_of_length_le (by rw [List.length_map, List.length_map]; exact Nat.le_refl _)] at p5
    refine ⟨_, rfl, _, rfl, _, _, rfl, rfl, sg, wd - 1, by show [V.str sg, V.int ((wd : Nat) - 1 : Int)] = _; rw [show ((wd : Nat) : Int) - 1 = ((wd - 1 : Nat) : Int) by omega], z4, by omega, fun j hj => few16 j hj, fun q2 H6 s6 nq2 hq2 => ?_⟩
    refine ⟨q2, rfl, ⟨_, SqL.of hq2⟩, fun D2 hD2 => ?_⟩
    refine lcs_it [some (.str l), some (.str sg), some (.int pl), some (.int n), some (.ref f4), some (.ref f5), some (.ref D1), none, some (.int wd), none] rfl walk_list (fun i H' => Same H6 H' ∧ ∃ us, H' D2 = some (.lst us) ∧ Paired (PairL H') us (((textsOf sg (wd - 1)).map fun t => (true, t)).take i)) ⟨Same.upd hD2, [], upd_same, .nil⟩ (fun i H' _ z => SqL.of (z.1 _ _ hq2)) ?_ ?_
    · rintro i x _ H7 hi ⟨s7, us, h7, p7⟩ ⟨rfl, hx⟩
      rw [List.getElem?_map] at hx
      obtain ⟨t, ht, rfl⟩ := Option.map_eq_some_iff.mp hx
      refine ⟨rfl, _, rfl, by show 2 ≤ sizeLine; decide, fun b hb => ⟨us, Same.upd hb _ _ h7, ?_, ?_, us ++ [.ref b], upd_same, ?_⟩⟩
      · have h1 := Paired.length p7
        rw [List.length_take, List.length_map] at h1
        have h2 := labs_len (sg := sg) wd
        unfold labsL at h2
        rw [List.length_append, List.length_map, List.length_map] at h2
        unfold manyS at m16
        rw [sizeLine_eq]; omega
      · intro b' o e
        rw [upd_ne (ne_of_none e hD2)]
        exact Same.upd hb _ _ (s7 _ _ e)
      · have h7' := Same.upd (o := .tup [V.bl true, V.str t]) hb _ _ h7
        have kt : TupK (upd H7 b (.tup [V.bl true, V.str t])) (upd (upd H7 b (.tup [V.bl true, V.str t])) D2 (.lst (us ++ [.ref b]))) := fun b xs e => by
          rw [upd_ne (ne_of e h7' (by intro y; cases y))]; exact e
        rw [List.take_add_one, List.getElem?_map, ht]
        exact psnoc (L2.Paired.mapP p7 fun _ _ y => y.keep fun b xs e => kt _ _ (Same.upd hb _ _ e)) ⟨b, rfl, kt _ _ upd_same⟩
    rintro H7 ⟨s7, us7, h7, p7⟩
    rw [List.take_of_length_le (by rw [List.length_map, List.length_map]; exact Nat.le_refl _)] at p7
    have h57 := s7 _ _ (s6 _ _ h5)
    have lall : (us5 ++ us7).length = (labsL sg wd).length := by
      unfold labsL
      rw [List.length_append, List.length_append, Paired.length p5, Paired.length p7]
    have l16 : (labsL sg wd).length ≤ 16 := by rw [labs_len]; exact m16
    refine ⟨_, rfl, _, rfl, _, rfl, D1, D2, us5, us7, rfl, rfl, h57, h7, by rw [← List.length_append, lall, sizeLine_eq]; omega, fun X hX => ?_⟩
    have hX8 : (upd H7 X (.lst (us5 ++ us7))) X = some (.lst (us5 ++ us7)) := upd_same
    have s8 : Same H3 (upd H7 X (.lst (us5 ++ us7))) := fun b o z => Same.upd hX _ _ (s7 _ _ (s6 _ _ (s5 _ _ (s4 _ _ z))))
    have p8 : Paired (PairL (upd H7 X (.lst (us5 ++ us7)))) (us5 ++ us7) (labsL sg wd) := by
      have a1 : Paired (PairL (upd H7 X (.lst (us5 ++ us7)))) us5 ((textsBelow sg wd).map fun t => (false, t)) := L2.Paired.mapP p5 fun _ _ y => y.keep fun b xs e => Same.upd hX _ _ (s7 _ _ (s6 _ _ e))
      have a2 : Paired (PairL (upd H7 X (.lst (us5 ++ us7)))) us7 ((textsOf sg (wd - 1)).map fun t => (true, t)) := L2.Paired.mapP p7 fun _ _ y => y.keep fun b xs e => Same.upd hX _ _ e
      exact papp a1 a2
    generalize upd H7 X (.lst (us5 ++ us7)) = H8 at hX8 s8 p8 ⊢
    generalize us5 ++ us7 = us at hX8 p8 lall ⊢
    refine ⟨_, rfl, _, rfl, fun Hp pp => ?_⟩
    have f4b := s8 _ _ (e3 _ _ f4a fun ps => NdefX.fnO_ne ps)
    have c4b := s8 _ _ (e3 _ _ c4a fun ps y => by unfold LamX.CodeO at y; cases y)
    have f5b := s8 _ _ f5a
    have c5b := s8 _ _ c5a
    have eH : LamX.ExtN H H8 := ((sameN s1).trans e2).trans (e3.trans (sameN s8))
    have T8 := T3.ext s8
    have K4 := caps_own (X := cxOf (L2.CX P w) P w K mg base Nlss "least_pieces" (defScope s_least_pieces) f (.ref c) A1 outer s H E) (nsc := C8.fnScope s_lp_step) (sc := defScope s_least_pieces) (fr := ["letter", "signs", "size", "width"]) (js := [0, 1, 3, 8]) (L := s.heap.objs.size + 1) rfl rfl (by decide +kernel) (by decide +kernel) rfl
    have K5 := caps_own (X := cxOf (L2.CX P w) P w K mg base Nlss "least_pieces" (defScope s_least_pieces) f (.ref c) A1 outer s H E) (nsc := C8.fnScope s_lp_end) (sc := defScope s_least_pieces) (fr := ["letter", "signs", "size"]) (js := [0, 1, 3]) (L := s.heap.objs.size + 1) rfl rfl (by decide +kernel) (by decide +kernel) rfl
    have lk : ((labsL sg wd).map labK).length = (labsL sg wd).length := List.length_map ..
    have at_ : ∀ i u, us[i]? = some u → ∃ x b, (labsL sg wd)[i]? = some x ∧ x ∈ labsL sg wd ∧ u = V.ref b ∧ H8 b = some (.tup [.bl x.1, .str x.2]) := fun i u hu => by
      obtain ⟨x, hx, b, rfl, hb⟩ := pat p8 hu
      exact ⟨x, b, hx, List.mem_of_getElem? hx, rfl, hb⟩
    refine ⟨sg, X, us, (labsL sg wd).map labK, .ref f4, .ref f5, nxI sg wd, fun i c => gvL l sg n wd (labD sg wd i).2 c, fun i => enL l sg n (labD sg wd i), rfl, pp.at_ hX8, ?_, labs_keys nd wd, ?_, by rw [lk]; exact l16, z4, asc, T8.ext fun b o z => pp.at_ z, fun i u c hu hc => ?_, fun i u hu => ?_, ?_, fun m H9 e9 T9 ma => ?_⟩
    · have a1 : Paired (LabAt Hp) us ((labsL sg wd).map labK) := pmap (L2.Paired.mapP p8 fun v x y => (PairL.lab (PairL.keep (fun b xs e => pp.at_ e) y)))
      exact a1
    · rw [lk, labs_len]
      have : 1 ≤ sg.cps.size ^ (wd - 1) := Nat.one_le_iff_ne_zero.mpr (Nat.pos_iff_ne_zero.mp (Nat.pow_pos z1))
      omega
    · obtain ⟨x, b, hx, xm, rfl, hb⟩ := at_ i u hu
      have eD := labD_at hx
      have xl := lab_len w1 xm
      have xin := (labs_iff.mp xm).1
      have ni : nxL wd x.2 c ∈ labsL sg wd := nxL_in w1 xl xin hc
      have ne : nxI sg wd i c = (labsL sg wd).idxOf (nxL wd x.2 c) := by unfold nxI; rw [eD]
      dsimp only
      rw [ne, eD]
      refine ⟨by rw [lk]; exact List.idxOf_lt_length_of_mem ni, by unfold gvL; split <;> first | exact (by decide : 0 ≤ 4) | exact (by decide : 1 ≤ 4), canT_made pp f4b c4b K4.1 K4.2 cells_in (nok_ls TP f4 c4 _ _) (fun _ _ _ e' r => r.keep (tupE e')) fun H6 e6 T6 Q' q' => ?_⟩
      refine ⟨l, sg, x.2, n, wd, c, b, x.1, rfl, rfl, tupE e6 _ _ hb, l10, n1, nw, xl, by omega, xin, hc, T6, fun p b' a H7 e7 T7 hp hb' ha => q' _ _ e7 T7 ⟨p, a, b', labK (nxL wd x.2 c), rfl, ?_, PairL.key hb', by unfold labK; simp [PySem.NestedKey.depth, PySem.NestedKey.depthAll], hp, ha⟩⟩
      rw [List.getElem?_map, List.getElem?_eq_getElem (List.idxOf_lt_length_of_mem ni), List.getElem_idxOf]
      rfl
    · obtain ⟨x, b, hx, xm, rfl, hb⟩ := at_ i u hu
      have eD := labD_at hx
      have xl := lab_len w1 xm
      have xin := (labs_iff.mp xm).1
      dsimp only
      rw [eD]
      refine ⟨enL_len l sg n x, canT_made pp f5b c5b K5.1 K5.2 cells_in (nok_le TP f5 c5 _ _) (fun _ _ _ e' r => KeysT.keep (tupE e') r) fun H6 e6 T6 Q' q' => ?_⟩
      exact ⟨l, sg, x, n, b, rfl, rfl, tupE e6 _ _ hb, l10, n1, by omega, xin, T6, fun p H7 e7 T7 hp => q' _ _ e7 T7 ⟨p, rfl, hp⟩⟩
    · rw [lk]
      exact few_keys nw n1 w1 k11
    · rw [lk] at ma
      refine ⟨pp.keptN e9, good k11 m16 m _ (eH.trans (pp.backN e9)) (pp.tabs e9 T9) ?_⟩
      exact ma.keepO fun b o z nx => pp.gotN e9 z fun c u y => nx _ y
end
end Kx

namespace Kx
open PySem L2 Own PinX DicN
/-! ### what the machine of least pieces reads -/
theorem kl_one (x : Str) : kl [x] = [x] := by
  have h1 : (kl [x]).length ≤ 1 := kl_few [x]
  have h2 : x ∈ kl [x] := kl_mem.mpr List.mem_cons_self
  match e : kl [x], h1, h2 with
  | [y], _, h2 => rw [List.mem_singleton.mp h2]
theorem snoc_ind {p : List Nat → Prop} (h0 : p []) (hs : ∀ l c, p l → p (l ++ [c])) : ∀ l, p l := by
  have h : ∀ l : List Nat, p l.reverse := by
    intro l
    induction l with
    | nil => exact h0
    | cons c l ih => rw [List.reverse_cons]; exact hs _ _ ih
  intro l
  have := h l.reverse
  rw [List.reverse_reverse] at this
  exact this
def tx (cs : List Nat) : Str := ⟨cs.toArray⟩
theorem tx_tl (cs : List Nat) : TL.tl (tx cs) = cs := rfl
theorem tx_len (cs : List Nat) : (tx cs).length = cs.length := by rw [TL.len_tl, tx_tl]
theorem tx_of (t : Str) : tx (TL.tl t) = t := str_tl rfl
def atS (wd : Nat) (cs : List Nat) : Lab := if cs.length < wd then (false, tx cs) else (true, tx (cs.drop (cs.length - (wd - 1))))
def winS (wd k : Nat) (cs : List Nat) : Str := tx ((cs.drop k).take wd)
section
variable {l sg : Str} {n wd pl : Nat}
theorem snoc_len (cs : List Nat) (c : Nat) : (cs ++ [c]).length = cs.length + 1 := by rw [List.length_append]; rfl
theorem at_step (w1 : 1 ≤ wd) (cs : List Nat) (c : Nat) : nxL wd (atS wd cs).2 c = atS wd (cs ++ [c]) := by
  have sl := snoc_len cs c
  unfold atS
  by_cases e : cs.length < wd
  · rw [if_pos e]
    unfold nxL
    dsimp only
    rw [tx_len]
    by_cases e1 : cs.length + 1 < wd
    · rw [if_pos e1, if_pos (by omega)]
      congr 1
      exact str_tl (by rw [TL.tl_append, sing_tl, tx_tl, tx_tl])
    · rw [if_neg e1, if_neg (by omega)]
      congr 1
      refine str_tl ?_
      rw [cut1_tl, TL.tl_append, sing_tl, tx_tl, tx_tl, show (cs ++ [c]).length - (wd - 1) = 1 by omega]
  · rw [if_neg e, if_neg (by omega)]
    unfold nxL
    dsimp only
    rw [tx_len, if_neg (by rw [List.length_drop]; omega)]
    congr 1
    refine str_tl ?_
    rw [cut1_tl, TL.tl_append, sing_tl, tx_tl, tx_tl, sl, ← List.drop_append_of_le_length (by omega), List.drop_drop]
    congr 1
    omega
theorem at_gives (w1 : 1 ≤ wd) (cs : List Nat) (c : Nat) : gvL l sg n wd (atS wd cs).2 c = if cs.length + 1 < wd then [] else [l ++ leastR sg (runsOf (winS wd (cs.length + 1 - wd) (cs ++ [c])) n)] := by
  have sl := snoc_len cs c
  have all : ∀ k, k + wd = (cs ++ [c]).length → winS wd k (cs ++ [c]) = tx ((cs ++ [c]).drop k) := fun k hk => by
    unfold winS
    rw [List.take_of_length_le (by rw [List.length_drop]; omega)]
  unfold gvL atS
  by_cases e : cs.length < wd
  · rw [if_pos e]
    dsimp only
    rw [tx_len]
    by_cases e1 : cs.length + 1 < wd
    · rw [if_pos e1, if_pos e1]
    · rw [if_neg e1, if_neg e1, all _ (by omega), show cs.length + 1 - wd = 0 by omega, List.drop_zero, show tx cs ++ Froz.sing c = tx (cs ++ [c]) from str_tl (by rw [TL.tl_append, sing_tl, tx_tl, tx_tl])]
  · rw [if_neg e]
    dsimp only
    rw [tx_len, if_neg (by rw [List.length_drop]; omega), if_neg (by omega), all _ (by omega)]
    congr 4
    refine str_tl ?_
    rw [TL.tl_append, sing_tl, tx_tl, tx_tl, ← List.drop_append_of_le_length (by omega)]
    congr 1
    omega
theorem at_in (w1 : 1 ≤ wd) {cs : List Nat} (h : ∀ c ∈ cs, c ∈ sg.cps.toList) : atS wd cs ∈ labsL sg wd := by
  unfold atS
  split
  · exact labs_iff.mpr ⟨h, .inl ⟨rfl, by rw [tx_len]; assumption⟩⟩
  · exact labs_iff.mpr ⟨fun c hc => h c (List.mem_of_mem_drop hc), .inr ⟨rfl, by rw [tx_len, List.length_drop]; omega⟩⟩
theorem at_nil (w1 : 1 ≤ wd) : (labsL sg wd).idxOf (atS wd []) = 0 := by
  have e : atS wd [] = (false, ("" : Str)) := if_pos (by show 0 < wd; omega)
  rw [e]
  unfold labsL textsBelow
  obtain ⟨k, rfl⟩ : ∃ k, wd = k + 1 := ⟨wd - 1, by omega⟩
  rw [List.range_succ_eq_map, List.flatMap_cons]
  exact List.idxOf_cons_self
def rowsR (l sg : Str) (n wd : Nat) : List (List Way) := (rowsP l sg n wd).map nrm
def endsR (l sg : Str) (n wd : Nat) : List (List Str) := (endsP l sg n wd).map kl
theorem stepP {s c : Nat} (hs : s < (labsL sg wd).length) (hc : c ∈ sg.cps.toList) : stepW sg (rowsR l sg n wd) s c = some (((nxI sg wd s c : Nat) : Int), kl (gvL l sg n wd (labD sg wd s).2 c)) := by
  unfold stepW
  obtain ⟨j, hj⟩ : ∃ j, sg.cps.toList.idxOf? c = some j := by
    cases e : sg.cps.toList.idxOf? c with
    | some j => exact ⟨j, rfl⟩
    | none => exact absurd hc (List.idxOf?_eq_none_iff.mp e)
  obtain ⟨h1, h2, _⟩ := List.idxOf?_eq_some_iff.mp hj
  have h3 : sg.cps.toList[j]? = some c := by
    rw [List.getElem?_eq_getElem h1]
    have := beq_iff_eq.mp (by simpa using h2 : (sg.cps.toList[j] == c) = true)
    rw [this]
  rw [hj]
  unfold rowsR rowsP rowsB
  show ((((List.range _).map _).map nrm)[s]?).bind (fun q => q[j]?) = _
  rw [List.getElem?_map, List.getElem?_map, List.getElem?_range hs]
  show (nrm (rowB sg _ _ s))[j]? = _
  unfold nrm rowB
  rw [List.getElem?_map, List.getElem?_map, h3]
  rfl
theorem endP {s : Nat} (hs : s < (labsL sg wd).length) : (endsR l sg n wd).getD s [] = kl (enL l sg n (labD sg wd s)) := by
  unfold endsR endsP endsB
  rw [List.getD_eq_getElem?_getD, List.getElem?_map, List.getElem?_map, List.getElem?_range hs]
  rfl
theorem lab_idx {x : Lab} (h : x ∈ labsL sg wd) : labD sg wd ((labsL sg wd).idxOf x) = x := labD_at (by rw [List.getElem?_eq_getElem (List.idxOf_lt_length_of_mem h), List.getElem_idxOf])
theorem runP (w1 : 1 ≤ wd) : ∀ cs : List Nat, (∀ c ∈ cs, c ∈ sg.cps.toList) → (runW sg (rowsR l sg n wd) 0 cs).1 = (labsL sg wd).idxOf (atS wd cs) ∧ ∀ y, y ∈ (runW sg (rowsR l sg n wd) 0 cs).2 ↔ ∃ k, k + wd ≤ cs.length ∧ y = l ++ leastR sg (runsOf (winS wd k cs) n) := by
  refine snoc_ind ?_ fun cs c ih => ?_
  · intro _
    refine ⟨(at_nil w1).symm, fun y => ⟨fun z => (nomatch z), fun ⟨k, hk, _⟩ => ?_⟩⟩
    have hk : k + wd ≤ 0 := hk
    omega
  · intro hc
    obtain ⟨h1, h2⟩ := ih fun d hd => hc d (List.mem_append_left _ hd)
    have cin := hc c (List.mem_append_right _ List.mem_cons_self)
    have ain := at_in (wd := wd) w1 fun d hd => hc d (List.mem_append_left _ hd)
    have sl := snoc_len cs c
    rw [runW_snoc]
    generalize runW sg (rowsR l sg n wd) 0 cs = p at h1 h2 ⊢
    obtain ⟨s, g⟩ := p
    dsimp only at h1 h2
    have st := stepP (l := l) (n := n) (wd := wd) (sg := sg) (s := s) (c := c) (by rw [h1]; exact List.idxOf_lt_length_of_mem ain) cin
    rw [h1, lab_idx ain, at_gives w1] at st
    unfold acc1
    dsimp only
    rw [h1, st]
    dsimp only
    have en : nxI sg wd ((labsL sg wd).idxOf (atS wd cs)) c = (labsL sg wd).idxOf (atS wd (cs ++ [c])) := by unfold nxI; rw [lab_idx ain, at_step w1]
    refine ⟨by rw [en, Int.toNat_natCast], fun y => ?_⟩
    have mm : y ∈ g ++ kl (if cs.length + 1 < wd then [] else [l ++ leastR sg (runsOf (winS wd (cs.length + 1 - wd) (cs ++ [c])) n)]) ↔ (∃ k, k + wd ≤ cs.length ∧ y = l ++ leastR sg (runsOf (winS wd k cs) n)) ∨ y ∈ (if cs.length + 1 < wd then [] else [l ++ leastR sg (runsOf (winS wd (cs.length + 1 - wd) (cs ++ [c])) n)]) := by rw [List.mem_append, kl_mem, h2]
    refine mm.trans ?_
    have win : ∀ k, k + wd ≤ cs.length → winS wd k (cs ++ [c]) = winS wd k cs := fun k hk => by
      unfold winS
      rw [List.drop_append_of_le_length (by omega), List.take_append_of_le_length (by rw [List.length_drop]; omega)]
    constructor
    · rintro (⟨k, hk, rfl⟩ | h)
      · exact ⟨k, by omega, by rw [win k hk]⟩
      · split at h
        · cases h
        · exact ⟨cs.length + 1 - wd, by omega, List.mem_singleton.mp h⟩
    · rintro ⟨k, hk, rfl⟩
      by_cases e : k + wd ≤ cs.length
      · exact .inl ⟨k, e, by rw [win k e]⟩
      · refine .inr ?_
        rw [if_neg (by omega), show cs.length + 1 - wd = k by omega]
        exact List.mem_singleton.mpr rfl
/-- what is due -/
def dueG (l sg : Str) (t : Str) (pl n : Nat) : List Str := if runsOf t n = [] then ["short"] else if (runsOf t n).length < pl then [l ++ leastR sg (runsOf t n)] else kl ((List.range ((runsOf t n).length - pl + 1)).map fun k => l ++ leastR sg (((runsOf t n).drop k).take pl))
theorem runs_at {t : Str} {i : Nat} (h : i < t.length + 1 - n) : (runsOf t n)[i]? = some (subS t i n) := by
  unfold runsOf
  rw [List.getElem?_map, List.getElem?_range h]
  rfl
theorem runs_win {cs : List Nat} {k : Nat} (p1 : 1 ≤ pl) (n1 : 1 ≤ n) (hk : k + (pl + n - 1) ≤ cs.length) : runsOf (winS (pl + n - 1) k cs) n = ((runsOf (tx cs) n).drop k).take pl := by
  have wl : (winS (pl + n - 1) k cs).length = pl + n - 1 := by unfold winS; rw [tx_len, List.length_take, List.length_drop]; omega
  refine List.ext_getElem? fun j => ?_
  rw [List.getElem?_take]
  by_cases hj : j < pl
  · rw [if_pos hj, List.getElem?_drop, runs_at (by rw [wl]; omega), runs_at (by rw [tx_len]; omega)]
    congr 1
    refine str_tl ?_
    rw [sub_tl (by rw [wl]; omega), sub_tl (by rw [tx_len]; omega), tx_tl]
    unfold winS
    rw [tx_tl, List.drop_take, List.drop_drop, List.take_take, Nat.min_eq_left (by omega)]
  · rw [if_neg hj, List.getElem?_eq_none_iff.mpr]
    rw [runs_len, wl]
    omega
theorem keysP (p1 : 1 ≤ pl) (n1 : 1 ≤ n) {t : Str} (hc : ∀ c ∈ t.cps.toList, c ∈ sg.cps.toList) : keysW sg (rowsR l sg n (pl + n - 1)) (endsR l sg n (pl + n - 1)) t.cps.toList = dueG l sg t pl n := by
  have w1 : 1 ≤ pl + n - 1 := by omega
  obtain ⟨h1, h2⟩ := runP (l := l) (n := n) w1 t.cps.toList hc
  have ain := at_in (wd := pl + n - 1) w1 hc
  have lt : t.cps.toList.length = t.length := Array.length_toList
  have rl : (runsOf t n).length = t.length + 1 - n := runs_len
  have et : tx t.cps.toList = t := tx_of t
  unfold keysW
  rw [h1, endP (List.idxOf_lt_length_of_mem ain), lab_idx ain]
  unfold dueG
  by_cases e0 : t.length < n
  · have er : runsOf t n = [] := List.length_eq_zero_iff.mp (by rw [rl]; omega)
    rw [if_pos er]
    have ea : atS (pl + n - 1) t.cps.toList = (false, t) := by unfold atS; rw [if_pos (by omega), et]
    have ee : enL l sg n (false, t) = [("short" : Str)] := by unfold enL; rw [if_neg Bool.false_ne_true, if_pos e0]
    rw [ea, ee, kl_one]
    refine (kl_congr fun y => ?_).trans (kl_one _)
    rw [List.mem_append, h2]
    exact ⟨fun z => z.elim (fun ⟨k, hk, _⟩ => by omega) id, .inr⟩
  · have er : runsOf t n ≠ [] := fun z => by rw [z] at rl; have rl : 0 = _ := rl; omega
    rw [if_neg er]
    by_cases e1 : t.length < pl + n - 1
    · rw [if_pos (by rw [rl]; omega)]
      have ea : atS (pl + n - 1) t.cps.toList = (false, t) := by unfold atS; rw [if_pos (by omega), et]
      have ee : enL l sg n (false, t) = [l ++ leastR sg (runsOf t n)] := by unfold enL; rw [if_neg Bool.false_ne_true, if_neg e0]
      rw [ea, ee, kl_one]
      refine (kl_congr fun y => ?_).trans (kl_one _)
      rw [List.mem_append, h2]
      exact ⟨fun z => z.elim (fun ⟨k, hk, _⟩ => by omega) id, .inr⟩
    · rw [if_neg (by rw [rl]; omega)]
      have ea : atS (pl + n - 1) t.cps.toList = (true, tx (t.cps.toList.drop (t.cps.toList.length - (pl + n - 1 - 1)))) := by unfold atS; rw [if_neg (by omega)]
      have ee : ∀ u, enL l sg n (true, u) = [] := fun u => by unfold enL; rw [if_pos rfl]
      rw [ea, ee]
      refine kl_congr fun y => ?_
      rw [List.mem_append, h2, List.mem_map]
      constructor
      · rintro (⟨k, hk, rfl⟩ | z)
        · refine ⟨k, List.mem_range.mpr (by rw [rl]; omega), ?_⟩
          rw [runs_win p1 n1 hk, et]
        · have := kl_mem.mp z
          cases this
      · rintro ⟨k, hk, rfl⟩
        have hk := List.mem_range.mp hk
        rw [rl] at hk
        refine .inl ⟨k, by omega, ?_⟩
        rw [runs_win p1 n1 (by omega), et]
theorem fullP (nd : sg.cps.toList.Nodup) (z4 : sg.cps.size ≤ 4) (w1 : 1 ≤ wd) (l16 : (labsL sg wd).length ≤ 16) : Full sg (rowsR l sg n wd) (endsR l sg n wd) := by
  have lr : (rowsR l sg n wd).length = (labsL sg wd).length := by unfold rowsR rowsP rowsB; rw [List.length_map, List.length_map, List.length_range]
  have le : (endsR l sg n wd).length = (labsL sg wd).length := by unfold endsR endsP endsB; rw [List.length_map, List.length_map, List.length_range]
  have row : ∀ q ∈ rowsR l sg n wd, ∃ i x, (labsL sg wd)[i]? = some x ∧ x ∈ labsL sg wd ∧ q = sg.cps.toList.map fun c => (((nxI sg wd i c : Nat) : Int), kl (gvL l sg n wd x.2 c)) := fun q hq => by
    unfold rowsR rowsP rowsB at hq
    obtain ⟨r, hr, rfl⟩ := List.mem_map.mp hq
    obtain ⟨i, hi, rfl⟩ := List.mem_map.mp hr
    have hi := List.mem_range.mp hi
    have hx : (labsL sg wd)[i]? = some (labsL sg wd)[i] := List.getElem?_eq_getElem hi
    refine ⟨i, _, hx, List.getElem_mem hi, ?_⟩
    unfold nrm rowB
    rw [List.map_map]
    refine List.map_congr_left fun c _ => ?_
    show nw ((nxI sg wd i c : Nat), gvL l sg n wd (labD sg wd i).2 c) = _
    rw [labD_at hx]
    rfl
  have sm : ∀ {α : Type} (f : α → List Str) (m : Nat) {ls : List α}, (∀ x ∈ ls, (f x).length ≤ m) → (ls.flatMap f).length ≤ m * ls.length := fun {α} f m {ls} => by
    induction ls with
    | nil => intro _; simp
    | cons x ls ih =>
      intro h
      have := ih fun y hy => h y (List.mem_cons_of_mem _ hy)
      have := h x List.mem_cons_self
      rw [List.flatMap_cons, List.length_append, List.length_cons, Nat.mul_succ]
      omega
  have one : ∀ r c, (kl (gvL l sg n wd r c)).length ≤ 1 := fun r c => by
    refine Nat.le_trans (kl_few _) ?_
    unfold gvL
    split
    · exact Nat.zero_le _
    · exact Nat.le_refl _
  refine ⟨nd, fun q hq => ?_, by rw [lr, le], ?_, ?_⟩
  · obtain ⟨i, x, hx, xm, rfl⟩ := row q hq
    refine ⟨by rw [List.length_map, Array.length_toList (xs := sg.cps)], fun w hw => ?_⟩
    obtain ⟨c, hc, rfl⟩ := List.mem_map.mp hw
    have ni : nxI sg wd i c < (labsL sg wd).length := by
      unfold nxI
      rw [labD_at hx]
      exact List.idxOf_lt_length_of_mem (nxL_in w1 (lab_len w1 xm) (labs_iff.mp xm).1 hc)
    rw [lr]
    exact ⟨Int.natCast_nonneg _, by show ((nxI sg wd i c : Nat) : Int) < _; omega⟩
  · rw [lr]
    exact List.length_pos_of_mem (at_in (wd := wd) (sg := sg) w1 (cs := []) fun c hc => nomatch hc)
  · have a : (keysOfRows (rowsR l sg n wd)).length ≤ 4 * (rowsR l sg n wd).length := sm _ 4 fun q hq => by
      obtain ⟨i, x, hx, xm, rfl⟩ := row q hq
      have := sm (fun w : Way => w.2) 1 (ls := sg.cps.toList.map fun c => (((nxI sg wd i c : Nat) : Int), kl (gvL l sg n wd x.2 c))) fun w hw => by
        obtain ⟨c, _, rfl⟩ := List.mem_map.mp hw
        exact one _ _
      rw [List.length_map, Array.length_toList (xs := sg.cps)] at this
      omega
    have b : (endsR l sg n wd).flatten.length ≤ 4 * (endsR l sg n wd).length := by
      have := sm (fun w : List Str => w) 4 (ls := endsR l sg n wd) fun e he => by
        unfold endsR endsP endsB at he
        obtain ⟨r, hr, rfl⟩ := List.mem_map.mp he
        obtain ⟨i, _, rfl⟩ := List.mem_map.mp hr
        exact Nat.le_trans (kl_few _) (enL_len _ _ _ _)
      rw [List.flatMap_id'] at this
      exact this
    have e : scanBound = 4096 := rfl
    rw [List.length_append]
    omega
end
end Kx

namespace Kx
open PySem L2 Own
abbrev s__law_signs : Stmt := top 46
structure LAd where
  f1 : Addr
  d1 : FuncData
  p1 : Addr
  p2 : Addr
  p3 : Addr
  q1 : FuncData
  q2 : FuncData
  q3 : FuncData
structure TxtL (K : PySem.W.Frag) (mg : Str → Option Value) (L : LAd) : Prop where
  pen : TxtP K mg L.p1 L.p2 L.p3 L.q1 L.q2 L.q3
  D__law_signs : DefT K mg "_law_signs" "_law_signs" s__law_signs ["pen", "many"] L.f1 L.d1
  n_len : mg "len" = none
  n_range : mg "range" = none
section
variable {P : Program} {w : World} {K : PySem.W.Frag} {mg : Str → Option Value} {base : Heap} {L : LAd}
def alpha : List Nat := (List.range 26).map (97 + ·)
def spSigns : Sp := fun vs H Q _ => ∃ (p c : Addr) (many n : Nat), vs = [.ref p, .int many] ∧ PenAt H p c n ∧ n + many ≤ 1000000 ∧ many ≤ 26 ∧
  ∀ (sg : Str) H', sg.cps.size = many → sg.cps.toList.Nodup → (∀ c ∈ sg.cps.toList, c ∈ alpha) → PenAt H' p c (n + many) → SameBut p H H' → Q (.str sg) H'
theorem sc_signs : FnScope ["pen", "many", "left", "found", "turn", "at"] ["pen", "many"] (defScope s__law_signs) := ⟨rfl, rfl, rfl, by decide +kernel, rfl, by decide +kernel, by decide +kernel⟩
theorem ok_signs (T : TxtL K mg L) : FnOk P w K mg base CX0 2 L.f1 L.d1 ["pen", "many"] spSigns := by
  have sc := sc_signs
  have G_draw : FnOk P w K mg base CX0 1 L.p2 L.q2 ["pen", "many"] spDraw := ok_draw T.pen
  refine T.D__law_signs.F.ok sc (fun vs H Q E h => ?_) (fun cdv A1 outer s H vs Q E hr h => ?_)
  · obtain ⟨_, _, _, _, rfl, _⟩ := h; rfl
  · obtain ⟨p, pc, many, n, rfl, hp, hn, h26, k⟩ := h
    refine ⟨_, (pss_cons (ps_asg (pe_tup (pa_cons pe_str (pa_cons pe_str pa_nil))) (pg_tup rfl (pgs_cons (pg_name (i := 2) sc.nd rfl (Or.inl rfl)) (pgs_cons (pg_name (i := 3) sc.nd rfl (Or.inl rfl)) pgs_nil))))
      (pss_cons (ps_for PassesOwn.never rfl (pi_range1 rfl T.n_range (pa_cons (pv 1) pa_nil)) (pg_name (i := 4) sc.nd rfl (Or.inl rfl))
        (pss_cons (ps_set (i := 5) sc.nd rfl (Or.inl rfl) (pe_call G_draw (hr.mono (by decide)) rfl T.pen.D__law_draw.g T.pen.D__law_draw.F.kp T.pen.D__law_draw.b .nil pass0 (pa_cons (pv 0) (pa_cons (pe_callB call_len (by rfl) T.n_len (by decide +kernel) (pa_cons (pv 2) pa_nil)) pa_nil))))
        (pss_one (ps_par (i := 3) (j := 2) rfl sc.nd rfl rfl (by decide) rfl rfl (pa_cons (pe_op op_add_str (pv 3) (pe_ix ix_str (pv 2) (pv 5) (fun _ _ => rfl))) (pa_cons (pe_op op_add_str (pe_slice sl_str (pv 2) po_none (po_some (pv 5))) (pe_slice sl_str (pv 2) (po_some (pe_op op_add (pv 5) pe_int)) po_none)) pa_nil)) rfl))))
      (pss_one (ps_ret (pv 3))))), ?_⟩
    have lt26 : alpha.length = 26 := rfl
    refine ⟨by show 2 ≤ sizeLine; decide, fun t0 ht0 => ⟨t0, _, rfl, SqT.of upd_same, rfl, _, _, rfl, _, _, rfl, rfl, ?_⟩⟩
    have hp0 : PenAt (upd H t0 (.tup [.str "abcdefghijklmnopqrstuvwxyz", .str ""])) p pc n := hp.keep (Same.upd ht0)
    have sb0 : SameBut p H (upd H t0 (.tup [.str "abcdefghijklmnopqrstuvwxyz", .str ""])) := .new ht0
    generalize upd H t0 (.tup [.str "abcdefghijklmnopqrstuvwxyz", .str ""]) = H0 at hp0 sb0 ⊢
    refine ⟨_, rfl, many, rfl, by omega, by omega, ?_⟩
    rw [Int.toNat_natCast]
    refine for_it walk_range (fun i σ H' => ∃ x4 x5, ∃ l f : Str, σ = [some (.ref p), some (.int many), some (.str l), some (.str f), x4, x5] ∧ PenAt H' p pc (n + i) ∧ SameBut p H H' ∧ (f.cps.toList ++ l.cps.toList).Perm alpha ∧ f.cps.size = i)
      ⟨_, _, _, _, rfl, hp0, sb0, by decide +kernel, rfl⟩ (fun _ _ _ _ _ => trivial) ?_ ?_
    · rintro i x σ _ H1 hi ⟨x4, x5, l, f, rfl, hp1, sb1, pm, fz⟩ ⟨rfl, rfl⟩
      have hlen : f.cps.size + l.cps.size = 26 := by
        have e := pm.length_eq
        rw [List.length_append, Array.length_toList, Array.length_toList] at e
        exact e
      have ll : l.length = l.cps.size := rfl
      have fl : f.length = f.cps.size := rfl
      refine ⟨_, rfl, _, rfl, .str l, l.length, rfl, ⟨by rw [sizeLine_eq]; omega, rfl⟩, p, pc, _, n + i, rfl, hp1, by omega, by omega, by omega, fun at1 H2 r0 r1 hp2 sb2 => ?_⟩
      obtain ⟨j, rfl⟩ := Int.eq_ofNat_of_zero_le r0
      have jl : j < l.cps.toList.length := by rw [Array.length_toList]; omega
      have hc : l.cps.toList[j]? = some l.cps.toList[j] := List.getElem?_eq_getElem jl
      generalize l.cps.toList[j] = c at hc
      refine ⟨_, rfl, _, rfl, _, rfl, l, _, c, rfl, rfl, by rw [sizeLine_eq]; omega, atI_nat hc, f, ⟨#[c]⟩, rfl, rfl, ?_, ?_⟩
      · show f.length + 1 ≤ sizeLine
        rw [sizeLine_eq]; omega
      refine ⟨_, rfl, _, rfl, _, rfl, l, rfl, by rw [sizeLine_eq]; omega, ?_⟩
      have e1 : cutS l none (some ((j : Nat) : Int)) = ⟨(l.cps.toList.take j).toArray⟩ := by
        unfold cutS
        rw [HT.sIx_none, HT.sIx_nat]
        have : min j l.length = j := by omega
        rw [this]
        simp
      have e2 : cutS l (some (((j : Nat) : Int) + 1)) none = ⟨(l.cps.toList.drop (j + 1)).toArray⟩ := by
        unfold cutS
        rw [show ((j : Nat) : Int) + 1 = ((j + 1 : Nat) : Int) from rfl, HT.sIx_none, HT.sIx_nat]
        have : min (j + 1) l.length = j + 1 := by omega
        rw [this, List.take_of_length_le]
        rw [List.length_drop, Array.length_toList]
        omega
      refine ⟨_, rfl, _, rfl, _, _, rfl, rfl, _, rfl, l, rfl, by rw [sizeLine_eq]; omega, _, _, rfl, rfl, ?_, _, _, rfl, ?_⟩
      · show (cutS l none (some ((j : Nat) : Int))).length + (cutS l (some (((j : Nat) : Int) + 1)) none).length ≤ sizeLine
        rw [e1, e2]
        show (l.cps.toList.take j).toArray.size + (l.cps.toList.drop (j + 1)).toArray.size ≤ sizeLine
        rw [List.size_toArray, List.size_toArray, List.length_take, List.length_drop, Array.length_toList, sizeLine_eq]
        omega
      · refine ⟨_, _, _, _, rfl, hp2, sb1.trans sb2, ?_, ?_⟩
        · show ((f.cps ++ #[c]).toList ++ ((cutS l none (some ((j : Nat) : Int))).cps ++ (cutS l (some (((j : Nat) : Int) + 1)) none).cps).toList).Perm alpha
          rw [e1, e2]
          refine List.Perm.trans ?_ pm
          have sp : l.cps.toList = l.cps.toList.take j ++ c :: l.cps.toList.drop (j + 1) := by
            have h1 := List.take_append_drop j l.cps.toList
            obtain ⟨hj, ec⟩ := List.getElem?_eq_some_iff.mp hc
            rw [List.drop_eq_getElem_cons hj, ec] at h1
            exact h1.symm
          have lhs : ((f.cps ++ #[c]).toList ++ ((⟨(l.cps.toList.take j).toArray⟩ : Str).cps ++ (⟨(l.cps.toList.drop (j + 1)).toArray⟩ : Str).cps).toList) = f.cps.toList ++ (c :: (l.cps.toList.take j ++ l.cps.toList.drop (j + 1))) := by simp
          rw [lhs]
          refine List.Perm.append_left _ ?_
          refine List.Perm.trans ?_ (List.Perm.of_eq sp.symm)
          exact List.perm_middle.symm
        · show (f.cps ++ #[c]).size = i + 1
          rw [Array.size_append, fz]
          rfl
    · rintro σ H1 ⟨x4, x5, l, f, rfl, hp1, sb1, pm, fz⟩
      refine ⟨_, rfl, k f H1 fz ?_ (fun c hc => pm.mem_iff.mp (List.mem_append_left _ hc)) hp1 sb1⟩
      have nd : (f.cps.toList ++ l.cps.toList).Nodup := pm.nodup_iff.mpr (by decide +kernel)
      exact (List.nodup_append.mp nd).1
end
end Kx

namespace Kx
open PySem L2 Own
abbrev s__law_text : Stmt := top 48
structure TxtTx (K : PySem.W.Frag) (mg : Str → Option Value) (f1 f2 f3 f : Addr) (d1 d2 d3 d : FuncData) : Prop where
  pen : TxtP K mg f1 f2 f3 d1 d2 d3
  D__law_text : DefT K mg "_law_text" "_law_text" s__law_text ["pen", "signs", "most"] f d
  n_range : mg "range" = none
theorem PenAt.some {H : Hp} {p c : Addr} {n : Nat} (h : PenAt H p c n) : ∃ o, H p = some o := by
  obtain ⟨_, _, _, h1, _⟩ := h
  exact ⟨_, h1⟩
theorem none_back {H H' : Hp} {p c : Addr} {n : Nat} (s : SameBut p H H') (hp : PenAt H' p c n) {b : Addr} (e : H' b = none) : H b = none := by
  cases h : H b with
  | none => rfl
  | some o =>
    by_cases z : b = p
    · obtain ⟨o', h'⟩ := hp.some
      rw [z, h'] at e
      cases e
    · rw [s _ _ h z] at e
      cases e
section
variable {P : Program} {w : World} {K : PySem.W.Frag} {mg : Str → Option Value} {base : Heap} {f1 f2 f3 f : Addr} {d1 d2 d3 d : FuncData}
/-- items[..] of a text -/
def spPickS : Sp := fun vs H Q _ => ∃ (p c : Addr) (z : Str) (n : Nat), vs = [.ref p, .str z] ∧ PenAt H p c n ∧ n ≤ 1000000 ∧ 0 < z.cps.size ∧ z.cps.size ≤ 1000000 ∧
  ∀ (x i : Nat) H', z.cps[i]? = some x → PenAt H' p c (n + 1) → SameBut p H H' → Q (.str (Froz.sing x)) H'
theorem ok_pickS (T : TxtP K mg f1 f2 f3 d1 d2 d3) : FnOk P w K mg base CX0 2 f3 d3 ["pen", "items"] spPickS := by
  have sc := sc_pick
  have G_draw : FnOk P w K mg base CX0 1 f2 d2 ["pen", "many"] spDraw := ok_draw T
  refine T.D__law_pick.F.ok sc (fun vs H Q E h => ?_) (fun cdv A outer s H vs Q E hr h => ?_)
  · obtain ⟨_, _, _, _, rfl, _⟩ := h; rfl
  · obtain ⟨p, c, z, n, rfl, hp, hn, z0, z1, k⟩ := h
    refine ⟨_, (pss_one (ps_ret (pe_ix ix_str (pv 1) (pe_call G_draw (hr.mono (by decide)) rfl T.D__law_draw.g T.D__law_draw.F.kp T.D__law_draw.b .nil pass0 (pa_cons (pv 0) (pa_cons (pe_callB call_len (by rfl) T.n_len (by decide +kernel) (pa_cons (pv 1) pa_nil)) pa_nil))) (fun _ _ => rfl)))), ?_⟩
    have zl : z.length = z.cps.size := rfl
    refine ⟨_, rfl, _, rfl, _, rfl, .str z, z.length, rfl, ⟨by rw [sizeLine_eq]; omega, rfl⟩, p, c, _, n, rfl, hp, hn, by omega, by omega, fun r H' r0 r1 hp' sb => ?_⟩
    obtain ⟨r, rfl⟩ := Int.eq_ofNat_of_zero_le r0
    have hl : r < z.cps.toList.length := by rw [Array.length_toList]; omega
    have hx : z.cps.toList[r]? = some z.cps.toList[r] := List.getElem?_eq_getElem hl
    refine ⟨z, _, _, rfl, rfl, by rw [sizeLine_eq]; omega, atI_nat hx, k _ r H' ?_ hp' sb⟩
    rw [← Array.getElem?_toList]
    exact hx
theorem join_sings (cs : List Nat) : (Txt.join "" (cs.map Froz.sing)).cps.toList = cs := by
  have h : ∀ cs : List Nat, TL.joinL [] ((cs.map Froz.sing).map TL.tl) = cs := by
    intro cs
    induction cs with
    | nil => rfl
    | cons a r ih =>
      cases r with
      | nil => rfl
      | cons b r =>
        show [a] ++ ([] ++ TL.joinL [] ((((b :: r).map Froz.sing)).map TL.tl)) = _
        rw [ih]
        rfl
  have e := TL.tl_join "" (cs.map Froz.sing)
  rw [← TL.join_eq] at e
  exact e.trans (h cs)
/-- a text of up to so many signs -/
def spText : Sp := fun vs H Q _ => ∃ (p c : Addr) (z : Str) (most n : Nat), vs = [.ref p, .str z, .int most] ∧ PenAt H p c n ∧ most ≤ 1000 ∧ n + most + 1 ≤ 1000000 ∧ 0 < z.cps.size ∧ z.cps.size ≤ 1000 ∧
  ∀ (y : Str) H', y.cps.size ≤ most → (∀ c ∈ y.cps.toList, c ∈ z.cps.toList) → PenAt H' p c (n + most + 1) → SameBut p H H' → Q (.str y) H'
abbrev Ntext : List Str := ["pen", "signs", "most", "k"]
theorem sc_text : FnScope Ntext ["pen", "signs", "most"] (defScope s__law_text) := ⟨rfl, rfl, rfl, by decide +kernel, rfl, by decide +kernel, by decide +kernel⟩
theorem ok_text (T : TxtTx K mg f1 f2 f3 f d1 d2 d3 d) : FnOk P w K mg base CX0 3 f d ["pen", "signs", "most"] spText := by
  have sc := sc_text
  have G_draw : FnOk P w K mg base CX0 1 f2 d2 ["pen", "many"] spDraw := ok_draw T.pen
  have G_pick : FnOk P w K mg base CX0 2 f3 d3 ["pen", "items"] spPickS := ok_pickS T.pen
  refine T.D__law_text.F.ok sc (fun vs H Q E h => ?_) (fun cdv A1 outer s H vs Q E hr h => ?_)
  · obtain ⟨_, _, _, _, _, rfl, _⟩ := h; rfl
  · obtain ⟨p, c, z, most, n, rfl, hp, hm, hn, z0, z1, k⟩ := h
    refine ⟨_, (pss_one (ps_ret (pe_join pe_str (pe_lc (own := [("k", 3)]) (g := gName 3) (tt := tYes) (te := tCall spPickS [] E0 (tCons (tVar 0) (tCons (tVar 1) tNil))) rfl sc.nd (pi_range1 rfl T.n_range (pa_cons (pe_call G_draw (hr.mono (by decide)) rfl T.pen.D__law_draw.g T.pen.D__law_draw.F.kp T.pen.D__law_draw.b .nil pass0 (pa_cons (pv 0) (pa_cons (pe_op op_add (pv 2) pe_int) pa_nil))) pa_nil)) (blkOk_by (N := Ntext) (sc := defScope s__law_text) (own := [("k", 3)]) (by decide +kernel)) (fun _ _ _ _ _ => (pg_name (i := 3) sc.nd rfl (Or.inl rfl))) (fun _ _ _ _ _ => pts_nil)
      (fun _ _ _ _ _ => pe_call G_pick (hr.mono (by decide)) rfl T.pen.D__law_pick.g T.pen.D__law_pick.F.kp T.pen.D__law_pick.b .nil pass0 (pa_cons (pv 0) (pa_cons (pv 1) pa_nil))))))), ?_⟩
    refine ⟨⟨_, rfl⟩, _, rfl, _, rfl, _, _, rfl, rfl, p, c, _, n, rfl, hp, by omega, by omega, by omega, fun r H1 r0 r1 hp1 sb1 => ?_⟩
    obtain ⟨r, rfl⟩ := Int.eq_ofNat_of_zero_le r0
    refine ⟨_, rfl, by omega, by omega, fun D hD => ?_⟩
    rw [Int.toNat_natCast]
    have npD : D ≠ p ∧ D ≠ c := hp1.apart hD
    refine lcs_it [some (.ref p), some (.str z), some (.int (most : Nat)), none] rfl walk_range (fun i H' => PenAt H' p c (n + 1 + i) ∧ SameBut p H H' ∧ ∃ cs : List Nat, H' D = some (.lst ((cs.map Froz.sing).map V.str)) ∧ cs.length = i ∧ ∀ x ∈ cs, x ∈ z.cps.toList)
      ⟨hp1.keep (Same.upd hD), sb1.trans (.new hD), [], upd_same, rfl, fun _ z => nomatch z⟩ (fun _ _ _ _ => trivial) ?_ ?_
    · rintro i x _ H2 hi ⟨hp2, sb2, cs, hcs, lc, mc⟩ ⟨rfl, ex⟩
      refine ⟨rfl, _, rfl, _, rfl, p, c, z, n + 1 + i, rfl, hp2, by omega, z0, by omega, fun c1 j H3 hc1 hp3 sb3 => ?_⟩
      have h3 : H3 D = some (.lst ((cs.map Froz.sing).map V.str)) := sb3 _ _ hcs (hp2.ne hcs)
      refine ⟨_, h3, by rw [List.length_map, List.length_map, lc, sizeLine_eq]; omega, hp3.put npD.1 npD.2, fun b o e nb => ?_, cs ++ [c1], by rw [upd_same, List.map_append, List.map_append]; rfl, by rw [List.length_append, lc]; rfl, fun x hx => ?_⟩
      · have hH : H D = none := none_back sb1 hp1 hD
        rw [upd_ne (ne_of_none e hH)]
        exact sb3 b o (sb2 b o e nb) nb
      · rcases List.mem_append.mp hx with hx | hx
        · exact mc x hx
        · rw [List.mem_singleton.mp hx]
          exact List.mem_of_getElem? (by rw [Array.getElem?_toList]; exact hc1)
    rintro H2 ⟨hp2, sb2, cs, hcs, lc, mc⟩
    have zl : ∀ cs : List Nat, ((cs.map Froz.sing).map (·.length)).sum = cs.length := fun cs => by
      induction cs with
      | nil => rfl
      | cons a r ih =>
        rw [List.map_cons, List.map_cons, List.sum_cons, ih, List.length_cons]
        show 1 + r.length = r.length + 1
        omega
    refine ⟨"", D, cs.map Froz.sing, rfl, rfl, .inl (SqL.of hcs), ?_, ?_⟩
    · rw [zl, lc, List.length_map, lc]
      show r + r * 0 ≤ _
      omega
    · have e := join_sings cs
      refine k _ H2 ?_ (fun x hx => mc x (by rw [e] at hx; exact hx)) (hp2.mono (by omega)) sb2
      rw [← Array.length_toList, e, lc]
      omega
end
end Kx

namespace Kx
open PySem L2 Own
abbrev s__law_texts : Stmt := top 47
structure TxtXs (K : PySem.W.Frag) (mg : Str → Option Value) (f : Addr) (d : FuncData) : Prop where
  D__law_texts : DefT K mg "_law_texts" "_law_texts" s__law_texts ["signs", "most"] f d
  n_range : mg "range" = none
section
variable {P : Program} {w : World} {K : PySem.W.Frag} {mg : Str → Option Value} {base : Heap} {f : Addr} {d : FuncData}
/-! ### the texts of the law -/
def spTxs : Sp := fun vs H Q _ => ∃ (sg : Str) (m : Nat), vs = [.str sg, .int m] ∧ sg.cps.size ≤ 4 ∧ m ≤ 5 ∧ (sg.cps.size ≤ 2 ∨ m ≤ 3) ∧ ∀ q (ts : List Str) H', Same H H' → H' q = some (.lst (ts.map V.str)) → ts.length ≤ 1001 → (∀ t ∈ ts, t.length ≤ 5 ∧ ∀ c ∈ TL.tl t, c ∈ sg.cps.toList) → Q (.ref q) H'
abbrev Ntxs : List Str := ["signs", "most", "found", "latest", "turn", "longer", "text", "sign"]
theorem sc_txs : FnScope Ntxs ["signs", "most"] (defScope s__law_texts) := ⟨rfl, rfl, rfl, by decide +kernel, rfl, by decide +kernel, by decide +kernel⟩
theorem ok_txs (T : TxtXs K mg f d) : FnOk P w K mg base CX0 1 f d ["signs", "most"] spTxs := by
  have sc := sc_txs
  refine T.D__law_texts.F.ok sc (fun vs H Q E h => ?_) (fun cdv A1 outer s H vs Q E hr h => ?_)
  · obtain ⟨_, _, rfl, _⟩ := h; rfl
  · obtain ⟨sg, m, rfl, z4, m4, few, k⟩ := h
    refine ⟨_, (pss_cons (ps_par (i := 2) (j := 3) rfl sc.nd rfl rfl (by decide) rfl rfl (pa_cons (pe_lst (pa_cons pe_str pa_nil)) (pa_cons (pe_lst (pa_cons pe_str pa_nil)) pa_nil)) rfl)
      (pss_cons (ps_for PassesOwn.never rfl (pi_range1 rfl T.n_range (pa_cons (pv 1) pa_nil)) (pg_name (i := 4) sc.nd rfl (Or.inl rfl))
      (pss_cons (ps_set (i := 5) sc.nd rfl (Or.inl rfl) (pe_lst pa_nil))
      (pss_cons (ps_for PassesOwn.never rfl (pi_list (pv 3)) (pg_name (i := 6) sc.nd rfl (Or.inr rfl)) (pss_one (ps_set (i := 5) sc.nd rfl (Or.inl rfl) (pe_op op_cat (pv 5) (pe_lc (own := [("sign", 7)]) (g := gName 7) (tt := tYes) (te := tOp rCatS (tVar 6) (tVar 7)) rfl sc.nd (pi_str (pv 0)) (blkOk_by (N := Ntxs) (sc := defScope s__law_texts) (own := [("sign", 7)]) (by decide +kernel)) (fun _ _ _ _ _ => (pg_name (i := 7) sc.nd rfl (Or.inl rfl))) (fun _ _ _ _ _ => pts_nil) (fun _ _ _ _ _ => pe_op op_add_str (pv 6) (pv 7)))))))
      (pss_one (ps_par (i := 2) (j := 3) rfl sc.nd rfl rfl (by decide) rfl rfl (pa_cons (pe_op op_cat (pv 2) (pv 5)) (pa_cons (pv 5) pa_nil)) rfl)))))
      (pss_one (ps_ret (pv 2))))), ?_⟩
    refine ⟨by show 1 ≤ sizeLine; decide, fun q0 hq0 => ⟨by show 1 ≤ sizeLine; decide, fun q1 hq1 => ?_⟩⟩
    refine ⟨_, _, rfl, _, rfl, _, rfl, by omega, by omega, ?_⟩
    rw [Int.toNat_natCast]
    have one : ([V.str ""] : List V) = [("" : Str)].map V.str := rfl
    refine for_range (lo := 0) (n := m) (fun i σ H' => ∃ (a b : Addr) (ts us : List Str) (o4 o5 o6 : Option V), σ = [some (.str sg), some (.int m), some (.ref a), some (.ref b), o4, o5, o6, none] ∧ Same H H' ∧ H' a = some (.lst (ts.map V.str)) ∧ H' b = some (.lst (us.map V.str)) ∧ ts.length ≤ 1 + 200 * i ∧ us.length = sg.cps.size ^ i ∧
      (∀ t ∈ ts, t.length ≤ i ∧ ∀ c ∈ TL.tl t, c ∈ sg.cps.toList) ∧ ∀ t ∈ us, t.length ≤ i ∧ ∀ c ∈ TL.tl t, c ∈ sg.cps.toList)
      ⟨q0, q1, [""], [""], none, none, none, rfl, (Same.upd hq0).trans (Same.upd hq1), Same.upd hq1 _ _ upd_same, upd_same, by decide, rfl, fun t ht => by rw [List.mem_singleton.mp ht]; exact ⟨Nat.le_refl _, fun c hc => nomatch hc⟩, fun t ht => by rw [List.mem_singleton.mp ht]; exact ⟨Nat.le_refl _, fun c hc => nomatch hc⟩⟩ ?_ ?_
    · rintro i σ H1 hi ⟨a, b, ts, us, o4, o5, o6, rfl, s1, ha, hb, lt, lu, gt, gu⟩
      refine ⟨by show 0 ≤ sizeLine; decide, fun L hL => ?_⟩
      refine ⟨_, rfl, b, rfl, ⟨_, SqL.of (Same.upd hL _ _ hb)⟩, ?_⟩
      have u64 : us.length ≤ 64 := by
        have h1 : i ≤ 4 := by omega
        rw [lu]
        rcases few with h2 | h2
        · exact Nat.le_trans (Nat.pow_le_pow_left h2 i) (Nat.le_trans (Nat.pow_le_pow_right (by decide) h1) (by decide))
        · exact Nat.le_trans (Nat.pow_le_pow_left z4 i) (Nat.le_trans (Nat.pow_le_pow_right (n := 4) (j := 2) (by decide) (by omega)) (by decide))
      refine for_it walk_list (fun j σ H' => ∃ (l : Addr) (vs : List Str) (o6 : Option V), σ = [some (.str sg), some (.int m), some (.ref a), some (.ref b), some (.int (0 + (i : Nat))), some (.ref l), o6, none] ∧ Same H1 H' ∧ H' l = some (.lst (vs.map V.str)) ∧ vs.length = j * sg.cps.size ∧ ∀ t ∈ vs, t.length ≤ i + 1 ∧ ∀ c ∈ TL.tl t, c ∈ sg.cps.toList)
        ⟨L, [], _, rfl, Same.upd hL, upd_same, by simp, fun t ht => nomatch ht⟩ (fun j σ H' _ z => by obtain ⟨_, _, _, _, s2, _⟩ := z; exact SqL.of (s2 _ _ hb)) ?_ ?_
      · rintro j x σ _ H2 hj ⟨l, vs, o6, rfl, s2, hl, lv, gv⟩ ⟨rfl, hx⟩
        rw [List.length_map] at hj
        rw [List.getElem?_map] at hx
        obtain ⟨t, ht, rfl⟩ := Option.map_eq_some_iff.mp hx
        have tg := gu t (List.mem_of_getElem? ht)
        refine ⟨_, rfl, _, rfl, sg, rfl, fun D hD => ?_⟩
        refine lcs_it [some (.str sg), some (.int m), some (.ref a), some (.ref b), some (.int (0 + (i : Nat))), some (.ref l), some (.str t), none] rfl walk_str (fun p H' => Same H2 H' ∧ H' D = some (.lst (((sg.cps.toList.take p).map fun c => t ++ Froz.sing c).map V.str))) ⟨Same.upd hD, upd_same⟩ (fun _ _ _ _ => trivial) ?_ ?_
        · rintro p x _ H3 hp ⟨s3, h3⟩ ⟨rfl, c, hc, rfl⟩
          have hc' : sg.cps.toList[p]? = some c := by rw [Array.getElem?_toList]; exact hc
          refine ⟨rfl, _, rfl, _, rfl, t, _, rfl, rfl, by rw [sizeLine_eq]; show t.length + 1 ≤ _; omega, _, h3, ?_, ?_, ?_⟩
          · rw [List.length_map, List.length_map, List.length_take, sizeLine_eq]; omega
          · intro b o z
            rw [upd_ne (ne_of_none z hD)]; exact s3 _ _ z
          · rw [upd_same, List.take_add_one, hc', Option.toList_some, List.map_append, List.map_append]
            rfl
        · rintro H3 ⟨s3, h3⟩
          have e0 : sg.cps.toList.take sg.cps.size = sg.cps.toList := List.take_of_length_le (by rw [Array.length_toList (xs := sg.cps)]; exact Nat.le_refl _)
          rw [e0] at h3
          have jm : j * sg.cps.size ≤ 64 * 4 := Nat.mul_le_mul (by omega) z4
          refine ⟨l, D, _, _, rfl, rfl, s3 _ _ hl, h3, ?_, fun X hX => ?_⟩
          · rw [List.length_map, List.length_map, List.length_map, Array.length_toList (xs := sg.cps), sizeLine_eq]; omega
          refine ⟨X, vs ++ sg.cps.toList.map fun c => t ++ Froz.sing c, _, rfl, (s2.trans s3).trans (Same.upd hX), by rw [upd_same, List.map_append], ?_, fun u hu => ?_⟩
          · rw [List.length_append, List.length_map, Array.length_toList (xs := sg.cps), lv, Nat.succ_mul]
          · rcases List.mem_append.mp hu with hu | hu
            · exact gv u hu
            · obtain ⟨c, hc, rfl⟩ := List.mem_map.mp hu
              refine ⟨by rw [app_len]; omega, fun d hd => ?_⟩
              rw [TL.tl_append, sing_tl] at hd
              rcases List.mem_append.mp hd with hd | hd
              · exact tg.2 d hd
              · rw [List.mem_singleton.mp hd]; exact hc
      · rintro σ H2 ⟨l, vs, o6, rfl, s2, hl, lv, gv⟩
        rw [List.length_map] at lv
        have jm : us.length * sg.cps.size ≤ 64 * 3 ∨ us.length * sg.cps.size ≤ 200 := by
          rcases few with h2 | h2
          · exact .inl (Nat.le_trans (Nat.mul_le_mul u64 h2) (by decide))
          · right
            have h3 : us.length ≤ 16 := by
              rw [lu]
              exact Nat.le_trans (Nat.pow_le_pow_left z4 i) (Nat.le_trans (Nat.pow_le_pow_right (n := 4) (j := 2) (by decide) (by omega)) (by decide))
            exact Nat.le_trans (Nat.mul_le_mul h3 z4) (by decide)
        refine ⟨_, rfl, _, rfl, a, l, _, _, rfl, rfl, s2 _ _ ha, hl, ?_, fun X hX => ?_⟩
        · rw [List.length_map, List.length_map, sizeLine_eq]; omega
        refine ⟨_, rfl, _, _, rfl, X, l, ts ++ vs, vs, _, _, _, rfl, (s1.trans s2).trans (Same.upd hX), by rw [upd_same, List.map_append], Same.upd hX _ _ hl, ?_, ?_, fun t ht => ?_, gv⟩
        · rw [List.length_append]; omega
        · rw [lv, lu, Nat.pow_succ]
        · rcases List.mem_append.mp ht with ht | ht
          · exact ⟨by have := (gt t ht).1; omega, (gt t ht).2⟩
          · exact gv t ht
    · rintro σ H1 ⟨a, b, ts, us, o4, o5, o6, rfl, s1, ha, hb, lt, lu, gt, gu⟩
      exact ⟨_, rfl, k a ts H1 s1 ha (by omega) fun t ht => ⟨by have := (gt t ht).1; omega, (gt t ht).2⟩⟩
end
end Kx

namespace L2
open PySem PySem.Spec PyProof.Rows
/-! ### try with several clauses `except C as e` -/
abbrev Clause := Value × Nat × TS
/-- what is wished of an exception of the body, clause by clause -/
def wAsL (K : PySem.W.Frag) (D : Ends) : List Clause → WX
  | [] => fun _ _ _ _ => False
  | (c, i, ts) :: r => fun cls d σ H => (PySem.W.exmOne K cls c = some true ∧ ∃ C : Addr, cls = .ref C ∧ ∀ a, H a = none → ts (D.less i) (σ.set i (some (.ref a))) (upd H a (xob a C d))) ∨ (PySem.W.exmOne K cls c = some false ∧ wAsL K D r cls d σ H)
inductive PHs (X : Cx) : List ExceptHandler → List Clause → Prop
  | nil : PHs X [] []
  | cons {x n : Str} {c : Value} {i : Nat} {b0 : Stmt} {suite : List Stmt} {p1 p2 : Pos} {ts : TS} {hs : List ExceptHandler} {cs : List Clause} (slot : X.N[i]? = some n) (loc : X.env.kindOf n = some .local) (names : Names X x c)
      (run : ∀ (a : Addr) (pn : List (Addr × Obj)), PSs (X.suite a pn) (b0 :: suite) ts) (rest : PHs X hs cs) : PHs X (.ExceptHandler (some (.Name x p1)) (some n) (b0 :: suite) p2 :: hs) ((c, i, ts) :: cs)
section
variable {X : Cx}
theorem ref_of_wish {K : PySem.W.Frag} {D : Ends} : ∀ {cs : List Clause} {cls : Value} {d : Option Addr} {σ : St} {H : Hp}, wAsL K D cs cls d σ H → ∃ C : Addr, cls = .ref C
  | [], _, _, _, _, h => h.elim
  | (c, i, ts) :: r, _, _, _, _, h => h.elim (fun ⟨_, C, e, _⟩ => ⟨C, e⟩) fun ⟨_, h⟩ => ref_of_wish h
variable {body : List Stmt} {hs : List ExceptHandler} {cs : List Clause} {p3 : Pos} {tb : WX → TS}
theorem caughtL {pins : List (Addr × Obj)} {D : Ends} {u : Value} {s : Shared} {xe : Value → Shared → Prop} (alone : X.ex = []) (top : X.stack = X.env :: X.outer) (frame : X.env.frame = some X.env.locals) (nodup : X.N.Nodup) (ok : X.Ok)
    (cl : PHs X hs cs) (fly : XE (X.tr (X.pn ++ pins) xe) (wAsL X.K D cs) u s) :
    wpAny (model X.prog X.w) X.A (noteFrame u X.env) (fun _ s2 => wpAny (model X.prog X.w) X.A (setFlight u none) (fun _ s3 => wpAny (model X.prog X.w) X.A (handleBy u X.env hs) (SP X pins D) X.xe s3) X.xe s2) X.xe s := by
  obtain ⟨a, ground, sI, _, σ1, H1, cls, d, rfl, Jt, stays, slots, sky, free, os, gens, wish⟩ := fly
  obtain ⟨C, rfl⟩ := ref_of_wish wish
  have J : Inv X pins σ1 H1 sI := Jt.ofTry ok
  refine Sky.land Zc.steady (ok.frames.trans (congrArg some top)) frame (top ▸ sky) fun h3 f3 up3 => ?_
  obtain ⟨o3, v3, g3, z3, d3⟩ := f3.there
  have notFrame : a ∉ frs X.stack := fun hm => by
    obtain ⟨_, o, e, other⟩ := f3.2.2.1.mem (top ▸ hm)
    exact other v3 (Option.some.inj (e.symm.trans g3) ▸ d3)
  have absent : sI.heap.get? a = none := Option.eq_none_iff_forall_ne_some.mpr fun o e => by
    have z := stays a o e notFrame
    rw [f3.2.1] at z
    cases z
  obtain ⟨n0, nL, nC, nP⟩ := newcomer J alone absent
  have J3 : Inv X pins σ1 H1 { s with heap := h3 } := J.landed stays f3.1 (slots.trans up3) os gens
  have cls3 : PySem.W.Looks (model X.prog X.w) h3 (typeOf (.ref a)) (.ref C) := fun _ _ _ _ keep q => wpAny_typeOf_ref (keep _ _ g3) (z3.1.symm ▸ q)
  -- clause by clause
  induction cl with
  | nil => exact wish.elim
  | @cons x n c i b0 suite p1 p2 ts hs cs slot loc names run rest ih =>
    have clause : ∀ {Q : Value → Shared → Prop} {E : Value → Shared → Prop}, Q c { s with heap := h3 } → wpAny (model X.prog X.w) (X.A.mark (some (.ref a))) (eval (.Name x p1) X.env) Q E { s with heap := h3 } := fun {Q E} q => by
      rcases names with ⟨gl, dbg, is | ⟨no, boot, other⟩⟩
      · exact ld_glob (J3.inSuite a) gl is q dbg
      · exact ld_blt (J3.inSuite a) gl no boot q other dbg
    rcases wish with ⟨named, C', eC, w⟩ | ⟨named, w⟩
    · cases eC
      refine wpAny_handleBy_cons (codeAny_handlers_test (clause ((PySem.W.exm_one (M := model X.prog X.w) J3.kIn cls3 named).here ?_))) (fun z => nomatch z)
      refine codeAny_handlers_suite_as (HandSPX.lands_againZ f3 fun h4 f4 up4 => ?_)
      obtain ⟨o4, v4, g4, z4, d4⟩ := f4.there
      have J4 : Inv X pins σ1 H1 { s with heap := h4 } := J.landed stays f4.1 ((slots.trans up3).trans up4) os gens
      have J5 := (J4.track free n0 nL nC nP (xob_ok g4 z4 d4)).inSuite a
      refine store_ok (X := X.suite a (X.pn ++ pins)) (v := .ref a) J5 nodup slot (.inl loc) rfl (fun s5 S5 => ?_) (.inr loc)
      have leave : ∀ {σ6 : St} {H6 : Hp} {s6 : Shared} {Q : Shared → Prop}, Inv (X.suite a (X.pn ++ pins)) [] σ6 H6 s6 → (∀ s7, Inv X pins (σ6.set i none) H6 s7 → Q s7) → wpAny (model X.prog X.w) X.A (do bindName X.env n .none; unbindBehindTheSuite X.env n p2) (fun _ s7 => Q s7) X.xe s6 :=
        fun S6 q => gone_ok (S6.outSuite ok) nodup slot loc q
      refine wpAny_mono ((run a (X.pn ++ pins)).run [] s5 _ _ _ S5 (w a free)) (fun fl s6 q => ?_) fun _ _ z => z.elim
      match fl, q with
      | .next, ⟨_, _, S6, q⟩ => exact leave S6 fun _ J7 => ⟨_, _, J7, q⟩
      | .brk, ⟨_, _, S6, q⟩ => exact leave S6 fun _ J7 => ⟨_, _, J7, q⟩
      | .cont, ⟨_, _, S6, q⟩ => exact leave S6 fun _ J7 => ⟨_, _, J7, q⟩
      | .ret _, ⟨_, _, _, S6, r, q⟩ => exact leave S6 fun _ J7 => ⟨_, _, _, J7, r, q⟩
    · refine wpAny_handleBy_cons (codeAny_handlers_test (clause ((PySem.W.exm_one (M := model X.prog X.w) J3.kIn cls3 named).here ?_))) (fun z => nomatch z)
      exact ih w
theorem ps_try_asL {h0 : ExceptHandler} (alone : X.ex = []) (top : X.stack = X.env :: X.outer) (frame : X.env.frame = some X.env.locals) (nodup : X.N.Nodup) (cl : PHs X (h0 :: hs) cs)
    (try_ : ∀ (W : WX) (pn : List (Addr × Obj)) (xe : Value → Shared → Prop), Takes (X.tr pn xe) W → PSs (X.tr pn xe) body (tb W)) :
    PS X (.Try body (h0 :: hs) [] [] p3) (fun D σ H => tb (wAsL X.K D cs) D σ H) where
  run := fun pins s σ H D I h => by
    have ok := I.ok
    refine wpAny_Try_except (wpAny_mono ((try_ (wAsL X.K D cs) (X.pn ++ pins) _ fun u s' y => caughtL alone top frame nodup ok cl y).run [] s σ H D (I.toTry _) h) (fun fl s1 q => ?_) fun _ _ z => z)
    match fl, q with
    | .next, ⟨_, _, J, q⟩ => exact wpAny_execs_nil ⟨_, _, J.ofTry ok, q⟩
    | .brk, ⟨_, _, J, q⟩ => exact ⟨_, _, J.ofTry ok, q⟩
    | .cont, ⟨_, _, J, q⟩ => exact ⟨_, _, J.ofTry ok, q⟩
    | .ret _, ⟨_, _, _, J, r, q⟩ => exact ⟨_, _, _, J.ofTry ok, r, q⟩
end
/-! ### C(..) of an own class in a try: its __init__ may raise -/
def tMakeS (C : Addr) (sp : Sp) (E : St → XK) (t : TA) : TE := fun σ H Q => t σ H fun vs H1 => ∀ x dx, H1 x = none → H1 dx = none → dx ≠ x → sp (.ref x :: vs) (upd (upd H1 dx (.own x)) x (.ins C dx [])) (fun v H2 => v = .non ∧ Q (.ref x) H2) (E σ)
section
variable {X : Cx} {CX : CXT} {k : Nat} {f C : Addr} {fd : FuncData} {ps : List Str} {sp : Sp} {E : St → XK} {x : Str} {p pos : Pos} {e : Expr} {es : List Expr} {t : TA}
theorem pe_makeS (M : Mk X.K C f) (F : FnOk X.prog X.w X.K X.mg X.base CX k f fd ps sp) (hr : Room (k + 1) X.A) (hg : Gl X x) (hm : X.mg x = some (.ref C)) (hb : Binds X.K fd ps []) (hx : ∀ σ, PassesAt CX X σ (E σ))
    (ha : PA X (e :: es) t) (hdb : (x == ("__debug__" : Str)) = false := by decide) (he : starEach (e :: es) X.env = (false, eval e X.env) :: starEach es X.env := by rfl) (hpl : (backTo pos (starEach es X.env)).any (·.1) = false := by rfl) :
    PE X (.Call (.Name x p) (e :: es) [] pos) (tMakeS C sp E t) := by
  refine ⟨fun pins s σ H Q I h => wpAny_Call_Name_kw (ld_glob I hg hm (PySem.W.callWith_K (h₀ := X.base) I.ok.mod.kin M.kp (thn (ha.run pos pins s σ H _ I h) fun us s1 ⟨vs, H1, I1, r, q⟩ => ⟨I1.kIn, ?_⟩) he hpl) hdb)⟩
  -- the instance, its dict
  have w := q (s1.heap.objs.size + 1) s1.heap.objs.size (I1.hok.fresh (Nat.le_succ _)) (I1.hok.fresh (Nat.le_refl _)) (Nat.ne_of_lt (Nat.lt_succ_self _))
  have J := Inv.made (C := C) I1
  have rr : Vals (V.ref (s1.heap.objs.size + 1) :: vs) (Value.ref (s1.heap.objs.size + 1) :: us) := .cons rfl r
  have len : (Value.ref (s1.heap.objs.size + 1) :: us).length = ps.length := rr.length.symm.trans (F.len _ _ _ _ w)
  have b := hb _ (Value.ref (s1.heap.objs.size + 1) :: us) J.kIn (by rw [List.append_nil]; exact len)
  rw [List.append_nil] at b
  refine wpAny_call (make_map (f := f) I1.kIn M.makes M.init (beq_iff_eq.mp M.fn) (codeAny_mono (F.run _ X.stack _ _ _ _ _ _ (E σ) (hr.make C us []) (J.env0.make C us []) b rr w) fun y z hy => ?_))
  match y, hy with
  | .error e, hy => exact hx σ pins _ _ e z J hy
  | .ok (.ret u), hy =>
    obtain ⟨v, H3, J3, rv, ev, q3⟩ := J.after hy
    subst ev
    exact ⟨rv, ⟨V.ref (s1.heap.objs.size + 1), H3, J3, rfl, q3⟩⟩
  | .ok .next, hy => exact False.elim hy
  | .ok .brk, hy => exact False.elim hy
  | .ok .cont, hy => exact False.elim hy
end
end L2

namespace Kx
open PySem L2 Own PinX DicN
abbrev s_pieces : Stmt := top 32
abbrev s_lightest : Stmt := top 33
abbrev s__law_made : Stmt := top 49
abbrev s__law_number : Stmt := top 50
abbrev s__law_bound : Stmt := top 51
structure TxtPi (K : PySem.W.Frag) (mg : Str → Option Value) (f0 f1 : Addr) (d0 d1 : FuncData) : Prop where
  D_pieces : DefT K mg "pieces" "pieces" s_pieces ["signs", "size"] f0 d0
  D_lightest : DefT K mg "lightest" "lightest" s_lightest ["signs", "places", "size"] f1 d1
structure TxtMd (K : PySem.W.Frag) (mg : Str → Option Value) (A : EAd) (f : Addr) (d : FuncData) : Prop where
  D__law_made : DefT K mg "_law_made" "_law_made" s__law_made ["sort", "signs", "many", "size"] f d
  e22 : PySem.W.exmOne K (.ref A.c2) (.ref A.c2) = some true
structure TxtNu (K : PySem.W.Frag) (mg : Str → Option Value) (f0 f1 : Addr) (d0 d1 : FuncData) : Prop where
  D__law_number : DefT K mg "_law_number" "_law_number" s__law_number ["signs", "many"] f0 d0
  D__law_bound : DefT K mg "_law_bound" "_law_bound" s__law_bound ["signs", "many", "size"] f1 d1
  n_range : mg "range" = none
  n_len : mg "len" = none
def spPc (A : EAd) (Z : CAd) (T : List NdefX.NTab) (vs : List V) (l sg : Str) (pl n : Nat) : Sp := fun us H Q E => us = vs ∧ 1 ≤ sg.cps.size ∧ sg.cps.size ≤ 4 ∧ sg.cps.toList.Nodup ∧ sg.cps.all (· < 128) = true ∧ 1 ≤ pl ∧ pl ≤ 9 ∧ 1 ≤ n ∧ n ≤ 9 ∧ NdefX.TabsN T H ∧
  (11 < sg.cps.size ^ n → ∀ d H', H d = none → LamX.ExtN H H' → NdefX.TabsN T H' → H' d = some (.xd [("what", .str "keys")]) → E (.ref A.c2) (some d) H') ∧
  (sg.cps.size ^ n ≤ 11 → 16 < manyS sg.cps.size (pl + n - 1) → ∀ d H', H d = none → LamX.ExtN H H' → NdefX.TabsN T H' → H' d = some (.xd [("what", .str "states")]) → E (.ref A.c2) (some d) H') ∧
  (sg.cps.size ^ n ≤ 11 → manyS sg.cps.size (pl + n - 1) ≤ 16 → ∀ m H', LamX.ExtN H H' → NdefX.TabsN T H' → machLP Z H' m l sg n (pl + n - 1) → Q (.ref m) H')
def spP0 (A : EAd) (Z : CAd) (T : List NdefX.NTab) : Sp := fun vs H Q E => ∃ (sg : Str) (n : Nat), spPc A Z T [.str sg, .int n] "p" sg 1 n vs H Q E
def spP1 (A : EAd) (Z : CAd) (T : List NdefX.NTab) : Sp := fun vs H Q E => ∃ (sg : Str) (pl n : Nat), spPc A Z T [.str sg, .int pl, .int n] "m" sg pl n vs H Q E
section
variable {P : Program} {w : World} {K : PySem.W.Frag} {mg : Str → Option Value} {base : Heap} {A : EAd} {B : MAd} {Z : CAd} {F : FAd} {T : List NdefX.NTab}
section
variable {fb fp fc fl f0 f1 : Addr} {db dp dc dl d0 d1 : FuncData} {cp Pp cl Pl : Addr}
theorem ok_pieces (TM : TxtM K mg B) (TE : TxtE K mg A) (TC : TxtC K mg Z) (TF : TxtF K mg F) (TB : TxtBu K mg fb db) (TP : TxtLp K mg base T fp dp cp Pp) (TK : TxtCp K mg fc dc) (TS : TxtLs K mg base T fl dl cl Pl) (TI : TxtPi K mg f0 f1 d0 d1) : FnOk P w K mg base (L2.CX P w) 9 f0 d0 ["signs", "size"] (spP0 A Z T) := by
  have sc : FnScope ["signs", "size"] ["signs", "size"] (defScope s_pieces) := ⟨rfl, rfl, rfl, by decide +kernel, rfl, by decide +kernel, by decide +kernel⟩
  have G_lss : FnOk P w K mg base (L2.CX P w) 8 fl dl ["letter", "signs", "places", "size"] (spLss A Z T) := ok_lss TM TE TC TF TB TP TK TS
  refine TI.D_pieces.F.okX sc (fun vs H Q E h => ?_) (fun cdv A1 outer s H vs Q E hr h => ?_)
  · obtain ⟨_, _, rfl, _⟩ := h; rfl
  · obtain ⟨sg, n, rfl, z1, z4, nd, asc, p1, p9, n1, n9, hT, b1, b2, g⟩ := h
    refine ⟨_, (pss_one (ps_ret (pe_callS G_lss (hr.mono (by decide)) rfl TS.g TS.F.kp TS.b (fun σ => passAt (takes_of rfl rfl rfl rfl) σ) (pa_cons pe_str (pa_cons (pv 0) (pa_cons pe_int (pa_cons (pv 1) pa_nil))))))), ?_⟩
    exact ⟨_, rfl, _, rfl, "p", sg, 1, n, rfl, by decide, z1, z4, nd, asc, p1, p9, n1, n9, hT, b1, b2, g⟩
theorem ok_lightest (TM : TxtM K mg B) (TE : TxtE K mg A) (TC : TxtC K mg Z) (TF : TxtF K mg F) (TB : TxtBu K mg fb db) (TP : TxtLp K mg base T fp dp cp Pp) (TK : TxtCp K mg fc dc) (TS : TxtLs K mg base T fl dl cl Pl) (TI : TxtPi K mg f0 f1 d0 d1) : FnOk P w K mg base (L2.CX P w) 9 f1 d1 ["signs", "places", "size"] (spP1 A Z T) := by
  have sc : FnScope ["signs", "places", "size"] ["signs", "places", "size"] (defScope s_lightest) := ⟨rfl, rfl, rfl, by decide +kernel, rfl, by decide +kernel, by decide +kernel⟩
  have G_lss : FnOk P w K mg base (L2.CX P w) 8 fl dl ["letter", "signs", "places", "size"] (spLss A Z T) := ok_lss TM TE TC TF TB TP TK TS
  refine TI.D_lightest.F.okX sc (fun vs H Q E h => ?_) (fun cdv A1 outer s H vs Q E hr h => ?_)
  · obtain ⟨_, _, _, rfl, _⟩ := h; rfl
  · obtain ⟨sg, pl, n, rfl, z1, z4, nd, asc, p1, p9, n1, n9, hT, b1, b2, g⟩ := h
    refine ⟨_, (pss_one (ps_ret (pe_callS G_lss (hr.mono (by decide)) rfl TS.g TS.F.kp TS.b (fun σ => passAt (takes_of rfl rfl rfl rfl) σ) (pa_cons pe_str (pa_cons (pv 0) (pa_cons (pv 1) (pa_cons (pv 2) pa_nil))))))), ?_⟩
    exact ⟨_, rfl, _, rfl, _, rfl, "m", sg, pl, n, rfl, by decide, z1, z4, nd, asc, p1, p9, n1, n9, hT, b1, b2, g⟩
/-! ### what is made, and what is due -/
def letR (sort : Nat) : Str := if sort = 0 then "p" else "m"
def MadeR (Z : CAd) (sort : Nat) (sg : Str) (pl n : Nat) (H : Hp) (v : V) : Prop := (11 < sg.cps.size ^ n ∧ v = .str "keys") ∨ (sg.cps.size ^ n ≤ 11 ∧ 16 < manyS sg.cps.size (pl + n - 1) ∧ v = .str "states") ∨ (sg.cps.size ^ n ≤ 11 ∧ manyS sg.cps.size (pl + n - 1) ≤ 16 ∧ ∃ m, v = .ref m ∧ machLP Z H m (letR sort) sg n (pl + n - 1))
def spMade (Z : CAd) (T : List NdefX.NTab) : Sp := fun vs H Q _ => ∃ (sort pl n : Nat) (sg : Str), vs = [.int sort, .str sg, .int pl, .int n] ∧ sort < 2 ∧ (sort = 0 → pl = 1) ∧ 1 ≤ sg.cps.size ∧ sg.cps.size ≤ 4 ∧ sg.cps.toList.Nodup ∧ sg.cps.all (· < 128) = true ∧ 1 ≤ pl ∧ pl ≤ 9 ∧ 1 ≤ n ∧ n ≤ 9 ∧ NdefX.TabsN T H ∧
  ∀ v H', LamX.ExtN H H' → NdefX.TabsN T H' → MadeR Z sort sg pl n H' v → Q v H'
theorem sc_made : FnScope ["sort", "signs", "many", "size", "made", "e"] ["sort", "signs", "many", "size"] (defScope s__law_made) := ⟨rfl, rfl, rfl, by decide +kernel, rfl, by decide +kernel, by decide +kernel⟩
theorem ok_made {f : Addr} {d : FuncData} (TM : TxtM K mg B) (TE : TxtE K mg A) (TC : TxtC K mg Z) (TF : TxtF K mg F) (TB : TxtBu K mg fb db) (TP : TxtLp K mg base T fp dp cp Pp) (TK : TxtCp K mg fc dc) (TS : TxtLs K mg base T fl dl cl Pl) (TI : TxtPi K mg f0 f1 d0 d1) (TD : TxtMd K mg A f d) : FnOk P w K mg base CX0 10 f d ["sort", "signs", "many", "size"] (spMade Z T) := by
  have sc := sc_made
  have G_0 : FnOk P w K mg base (L2.CX P w) 9 f0 d0 ["signs", "size"] (spP0 A Z T) := ok_pieces TM TE TC TF TB TP TK TS TI
  have G_1 : FnOk P w K mg base (L2.CX P w) 9 f1 d1 ["signs", "places", "size"] (spP1 A Z T) := ok_lightest TM TE TC TF TB TP TK TS TI
  refine TD.D__law_made.F.ok sc (fun vs H Q E h => ?_) (fun cdv A1 outer s H vs Q E hr h => ?_)
  · obtain ⟨_, _, _, _, rfl, _⟩ := h; rfl
  · obtain ⟨sort, pl, n, sg, rfl, s2, s0, z1, z4, nd, asc, p1, p9, n1, n9, hT, k⟩ := h
    refine ⟨_, (pss_cons (ps_try_asL (tb := fun W => tAsg (tIf (tTest (tOp rEq (tVar 0) (tC (.int 0)))) (tCallS (spP0 A Z T) (WE W) (tCons (tVar 1) (tCons (tVar 3) tNil))) (tCallS (spP1 A Z T) (WE W) (tCons (tVar 1) (tCons (tVar 2) (tCons (tVar 3) tNil))))) (gName 4))
      (cs := [(.ref A.c2, 5, tRet (tXfT K "what" (tVar 5)))]) rfl rfl rfl sc.nd
      (.cons rfl rfl ⟨rfl, by decide, .inl TE.E_TooMany.g⟩ (fun a pn => (pss_one (ps_ret (pe_xfT (pv 5))))) .nil)
      (fun W pn xe tk => (pss_one (ps_set (i := 4) sc.nd rfl (Or.inl rfl) (pe_ifExp (pt_cmpR op_eq (pv 0) pe_int (nomark _)) (pe_callS G_0 (hr.mono (by decide)) rfl TI.D_pieces.g TI.D_pieces.F.kp TI.D_pieces.b (fun σ => passAt tk σ) (pa_cons (pv 1) (pa_cons (pv 3) pa_nil))) (pe_callS G_1 (hr.mono (by decide)) rfl TI.D_lightest.g TI.D_lightest.F.kp TI.D_lightest.b (fun σ => passAt tk σ) (pa_cons (pv 1) (pa_cons (pv 2) (pa_cons (pv 3) pa_nil)))))))))
      (pss_one (ps_ret (pv 4)))), ?_⟩
    refine ⟨_, rfl, rfl, _, rfl, ?_⟩
    rw [show decide (V.int (sort : Nat) = V.int 0) = decide (sort = 0) from int_eq sort 0]
    have err : ∀ (x : Str), (∀ H', MadeR Z sort sg pl n H' (.str x)) → ∀ (d1 : Addr) (H1 : Hp), LamX.ExtN H H1 → NdefX.TabsN T H1 → H1 d1 = some (.xd [("what", .str x)]) → ∀ a, H1 a = none → Q (.str x) (upd H1 a (xob a A.c2 (some d1))) := fun x mr d1 H1 e1 T1 h1 a ha =>
      k (.str x) _ (e1.trans (sameN (Same.upd ha))) (T1.ext (Same.upd ha)) (mr _)
    by_cases c0 : sort = 0
    · subst c0
      obtain rfl := s0 rfl
      refine ifT rfl ⟨_, rfl, _, rfl, sg, n, rfl, z1, z4, nd, asc, p1, p9, n1, n9, hT, fun big d1 H1 nd1 e1 T1 h1 => ?_, fun k11 big d1 H1 nd1 e1 T1 h1 => ?_, fun k11 m16 m H1 e1 T1 ma => ?_⟩
      · refine .inl ⟨TD.e22, A.c2, rfl, fun a ha => ?_⟩
        have nda : d1 ≠ a := ne_of_none h1 ha
        have hd1 : (upd H1 a (xob a A.c2 (some d1))) d1 = some (.xd [("what", .str "keys")]) := by rw [upd_ne nda]; exact h1
        exact ⟨_, rfl, a, A.c2, d1, _, _, rfl, TE.E_TooMany.xf, TE.N_what, upd_same, hd1, rfl, err "keys" (fun _ => .inl ⟨big, rfl⟩) d1 H1 e1 T1 h1 a ha⟩
      · refine .inl ⟨TD.e22, A.c2, rfl, fun a ha => ?_⟩
        have nda : d1 ≠ a := ne_of_none h1 ha
        have hd1 : (upd H1 a (xob a A.c2 (some d1))) d1 = some (.xd [("what", .str "states")]) := by rw [upd_ne nda]; exact h1
        exact ⟨_, rfl, a, A.c2, d1, _, _, rfl, TE.E_TooMany.xf, TE.N_what, upd_same, hd1, rfl, err "states" (fun _ => .inr (.inl ⟨k11, big, rfl⟩)) d1 H1 e1 T1 h1 a ha⟩
      · exact ⟨_, rfl, k (.ref m) H1 e1 T1 (.inr (.inr ⟨k11, m16, m, rfl, ma⟩))⟩
    · obtain rfl : sort = 1 := by omega
      refine ifF c0 ⟨_, rfl, _, rfl, _, rfl, sg, pl, n, rfl, z1, z4, nd, asc, p1, p9, n1, n9, hT, fun big d1 H1 nd1 e1 T1 h1 => ?_, fun k11 big d1 H1 nd1 e1 T1 h1 => ?_, fun k11 m16 m H1 e1 T1 ma => ?_⟩
      · refine .inl ⟨TD.e22, A.c2, rfl, fun a ha => ?_⟩
        have nda : d1 ≠ a := ne_of_none h1 ha
        have hd1 : (upd H1 a (xob a A.c2 (some d1))) d1 = some (.xd [("what", .str "keys")]) := by rw [upd_ne nda]; exact h1
        exact ⟨_, rfl, a, A.c2, d1, _, _, rfl, TE.E_TooMany.xf, TE.N_what, upd_same, hd1, rfl, err "keys" (fun _ => .inl ⟨big, rfl⟩) d1 H1 e1 T1 h1 a ha⟩
      · refine .inl ⟨TD.e22, A.c2, rfl, fun a ha => ?_⟩
        have nda : d1 ≠ a := ne_of_none h1 ha
        have hd1 : (upd H1 a (xob a A.c2 (some d1))) d1 = some (.xd [("what", .str "states")]) := by rw [upd_ne nda]; exact h1
        exact ⟨_, rfl, a, A.c2, d1, _, _, rfl, TE.E_TooMany.xf, TE.N_what, upd_same, hd1, rfl, err "states" (fun _ => .inr (.inl ⟨k11, big, rfl⟩)) d1 H1 e1 T1 h1 a ha⟩
      · exact ⟨_, rfl, k (.ref m) H1 e1 T1 (.inr (.inr ⟨k11, m16, m, rfl, ma⟩))⟩
end
/-! ### numbers -/
theorem below_succ (m n : Nat) : below m (n + 1) = below m n + m ^ n := by
  unfold below
  rw [List.range_succ, List.map_append, List.sum_append]
  simp
def spNu : Sp := fun vs H Q _ => ∃ (sg : Str) (n : Nat), vs = [.str sg, .int n] ∧ sg.cps.size ≤ 4 ∧ n ≤ 17 ∧ ∀ H', Same H H' → Q (.int (below sg.cps.size n : Nat)) H'
theorem sc_nu : FnScope ["signs", "many", "total", "size", "k"] ["signs", "many"] (defScope s__law_number) := ⟨rfl, rfl, rfl, by decide +kernel, rfl, by decide +kernel, by decide +kernel⟩
theorem ok_nu {f0 f1 : Addr} {d0 d1 : FuncData} (TN : TxtNu K mg f0 f1 d0 d1) : FnOk P w K mg base CX0 1 f0 d0 ["signs", "many"] spNu := by
  have sc := sc_nu
  refine TN.D__law_number.F.ok sc (fun vs H Q E h => ?_) (fun cdv A1 outer s H vs Q E hr h => ?_)
  · obtain ⟨_, _, rfl, _⟩ := h; rfl
  · obtain ⟨sg, n, rfl, z4, n17, k⟩ := h
    refine ⟨_, (pss_cons (ps_asg (pe_tup (pa_cons pe_int (pa_cons pe_int pa_nil))) (pg_tup rfl (pgs_cons (pg_name (i := 2) sc.nd rfl (Or.inl rfl)) (pgs_cons (pg_name (i := 3) sc.nd rfl (Or.inl rfl)) pgs_nil))))
      (pss_cons (ps_for PassesOwn.never rfl (pi_range1 rfl TN.n_range (pa_cons (pv 1) pa_nil)) (pg_name (i := 4) sc.nd rfl (Or.inl rfl)) (pss_one (ps_par (i := 2) (j := 3) rfl sc.nd rfl rfl (by decide) rfl rfl (pa_cons (pe_op op_add (pv 2) (pv 3)) (pa_cons (pe_op op_mulN (pv 3) (pe_callB call_len (by rfl) TN.n_len (by decide +kernel) (pa_cons (pv 0) pa_nil))) pa_nil)) rfl)))
      (pss_one (ps_ret (pv 2))))), ?_⟩
    refine ⟨by show 2 ≤ sizeLine; decide, fun t0 ht0 => ⟨t0, _, rfl, SqT.of upd_same, rfl, _, _, rfl, _, _, rfl, rfl, ?_⟩⟩
    refine ⟨_, rfl, _, rfl, by omega, by omega, ?_⟩
    rw [Int.toNat_natCast]
    refine for_range (lo := 0) (n := n) (fun j σ H' => Same H H' ∧ ∃ o4 : Option V, σ = [some (.str sg), some (.int n), some (.int (below sg.cps.size j : Nat)), some (.int (sg.cps.size ^ j : Nat)), o4]) ⟨Same.upd ht0, _, rfl⟩ ?_ ?_
    · rintro j σ H' hj ⟨s1, o4, rfl⟩
      refine ⟨_, rfl, _, rfl, _, _, rfl, rfl, _, rfl, _, rfl, .str sg, sg.cps.size, rfl, ⟨by show sg.cps.size ≤ _; rw [sizeLine_eq]; omega, rfl⟩, _, _, rfl, rfl, pow_small z4 n17 hj, _, _, rfl, s1, some (.int (0 + (j : Nat))), ?_⟩
      have e1 : ((below sg.cps.size j : Nat) : Int) + ((sg.cps.size ^ j : Nat) : Int) = ((below sg.cps.size (j + 1) : Nat) : Int) := by rw [← Int.natCast_add, below_succ]
      dsimp only
      rw [e1, Nat.pow_succ]
      rfl
    · rintro σ H' ⟨s1, o4, rfl⟩
      exact ⟨_, rfl, k _ s1⟩
def boundV (m pl n : Nat) : V := if 11 < m ^ n then .str "keys" else if 16 < manyS m (pl + n - 1) then .str "states" else .non
def spBd : Sp := fun vs H Q _ => ∃ (sg : Str) (pl n : Nat), vs = [.str sg, .int pl, .int n] ∧ sg.cps.size ≤ 4 ∧ 1 ≤ pl ∧ pl ≤ 9 ∧ 1 ≤ n ∧ n ≤ 9 ∧ ∀ H', Same H H' → Q (boundV sg.cps.size pl n) H'
theorem sc_bd : FnScope ["signs", "many", "size", "whole", "both"] ["signs", "many", "size"] (defScope s__law_bound) := ⟨rfl, rfl, rfl, by decide +kernel, rfl, by decide +kernel, by decide +kernel⟩
theorem ok_bd {f0 f1 : Addr} {d0 d1 : FuncData} (TN : TxtNu K mg f0 f1 d0 d1) : FnOk P w K mg base CX0 2 f1 d1 ["signs", "many", "size"] spBd := by
  have sc := sc_bd
  have G_nu : FnOk P w K mg base CX0 1 f0 d0 ["signs", "many"] spNu := ok_nu TN
  refine TN.D__law_bound.F.ok sc (fun vs H Q E h => ?_) (fun cdv A1 outer s H vs Q E hr h => ?_)
  · obtain ⟨_, _, _, rfl, _⟩ := h; rfl
  · obtain ⟨sg, pl, n, rfl, z4, p1, p9, n1, n9, k⟩ := h
    refine ⟨_, (pss_cons (ps_if (pt_cmpR op_gt (pe_op op_sub (pe_call G_nu (hr.mono (by decide)) rfl TN.D__law_number.g TN.D__law_number.F.kp TN.D__law_number.b .nil pass0 (pa_cons (pv 0) (pa_cons (pe_op op_add (pv 2) pe_int) pa_nil))) (pe_call G_nu (hr.mono (by decide)) rfl TN.D__law_number.g TN.D__law_number.F.kp TN.D__law_number.b .nil pass0 (pa_cons (pv 0) (pa_cons (pv 2) pa_nil)))) pe_int (nomark _)) (pss_one (ps_ret pe_str)) pss_nil)
      (pss_cons (ps_set (i := 3) sc.nd rfl (Or.inl rfl) (pe_op op_sub (pe_op op_add (pv 1) (pv 2)) pe_int))
      (pss_cons (ps_set (i := 4) sc.nd rfl (Or.inl rfl) (pe_op op_sub (pe_op op_add (pe_call G_nu (hr.mono (by decide)) rfl TN.D__law_number.g TN.D__law_number.F.kp TN.D__law_number.b .nil pass0 (pa_cons (pv 0) (pa_cons (pv 3) pa_nil))) (pe_call G_nu (hr.mono (by decide)) rfl TN.D__law_number.g TN.D__law_number.F.kp TN.D__law_number.b .nil pass0 (pa_cons (pv 0) (pa_cons (pv 3) pa_nil)))) (pe_call G_nu (hr.mono (by decide)) rfl TN.D__law_number.g TN.D__law_number.F.kp TN.D__law_number.b .nil pass0 (pa_cons (pv 0) (pa_cons (pe_op op_sub (pv 3) pe_int) pa_nil)))))
      (pss_one (ps_ret (pe_ifExp (pt_cmpR op_gt (pv 4) pe_int (nomark _)) pe_str pe_non)))))), ?_⟩
    refine ⟨_, rfl, _, rfl, _, _, rfl, rfl, sg, n + 1, by rw [Int.natCast_add]; rfl, z4, by omega, fun H1 s1 => ?_⟩
    refine ⟨_, rfl, _, rfl, sg, n, rfl, z4, by omega, fun H2 s2 => ⟨_, _, rfl, rfl, _, _, rfl, rfl, _, rfl, ?_⟩⟩
    have e0 : ((below sg.cps.size (n + 1) : Nat) : Int) - ((below sg.cps.size n : Nat) : Int) = ((sg.cps.size ^ n : Nat) : Int) := by rw [below_succ]; omega
    rw [e0]
    by_cases c0 : 11 < sg.cps.size ^ n
    · refine ifT (by omega) ?_
      have := k H2 (s1.trans s2)
      unfold boundV at this
      rw [if_pos c0] at this
      exact this
    refine ifF (by omega) ?_
    generalize hwd : pl + n - 1 = wd
    have w1 : 1 ≤ wd := by omega
    have w17 : wd ≤ 17 := by omega
    refine ⟨_, rfl, _, rfl, _, _, rfl, rfl, _, _, rfl, rfl, ?_⟩
    dsimp only
    rw [show ((pl : Nat) : Int) + (n : Nat) - 1 = ((wd : Nat) : Int) by omega]
    refine ⟨_, rfl, _, rfl, sg, wd, rfl, z4, w17, fun H3 s3 => ⟨_, rfl, _, rfl, sg, wd, rfl, z4, w17, fun H4 s4 => ⟨_, _, rfl, rfl, _, rfl, _, rfl, _, _, rfl, rfl, sg, wd - 1, by show [V.str sg, V.int ((wd : Nat) - 1 : Int)] = _; rw [show ((wd : Nat) : Int) - 1 = ((wd - 1 : Nat) : Int) by omega], z4, by omega, fun H5 s5 => ⟨_, _, rfl, rfl, ?_⟩⟩⟩⟩
    have e1 : ((below sg.cps.size wd : Nat) : Int) + ((below sg.cps.size wd : Nat) : Int) - ((below sg.cps.size (wd - 1) : Nat) : Int) = ((manyS sg.cps.size wd : Nat) : Int) := by
      unfold manyS
      obtain ⟨v, rfl⟩ : ∃ v, wd = v + 1 := ⟨wd - 1, by omega⟩
      rw [below_succ, Nat.add_sub_cancel]
      omega
    dsimp only
    rw [e1]
    have kk := k H5 ((((s1.trans s2).trans s3).trans s4).trans s5)
    unfold boundV at kk
    rw [if_neg c0, hwd] at kk
    refine ⟨_, rfl, _, _, rfl, rfl, _, rfl, ?_⟩
    by_cases c1 : 16 < manyS sg.cps.size wd
    · rw [decide_eq_true (by omega : (16 : Int) < ((manyS sg.cps.size wd : Nat) : Int))]
      rw [if_pos c1] at kk
      exact iteT kk
    · rw [decide_eq_false (by omega : ¬ (16 : Int) < ((manyS sg.cps.size wd : Nat) : Int))]
      rw [if_neg c1] at kk
      exact iteF kk
end
end Kx

namespace Kx
open PySem L2 Own PinX DicN
abbrev s__law_least : Stmt := top 52
abbrev s__law_due : Stmt := top 53
/-! ### lists of numbers by their order -/
def rLtI : R2 := fun x y H Q => ∃ (a b : Addr) (ns ms : List Int), x = .ref a ∧ y = .ref b ∧ H a = some (.lst (ns.map V.int)) ∧ H b = some (.lst (ms.map V.int)) ∧ Q (.bl (PySem.W.DatumOrd.lt ns ms)) H
theorem op_ltI {X : Cx} (hu : X.A.units + 64 < cLine) : OpR X (compareOp .Lt) rLtI := by
  intro pins s σ H x y v u Q I rx ry h
  obtain ⟨a, b, ns, ms, rfl, rfl, ha, hb, q⟩ := h
  cases rx
  cases ry
  have holds : ∀ {a : Addr} {ns : List Int}, H a = some (.lst (ns.map V.int)) → PySem.W.Holds s.heap (.ref a) ns := fun {a ns} ha => by
    obtain ⟨_, its, n, r, g⟩ := (show L2.ObjOk X.prog X.w H s.heap a (.lst (ns.map V.int)) from I.hok a _ ha)
    obtain ⟨as, z⟩ := reads_ints (h := s.heap) r
    exact ⟨_, .list g rfl rfl (by simpa using z)⟩
  exact PySem.W.lt_datum (holds ha) (holds hb) (by show X.A.units + 1 < _; omega) ⟨.bl _, H, I, rfl, q⟩
structure TxtLe (K : PySem.W.Frag) (mg : Str → Option Value) (f0 f1 : Addr) (d0 d1 : FuncData) : Prop where
  D__law_least : DefT K mg "_law_least" "_law_least" s__law_least ["signs", "runs"] f0 d0
  D__law_due : DefT K mg "_law_due" "_law_due" s__law_due ["sort", "signs", "text", "many", "size"] f1 d1
  n_range : mg "range" = none
  n_len : mg "len" = none
  n_tuple : mg "tuple" = none
  n_sorted : mg "sorted" = none
  n_set : mg "set" = none
section
variable {P : Program} {w : World} {K : PySem.W.Frag} {mg : Str → Option Value} {base : Heap} {f0 f1 : Addr} {d0 d1 : FuncData}
/-- the place of the best of the first i -/
def soFar (sg : Str) (runs : List Str) : Nat → Nat
  | 0 => 0
  | i + 1 => PySem.argBest (ltK (runs.map (keyR sg))) i
theorem far_le {sg : Str} {runs : List Str} {i : Nat} (h : i ≤ runs.length) (h0 : 0 < runs.length) : soFar sg runs i < runs.length := by
  cases i with
  | zero => exact h0
  | succ i =>
    have := best_le (ltK (runs.map (keyR sg))) i
    show PySem.argBest (ltK (runs.map (keyR sg))) i < runs.length
    omega
theorem key_len {sg r : Str} : (keyR sg r).length = r.length := by unfold keyR; rw [List.length_map, ← TL.len_tl]
def spLeast (K : PySem.W.Frag) : Sp := fun vs H Q _ => ∃ (sg : Str) (q : Addr) (runs : List Str), vs = [.str sg, .ref q] ∧ SqL K H q (runs.map V.str) ∧ 0 < runs.length ∧ (∀ r ∈ runs, r.length ≤ 1000 ∧ ∀ c ∈ TL.tl r, c ∈ sg.cps.toList) ∧ ∀ H', Same H H' → Q (.str (leastR sg runs)) H'
abbrev Nll : List Str := ["signs", "runs", "best", "run", "sign"]
theorem sc_ll : FnScope Nll ["signs", "runs"] (defScope s__law_least) := ⟨rfl, rfl, rfl, by decide +kernel, rfl, by decide +kernel, by decide +kernel⟩
theorem idx_first {sg : Str} {c : Nat} (hc : c ∈ sg.cps.toList) : sg.cps[sg.cps.toList.idxOf c]? = some c ∧ ∀ k, k < sg.cps.toList.idxOf c → sg.cps[k]? ≠ some c := by
  have hl := List.idxOf_lt_length_of_mem hc
  refine ⟨by rw [← Array.getElem?_toList, List.getElem?_eq_getElem hl, List.getElem_idxOf], fun k hk e => ?_⟩
  rw [← Array.getElem?_toList] at e
  obtain ⟨h1, h2⟩ := List.getElem?_eq_some_iff.mp e
  have := List.not_of_lt_findIdx (p := (· == c)) (xs := sg.cps.toList) (i := k) hk
  rw [h2] at this
  simp at this
theorem ok_least (TL' : TxtLe K mg f0 f1 d0 d1) : FnOk P w K mg base CX0 1 f0 d0 ["signs", "runs"] (spLeast K) := by
  have sc := sc_ll
  refine TL'.D__law_least.F.ok sc (fun vs H Q E h => ?_) (fun cdv A1 outer s H vs Q E hr h => ?_)
  · obtain ⟨_, _, _, rfl, _⟩ := h; rfl
  · obtain ⟨sg, q, runs, rfl, hq, r0, rok, k⟩ := h
    refine ⟨_, (pss_cons (ps_set (i := 2) sc.nd rfl (Or.inl rfl) (pe_ix ix_list (pv 1) pe_int (fun _ _ => rfl)))
      (pss_cons (ps_for PassesOwn.never rfl (pi_list (pv 1)) (pg_name (i := 3) sc.nd rfl (Or.inl rfl)) (pss_one (ps_if (pt_cmpR (op_ltI hr.units)
          (pe_lc (own := [("sign", 4)]) (g := gName 4) (tt := tYes) (te := tM1 rSignAt (tVar 0) (tVar 4)) rfl sc.nd (pi_str (pv 3)) (blkOk_by (N := Nll) (sc := defScope s__law_least) (own := [("sign", 4)]) (by decide +kernel)) (fun _ _ _ _ _ => (pg_name (i := 4) sc.nd rfl (Or.inl rfl))) (fun _ _ _ _ _ => pts_nil) (fun _ _ _ _ _ => pe_m1 PySem.F.slot_str_index PySem.F.type_str_index mt_signAt (pv 0) (pv 4)))
          (pe_lc (own := [("sign", 4)]) (g := gName 4) (tt := tYes) (te := tM1 rSignAt (tVar 0) (tVar 4)) rfl sc.nd (pi_str (pv 2)) (blkOk_by (N := Nll) (sc := defScope s__law_least) (own := [("sign", 4)]) (by decide +kernel)) (fun _ _ _ _ _ => (pg_name (i := 4) sc.nd rfl (Or.inl rfl))) (fun _ _ _ _ _ => pts_nil) (fun _ _ _ _ _ => pe_m1 PySem.F.slot_str_index PySem.F.type_str_index mt_signAt (pv 0) (pv 4))) (nomark _)) (pss_one (ps_set (i := 2) sc.nd rfl (Or.inl rfl) (pv 3))) pss_nil)))
      (pss_one (ps_ret (pv 2))))), ?_⟩
    have at0 : runs[0]? = some runs[0] := List.getElem?_eq_getElem r0
    refine ⟨_, rfl, q, _, _, _, rfl, rfl, hq, atI_nat (j := 0) (by rw [List.getElem?_map, at0]; rfl), ?_⟩
    refine ⟨_, rfl, q, rfl, ⟨_, hq⟩, ?_⟩
    have dt : ∀ {i : Nat} {r : Str}, runs[i]? = some r → runs.getD i "" = r := fun {i r} h => by rw [List.getD_eq_getElem?_getD, h]; rfl
    refine for_it walk_list (fun i σ H' => Same H H' ∧ ∃ o3 : Option V, σ = [some (.str sg), some (.ref q), some (.str (runs.getD (soFar sg runs i) "")), o3, none]) ⟨Same.refl _, none, ?_⟩ (fun i σ H' _ z => z.1.seq hq) ?_ ?_
    · rw [show soFar sg runs 0 = 0 from rfl, dt at0]
      rfl
    · rintro i x σ _ H1 hi ⟨s1, o3, rfl⟩ ⟨rfl, hx⟩
      rw [List.length_map] at hi
      rw [List.getElem?_map] at hx
      obtain ⟨r, hr', rfl⟩ := Option.map_eq_some_iff.mp hx
      have fl := far_le (sg := sg) (i := i) (Nat.le_of_lt hi) r0
      obtain ⟨b, hb⟩ : ∃ b, runs[soFar sg runs i]? = some b := ⟨_, List.getElem?_eq_getElem fl⟩
      rw [dt hb]
      obtain ⟨rl, rin⟩ := rok r (List.mem_of_getElem? hr')
      obtain ⟨bl, bin⟩ := rok b (List.mem_of_getElem? hb)
      refine ⟨_, rfl, r, rfl, fun D hD => ?_⟩
      refine lcs_it [some (.str sg), some (.ref q), some (.str b), some (.str r), none] rfl walk_str (fun j H' => Same H1 H' ∧ H' D = some (.lst ((((TL.tl r).take j).map (ixS sg)).map V.int))) ⟨Same.upd hD, upd_same⟩ (fun _ _ _ _ => trivial) ?_ ?_
      · rintro j x _ H2 hj ⟨s2, h2⟩ ⟨rfl, c, hc, rfl⟩
        have hc' : (TL.tl r)[j]? = some c := by show r.cps.toList[j]? = some c; rw [Array.getElem?_toList]; exact hc
        obtain ⟨f1, f2⟩ := idx_first (rin c (List.mem_of_getElem? hc'))
        refine ⟨rfl, _, rfl, ⟨_, rfl⟩, _, rfl, sg, c, _, rfl, rfl, f1, f2, _, h2, ?_, ?_, ?_⟩
        · have h1 : r.length = r.cps.size := rfl
          rw [List.length_map, List.length_map, List.length_take, sizeLine_eq]
          omega
        · intro b o z
          rw [upd_ne (ne_of_none z hD)]; exact s2 _ _ z
        · rw [upd_same, List.take_add_one, hc', Option.toList_some, List.map_append, List.map_append]
          rfl
      rintro H2 ⟨s2, h2⟩
      have e0 : (TL.tl r).take r.cps.size = TL.tl r := List.take_of_length_le (by show r.cps.toList.length ≤ _; rw [Array.length_toList]; exact Nat.le_refl _)
      rw [e0] at h2
      refine ⟨_, rfl, b, rfl, fun D2 hD2 => ?_⟩
      refine lcs_it [some (.str sg), some (.ref q), some (.str b), some (.str r), none] rfl walk_str (fun j H' => Same H2 H' ∧ H' D2 = some (.lst ((((TL.tl b).take j).map (ixS sg)).map V.int))) ⟨Same.upd hD2, upd_same⟩ (fun _ _ _ _ => trivial) ?_ ?_
      · rintro j x _ H3 hj ⟨s3, h3⟩ ⟨rfl, c, hc, rfl⟩
        have hc' : (TL.tl b)[j]? = some c := by show b.cps.toList[j]? = some c; rw [Array.getElem?_toList]; exact hc
        obtain ⟨f1, f2⟩ := idx_first (bin c (List.mem_of_getElem? hc'))
        refine ⟨rfl, _, rfl, ⟨_, rfl⟩, _, rfl, sg, c, _, rfl, rfl, f1, f2, _, h3, ?_, ?_, ?_⟩
        · have h1 : b.length = b.cps.size := rfl
          rw [List.length_map, List.length_map, List.length_take, sizeLine_eq]
          omega
        · intro b o z
          rw [upd_ne (ne_of_none z hD2)]; exact s3 _ _ z
        · rw [upd_same, List.take_add_one, hc', Option.toList_some, List.map_append, List.map_append]
          rfl
      rintro H3 ⟨s3, h3⟩
      have e1 : (TL.tl b).take b.cps.size = TL.tl b := List.take_of_length_le (by show b.cps.toList.length ≤ _; rw [Array.length_toList]; exact Nat.le_refl _)
      rw [e1] at h3
      have s13 : Same H H3 := (s1.trans s2).trans s3
      refine ⟨D, D2, keyR sg r, keyR sg b, rfl, rfl, s3 _ _ h2, h3, _, rfl, ?_⟩
      have gk : ∀ {i : Nat} {x : Str}, runs[i]? = some x → (runs.map (keyR sg)).getD i [] = keyR sg x := fun {i x} h => by rw [List.getD_eq_getElem?_getD, List.getElem?_map, h]; rfl
      have el : PySem.W.DatumOrd.lt (keyR sg r) (keyR sg b) = ltK (runs.map (keyR sg)) i (soFar sg runs i) := by unfold ltK; rw [gk hr', gk hb]
      rw [el]
      have next : ∀ x, runs.getD (soFar sg runs (i + 1)) "" = x → ∃ o3 : Option V, [some (V.str sg), some (V.ref q), some (V.str x), some (V.str r), none] = [some (V.str sg), some (V.ref q), some (V.str (runs.getD (soFar sg runs (i + 1)) "")), o3, none] := fun x h => ⟨_, by rw [h]⟩
      by_cases e : ltK (runs.map (keyR sg)) i (soFar sg runs i) = true
      · rw [e]
        refine iteT ⟨_, rfl, s13, next r ?_⟩
        refine dt ?_
        have : soFar sg runs (i + 1) = i := by
          cases i with
          | zero => rfl
          | succ i => show PySem.argBest _ (i + 1) = _; unfold PySem.argBest; exact if_pos e
        rw [this]
        exact hr'
      · rw [show ltK (runs.map (keyR sg)) i (soFar sg runs i) = false by simpa using e]
        refine iteF ⟨s13, next b ?_⟩
        refine dt ?_
        have : soFar sg runs (i + 1) = soFar sg runs i := by
          cases i with
          | zero => rfl
          | succ i => show PySem.argBest _ (i + 1) = _; unfold PySem.argBest; exact if_neg e
        rw [this]
        exact hb
    · rintro σ H1 ⟨s1, o3, rfl⟩
      rw [List.length_map]
      refine ⟨_, rfl, ?_⟩
      have : runs.getD (soFar sg runs runs.length) "" = leastR sg runs := by
        unfold leastR bestR
        obtain ⟨m, hm⟩ : ∃ m, runs.length = m + 1 := ⟨runs.length - 1, by omega⟩
        rw [hm]
        rfl
      rw [this]
      exact k H1 s1
/-! ### what is due -/
theorem low_ok : ∀ c : Nat, c < 128 → PyData.strOk (Froz.sing c) = true := by decide +kernel
theorem ok_low {z : Str} (h : ∀ c ∈ TL.tl z, c < 128) : PyData.strOk z = true := by
  unfold PyData.strOk
  rw [← Array.all_toList, List.all_eq_true]
  intro c hc
  have h1 := low_ok c (h c hc)
  unfold PyData.strOk at h1
  rw [← Array.all_toList, List.all_eq_true] at h1
  exact h1 c List.mem_cons_self
theorem alpha_codes : ∀ c ∈ alpha, 97 ≤ c ∧ c ≤ 122 := by decide +kernel
theorem dp_strs (H : Hp) : ∀ ks : List Str, DpAll K H (ks.map V.str) (ks.map PyData.str)
  | [] => .nil
  | k :: ks => .cons (.str k) (dp_strs H ks)
theorem runs_ok {t x : Str} {n : Nat} (h : x ∈ runsOf t n) (t1 : t.length ≤ 1000) (tin : ∀ c ∈ TL.tl t, c < 128) : x.length ≤ 1000 ∧ PyData.strOk x = true := by
  obtain ⟨a, ha, rfl⟩ := run_mem h
  refine ⟨by rw [sub_len ha]; omega, ok_low fun c hc => tin c ?_⟩
  rw [sub_tl ha] at hc
  exact List.mem_of_mem_drop (List.mem_of_mem_take hc)
theorem eqv_strs_nil (ks : List Str) : PyData.eqv (.list (ks.map PyData.str)) (.list []) = decide (ks = []) := by
  cases ks with
  | nil => rw [List.map_nil, PyData.eqv, PyData.eqvAll]; rfl
  | cons a r => rw [List.map_cons, PyData.eqv, PyData.eqvAll]; rfl
def spDue8 : Sp := fun vs H Q _ => ∃ (sort pl n : Nat) (sg t : Str), vs = [.int sort, .str sg, .str t, .int pl, .int n] ∧ sort < 2 ∧ (sort = 0 → pl = 1) ∧ 1 ≤ pl ∧ pl ≤ 9 ∧ 1 ≤ n ∧ n ≤ 9 ∧ t.length ≤ 1000 ∧ (∀ c ∈ TL.tl t, c ∈ sg.cps.toList) ∧ (∀ c ∈ sg.cps.toList, c < 128) ∧ ∀ p H', Same H H' → H' p = some (.tup ((dueG (letR sort) sg t pl n).map V.str)) → Q (.ref p) H'
abbrev Ndu : List Str := ["sort", "signs", "text", "many", "size", "runs", "k", "run"]
theorem sc_du : FnScope Ndu ["sort", "signs", "text", "many", "size"] (defScope s__law_due) := ⟨rfl, rfl, rfl, by decide +kernel, rfl, by decide +kernel, by decide +kernel⟩
theorem due_one {l sg t : Str} {n : Nat} (h : runsOf t n ≠ []) : dueG l sg t 1 n = kl ((runsOf t n).map fun r => l ++ r) := by
  have r0 : 0 < (runsOf t n).length := List.length_pos_iff.mpr h
  unfold dueG
  rw [if_neg h, if_neg (by omega)]
  congr 1
  refine List.ext_getElem? fun j => ?_
  rw [List.getElem?_map, List.getElem?_map, show (runsOf t n).length - 1 + 1 = (runsOf t n).length by omega]
  by_cases e : j < (runsOf t n).length
  · rw [List.getElem?_range e, List.getElem?_eq_getElem e]
    have : ((runsOf t n).drop j).take 1 = [(runsOf t n)[j]] := by rw [List.drop_eq_getElem_cons e]; rfl
    rw [Option.map_some, Option.map_some, this]
    rfl
  · rw [List.getElem?_eq_none_iff.mpr (by rw [List.length_range]; omega), List.getElem?_eq_none_iff.mpr (by omega)]
    rfl
theorem ok_due8 (TL' : TxtLe K mg f0 f1 d0 d1) : FnOk P w K mg base CX0 2 f1 d1 ["sort", "signs", "text", "many", "size"] spDue8 := by
  have sc := sc_du
  have G_least : FnOk P w K mg base CX0 1 f0 d0 ["signs", "runs"] (spLeast K) := ok_least TL'
  refine TL'.D__law_due.F.ok sc (fun vs H Q E h => ?_) (fun cdv A1 outer s H vs Q E hr h => ?_)
  · obtain ⟨_, _, _, _, _, rfl, _⟩ := h; rfl
  · obtain ⟨sort, pl, n, sg, t, rfl, so2, s0, p1, p9, n1, n9, t1, tin, low, k⟩ := h
    refine ⟨_, (pss_cons (ps_set (i := 5) sc.nd rfl (Or.inr rfl) (pe_lc (own := [("k", 6)]) (g := gName 6) (tt := tYes) (te := tSl rSlS (tVar 2) (tPart (tVar 6)) (tPart (tOp rAdd (tVar 6) (tVar 4)))) rfl sc.nd (pi_range1 rfl TL'.n_range (pa_cons (pe_op op_add (pe_op op_sub (pe_callB call_len (by rfl) TL'.n_len (by decide +kernel) (pa_cons (pv 2) pa_nil)) (pv 4)) pe_int) pa_nil)) (blkOk_by (N := Ndu) (sc := defScope s__law_due) (own := [("k", 6)]) (by decide +kernel)) (fun _ _ _ _ _ => (pg_name (i := 6) sc.nd rfl (Or.inl rfl))) (fun _ _ _ _ _ => pts_nil) (fun _ _ _ _ _ => pe_slice sl_str (pv 2) (po_some (pv 6)) (po_some (pe_op op_add (pv 6) (pv 4))))))
      (pss_cons (ps_if (pt_cmpR (op_eqD hr.units) (pv 5) (pe_lst pa_nil) (nomark _)) (pss_one (ps_ret (pe_tup (pa_cons pe_str pa_nil)))) pss_nil)
      (pss_cons (ps_if (pt_cmpR op_eq (pv 0) pe_int (nomark _)) (pss_one (ps_ret (pe_tupleOf rfl TL'.n_tuple (pe_callB (cr_sortT rfl) (by rfl) TL'.n_sorted (by decide +kernel) (pa_cons (pe_callTy (cr_setT rfl) (by rfl) TL'.n_set (by decide +kernel) (pa_cons (pe_lc (own := [("run", 7)]) (g := gName 7) (tt := tYes) (te := tOp rCatS (tC (.str "p")) (tVar 7)) rfl sc.nd (pi_list (pv 5)) (blkOk_by (N := Ndu) (sc := defScope s__law_due) (own := [("run", 7)]) (by decide +kernel)) (fun _ _ _ _ _ => (pg_name (i := 7) sc.nd rfl (Or.inl rfl))) (fun _ _ _ _ _ => pts_nil) (fun _ _ _ _ _ => pe_op op_add_str pe_str (pv 7))) pa_nil)) pa_nil))))) pss_nil)
      (pss_cons (ps_if (pt_cmpR op_lt (pe_callB call_len (by rfl) TL'.n_len (by decide +kernel) (pa_cons (pv 5) pa_nil)) (pv 3) (nomark _)) (pss_one (ps_ret (pe_tup (pa_cons (pe_op op_add_str pe_str (pe_call G_least (hr.mono (by decide)) rfl TL'.D__law_least.g TL'.D__law_least.F.kp TL'.D__law_least.b .nil pass0 (pa_cons (pv 1) (pa_cons (pv 5) pa_nil)))) pa_nil)))) pss_nil)
      (pss_one (ps_ret (pe_tupleOf rfl TL'.n_tuple (pe_callB (cr_sortT rfl) (by rfl) TL'.n_sorted (by decide +kernel) (pa_cons (pe_callTy (cr_setT rfl) (by rfl) TL'.n_set (by decide +kernel) (pa_cons (pe_lc (own := [("k", 6)]) (g := gName 6) (tt := tYes) (te := tOp rCatS (tC (.str "m")) (tCall (spLeast K) [] E0 (tCons (tVar 1) (tCons (tSl (rSlL K) (tVar 5) (tPart (tVar 6)) (tPart (tOp rAdd (tVar 6) (tVar 3)))) tNil)))) rfl sc.nd (pi_range1 rfl TL'.n_range (pa_cons (pe_op op_add (pe_op op_sub (pe_callB call_len (by rfl) TL'.n_len (by decide +kernel) (pa_cons (pv 5) pa_nil)) (pv 3)) pe_int) pa_nil)) (blkOk_by (N := Ndu) (sc := defScope s__law_due) (own := [("k", 6)]) (by decide +kernel)) (fun _ _ _ _ _ => (pg_name (i := 6) sc.nd rfl (Or.inl rfl))) (fun _ _ _ _ _ => pts_nil) (fun _ _ _ _ _ => pe_op op_add_str pe_str (pe_call G_least (hr.mono (by decide)) rfl TL'.D__law_least.g TL'.D__law_least.F.kp TL'.D__law_least.b .nil pass0 (pa_cons (pv 1) (pa_cons (pe_slice sl_list (pv 5) (po_some (pv 6)) (po_some (pe_op op_add (pv 6) (pv 3)))) pa_nil))))) pa_nil)) pa_nil))))))))), ?_⟩
    have rl : (runsOf t n).length = t.length + 1 - n := runs_len
    have tl128 : ∀ c ∈ TL.tl t, c < 128 := fun c hc => low c (tin c hc)
    have rok : ∀ r ∈ runsOf t n, r.length ≤ 1000 ∧ ∀ c ∈ TL.tl r, c ∈ sg.cps.toList := fun r hr' => by
      obtain ⟨a, ha, rfl⟩ := run_mem hr'
      refine ⟨by rw [sub_len ha]; omega, fun c hc => tin c ?_⟩
      rw [sub_tl ha] at hc
      exact List.mem_of_mem_drop (List.mem_of_mem_take hc)
    have sb : (runsOf t n).length + 1 < scanBound := by
      have e : scanBound = 4096 := rfl
      omega
    refine ⟨_, rfl, .str t, t.length, rfl, ⟨by rw [sizeLine_eq]; omega, rfl⟩, _, rfl, _, _, rfl, rfl, _, _, rfl, rfl, _, rfl, by show -(2 ^ 62) ≤ (t.length : Int) - n + 1; omega, by show (t.length : Int) - n + 1 < 2 ^ 62; omega, fun D hD => ?_⟩
    rw [show ((t.length : Int) - (n : Nat) + 1).toNat = t.length + 1 - n by omega]
    refine lcs_it [some (.int sort), some (.str sg), some (.str t), some (.int pl), some (.int n), none, none, none] rfl walk_range (fun i H' => Same H H' ∧ H' D = some (.lst (((runsOf t n).take i).map V.str))) ⟨Same.upd hD, upd_same⟩ (fun _ _ _ _ => trivial) ?_ ?_
    · rintro i x _ H1 hi ⟨s1, h1⟩ ⟨rfl, rfl⟩
      refine ⟨rfl, _, rfl, _, rfl, _, rfl, _, rfl, _, rfl, _, _, rfl, rfl, _, rfl, t, rfl, by rw [sizeLine_eq]; omega, _, h1, ?_, ?_, ?_⟩
      · rw [List.length_map, List.length_take, sizeLine_eq]; omega
      · intro b o z
        rw [upd_ne (ne_of_none z hD)]; exact s1 _ _ z
      · rw [upd_same, List.take_add_one, runs_at hi, Option.toList_some, List.map_append, Int.zero_add, ← Int.natCast_add]
        rfl
    rintro H1 ⟨s1, h1⟩
    rw [← rl, List.take_length] at h1
    refine ⟨_, rfl, by show 0 ≤ sizeLine; decide, fun X hX => ?_⟩
    have h1X := Same.upd (o := .lst []) hX _ _ h1
    have okR : Sh 1 (.list ((runsOf t n).map PyData.str)) := Sh.list fun x hx => by
      obtain ⟨r, hr', rfl⟩ := List.mem_map.mp hx
      exact Sh.str (runs_ok hr' t1 tl128).2
    refine ⟨.list ((runsOf t n).map PyData.str), .list [], .lst (SqL.of h1X) (dp_strs _ _), .lst (SqL.of upd_same) .nil, okR.ok (by decide), (Sh.list (n := 0) (xs := []) fun x hx => absurd hx (by simp)).ok (by decide), _, rfl, ?_⟩
    rw [eqv_strs_nil]
    have s2 : Same H (upd H1 X (.lst [])) := s1.trans (Same.upd hX)
    generalize upd H1 X (.lst []) = H2 at h1X s2 ⊢
    by_cases er : runsOf t n = []
    · refine ifT er ⟨by show 1 ≤ sizeLine; decide, fun p hp => ?_⟩
      have ed : dueG (letR sort) sg t pl n = [("short" : Str)] := by unfold dueG; rw [if_pos er]
      rw [ed] at k
      exact k p _ (s2.trans (Same.upd hp)) upd_same
    refine ifF er ?_
    have r0 : 0 < (runsOf t n).length := List.length_pos_iff.mpr er
    -- sorted, each once
    have setK : ∀ (Dl : Addr) (H3 : Hp) (xs : List Str), Same H H3 → H3 Dl = some (.lst (xs.map V.str)) → xs.length ≤ 1001 → kl xs = dueG (letR sort) sg t pl n → True := fun _ _ _ _ _ _ _ => trivial
    refine ⟨_, rfl, rfl, _, rfl, ?_⟩
    rw [show decide (V.int (sort : Nat) = V.int 0) = decide (sort = 0) from int_eq sort 0]
    by_cases c0 : sort = 0
    · subst c0
      obtain rfl := s0 rfl
      refine ifT rfl ?_
      refine ⟨_, rfl, D, rfl, ⟨_, SqL.of h1X⟩, fun D2 hD2 => ?_⟩
      refine lcs_it [some (.int (0 : Nat)), some (.str sg), some (.str t), some (.int (1 : Nat)), some (.int n), some (.ref D), none, none] rfl walk_list (fun i H' => Same H2 H' ∧ H' D2 = some (.lst ((((runsOf t n).take i).map fun r : Str => ("p" : Str) ++ r).map V.str))) ⟨Same.upd hD2, upd_same⟩ (fun i H' _ z => SqL.of (z.1 _ _ h1X)) ?_ ?_
      · rintro i x _ H3 hi ⟨s3, h3⟩ ⟨rfl, hx⟩
        rw [List.getElem?_map] at hx
        obtain ⟨r, hr', rfl⟩ := Option.map_eq_some_iff.mp hx
        have rr := (rok r (List.mem_of_getElem? hr')).1
        refine ⟨rfl, _, rfl, "p", r, rfl, rfl, by rw [sizeLine_eq]; show 1 + _ ≤ _; omega, _, h3, ?_, ?_, ?_⟩
        · rw [List.length_map, List.length_map, List.length_take, sizeLine_eq]; omega
        · intro b o z
          rw [upd_ne (ne_of_none z hD2)]; exact s3 _ _ z
        · rw [upd_same, List.take_add_one, hr', Option.toList_some, List.map_append, List.map_append]
          rfl
      rintro H3 ⟨s3, h3⟩
      rw [List.length_map, List.take_length] at h3
      refine ⟨_, _, rfl, .list (SqL.of h3), by rw [List.length_map]; exact sb, fun p l hp nd hm hl => ?_⟩
      rw [List.length_map] at hl
      refine ⟨p, l, rfl, upd_same, by omega, fun p2 ys hp2 pm hs => ?_⟩
      refine .inl ⟨p2, _, rfl, SqL.of upd_same, fun p3 hp3 => ?_⟩
      rw [kl_of pm hs nd hm] at *
      have ed : dueG (letR 0) sg t 1 n = kl ((runsOf t n).map fun r : Str => ("p" : Str) ++ r) := due_one er
      rw [ed] at k
      exact k p3 _ (fun b o e => Same.upd hp3 _ _ (Same.upd hp2 _ _ (Same.upd hp _ _ (s3 _ _ (s2 _ _ e))))) upd_same
    obtain rfl : sort = 1 := by omega
    refine ifF c0 ?_
    refine ⟨_, rfl, .ref D, (runsOf t n).length, rfl, .inl ⟨_, SqL.of h1X, by rw [List.length_map]⟩, _, rfl, _, _, rfl, rfl, _, rfl, ?_⟩
    by_cases c1 : (runsOf t n).length < pl
    · refine ifT (by omega) ?_
      have ed : dueG (letR 1) sg t pl n = ["m" ++ leastR sg (runsOf t n)] := by unfold dueG; rw [if_neg er, if_pos c1]; rfl
      rw [ed] at k
      have nt : n ≤ t.length := by omega
      refine ⟨_, rfl, _, rfl, sg, D, runsOf t n, rfl, SqL.of h1X, r0, rok, fun H3 s3 => ?_⟩
      refine ⟨"m", _, rfl, rfl, by rw [least_len nt tin, sizeLine_eq]; show 1 + _ ≤ _; omega, by show 1 ≤ sizeLine; decide, fun p hp => ?_⟩
      exact k p _ ((s2.trans s3).trans (Same.upd hp)) upd_same
    refine ifF (by omega) ?_
    have ed : dueG (letR 1) sg t pl n = kl ((List.range ((runsOf t n).length - pl + 1)).map fun k => "m" ++ leastR sg (((runsOf t n).drop k).take pl)) := by unfold dueG; rw [if_neg er, if_neg c1]; rfl
    rw [ed] at k
    refine ⟨_, rfl, .ref D, (runsOf t n).length, rfl, .inl ⟨_, SqL.of h1X, by rw [List.length_map]⟩, _, rfl, _, _, rfl, rfl, _, _, rfl, rfl, (((runsOf t n).length - pl + 1 : Nat) : Int), by show [V.int (((runsOf t n).length : Int) - pl + 1)] = _; rw [show ((runsOf t n).length : Int) - pl + 1 = (((runsOf t n).length - pl + 1 : Nat) : Int) by omega], by omega, by omega, fun D2 hD2 => ?_⟩
    rw [Int.toNat_natCast]
    generalize hm0 : (runsOf t n).length - pl + 1 = m0 at k ⊢
    refine lcs_it [some (.int (1 : Nat)), some (.str sg), some (.str t), some (.int pl), some (.int n), some (.ref D), none, none] rfl walk_range (fun i H' => Same H2 H' ∧ H' D2 = some (.lst (((List.range i).map fun k => "m" ++ leastR sg (((runsOf t n).drop k).take pl)).map V.str))) ⟨Same.upd hD2, upd_same⟩ (fun _ _ _ _ => trivial) ?_ ?_
    · rintro i x _ H3 hi ⟨s3, h3⟩ ⟨rfl, rfl⟩
      have ec : cutV ((runsOf t n).map V.str) (some ((i : Nat) : Int)) (some ((i + pl : Nat) : Int)) = (((runsOf t n).drop i).take pl).map V.str := by
        unfold cutV
        rw [HT.sIx_nat, HT.sIx_nat, List.length_map, Nat.min_eq_left (by omega), Nat.min_eq_left (by omega), show i + pl - i = pl by omega, List.map_take, List.map_drop]
      have wl : (((runsOf t n).drop i).take pl).length = pl := by rw [List.length_take, List.length_drop]; omega
      have wok : ∀ r ∈ ((runsOf t n).drop i).take pl, r.length ≤ 1000 ∧ ∀ c ∈ TL.tl r, c ∈ sg.cps.toList := fun r hr' => rok r (List.mem_of_mem_drop (List.mem_of_mem_take hr'))
      have lm := least_mem (sg := sg) (runs := ((runsOf t n).drop i).take pl) (by omega)
      refine ⟨rfl, _, rfl, _, rfl, _, rfl, _, rfl, _, rfl, _, rfl, _, _, rfl, rfl, _, rfl, D, _, rfl, SqL.of (s3 _ _ h1X), fun Y hY => ?_⟩
      rw [show (0 : Int) + ((i : Nat) : Int) = ((i : Nat) : Int) by omega, ← Int.natCast_add, ec]
      refine ⟨sg, Y, ((runsOf t n).drop i).take pl, rfl, SqL.of upd_same, by omega, wok, fun H4 s4 => ?_⟩
      have s34 : Same H3 H4 := (Same.upd hY).trans s4
      refine ⟨"m", _, rfl, rfl, by have := (wok _ lm).1; rw [sizeLine_eq]; show 1 + _ ≤ _; omega, _, s34 _ _ h3, ?_, ?_, ?_⟩
      · rw [List.length_map, List.length_map, List.length_range, sizeLine_eq]; omega
      · intro b o z
        rw [upd_ne (ne_of_none z hD2)]; exact s34 _ _ (s3 _ _ z)
      · rw [upd_same, List.range_succ, List.map_append, List.map_append]
        rfl
    rintro H3 ⟨s3, h3⟩
    refine ⟨_, _, rfl, .list (SqL.of h3), by rw [List.length_map, List.length_range]; omega, fun p l hp nd hm hl => ?_⟩
    rw [List.length_map, List.length_range] at hl
    refine ⟨p, l, rfl, upd_same, by omega, fun p2 ys hp2 pm hs => ?_⟩
    refine .inl ⟨p2, _, rfl, SqL.of upd_same, fun p3 hp3 => ?_⟩
    rw [kl_of pm hs nd hm] at *
    exact k p3 _ (fun b o e => Same.upd hp3 _ _ (Same.upd hp2 _ _ (Same.upd hp _ _ (s3 _ _ (s2 _ _ e))))) upd_same
end
end Kx

namespace Kx
open PySem L2 Own PinX DicN
abbrev s_law : Stmt := top 54
structure DAd where
  fM : Addr
  dM : FuncData
  fT : Addr
  dT : FuncData
  fX : Addr
  dX : FuncData
  fb : Addr
  db : FuncData
  fl : Addr
  dl : FuncData
  cl : Addr
  Pl : Addr
  fp : Addr
  dp : FuncData
  cp : Addr
  Pp : Addr
  fc : Addr
  dc : FuncData
  f0 : Addr
  d0 : FuncData
  f1 : Addr
  d1 : FuncData
  fn : Addr
  dn : FuncData
  fo : Addr
  do_ : FuncData
  fe : Addr
  de : FuncData
  fu : Addr
  du : FuncData
structure TxtW (K : PySem.W.Frag) (mg : Str → Option Value) (base : Heap) (N : List NdefX.NTab) (A : EAd) (B : MAd) (Z : CAd) (S : SAd) (F : FAd) (D : DAd) (L : LAd) (f : Addr) (d : FuncData) : Prop where
  M : TxtM K mg B
  E : TxtE K mg A
  C : TxtC K mg Z
  S : TxtS K mg A Z S
  F : TxtF K mg F
  Bu : TxtBu K mg D.fb D.db
  Lp : TxtLp K mg base N D.fp D.dp D.cp D.Pp
  Cp : TxtCp K mg D.fc D.dc
  Ls : TxtLs K mg base N D.fl D.dl D.cl D.Pl
  Pi : TxtPi K mg D.f0 D.f1 D.d0 D.d1
  Md : TxtMd K mg A D.fM D.dM
  Nu : TxtNu K mg D.fn D.fo D.dn D.do_
  Le : TxtLe K mg D.fe D.fu D.de D.du
  Xs : TxtXs K mg D.fX D.dX
  Tx : TxtTx K mg L.p1 L.p2 L.p3 D.fT L.q1 L.q2 L.q3 D.dT
  L : TxtL K mg L
  D_law : DefT K mg "law" "law" s_law ["script"] f d
  n_range : mg "range" = none
  n_min : mg "min" = none
  n_len : mg "len" = none
  n_isinstance : mg "isinstance" = none
  ha : PySem.W.findIn K (.ref Z.C) "__class__" = some (some (.builtin "object.__class__"))
  hn : PySem.W.specialIn K (.builtin "object.__class__") "__get__" = some (some (.builtin "getset_descriptor.__get__"))
  ht : PySem.W.takesIn K (.builtin "object.__class__") = some true
  hm : PySem.W.mroIn K Z.C (.type "object") = some true
def spLaw (K : PySem.W.Frag) (N : List NdefX.NTab) : Sp := fun vs H Q _ => ∃ (a : Addr) (ns : List Int), vs = [.ref a] ∧ SqL K H a (ns.map V.int) ∧ ns.length ≤ 63 ∧ NdefX.TabsN N H ∧ ∀ H', Q (.bl true) H'
abbrev Nlaw : List Str := ["script", "pen", "turn", "signs", "sort", "many", "size", "made", "bound", "text", "k"]
theorem sc_law : FnScope Nlaw ["script"] (defScope s_law) := ⟨rfl, rfl, rfl, by decide +kernel, rfl, by decide +kernel, by decide +kernel⟩
section
variable {P : Program} {w : World} {K : PySem.W.Frag} {mg : Str → Option Value} {base : Heap} {N : List NdefX.NTab} {A : EAd} {B : MAd} {Z : CAd} {S : SAd} {F : FAd} {D : DAd} {L : LAd} {f : Addr} {d : FuncData}
theorem PenAt.neT {H : Hp} {p c : Addr} {n : Nat} (h : PenAt H p c n) {b : Addr} {xs : List V} (e : H b = Option.some (.tup xs)) : b ≠ p := by
  obtain ⟨ns, a, l, h1, _⟩ := h
  exact ne_of e h1 (by intro z; cases z)
theorem kvUp_other {sg : Str} {vs : List V} {y : Str} (h : ∀ c, (Sum.inr y : Key) ≠ lk c) : ∀ i, valV (kvUp sg vs i) (Sum.inr y) = none
  | 0 => rfl
  | i + 1 => by
    have ih := kvUp_other h (sg := sg) (vs := vs) i
    unfold kvUp
    split
    · rw [valV_put, if_neg (h _), ih]
    · exact ih
theorem cells_not (c : Nat) : kCells ≠ lk c := fun e => by
  have h1 : ("cells" : Str) = Froz.sing c := Sum.inr.inj e
  have h2 : (5 : Nat) = 1 := congrArg (fun z : Str => z.cps.size) h1
  cases h2
theorem MachAt.keepN {C : Addr} {H H' : Hp} {p c : Addr} {n : Nat} {m : Addr} {sg : Str} {R : List (List Way)} {Es : List (List Str)} (hp : PenAt H p c n) (k : ∀ b o, H b = some o → (∀ xs, o ≠ .lst xs) → b ≠ p → H' b = some o) (h : MachAt C H m sg R Es) : MachAt C H' m sg R Es := by
  obtain ⟨dx, r, e, k0, w, rv, ev, wv, hm0, hr0, pr, he0, pe, hk0, hw0, pw⟩ := h
  have kt : ∀ b xs, H b = some (.tup xs) → H' b = some (.tup xs) := fun b xs z => k b _ z (fun _ y => by cases y) (hp.neT z)
  have np : ∀ {b : Addr} {C dx : Addr} {fs : List (Str × V)}, H b = some (.ins C dx fs) → b ≠ p := fun {b C dx fs} z => by
    obtain ⟨ns, a, l, h1, _⟩ := hp
    exact ne_of z h1 (by intro y; cases y)
  refine ⟨dx, r, e, k0, w, rv, ev, wv, k _ _ hm0 (fun _ y => by cases y) (np hm0), kt _ _ hr0, L2.Paired.mapP pr fun _ _ z => z.keep kt, kt _ _ he0, L2.Paired.mapP pe fun _ _ z => z.keep kt, kt _ _ hk0, kt _ _ hw0, L2.Paired.mapP pw fun _ _ ⟨a, b, vs, e1, e2, e3, e4⟩ => ⟨a, b, vs, e1, e2, kt _ _ e3, k _ _ e4 (fun _ y => by cases y) fun z => ?_⟩⟩
  subst z
  obtain ⟨ns, x, l, h1, _⟩ := hp
  rw [h1] at e4
  injection e4 with e4
  injection e4 with e4
  have h2 := pen_cells c x l
  rw [e4, kvUp_other cells_not] at h2
  cases h2
theorem MachAt.keepS {C : Addr} {H H' : Hp} {p c : Addr} {n : Nat} {m : Addr} {sg : Str} {R : List (List Way)} {Es : List (List Str)} (hp : PenAt H p c n) (s : SameBut p H H') (h : MachAt C H m sg R Es) : MachAt C H' m sg R Es := h.keepN hp fun b o e _ nb => s b o e nb
theorem pen_ext {H H' : Hp} {p c : Addr} {n : Nat} (e : LamX.ExtN H H') (h : PenAt H p c n) : PenAt H' p c n := by
  obtain ⟨ns, a, l, h1, h2, h3⟩ := h
  exact ⟨ns, a, l, e _ _ h1 (fun ps z => by cases z), e _ _ h2 (fun ps z => by cases z), h3⟩
theorem tabs_pen {H H' : Hp} {p c : Addr} {n : Nat} (hp : PenAt H p c n) (s : SameBut p H H') (t : NdefX.TabsN N H) : NdefX.TabsN N H' := fun q hq => by
  obtain ⟨ps, h1, h2, h3⟩ := t q hq
  obtain ⟨ns, a, l, g1, g2, g3⟩ := hp
  refine ⟨ps, s _ _ h1 (ne_of h1 g1 (by intro z; cases z)), h2, fun pos cv hc => ?_⟩
  obtain ⟨c, e1, e2⟩ := h3 pos cv hc
  exact ⟨c, e1, s _ _ e2 (ne_of e2 g1 (by unfold LamX.CodeO; intro z; cases z))⟩
theorem due_low {l sg t y : Str} {pl n : Nat} (hl : ∀ c ∈ TL.tl l, c < 128) (low : ∀ c ∈ sg.cps.toList, c < 128) (tin : ∀ c ∈ TL.tl t, c ∈ sg.cps.toList) (p1 : 1 ≤ pl) (h : y ∈ dueG l sg t pl n) : PyData.strOk y = true := by
  have app : ∀ r ∈ runsOf t n, PyData.strOk (l ++ r) = true := fun r hr => ok_low fun c hc => by
    rw [TL.tl_append] at hc
    rcases List.mem_append.mp hc with hc | hc
    · exact hl c hc
    · obtain ⟨a, ha, rfl⟩ := run_mem hr
      rw [sub_tl ha] at hc
      exact low c (tin c (List.mem_of_mem_drop (List.mem_of_mem_take hc)))
  unfold dueG at h
  split at h
  · rw [List.mem_singleton.mp h]
    decide +kernel
  · rename_i er
    have r0 : 0 < (runsOf t n).length := List.length_pos_iff.mpr er
    split at h
    · rw [List.mem_singleton.mp h]
      exact app _ (least_mem r0)
    · obtain ⟨k, hk, rfl⟩ := List.mem_map.mp (kl_mem.mp h)
      have hk := List.mem_range.mp hk
      have lm := least_mem (sg := sg) (runs := ((runsOf t n).drop k).take pl) (by rw [List.length_take, List.length_drop]; omega)
      exact app _ (List.mem_of_mem_drop (List.mem_of_mem_take lm))
theorem ok_law (T : TxtW K mg base N A B Z S F D L f d) : FnOk P w K mg base CX0 11 f d ["script"] (spLaw K N) := by
  have sc := sc_law
  have G_pen : FnOk P w K mg base CX0 1 L.p1 L.q1 ["script"] (spPen K) := ok_pen T.L.pen
  have G_draw : FnOk P w K mg base CX0 1 L.p2 L.q2 ["pen", "many"] spDraw := ok_draw T.L.pen
  have G_signs : FnOk P w K mg base CX0 2 L.f1 L.d1 ["pen", "many"] spSigns := ok_signs T.L
  have G_text : FnOk P w K mg base CX0 3 D.fT D.dT ["pen", "signs", "most"] spText := ok_text T.Tx
  have G_txs : FnOk P w K mg base CX0 1 D.fX D.dX ["signs", "most"] spTxs := ok_txs T.Xs
  have G_due : FnOk P w K mg base CX0 2 D.fu D.du ["sort", "signs", "text", "many", "size"] spDue8 := ok_due8 T.Le
  have G_bd : FnOk P w K mg base CX0 2 D.fo D.do_ ["signs", "many", "size"] spBd := ok_bd T.Nu
  have G_made : FnOk P w K mg base CX0 10 D.fM D.dM ["sort", "signs", "many", "size"] (spMade Z N) := ok_made T.M T.E T.C T.F T.Bu T.Lp T.Cp T.Ls T.Pi T.Md
  have G_keys : FnOk P w K mg base (L2.CX P w) 5 S.fk S.dk ["self", "text"] (spAsk Z S ansKeys) := ok_keys_of T.M T.E T.C T.S
  refine T.D_law.F.ok sc (fun vs H Q E h => ?_) (fun cdv A1 outer s H vs Q E hr h => ?_)
  · obtain ⟨_, _, rfl, _⟩ := h; rfl
  · obtain ⟨sa, ns, rfl, hS, hl, hT, kQ⟩ := h
    refine ⟨_, (pss_cons (ps_set (i := 1) sc.nd rfl (Or.inr rfl) (pe_call G_pen (hr.mono (by decide)) rfl T.L.pen.D__law_pen.g T.L.pen.D__law_pen.F.kp T.L.pen.D__law_pen.b .nil pass0 (pa_cons (pv 0) pa_nil)))
      (pss_cons (ps_for PassesOwn.never rfl (pi_range1 rfl T.n_range (pa_cons (pe_op op_add pe_int (pe_callB (call_min2 rfl) (by rfl) T.n_min (by decide +kernel) (pa_cons pe_int (pa_cons (pe_callB call_len (by rfl) T.n_len (by decide +kernel) (pa_cons (pv 0) pa_nil)) pa_nil)))) pa_nil)) (pg_name (i := 2) sc.nd rfl (Or.inl rfl))
      (pss_cons (ps_asg (pe_tup (pa_cons (pe_call G_signs (hr.mono (by decide)) rfl T.L.D__law_signs.g T.L.D__law_signs.F.kp T.L.D__law_signs.b .nil pass0 (pa_cons (pv 1) (pa_cons (pe_op op_add pe_int (pe_call G_draw (hr.mono (by decide)) rfl T.L.pen.D__law_draw.g T.L.pen.D__law_draw.F.kp T.L.pen.D__law_draw.b .nil pass0 (pa_cons (pv 1) (pa_cons pe_int pa_nil)))) pa_nil))) (pa_cons (pe_call G_draw (hr.mono (by decide)) rfl T.L.pen.D__law_draw.g T.L.pen.D__law_draw.F.kp T.L.pen.D__law_draw.b .nil pass0 (pa_cons (pv 1) (pa_cons pe_int pa_nil))) pa_nil))) (pg_tup rfl (pgs_cons (pg_name (i := 3) sc.nd rfl (Or.inr rfl)) (pgs_cons (pg_name (i := 4) sc.nd rfl (Or.inl rfl)) pgs_nil))))
      (C8.pss_cut (ps_set (i := 5) sc.nd rfl (Or.inl rfl) (pe_ifExp (pt_cmpR op_eq (pv 4) pe_int (nomark _)) pe_int (pe_ifExp (pt_cmpR op_gt (pe_call G_draw (hr.mono (by decide)) rfl T.L.pen.D__law_draw.g T.L.pen.D__law_draw.F.kp T.L.pen.D__law_draw.b .nil pass0 (pa_cons (pv 1) (pa_cons pe_int pa_nil))) pe_int (nomark _)) (pe_op op_add pe_int (pe_call G_draw (hr.mono (by decide)) rfl T.L.pen.D__law_draw.g T.L.pen.D__law_draw.F.kp T.L.pen.D__law_draw.b .nil pass0 (pa_cons (pv 1) (pa_cons pe_int pa_nil)))) (pe_op op_add pe_int (pe_call G_draw (hr.mono (by decide)) rfl T.L.pen.D__law_draw.g T.L.pen.D__law_draw.F.kp T.L.pen.D__law_draw.b .nil pass0 (pa_cons (pv 1) (pa_cons pe_int pa_nil)))))))
      (C8.pss_cut (ps_set (i := 6) sc.nd rfl (Or.inl rfl) (pe_ifExp (pt_cmpR op_gt (pe_call G_draw (hr.mono (by decide)) rfl T.L.pen.D__law_draw.g T.L.pen.D__law_draw.F.kp T.L.pen.D__law_draw.b .nil pass0 (pa_cons (pv 1) (pa_cons pe_int pa_nil))) pe_int (nomark _)) (pe_op op_add pe_int (pe_call G_draw (hr.mono (by decide)) rfl T.L.pen.D__law_draw.g T.L.pen.D__law_draw.F.kp T.L.pen.D__law_draw.b .nil pass0 (pa_cons (pv 1) (pa_cons pe_int pa_nil)))) (pe_op op_add pe_int (pe_call G_draw (hr.mono (by decide)) rfl T.L.pen.D__law_draw.g T.L.pen.D__law_draw.F.kp T.L.pen.D__law_draw.b .nil pass0 (pa_cons (pv 1) (pa_cons pe_int pa_nil))))))
      (C8.pss_cut (ps_if (PW.pt (pw_and (pt_cmpR op_eq (pe_callB call_len (by rfl) T.n_len (by decide +kernel) (pa_cons (pv 3) pa_nil)) pe_int (nomark _)) (pw_and1 (pt_cmpR op_eq (pe_call G_draw (hr.mono (by decide)) rfl T.L.pen.D__law_draw.g T.L.pen.D__law_draw.F.kp T.L.pen.D__law_draw.b .nil pass0 (pa_cons (pv 1) (pa_cons pe_int pa_nil))) pe_int (nomark _))))) (pss_one (ps_par (i := 6) (j := 5) rfl sc.nd rfl rfl (by decide) rfl rfl (pa_cons (pe_op op_add pe_int (pe_call G_draw (hr.mono (by decide)) rfl T.L.pen.D__law_draw.g T.L.pen.D__law_draw.F.kp T.L.pen.D__law_draw.b .nil pass0 (pa_cons (pv 1) (pa_cons pe_int pa_nil)))) (pa_cons (pe_ifExp (pt_cmpR op_eq (pv 4) pe_int (nomark _)) pe_int (pe_op op_add pe_int (pe_call G_draw (hr.mono (by decide)) rfl T.L.pen.D__law_draw.g T.L.pen.D__law_draw.F.kp T.L.pen.D__law_draw.b .nil pass0 (pa_cons (pv 1) (pa_cons pe_int pa_nil))))) pa_nil)) rfl)) pss_nil)
      (pss_cons (ps_par (i := 7) (j := 8) rfl sc.nd rfl rfl (by decide) rfl rfl (pa_cons (pe_call G_made (hr.mono (by decide)) rfl T.Md.D__law_made.g T.Md.D__law_made.F.kp T.Md.D__law_made.b .nil pass0 (pa_cons (pv 4) (pa_cons (pv 3) (pa_cons (pv 5) (pa_cons (pv 6) pa_nil))))) (pa_cons (pe_call G_bd (hr.mono (by decide)) rfl T.Nu.D__law_bound.g T.Nu.D__law_bound.F.kp T.Nu.D__law_bound.b .nil pass0 (pa_cons (pv 3) (pa_cons (pv 5) (pa_cons (pv 6) pa_nil)))) pa_nil)) rfl)
      (C8.pss_cut (ps_if (pt_cmpR op_notN (pv 8) pe_non (nomark _)) (pss_cons (ps_if (pt_cmpR op_ne (pv 7) (pv 8) (nomark _)) (pss_one (ps_ret pe_bl)) pss_nil) (pss_one ps_continue)) pss_nil)
      (pss_cons (ps_if (PW.pt (pw_or (pt_not (pt_val (pe_callB call_isi (by rfl) T.n_isinstance (by decide +kernel) (pa_cons (pv 7) (pa_cons (pe_glob (v := .ref Z.C) rfl T.C.g rfl) pa_nil))))) (pw_or (pt_cmpR op_ne (pe_fld (pv 7) rfl) (pv 3) (nomark _)) (pw_or1 (pt_cmpR op_gt (pe_callB call_len (by rfl) T.n_len (by decide +kernel) (pa_cons (pe_fld (pv 7) rfl) pa_nil)) pe_int (nomark _)))))) (pss_one (ps_ret pe_bl)) pss_nil)
      (pss_one (ps_for PassesOwn.never rfl (pi_list (pe_op op_cat (pe_call G_txs (hr.mono (by decide)) rfl T.Xs.D__law_texts.g T.Xs.D__law_texts.F.kp T.Xs.D__law_texts.b .nil pass0 (pa_cons (pv 3) (pa_cons (pe_ifExp (pt_cmpR op_lt (pe_callB call_len (by rfl) T.n_len (by decide +kernel) (pa_cons (pv 3) pa_nil)) pe_int (nomark _)) pe_int pe_int) pa_nil))) (pe_lc (own := [("k", 10)]) (g := gName 10) (tt := tYes) (te := tCall spText [] E0 (tCons (tVar 1) (tCons (tVar 3) (tCons (tC (.int 30)) tNil)))) rfl sc.nd (pi_range1 rfl T.n_range (pa_cons pe_int pa_nil)) (blkOk_by (N := Nlaw) (sc := defScope s_law) (own := [("k", 10)]) (by decide +kernel)) (fun _ _ _ _ _ => (pg_name (i := 10) sc.nd rfl (Or.inl rfl))) (fun _ _ _ _ _ => pts_nil) (fun _ _ _ _ _ => (pe_call G_text (hr.mono (by decide)) rfl T.Tx.D__law_text.g T.Tx.D__law_text.F.kp T.Tx.D__law_text.b .nil pass0 (pa_cons (pv 1) (pa_cons (pv 3) (pa_cons pe_int pa_nil)))))))) (pg_name (i := 9) sc.nd rfl (Or.inl rfl)) (pss_one (ps_if (pt_cmpR (op_neD hr.units) (pe_meth (pv 7) T.C.cl T.S.M_keys_of G_keys (hr.mono (by decide)) T.S.b_keys_of .nil (passX fun _ _ _ h => h) (pa_cons (pv 9) pa_nil)) (pe_call G_due (hr.mono (by decide)) rfl T.Le.D__law_due.g T.Le.D__law_due.F.kp T.Le.D__law_due.b .nil pass0 (pa_cons (pv 4) (pa_cons (pv 3) (pa_cons (pv 9) (pa_cons (pv 5) (pa_cons (pv 6) pa_nil)))))) (nomark _)) (pss_one (ps_ret pe_bl)) pss_nil))))))))))))
      (pss_one (ps_ret pe_bl)))), ?_⟩
    refine ⟨_, rfl, sa, ns, rfl, hS, hl, fun p c H1 hp s1 pen1 => ?_⟩
    have hS1 := s1.seq hS
    have T1 : NdefX.TabsN N H1 := hT.ext s1
    refine ⟨_, rfl, .ref sa, ns.length, rfl, .inl ⟨_, hS1, by rw [List.length_map]⟩, _, _, rfl, _, _, rfl, rfl, ?_⟩
    have hm0 : 0 ≤ (if (ns.length : Int) < 8 then (ns.length : Int) else 8) ∧ (if (ns.length : Int) < 8 then (ns.length : Int) else 8) ≤ 8 := by
      split <;> omega
    generalize (if (ns.length : Int) < 8 then (ns.length : Int) else 8) = m at hm0 ⊢
    refine ⟨_, rfl, by omega, by omega, ?_⟩
    clear hS1 s1 hT hS
    refine for_range (lo := 0) (n := (6 + m).toNat) (fun i σ H' => (∃ o2 o3 o4 o5 o6 o7 o8 o9 o10 : Option V, σ = [some (.ref sa), some (.ref p), o2, o3, o4, o5, o6, o7, o8, o9, o10]) ∧ PenAt H' p c (1000 * i) ∧ NdefX.TabsN N H') ⟨⟨none, none, none, none, none, none, none, none, none, rfl⟩, pen1, T1⟩ ?_ ?_
    · rintro i σ H2 hi ⟨⟨o2, o3, o4, o5, o6, o7, o8, o9, o10, rfl⟩, pen2, T2⟩
      refine ⟨_, rfl, _, rfl, p, c, 4, 1000 * i, rfl, pen2, by omega, by decide, by decide, fun r H3 r0 r1 pen3 sb3 => ?_⟩
      obtain ⟨r, rfl⟩ := Int.eq_ofNat_of_zero_le r0
      refine ⟨_, _, rfl, rfl, p, c, 1 + r, 1000 * i + 1, by rw [Int.natCast_add]; rfl, pen3, by omega, by omega, fun sg H4 zs nd al pen4 sb4 => ?_⟩
      refine ⟨_, rfl, p, c, 2, _, rfl, pen4, by omega, by decide, by decide, fun so H5 so0 so1 pen5 sb5 => ?_⟩
      obtain ⟨so, rfl⟩ := Int.eq_ofNat_of_zero_le so0
      have so2 : so < 2 := by omega
      refine ⟨by show 2 ≤ sizeLine; decide, fun t5 ht5 => ?_⟩
      refine ⟨t5, _, rfl, SqT.of upd_same, rfl, _, _, rfl, _, _, rfl, rfl, ?_⟩
      have T5 := (tabs_pen pen4 sb5 (tabs_pen pen3 sb4 (tabs_pen pen2 sb3 T2))).ext (Same.upd (o := .tup [.str sg, .int so]) ht5)
      have pen6 : PenAt (upd H5 t5 (.tup [.str sg, .int so])) p c (1000 * i + 10) := (pen5.keep (Same.upd ht5)).mono (by omega)
      generalize upd H5 t5 (.tup [.str sg, .int so]) = H6 at T5 pen6 ⊢
      clear pen2 pen3 pen4 pen5 sb3 sb4 sb5 T2 ht5
      have z4 : sg.cps.size ≤ 4 := by omega
      have z1 : 1 ≤ sg.cps.size := by omega
      have a128 : ∀ c ∈ sg.cps.toList, c < 128 := fun c hc => by
        have := alpha_codes c (al c hc)
        omega
      have asc : sg.cps.all (· < 128) = true := by
        rw [← Array.all_toList, List.all_eq_true]
        intro x hx
        have := a128 x hx
        simpa using this
      -- many
      refine ⟨fun σ' H' => ∃ pl : Nat, 1 ≤ pl ∧ pl ≤ 9 ∧ (so = 0 → pl = 1) ∧ σ' = [some (.ref sa), some (.ref p), some (.int (0 + (i : Nat))), some (.str sg), some (.int so), some (.int pl), o6, o7, o8, o9, o10] ∧ PenAt H' p c (1000 * i + 12) ∧ NdefX.TabsN N H', ?_, ?_⟩
      · refine ⟨_, rfl, rfl, _, rfl, ?_⟩
        rw [show decide (V.int (so : Nat) = V.int 0) = decide (so = 0) from int_eq so 0]
        by_cases c0 : so = 0
        · exact ifT c0 ⟨1, by omega, by omega, fun _ => rfl, rfl, pen6.mono (by omega), T5⟩
        · refine ifF c0 ?_
          refine ⟨_, rfl, p, c, 3, _, rfl, pen6, by omega, by decide, by decide, fun y H7 y0 y1 pen7 sb7 => ?_⟩
          refine ⟨_, _, rfl, rfl, _, rfl, ?_⟩
          by_cases cy : (0 : Int) < y
          · refine ifT cy ⟨_, rfl, p, c, 3, _, rfl, pen7, by omega, by decide, by decide, fun x H8 x0 x1 pen8 sb8 => ?_⟩
            obtain ⟨x, rfl⟩ := Int.eq_ofNat_of_zero_le x0
            exact ⟨_, _, rfl, rfl, 1 + x, by omega, by omega, fun z => absurd z c0, rfl, pen8.mono (by omega), tabs_pen pen7 sb8 (tabs_pen pen6 sb7 T5)⟩
          · refine ifF cy ⟨_, rfl, p, c, 9, _, rfl, pen7, by omega, by decide, by decide, fun x H8 x0 x1 pen8 sb8 => ?_⟩
            obtain ⟨x, rfl⟩ := Int.eq_ofNat_of_zero_le x0
            exact ⟨_, _, rfl, rfl, 1 + x, by omega, by omega, fun z => absurd z c0, rfl, pen8.mono (by omega), tabs_pen pen7 sb8 (tabs_pen pen6 sb7 T5)⟩
      rintro σ' H7 ⟨pl0, p10, p90, s00, rfl, pen7, T7⟩
      clear pen6 T5
      -- size
      refine ⟨fun σ' H' => ∃ n : Nat, 1 ≤ n ∧ n ≤ 9 ∧ σ' = [some (.ref sa), some (.ref p), some (.int (0 + (i : Nat))), some (.str sg), some (.int so), some (.int pl0), some (.int n), o7, o8, o9, o10] ∧ PenAt H' p c (1000 * i + 14) ∧ NdefX.TabsN N H', ?_, ?_⟩
      · refine ⟨_, rfl, p, c, 3, _, rfl, pen7, by omega, by decide, by decide, fun y H8 y0 y1 pen8 sb8 => ?_⟩
        refine ⟨_, _, rfl, rfl, _, rfl, ?_⟩
        by_cases cy : (0 : Int) < y
        · refine ifT cy ⟨_, rfl, p, c, 3, _, rfl, pen8, by omega, by decide, by decide, fun x H9 x0 x1 pen9 sb9 => ?_⟩
          obtain ⟨x, rfl⟩ := Int.eq_ofNat_of_zero_le x0
          exact ⟨_, _, rfl, rfl, 1 + x, by omega, by omega, rfl, pen9.mono (by omega), tabs_pen pen8 sb9 (tabs_pen pen7 sb8 T7)⟩
        · refine ifF cy ⟨_, rfl, p, c, 9, _, rfl, pen8, by omega, by decide, by decide, fun x H9 x0 x1 pen9 sb9 => ?_⟩
          obtain ⟨x, rfl⟩ := Int.eq_ofNat_of_zero_le x0
          exact ⟨_, _, rfl, rfl, 1 + x, by omega, by omega, rfl, pen9.mono (by omega), tabs_pen pen8 sb9 (tabs_pen pen7 sb8 T7)⟩
      rintro σ' H8 ⟨n0, n10, n90, rfl, pen8, T8⟩
      clear pen7 T7
      -- both anew
      refine ⟨fun σ' H' => ∃ pl n : Nat, 1 ≤ pl ∧ pl ≤ 9 ∧ (so = 0 → pl = 1) ∧ 1 ≤ n ∧ n ≤ 9 ∧ σ' = [some (.ref sa), some (.ref p), some (.int (0 + (i : Nat))), some (.str sg), some (.int so), some (.int pl), some (.int n), o7, o8, o9, o10] ∧ PenAt H' p c (1000 * i + 17) ∧ NdefX.TabsN N H', ?_, ?_⟩
      · refine ⟨_, rfl, .str sg, sg.cps.size, rfl, ⟨by show sg.cps.size ≤ _; rw [sizeLine_eq]; omega, rfl⟩, rfl, _, rfl, ?_⟩
        rw [show decide (V.int ((sg.cps.size : Nat) : Int) = V.int 1) = decide (sg.cps.size = 1) from int_eq _ 1]
        by_cases cz : sg.cps.size = 1
        · rw [decide_eq_true cz]
          refine iteT ⟨_, rfl, p, c, 3, _, rfl, pen8, by omega, by decide, by decide, fun y H9 y0 y1 pen9 sb9 => ?_⟩
          have T9 := tabs_pen pen8 sb9 T8
          obtain ⟨y, rfl⟩ := Int.eq_ofNat_of_zero_le y0
          refine ⟨rfl, _, rfl, ?_⟩
          rw [show decide (V.int ((y : Nat) : Int) = V.int 0) = decide (y = 0) from int_eq y 0]
          by_cases cy : y = 0
          · rw [decide_eq_true cy]
            refine iteT ⟨_, rfl, p, c, 9, _, rfl, pen9, by omega, by decide, by decide, fun x H10 x0 x1 pen10 sb10 => ?_⟩
            have T10 := tabs_pen pen9 sb10 T9
            obtain ⟨x, rfl⟩ := Int.eq_ofNat_of_zero_le x0
            refine ⟨_, _, rfl, rfl, _, rfl, rfl, _, rfl, ?_⟩
            rw [show decide (V.int (so : Nat) = V.int 0) = decide (so = 0) from int_eq so 0]
            by_cases c0 : so = 0
            · refine ifT c0 ⟨_, _, rfl, 1, 1 + x, by omega, by omega, fun _ => rfl, by omega, by omega, rfl, pen10.mono (by omega), T10⟩
            · refine ifF c0 ⟨_, rfl, p, c, 9, _, rfl, pen10, by omega, by decide, by decide, fun u H11 u0 u1 pen11 sb11 => ?_⟩
              have T11 := tabs_pen pen10 sb11 T10
              obtain ⟨u, rfl⟩ := Int.eq_ofNat_of_zero_le u0
              exact ⟨_, _, rfl, rfl, _, _, rfl, 1 + u, 1 + x, by omega, by omega, fun z => absurd z c0, by omega, by omega, rfl, pen11.mono (by omega), T11⟩
          · rw [decide_eq_false cy]
            exact iteF ⟨pl0, n0, p10, p90, s00, n10, n90, rfl, pen9.mono (by omega), T9⟩
        · rw [decide_eq_false cz]
          exact iteF (iteF ⟨pl0, n0, p10, p90, s00, n10, n90, rfl, pen8.mono (by omega), T8⟩)
      rintro σ' H9 ⟨pl, n, p1, p9, s0, n1, n9, rfl, pen9, T9⟩
      clear pen8 T8 p10 p90 s00 n10 n90
      refine ⟨_, rfl, _, rfl, _, rfl, _, rfl, so, pl, n, sg, rfl, so2, s0, z1, z4, nd, asc, p1, p9, n1, n9, T9, fun v Ha ea Ta mr => ?_⟩
      refine ⟨_, rfl, _, rfl, _, rfl, sg, pl, n, rfl, z4, p1, p9, n1, n9, fun Hb sb => ?_⟩
      refine ⟨_, _, rfl, ?_⟩
      have penB := (pen_ext ea pen9).keep sb
      have Tb := Ta.ext sb
      have mrB : MadeR Z so sg pl n Hb v := by
        rcases mr with z | z | ⟨z1, z2, a, z3, ma⟩
        · exact .inl z
        · exact .inr (.inl z)
        · exact .inr (.inr ⟨z1, z2, a, z3, ma.keepO fun b o z _ => sb _ _ z⟩)
      clear mr pen9 T9 ea Ta
      refine ⟨fun σ' H'' => H'' = Hb ∧ (∃ a, v = .ref a ∧ machLP Z Hb a (letR so) sg n (pl + n - 1)) ∧ sg.cps.size ^ n ≤ 11 ∧ manyS sg.cps.size (pl + n - 1) ≤ 16 ∧ σ' = [some (.ref sa), some (.ref p), some (.int (0 + (i : Nat))), some (.str sg), some (.int so), some (.int pl), some (.int n), some v, some (boundV sg.cps.size pl n), o9, o10], ?_, ?_⟩
      · refine ⟨_, rfl, rfl, _, rfl, ?_⟩
        rcases mrB with ⟨big, rfl⟩ | ⟨k11, big, rfl⟩ | ⟨k11, m16, a, rfl, ma⟩
        · rw [show boundV sg.cps.size pl n = .str "keys" from if_pos big]
          refine iteT ⟨_, rfl, _, rfl, rfl, _, rfl, ifFn rfl ?_⟩
          exact ⟨⟨_, _, _, _, _, _, _, _, _, rfl⟩, penB.mono (by omega), Tb⟩
        · rw [show boundV sg.cps.size pl n = .str "states" from (if_neg (by omega)).trans (if_pos big)]
          refine iteT ⟨_, rfl, _, rfl, rfl, _, rfl, ifFn rfl ?_⟩
          exact ⟨⟨_, _, _, _, _, _, _, _, _, rfl⟩, penB.mono (by omega), Tb⟩
        · rw [show boundV sg.cps.size pl n = .non from (if_neg (by omega)).trans (if_neg (by omega))]
          exact iteF ⟨rfl, ⟨a, rfl, ma⟩, k11, m16, rfl⟩
      rintro σ' H'' ⟨rfl, ⟨a, rfl, ma0⟩, k11, m16, rfl⟩
      generalize boundV sg.cps.size pl n = bv
      generalize hwd : pl + n - 1 = wd at ma0 m16
      have w1 : 1 ≤ wd := by omega
      have nw : n ≤ wd := by omega
      have ma : MachAt Z.C H'' a sg (rowsR (letR so) sg n wd) (endsR (letR so) sg n wd) := ma0
      have l16 : (labsL sg wd).length ≤ 16 := by rw [labs_len]; exact m16
      have fu := fullP (l := letR so) (n := n) nd z4 w1 l16
      have letlow : ∀ c ∈ TL.tl (letR so), c < 128 := by unfold letR; split <;> decide
      have few : (kl (keysOfRows (rowsR (letR so) sg n wd) ++ (endsR (letR so) sg n wd).flatten)).length ≤ 12 := by
        refine Nat.le_trans (Nat.le_of_eq ?_) (few_keys (l := letR so) (sg := sg) nw n1 w1 k11)
        refine congrArg List.length (kl_congr fun y => ?_)
        rw [List.mem_append, List.mem_append]
        refine or_congr ⟨fun h => ?_, fun h => ?_⟩ ⟨fun h => ?_, fun h => ?_⟩
        · obtain ⟨q, hq, h⟩ := List.mem_flatMap.mp h
          obtain ⟨q', hq', rfl⟩ := List.mem_map.mp hq
          obtain ⟨u, hu, h⟩ := List.mem_flatMap.mp h
          obtain ⟨u', hu', rfl⟩ := List.mem_map.mp hu
          exact List.mem_flatMap.mpr ⟨q', hq', List.mem_flatMap.mpr ⟨u', hu', kl_mem.mp h⟩⟩
        · obtain ⟨q', hq', h⟩ := List.mem_flatMap.mp h
          obtain ⟨u', hu', h⟩ := List.mem_flatMap.mp h
          exact List.mem_flatMap.mpr ⟨_, List.mem_map.mpr ⟨q', hq', rfl⟩, List.mem_flatMap.mpr ⟨_, List.mem_map.mpr ⟨u', hu', rfl⟩, kl_mem.mpr h⟩⟩
        · obtain ⟨q, hq, h⟩ := List.mem_flatten.mp h
          obtain ⟨q', hq', rfl⟩ := List.mem_map.mp hq
          exact List.mem_flatten.mpr ⟨q', hq', kl_mem.mp h⟩
        · obtain ⟨q', hq', h⟩ := List.mem_flatten.mp h
          exact List.mem_flatten.mpr ⟨_, List.mem_map.mpr ⟨q', hq', rfl⟩, kl_mem.mpr h⟩
      have keys : ∀ t : Str, (∀ c ∈ TL.tl t, c ∈ sg.cps.toList) → keysW sg (rowsR (letR so) sg n wd) (endsR (letR so) sg n wd) t.cps.toList = dueG (letR so) sg t pl n := fun t ht => by
        rw [← hwd]
        exact keysP p1 n1 ht
      clear mrB ma0
      obtain ⟨dx, rw0, ew0, kw0, _, rv, _, _, hm0', hr0', pr0, _, _, hk0', _⟩ := id ma
      refine ⟨_, rfl, _, _, _, _, true, rfl, ClsV.own _, .base (.ins hm0' T.C.cl T.ha T.hn T.ht T.hm), ?_, true, rfl, ?_⟩
      · unfold PySem.W.kitOne
        rw [if_pos (by simp)]
      refine iteF ?_
      refine ⟨_, rfl, a, Z.C, dx, _, _, rfl, hm0', T.C.cl, T.C.a1, rfl, _, rfl, rfl, _, rfl, ifFn rfl ?_⟩
      refine ⟨_, rfl, a, Z.C, dx, _, _, rfl, hm0', T.C.cl, T.C.a4, rfl, .ref kw0, (kl (keysOfRows (rowsR (letR so) sg n wd) ++ (endsR (letR so) sg n wd).flatten)).length, rfl, .inr ⟨_, SqT.of hk0', by rw [List.length_map]⟩, _, _, rfl, rfl, _, rfl, ?_⟩
      refine ifF (by omega) ?_
      refine ⟨_, rfl, _, rfl, .str sg, sg.cps.size, rfl, ⟨by show sg.cps.size ≤ _; rw [sizeLine_eq]; omega, rfl⟩, _, _, rfl, rfl, _, rfl, ?_⟩
      by_cases e : sg.cps.size < 3
      · rw [decide_eq_true (by omega : ((sg.cps.size : Nat) : Int) < 3)]
        refine iteT ⟨sg, 5, rfl, z4, by decide, .inl (by omega), fun q ts H10 s10 hq lq gq => ?_⟩
        have penA := penB.keep s10
        have maA := ma.keepO fun b o z _ => s10 _ _ z
        have TA := Tb.ext s10
        refine ⟨8, rfl, by decide, by decide, fun Dd hD => ?_⟩
        have nDp0 : Dd ≠ p := by
          obtain ⟨ns, a', l, g1, _⟩ := penA
          exact fun z => by rw [z, g1] at hD; cases hD
        have nDc : c ≠ Dd := by
          obtain ⟨ns, a', l, g1, g2, _⟩ := penA
          exact fun z => by rw [← z, g2] at hD; cases hD
        refine lc_range (lo := 0) (n := 8) (fun j H' => PenAt H' p c (1000 * i + 21 + 40 * j) ∧ (∀ b o, H10 b = some o → b ≠ p → H' b = some o) ∧ Dd ≠ p ∧ ∃ us : List Str, H' Dd = some (.lst (us.map V.str)) ∧ us.length = j ∧ ∀ t ∈ us, t.length ≤ 30 ∧ ∀ c ∈ TL.tl t, c ∈ sg.cps.toList)
          ⟨(penA.keep (Same.upd hD)).mono (by omega), fun b o z _ => Same.upd hD _ _ z, nDp0, [], upd_same, rfl, fun t ht => nomatch ht⟩ ?_ ?_
        · rintro j H' hj ⟨pen1, k1, nDp, us, hu, lu, gu⟩
          refine ⟨rfl, _, rfl, _, rfl, p, c, sg, 30, _, rfl, pen1, by decide, by omega, z1, by omega, fun y H2 ly gy pen2 sb2 => ⟨us.map V.str, sb2 _ _ hu nDp, ?_, ?_, ?_, nDp, us ++ [y], by rw [upd_same, List.map_append]; rfl, by rw [List.length_append, lu]; rfl, fun t ht => ?_⟩⟩
          · rw [List.length_map, lu, sizeLine_eq]; omega
          · obtain ⟨ns, a', l, g1, g2, g3⟩ := pen2
            refine ⟨ns, a', l, by rw [upd_ne (Ne.symm nDp)]; exact g1, ?_, g3.1, g3.2.1, by have := g3.2.2; omega⟩
            rw [upd_ne nDc]
            exact g2
          · intro b o z np
            rw [upd_ne (ne_of_none z hD)]
            exact sb2 _ _ (k1 _ _ z np) np
          · rcases List.mem_append.mp ht with ht | ht
            · exact gu t ht
            · rw [List.mem_singleton.mp ht]
              exact ⟨ly, gy⟩
        · rintro H' ⟨pen1, k1, nDp, us, hu, lu, gu⟩
          have hq1 := k1 _ _ hq (penA.ne hq)
          refine ⟨q, Dd, _, _, rfl, rfl, hq1, hu, by rw [List.length_map, List.length_map, sizeLine_eq]; omega, fun X hX => ?_⟩
          have hX1 : (upd H' X (.lst (ts.map V.str ++ us.map V.str))) X = some (.lst ((ts ++ us).map V.str)) := by rw [upd_same, List.map_append]
          have penX := pen1.keep (Same.upd (o := .lst (ts.map V.str ++ us.map V.str)) hX)
          have maX := (MachAt.keepS pen1 (SameBut.new (o := .lst (ts.map V.str ++ us.map V.str)) hX) (MachAt.keepN penA (fun b o z _ np => k1 b o z np) maA))
          have TX := (tabs_pen penA k1 TA).ext (Same.upd (o := .lst (ts.map V.str ++ us.map V.str)) hX)
          have all : ∀ t ∈ ts ++ us, t.length ≤ 30 ∧ ∀ c ∈ TL.tl t, c ∈ sg.cps.toList := fun t ht => by
            rcases List.mem_append.mp ht with ht | ht
            · exact ⟨by have := (gq t ht).1; omega, (gq t ht).2⟩
            · exact gu t ht
          generalize upd H' X (.lst (ts.map V.str ++ us.map V.str)) = HX at hX1 penX maX TX ⊢
          generalize ts ++ us = xs at hX1 all
          refine ⟨X, rfl, ⟨_, SqL.of hX1⟩, ?_⟩
          refine for_it walk_list (fun j σ H' => (∃ o9 : Option V, σ = [some (.ref sa), some (.ref p), some (.int (0 + (i : Nat))), some (.str sg), some (.int so), some (.int pl), some (.int n), some (.ref a), some bv, o9, o10]) ∧ Same HX H') ⟨⟨_, rfl⟩, Same.refl _⟩ (fun j σ H' _ z => SqL.of (z.2 _ _ hX1)) ?_ ?_
          · rintro j x σ _ H5 hj ⟨⟨o9, rfl⟩, s5⟩ ⟨rfl, hx⟩
            rw [List.getElem?_map] at hx
            obtain ⟨t, ht, rfl⟩ := Option.map_eq_some_iff.mp hx
            obtain ⟨tl, tg⟩ := all t (List.mem_of_getElem? ht)
            have ma5 := maX.keepO fun b o z _ => s5 _ _ z
            obtain ⟨dx5, _, _, _, _, _, _, _, hm5, _⟩ := id ma5
            refine ⟨_, rfl, a, dx5, _, rfl, hm5, rfl, _, rfl, a, t, sg, _, _, rfl, ma5, fu, fun _ v H7 s7 an => ?_, fun i c _ _ h1 h2 => absurd (tg c (by
              have : t.cps.toList[i]? = some c := by rw [Array.getElem?_toList]; exact h1
              exact List.mem_of_getElem? this)) h2⟩
            obtain ⟨b, rfl, hb⟩ := an
            rw [keys t tg] at hb
            refine ⟨_, rfl, _, rfl, _, rfl, _, rfl, _, rfl, so, pl, n, sg, t, rfl, so2, s0, p1, p9, n1, n9, by omega, tg, a128, fun Y H8 s8 hY => ?_⟩
            have okS : Sh 1 (.tuple ((dueG (letR so) sg t pl n).map PyData.str)) := Sh.tup (n := 0) fun y hy => by
              obtain ⟨u, hu, rfl⟩ := List.mem_map.mp hy
              exact Sh.str (due_low letlow a128 tg p1 hu)
            refine ⟨.tuple ((dueG (letR so) sg t pl n).map PyData.str), .tuple ((dueG (letR so) sg t pl n).map PyData.str), .tup (SqT.of (s8 _ _ hb)) (dp_strs _ _), .tup (SqT.of hY) (dp_strs _ _), okS.ok (by decide), okS.ok (by decide), _, rfl, ?_⟩
            rw [okS.refl]
            exact iteF ⟨⟨_, rfl⟩, fun b o z => s8 _ _ (s7 _ _ (s5 _ _ z))⟩
          · rintro σ H5 ⟨⟨o9, rfl⟩, s5⟩
            exact ⟨⟨_, _, _, _, _, _, _, _, _, rfl⟩, (penX.keep s5).mono (by omega), TX.ext s5⟩
      · rw [decide_eq_false (by omega : ¬ ((sg.cps.size : Nat) : Int) < 3)]
        refine iteF ⟨sg, 3, rfl, z4, by decide, .inr (by decide), fun q ts H10 s10 hq lq gq => ?_⟩
        have penA := penB.keep s10
        have maA := ma.keepO fun b o z _ => s10 _ _ z
        have TA := Tb.ext s10
        refine ⟨8, rfl, by decide, by decide, fun Dd hD => ?_⟩
        have nDp0 : Dd ≠ p := by
          obtain ⟨ns, a', l, g1, _⟩ := penA
          exact fun z => by rw [z, g1] at hD; cases hD
        have nDc : c ≠ Dd := by
          obtain ⟨ns, a', l, g1, g2, _⟩ := penA
          exact fun z => by rw [← z, g2] at hD; cases hD
        refine lc_range (lo := 0) (n := 8) (fun j H' => PenAt H' p c (1000 * i + 21 + 40 * j) ∧ (∀ b o, H10 b = some o → b ≠ p → H' b = some o) ∧ Dd ≠ p ∧ ∃ us : List Str, H' Dd = some (.lst (us.map V.str)) ∧ us.length = j ∧ ∀ t ∈ us, t.length ≤ 30 ∧ ∀ c ∈ TL.tl t, c ∈ sg.cps.toList)
          ⟨(penA.keep (Same.upd hD)).mono (by omega), fun b o z _ => Same.upd hD _ _ z, nDp0, [], upd_same, rfl, fun t ht => nomatch ht⟩ ?_ ?_
        · rintro j H' hj ⟨pen1, k1, nDp, us, hu, lu, gu⟩
          refine ⟨rfl, _, rfl, _, rfl, p, c, sg, 30, _, rfl, pen1, by decide, by omega, z1, by omega, fun y H2 ly gy pen2 sb2 => ⟨us.map V.str, sb2 _ _ hu nDp, ?_, ?_, ?_, nDp, us ++ [y], by rw [upd_same, List.map_append]; rfl, by rw [List.length_append, lu]; rfl, fun t ht => ?_⟩⟩
          · rw [List.length_map, lu, sizeLine_eq]; omega
          · obtain ⟨ns, a', l, g1, g2, g3⟩ := pen2
            refine ⟨ns, a', l, by rw [upd_ne (Ne.symm nDp)]; exact g1, ?_, g3.1, g3.2.1, by have := g3.2.2; omega⟩
            rw [upd_ne nDc]
            exact g2
          · intro b o z np
            rw [upd_ne (ne_of_none z hD)]
            exact sb2 _ _ (k1 _ _ z np) np
          · rcases List.mem_append.mp ht with ht | ht
            · exact gu t ht
            · rw [List.mem_singleton.mp ht]
              exact ⟨ly, gy⟩
        · rintro H' ⟨pen1, k1, nDp, us, hu, lu, gu⟩
          have hq1 := k1 _ _ hq (penA.ne hq)
          refine ⟨q, Dd, _, _, rfl, rfl, hq1, hu, by rw [List.length_map, List.length_map, sizeLine_eq]; omega, fun X hX => ?_⟩
          have hX1 : (upd H' X (.lst (ts.map V.str ++ us.map V.str))) X = some (.lst ((ts ++ us).map V.str)) := by rw [upd_same, List.map_append]
          have penX := pen1.keep (Same.upd (o := .lst (ts.map V.str ++ us.map V.str)) hX)
          have maX := (MachAt.keepS pen1 (SameBut.new (o := .lst (ts.map V.str ++ us.map V.str)) hX) (MachAt.keepN penA (fun b o z _ np => k1 b o z np) maA))
          have TX := (tabs_pen penA k1 TA).ext (Same.upd (o := .lst (ts.map V.str ++ us.map V.str)) hX)
          have all : ∀ t ∈ ts ++ us, t.length ≤ 30 ∧ ∀ c ∈ TL.tl t, c ∈ sg.cps.toList := fun t ht => by
            rcases List.mem_append.mp ht with ht | ht
            · exact ⟨by have := (gq t ht).1; omega, (gq t ht).2⟩
            · exact gu t ht
          generalize upd H' X (.lst (ts.map V.str ++ us.map V.str)) = HX at hX1 penX maX TX ⊢
          generalize ts ++ us = xs at hX1 all
          refine ⟨X, rfl, ⟨_, SqL.of hX1⟩, ?_⟩
          refine for_it walk_list (fun j σ H' => (∃ o9 : Option V, σ = [some (.ref sa), some (.ref p), some (.int (0 + (i : Nat))), some (.str sg), some (.int so), some (.int pl), some (.int n), some (.ref a), some bv, o9, o10]) ∧ Same HX H') ⟨⟨_, rfl⟩, Same.refl _⟩ (fun j σ H' _ z => SqL.of (z.2 _ _ hX1)) ?_ ?_
          · rintro j x σ _ H5 hj ⟨⟨o9, rfl⟩, s5⟩ ⟨rfl, hx⟩
            rw [List.getElem?_map] at hx
            obtain ⟨t, ht, rfl⟩ := Option.map_eq_some_iff.mp hx
            obtain ⟨tl, tg⟩ := all t (List.mem_of_getElem? ht)
            have ma5 := maX.keepO fun b o z _ => s5 _ _ z
            obtain ⟨dx5, _, _, _, _, _, _, _, hm5, _⟩ := id ma5
            refine ⟨_, rfl, a, dx5, _, rfl, hm5, rfl, _, rfl, a, t, sg, _, _, rfl, ma5, fu, fun _ v H7 s7 an => ?_, fun i c _ _ h1 h2 => absurd (tg c (by
              have : t.cps.toList[i]? = some c := by rw [Array.getElem?_toList]; exact h1
              exact List.mem_of_getElem? this)) h2⟩
            obtain ⟨b, rfl, hb⟩ := an
            rw [keys t tg] at hb
            refine ⟨_, rfl, _, rfl, _, rfl, _, rfl, _, rfl, so, pl, n, sg, t, rfl, so2, s0, p1, p9, n1, n9, by omega, tg, a128, fun Y H8 s8 hY => ?_⟩
            have okS : Sh 1 (.tuple ((dueG (letR so) sg t pl n).map PyData.str)) := Sh.tup (n := 0) fun y hy => by
              obtain ⟨u, hu, rfl⟩ := List.mem_map.mp hy
              exact Sh.str (due_low letlow a128 tg p1 hu)
            refine ⟨.tuple ((dueG (letR so) sg t pl n).map PyData.str), .tuple ((dueG (letR so) sg t pl n).map PyData.str), .tup (SqT.of (s8 _ _ hb)) (dp_strs _ _), .tup (SqT.of hY) (dp_strs _ _), okS.ok (by decide), okS.ok (by decide), _, rfl, ?_⟩
            rw [okS.refl]
            exact iteF ⟨⟨_, rfl⟩, fun b o z => s8 _ _ (s7 _ _ (s5 _ _ z))⟩
          · rintro σ H5 ⟨⟨o9, rfl⟩, s5⟩
            exact ⟨⟨_, _, _, _, _, _, _, _, _, rfl⟩, (penX.keep s5).mono (by omega), TX.ext s5⟩
    · rintro σ H2 ⟨⟨o2, o3, o4, o5, o6, o7, o8, o9, o10, rfl⟩, pen2, T2⟩
      exact kQ _
end
end Kx

namespace Kx
open PySem L2 Own PinX DicN
theorem pairs_one {α β : Type} : ∀ (l : List (α × β)), (l.map (·.1)).Nodup → ∀ {p : α × β} {a : α} {b : β}, p ∈ l → (a, b) ∈ l → p.1 = a → p.2 = b
  | [], _, _, _, _, h, _, _ => nomatch h
  | (c, d) :: l, nd, p, a, b, h, g, e => by
    rw [List.map_cons] at nd
    have n1 := (List.nodup_cons.mp nd).1
    rcases List.mem_cons.mp h with rfl | h
    · rcases List.mem_cons.mp g with g | g
      · cases g; rfl
      · exact absurd (List.mem_map.mpr ⟨(a, b), g, e.symm⟩) n1
    · rcases List.mem_cons.mp g with g | g
      · cases g
        exact absurd (List.mem_map.mpr ⟨p, h, e⟩) n1
      · exact pairs_one l (List.nodup_cons.mp nd).2 h g e
theorem err_mk {K : PySem.W.Frag} {mg : Str → Option Value} {name : Str} {C M : Addr} {nm q : Str} {N : Addr} {bs : List Value} {sn : List Str} {sub : List Value} {ab : Bool} {col : Option Bool} {dd : Option Addr} {m0 m1 m2 m3 m5 : Option Value}
    (g : mg name = some (.ref C)) (xL : K.lookup C = some (excClassObj nm q C N bs (tailM M) true sn sub ab col dd m0 m1 m2 m3 m5 "ValueError.__new__"))
    (sa : PySem.W.findIn K (.ref C) "__setattr__" = some (some (.builtin "object.__setattr__"))) (ga : PySem.W.findIn K (.ref C) "__getattribute__" = some (some (.builtin "BaseException.__getattribute__"))) (gg : PySem.W.findIn K (.ref C) "__getattr__" = some none)
    (ha : PySem.W.findIn K (.ref C) "__class__" = some (some (.builtin "object.__class__"))) (hn : PySem.W.specialIn K (.builtin "object.__class__") "__get__" = some (some (.builtin "getset_descriptor.__get__"))) (ht : PySem.W.takesIn K (.builtin "object.__class__") = some true)
    (kC : PySem.W.keepIn K (.ref C) = true) : ErrC K mg name C M := by
  have hc : PySem.W.clsIn K C = some { name := nm, bases := bs, mro := .ref C :: tailM M, ns := N, qualname := q, hasDict := true, slotNames := sn, subclasses := sub, abstract := ab, collection := col, hasDel := false } := by unfold PySem.W.clsIn; rw [xL] <;> rfl
  have hs : ∀ b : Value, PySem.W.subIn K (.ref C) b = some ((Value.ref C :: tailM M).contains b) := fun b => by
    show PySem.W.mroIn K C b = _
    unfold PySem.W.mroIn
    rw [hc]
    rfl
  have ty : PySem.W.typeIn K (.ref C) = some (.type "type") := by
    show (K.lookup C).map (·.cls) = _
    rw [xL]
    rfl
  have hd : PySem.W.hasDictIn K C = true := by unfold PySem.W.hasDictIn; rw [hc]; rfl
  have eB : PySem.W.subIn K (.ref C) (.type "BaseException") = some true := by rw [hs]; rfl
  have eO : PySem.W.mroIn K C (.type "object") = some true := (hs (.type "object")).trans rfl
  refine ⟨g, ⟨⟨nm, q, N, bs, _, sn, sub, ab, col, dd, m0, m1, m2, m3, m5, xL, by rfl⟩, sa, eB, ty, kC⟩, ⟨ga, gg, eB, hd, ha, hn, ht, eO⟩, by unfold PySem.W.isClsIn; rw [hc]; rfl, hs⟩
theorem kit_M {K : PySem.W.Frag} {t : Value} {C : Addr} (hd : PySem.W.hasDictIn K C = true) (ty : PySem.W.typeIn K (.ref C) = some (.type "type")) (h : PySem.W.subIn K t (.ref C) = some true) : PySem.W.kitOne K t (.ref C) = some true := by
  unfold PySem.W.kitOne
  by_cases c : (t == Value.ref C) = true
  · rw [if_pos c]
  · rw [if_neg c]
    show (if ((PySem.W.clsIn K C).isSome && PySem.W.typeIn K (.ref C) == some (.type "type")) = true then PySem.W.subIn K t (.ref C) else none) = _
    have z : (PySem.W.clsIn K C).isSome = true := by
      unfold PySem.W.hasDictIn at hd
      cases e : PySem.W.clsIn K C with
      | none => rw [e] at hd; cases hd
      | some _ => rfl
    rw [z, ty, if_pos (by rfl), h]
theorem all_mk {l : PySem.W.OpenLaw} {w : World} {K : PySem.W.Frag} {h : Heap} {mg : Str → Option Value} {fa : Addr} (X : K.In h) (G : h.Ns mainGlobals mg) (hfa : mg "law" = some (.ref fa))
    {M : Addr}
    {CBadMachine NBadMachine : Addr} {nmBadMachine qBadMachine : Str} {bsBadMachine subBadMachine : List Value} {snBadMachine : List Str} {abBadMachine : Bool} {colBadMachine : Option Bool} {ddBadMachine : Option Addr} {maBadMachine mbBadMachine mcBadMachine mdBadMachine meBadMachine : Option Value}
    {IBadMachine : Addr} {odiBadMachine aniBadMachine : Option Addr} {sliBadMachine : Array (Option Value)} {ociBadMachine kViBadMachine dciBadMachine pmiBadMachine cdiBadMachine ctiBadMachine : Value}
    {CTooMany NTooMany : Addr} {nmTooMany qTooMany : Str} {bsTooMany subTooMany : List Value} {snTooMany : List Str} {abTooMany : Bool} {colTooMany : Option Bool} {ddTooMany : Option Addr} {maTooMany mbTooMany mcTooMany mdTooMany meTooMany : Option Value}
    {ITooMany : Addr} {odiTooMany aniTooMany : Option Addr} {sliTooMany : Array (Option Value)} {ociTooMany kViTooMany dciTooMany pmiTooMany cdiTooMany ctiTooMany : Value}
    {CBadSign NBadSign : Addr} {nmBadSign qBadSign : Str} {bsBadSign subBadSign : List Value} {snBadSign : List Str} {abBadSign : Bool} {colBadSign : Option Bool} {ddBadSign : Option Addr} {maBadSign mbBadSign mcBadSign mdBadSign meBadSign : Option Value}
    {IBadSign : Addr} {odiBadSign aniBadSign : Option Addr} {sliBadSign : Array (Option Value)} {ociBadSign kViBadSign dciBadSign pmiBadSign cdiBadSign ctiBadSign : Value}
    {CMachine : Addr}
    {fMachine_init : Addr} {odMachine_init anMachine_init : Option Addr} {slMachine_init : Array (Option Value)} {ocMachine_init kVMachine_init dcMachine_init pmMachine_init cdMachine_init ctMachine_init : Value}
    {fMachine_walk : Addr} {odMachine_walk anMachine_walk : Option Addr} {slMachine_walk : Array (Option Value)} {ocMachine_walk kVMachine_walk dcMachine_walk pmMachine_walk cdMachine_walk ctMachine_walk : Value}
    {fMachine_keys_of : Addr} {odMachine_keys_of anMachine_keys_of : Option Addr} {slMachine_keys_of : Array (Option Value)} {ocMachine_keys_of kVMachine_keys_of dcMachine_keys_of pmMachine_keys_of cdMachine_keys_of ctMachine_keys_of : Value}
    {fis_whole : Addr} {odis_whole anis_whole : Option Addr} {slis_whole : Array (Option Value)} {ocis_whole kVis_whole dcis_whole pmis_whole cdis_whole ctis_whole : Value}
    {fkey_list : Addr} {odkey_list ankey_list : Option Addr} {slkey_list : Array (Option Value)} {ockey_list kVkey_list dckey_list pmkey_list cdkey_list ctkey_list : Value}
    {fcheck_ways : Addr} {odcheck_ways ancheck_ways : Option Addr} {slcheck_ways : Array (Option Value)} {occheck_ways kVcheck_ways dccheck_ways pmcheck_ways cdcheck_ways ctcheck_ways : Value}
    {fkeys_in : Addr} {odkeys_in ankeys_in : Option Addr} {slkeys_in : Array (Option Value)} {ockeys_in kVkeys_in dckeys_in pmkeys_in cdkeys_in ctkeys_in : Value}
    {fcopied : Addr} {odcopied ancopied : Option Addr} {slcopied : Array (Option Value)} {occopied kVcopied dccopied pmcopied cdcopied ctcopied : Value}
    {fbuilt : Addr} {odbuilt anbuilt : Option Addr} {slbuilt : Array (Option Value)} {ocbuilt kVbuilt dcbuilt pmbuilt cdbuilt ctbuilt : Value}
    {fcheck_pieces : Addr} {odcheck_pieces ancheck_pieces : Option Addr} {slcheck_pieces : Array (Option Value)} {occheck_pieces kVcheck_pieces dccheck_pieces pmcheck_pieces cdcheck_pieces ctcheck_pieces : Value}
    {fpieces : Addr} {odpieces anpieces : Option Addr} {slpieces : Array (Option Value)} {ocpieces kVpieces dcpieces pmpieces cdpieces ctpieces : Value}
    {flightest : Addr} {odlightest anlightest : Option Addr} {sllightest : Array (Option Value)} {oclightest kVlightest dclightest pmlightest cdlightest ctlightest : Value}
    {fmany_of : Addr} {odmany_of anmany_of : Option Addr} {slmany_of : Array (Option Value)} {ocmany_of kVmany_of dcmany_of pmmany_of cdmany_of ctmany_of : Value}
    {fmany_below : Addr} {odmany_below anmany_below : Option Addr} {slmany_below : Array (Option Value)} {ocmany_below kVmany_below dcmany_below pmmany_below cdmany_below ctmany_below : Value}
    {ftexts_of : Addr} {odtexts_of antexts_of : Option Addr} {sltexts_of : Array (Option Value)} {octexts_of kVtexts_of dctexts_of pmtexts_of cdtexts_of cttexts_of : Value}
    {ftexts_below : Addr} {odtexts_below antexts_below : Option Addr} {sltexts_below : Array (Option Value)} {octexts_below kVtexts_below dctexts_below pmtexts_below cdtexts_below cttexts_below : Value}
    {f_law_pen : Addr} {od_law_pen an_law_pen : Option Addr} {sl_law_pen : Array (Option Value)} {oc_law_pen kV_law_pen dc_law_pen pm_law_pen cd_law_pen ct_law_pen : Value}
    {f_law_draw : Addr} {od_law_draw an_law_draw : Option Addr} {sl_law_draw : Array (Option Value)} {oc_law_draw kV_law_draw dc_law_draw pm_law_draw cd_law_draw ct_law_draw : Value}
    {f_law_pick : Addr} {od_law_pick an_law_pick : Option Addr} {sl_law_pick : Array (Option Value)} {oc_law_pick kV_law_pick dc_law_pick pm_law_pick cd_law_pick ct_law_pick : Value}
    {f_law_signs : Addr} {od_law_signs an_law_signs : Option Addr} {sl_law_signs : Array (Option Value)} {oc_law_signs kV_law_signs dc_law_signs pm_law_signs cd_law_signs ct_law_signs : Value}
    {f_law_texts : Addr} {od_law_texts an_law_texts : Option Addr} {sl_law_texts : Array (Option Value)} {oc_law_texts kV_law_texts dc_law_texts pm_law_texts cd_law_texts ct_law_texts : Value}
    {f_law_text : Addr} {od_law_text an_law_text : Option Addr} {sl_law_text : Array (Option Value)} {oc_law_text kV_law_text dc_law_text pm_law_text cd_law_text ct_law_text : Value}
    {f_law_made : Addr} {od_law_made an_law_made : Option Addr} {sl_law_made : Array (Option Value)} {oc_law_made kV_law_made dc_law_made pm_law_made cd_law_made ct_law_made : Value}
    {f_law_number : Addr} {od_law_number an_law_number : Option Addr} {sl_law_number : Array (Option Value)} {oc_law_number kV_law_number dc_law_number pm_law_number cd_law_number ct_law_number : Value}
    {f_law_bound : Addr} {od_law_bound an_law_bound : Option Addr} {sl_law_bound : Array (Option Value)} {oc_law_bound kV_law_bound dc_law_bound pm_law_bound cd_law_bound ct_law_bound : Value}
    {f_law_least : Addr} {od_law_least an_law_least : Option Addr} {sl_law_least : Array (Option Value)} {oc_law_least kV_law_least dc_law_least pm_law_least cd_law_least ct_law_least : Value}
    {f_law_due : Addr} {od_law_due an_law_due : Option Addr} {sl_law_due : Array (Option Value)} {oc_law_due kV_law_due dc_law_due pm_law_due cd_law_due ct_law_due : Value}
    {flaw : Addr} {odlaw anlaw : Option Addr} {sllaw : Array (Option Value)} {oclaw kVlaw dclaw pmlaw cdlaw ctlaw : Value}
    {fleast_piece ccleast_piece Ptleast_piece : Addr} {odleast_piece anleast_piece ocdleast_piece : Option Addr} {slleast_piece oslleast_piece : Array (Option Value)} {ocleast_piece occleast_piece kVleast_piece dcleast_piece pmleast_piece ctleast_piece : Value} {vsleast_piece : Array Value}
    {fleast_pieces ccleast_pieces Ptleast_pieces : Addr} {odleast_pieces anleast_pieces ocdleast_pieces : Option Addr} {slleast_pieces oslleast_pieces : Array (Option Value)} {ocleast_pieces occleast_pieces kVleast_pieces dcleast_pieces pmleast_pieces ctleast_pieces : Value} {vsleast_pieces : Array Value}
    {tMOST_KEYS : Tok}
    {tMOST_STATES : Tok}
    (hn : PySem.W.specialIn K (.builtin "object.__class__") "__get__" = some (some (.builtin "getset_descriptor.__get__")))
    (ht : PySem.W.takesIn K (.builtin "object.__class__") = some true)
    (aM : PySem.W.nsIn K mainGlobals "MissError" = some (some (.ref M)))
    (m1 : PySem.W.subIn K (.ref M) (.type "BaseException") = some true)
    (m2 : PySem.W.hasDictIn K M = true)
    (m3 : PySem.W.typeIn K (.ref M) = some (.type "type"))
    (aCBadMachine : PySem.W.nsIn K mainGlobals "BadMachine" = some (some (.ref CBadMachine)))
    (xLBadMachine : K.lookup CBadMachine = some (excClassObj nmBadMachine qBadMachine CBadMachine NBadMachine bsBadMachine (tailM M) true snBadMachine subBadMachine abBadMachine colBadMachine ddBadMachine maBadMachine mbBadMachine mcBadMachine mdBadMachine meBadMachine "ValueError.__new__"))
    (saBadMachine : PySem.W.findIn K (.ref CBadMachine) "__setattr__" = some (some (.builtin "object.__setattr__")))
    (gaBadMachine : PySem.W.findIn K (.ref CBadMachine) "__getattribute__" = some (some (.builtin "BaseException.__getattribute__")))
    (ggBadMachine : PySem.W.findIn K (.ref CBadMachine) "__getattr__" = some none)
    (hcBadMachine : PySem.W.findIn K (.ref CBadMachine) "__class__" = some (some (.builtin "object.__class__")))
    (kCBadMachine : PySem.W.keepIn K (.ref CBadMachine) = true)
    (iCBadMachine : PySem.W.findIn K (.ref CBadMachine) "__init__" = some (some (.ref IBadMachine)))
    (tIBadMachine : PySem.W.typeIn K (.ref IBadMachine) = some (.type "function"))
    (lIBadMachine : K.lookup IBadMachine = some ⟨ociBadMachine, odiBadMachine, .func (PySem.W.fnOf "__init__" "BadMachine.__init__" (defArgs s_BadMachine) (defBody s_BadMachine) (defScope s_BadMachine) .none kViBadMachine dciBadMachine pmiBadMachine aniBadMachine cdiBadMachine ctiBadMachine), sliBadMachine⟩)
    (cIBadMachine : PySem.W.codeIn K cdiBadMachine "BadMachine.__init__" = true)
    (kIBadMachine : PySem.W.keepIn K (.ref IBadMachine) = true)
    (nfBadMachine_state : PySem.W.findIn K (.ref CBadMachine) "state" = some none)
    (nfBadMachine_place : PySem.W.findIn K (.ref CBadMachine) "place" = some none)
    (aCTooMany : PySem.W.nsIn K mainGlobals "TooMany" = some (some (.ref CTooMany)))
    (xLTooMany : K.lookup CTooMany = some (excClassObj nmTooMany qTooMany CTooMany NTooMany bsTooMany (tailM M) true snTooMany subTooMany abTooMany colTooMany ddTooMany maTooMany mbTooMany mcTooMany mdTooMany meTooMany "ValueError.__new__"))
    (saTooMany : PySem.W.findIn K (.ref CTooMany) "__setattr__" = some (some (.builtin "object.__setattr__")))
    (gaTooMany : PySem.W.findIn K (.ref CTooMany) "__getattribute__" = some (some (.builtin "BaseException.__getattribute__")))
    (ggTooMany : PySem.W.findIn K (.ref CTooMany) "__getattr__" = some none)
    (hcTooMany : PySem.W.findIn K (.ref CTooMany) "__class__" = some (some (.builtin "object.__class__")))
    (kCTooMany : PySem.W.keepIn K (.ref CTooMany) = true)
    (iCTooMany : PySem.W.findIn K (.ref CTooMany) "__init__" = some (some (.ref ITooMany)))
    (tITooMany : PySem.W.typeIn K (.ref ITooMany) = some (.type "function"))
    (lITooMany : K.lookup ITooMany = some ⟨ociTooMany, odiTooMany, .func (PySem.W.fnOf "__init__" "TooMany.__init__" (defArgs s_TooMany) (defBody s_TooMany) (defScope s_TooMany) .none kViTooMany dciTooMany pmiTooMany aniTooMany cdiTooMany ctiTooMany), sliTooMany⟩)
    (cITooMany : PySem.W.codeIn K cdiTooMany "TooMany.__init__" = true)
    (kITooMany : PySem.W.keepIn K (.ref ITooMany) = true)
    (nfTooMany_what : PySem.W.findIn K (.ref CTooMany) "what" = some none)
    (aCBadSign : PySem.W.nsIn K mainGlobals "BadSign" = some (some (.ref CBadSign)))
    (xLBadSign : K.lookup CBadSign = some (excClassObj nmBadSign qBadSign CBadSign NBadSign bsBadSign (tailM M) true snBadSign subBadSign abBadSign colBadSign ddBadSign maBadSign mbBadSign mcBadSign mdBadSign meBadSign "ValueError.__new__"))
    (saBadSign : PySem.W.findIn K (.ref CBadSign) "__setattr__" = some (some (.builtin "object.__setattr__")))
    (gaBadSign : PySem.W.findIn K (.ref CBadSign) "__getattribute__" = some (some (.builtin "BaseException.__getattribute__")))
    (ggBadSign : PySem.W.findIn K (.ref CBadSign) "__getattr__" = some none)
    (hcBadSign : PySem.W.findIn K (.ref CBadSign) "__class__" = some (some (.builtin "object.__class__")))
    (kCBadSign : PySem.W.keepIn K (.ref CBadSign) = true)
    (iCBadSign : PySem.W.findIn K (.ref CBadSign) "__init__" = some (some (.ref IBadSign)))
    (tIBadSign : PySem.W.typeIn K (.ref IBadSign) = some (.type "function"))
    (lIBadSign : K.lookup IBadSign = some ⟨ociBadSign, odiBadSign, .func (PySem.W.fnOf "__init__" "BadSign.__init__" (defArgs s_BadSign) (defBody s_BadSign) (defScope s_BadSign) .none kViBadSign dciBadSign pmiBadSign aniBadSign cdiBadSign ctiBadSign), sliBadSign⟩)
    (cIBadSign : PySem.W.codeIn K cdiBadSign "BadSign.__init__" = true)
    (kIBadSign : PySem.W.keepIn K (.ref IBadSign) = true)
    (nfBadSign_place : PySem.W.findIn K (.ref CBadSign) "place" = some none)
    (s_TooMany_TooMany : PySem.W.subIn K (.ref CTooMany) (.ref CTooMany) = some true)
    (aCMachine : PySem.W.nsIn K mainGlobals "Machine" = some (some (.ref CMachine)))
    (pgMachine : PySem.W.plainGet K CMachine Str.empty = true)
    (hdMachine : PySem.W.hasDictIn K CMachine = true)
    (poMachine : PySem.W.plainOver K CMachine = true)
    (saMachine : PySem.W.findIn K (.ref CMachine) "__setattr__" = some (some (.builtin "object.__setattr__")))
    (mkMachine : PySem.W.makesIn K CMachine = true)
    (kcMachine : PySem.W.keepIn K (.ref CMachine) = true)
    (naMachine_signs : PySem.W.findIn K (.ref CMachine) "signs" = some none)
    (naMachine_rows : PySem.W.findIn K (.ref CMachine) "rows" = some none)
    (naMachine_ends : PySem.W.findIn K (.ref CMachine) "ends" = some none)
    (naMachine_all_keys : PySem.W.findIn K (.ref CMachine) "all_keys" = some none)
    (naMachine__ways : PySem.W.findIn K (.ref CMachine) "_ways" = some none)
    (aMachine_init : PySem.W.findIn K (.ref CMachine) "__init__" = some (some (.ref fMachine_init)))
    (iMachine_init : PySem.W.isFn K (.ref fMachine_init) = true)
    (lMachine_init : K.lookup fMachine_init = some ⟨ocMachine_init, odMachine_init, .func (PySem.W.fnOf "__init__" "Machine.__init__" (defArgs s_init) (defBody s_init) (defScope s_init) .none kVMachine_init dcMachine_init pmMachine_init anMachine_init cdMachine_init ctMachine_init), slMachine_init⟩)
    (cMachine_init : PySem.W.codeIn K cdMachine_init "Machine.__init__" = true)
    (kMachine_init : PySem.W.keepIn K (.ref fMachine_init) = true)
    (aMachine_walk : PySem.W.findIn K (.ref CMachine) "walk" = some (some (.ref fMachine_walk)))
    (iMachine_walk : PySem.W.isFn K (.ref fMachine_walk) = true)
    (lMachine_walk : K.lookup fMachine_walk = some ⟨ocMachine_walk, odMachine_walk, .func (PySem.W.fnOf "walk" "Machine.walk" (defArgs s_Machine_walk) (defBody s_Machine_walk) (defScope s_Machine_walk) .none kVMachine_walk dcMachine_walk pmMachine_walk anMachine_walk cdMachine_walk ctMachine_walk), slMachine_walk⟩)
    (cMachine_walk : PySem.W.codeIn K cdMachine_walk "Machine.walk" = true)
    (kMachine_walk : PySem.W.keepIn K (.ref fMachine_walk) = true)
    (aMachine_keys_of : PySem.W.findIn K (.ref CMachine) "keys_of" = some (some (.ref fMachine_keys_of)))
    (iMachine_keys_of : PySem.W.isFn K (.ref fMachine_keys_of) = true)
    (lMachine_keys_of : K.lookup fMachine_keys_of = some ⟨ocMachine_keys_of, odMachine_keys_of, .func (PySem.W.fnOf "keys_of" "Machine.keys_of" (defArgs s_Machine_keys_of) (defBody s_Machine_keys_of) (defScope s_Machine_keys_of) .none kVMachine_keys_of dcMachine_keys_of pmMachine_keys_of anMachine_keys_of cdMachine_keys_of ctMachine_keys_of), slMachine_keys_of⟩)
    (cMachine_keys_of : PySem.W.codeIn K cdMachine_keys_of "Machine.keys_of" = true)
    (kMachine_keys_of : PySem.W.keepIn K (.ref fMachine_keys_of) = true)
    (ais_whole : PySem.W.nsIn K mainGlobals "is_whole" = some (some (.ref fis_whole)))
    (lis_whole : K.lookup fis_whole = some ⟨ocis_whole, odis_whole, .func (PySem.W.fnOf "is_whole" "is_whole" (defArgs s_is_whole) (defBody s_is_whole) (defScope s_is_whole) .none kVis_whole dcis_whole pmis_whole anis_whole cdis_whole ctis_whole), slis_whole⟩)
    (cis_whole : PySem.W.codeIn K cdis_whole "is_whole" = true)
    (kis_whole : PySem.W.keepIn K (.ref fis_whole) = true)
    (akey_list : PySem.W.nsIn K mainGlobals "key_list" = some (some (.ref fkey_list)))
    (lkey_list : K.lookup fkey_list = some ⟨ockey_list, odkey_list, .func (PySem.W.fnOf "key_list" "key_list" (defArgs s_key_list) (defBody s_key_list) (defScope s_key_list) .none kVkey_list dckey_list pmkey_list ankey_list cdkey_list ctkey_list), slkey_list⟩)
    (ckey_list : PySem.W.codeIn K cdkey_list "key_list" = true)
    (kkey_list : PySem.W.keepIn K (.ref fkey_list) = true)
    (acheck_ways : PySem.W.nsIn K mainGlobals "check_ways" = some (some (.ref fcheck_ways)))
    (lcheck_ways : K.lookup fcheck_ways = some ⟨occheck_ways, odcheck_ways, .func (PySem.W.fnOf "check_ways" "check_ways" (defArgs s_check_ways) (defBody s_check_ways) (defScope s_check_ways) .none kVcheck_ways dccheck_ways pmcheck_ways ancheck_ways cdcheck_ways ctcheck_ways), slcheck_ways⟩)
    (ccheck_ways : PySem.W.codeIn K cdcheck_ways "check_ways" = true)
    (kcheck_ways : PySem.W.keepIn K (.ref fcheck_ways) = true)
    (akeys_in : PySem.W.nsIn K mainGlobals "keys_in" = some (some (.ref fkeys_in)))
    (lkeys_in : K.lookup fkeys_in = some ⟨ockeys_in, odkeys_in, .func (PySem.W.fnOf "keys_in" "keys_in" (defArgs s_keys_in) (defBody s_keys_in) (defScope s_keys_in) .none kVkeys_in dckeys_in pmkeys_in ankeys_in cdkeys_in ctkeys_in), slkeys_in⟩)
    (ckeys_in : PySem.W.codeIn K cdkeys_in "keys_in" = true)
    (kkeys_in : PySem.W.keepIn K (.ref fkeys_in) = true)
    (acopied : PySem.W.nsIn K mainGlobals "copied" = some (some (.ref fcopied)))
    (lcopied : K.lookup fcopied = some ⟨occopied, odcopied, .func (PySem.W.fnOf "copied" "copied" (defArgs s_copied) (defBody s_copied) (defScope s_copied) .none kVcopied dccopied pmcopied ancopied cdcopied ctcopied), slcopied⟩)
    (ccopied : PySem.W.codeIn K cdcopied "copied" = true)
    (kcopied : PySem.W.keepIn K (.ref fcopied) = true)
    (abuilt : PySem.W.nsIn K mainGlobals "built" = some (some (.ref fbuilt)))
    (lbuilt : K.lookup fbuilt = some ⟨ocbuilt, odbuilt, .func (PySem.W.fnOf "built" "built" (defArgs s_built) (defBody s_built) (defScope s_built) .none kVbuilt dcbuilt pmbuilt anbuilt cdbuilt ctbuilt), slbuilt⟩)
    (cbuilt : PySem.W.codeIn K cdbuilt "built" = true)
    (kbuilt : PySem.W.keepIn K (.ref fbuilt) = true)
    (acheck_pieces : PySem.W.nsIn K mainGlobals "check_pieces" = some (some (.ref fcheck_pieces)))
    (lcheck_pieces : K.lookup fcheck_pieces = some ⟨occheck_pieces, odcheck_pieces, .func (PySem.W.fnOf "check_pieces" "check_pieces" (defArgs s_check_pieces) (defBody s_check_pieces) (defScope s_check_pieces) .none kVcheck_pieces dccheck_pieces pmcheck_pieces ancheck_pieces cdcheck_pieces ctcheck_pieces), slcheck_pieces⟩)
    (ccheck_pieces : PySem.W.codeIn K cdcheck_pieces "check_pieces" = true)
    (kcheck_pieces : PySem.W.keepIn K (.ref fcheck_pieces) = true)
    (apieces : PySem.W.nsIn K mainGlobals "pieces" = some (some (.ref fpieces)))
    (lpieces : K.lookup fpieces = some ⟨ocpieces, odpieces, .func (PySem.W.fnOf "pieces" "pieces" (defArgs s_pieces) (defBody s_pieces) (defScope s_pieces) .none kVpieces dcpieces pmpieces anpieces cdpieces ctpieces), slpieces⟩)
    (cpieces : PySem.W.codeIn K cdpieces "pieces" = true)
    (kpieces : PySem.W.keepIn K (.ref fpieces) = true)
    (alightest : PySem.W.nsIn K mainGlobals "lightest" = some (some (.ref flightest)))
    (llightest : K.lookup flightest = some ⟨oclightest, odlightest, .func (PySem.W.fnOf "lightest" "lightest" (defArgs s_lightest) (defBody s_lightest) (defScope s_lightest) .none kVlightest dclightest pmlightest anlightest cdlightest ctlightest), sllightest⟩)
    (clightest : PySem.W.codeIn K cdlightest "lightest" = true)
    (klightest : PySem.W.keepIn K (.ref flightest) = true)
    (amany_of : PySem.W.nsIn K mainGlobals "many_of" = some (some (.ref fmany_of)))
    (lmany_of : K.lookup fmany_of = some ⟨ocmany_of, odmany_of, .func (PySem.W.fnOf "many_of" "many_of" (defArgs s_many_of) (defBody s_many_of) (defScope s_many_of) .none kVmany_of dcmany_of pmmany_of anmany_of cdmany_of ctmany_of), slmany_of⟩)
    (cmany_of : PySem.W.codeIn K cdmany_of "many_of" = true)
    (kmany_of : PySem.W.keepIn K (.ref fmany_of) = true)
    (amany_below : PySem.W.nsIn K mainGlobals "many_below" = some (some (.ref fmany_below)))
    (lmany_below : K.lookup fmany_below = some ⟨ocmany_below, odmany_below, .func (PySem.W.fnOf "many_below" "many_below" (defArgs s_many_below) (defBody s_many_below) (defScope s_many_below) .none kVmany_below dcmany_below pmmany_below anmany_below cdmany_below ctmany_below), slmany_below⟩)
    (cmany_below : PySem.W.codeIn K cdmany_below "many_below" = true)
    (kmany_below : PySem.W.keepIn K (.ref fmany_below) = true)
    (atexts_of : PySem.W.nsIn K mainGlobals "texts_of" = some (some (.ref ftexts_of)))
    (ltexts_of : K.lookup ftexts_of = some ⟨octexts_of, odtexts_of, .func (PySem.W.fnOf "texts_of" "texts_of" (defArgs s_texts_of) (defBody s_texts_of) (defScope s_texts_of) .none kVtexts_of dctexts_of pmtexts_of antexts_of cdtexts_of cttexts_of), sltexts_of⟩)
    (ctexts_of : PySem.W.codeIn K cdtexts_of "texts_of" = true)
    (ktexts_of : PySem.W.keepIn K (.ref ftexts_of) = true)
    (atexts_below : PySem.W.nsIn K mainGlobals "texts_below" = some (some (.ref ftexts_below)))
    (ltexts_below : K.lookup ftexts_below = some ⟨octexts_below, odtexts_below, .func (PySem.W.fnOf "texts_below" "texts_below" (defArgs s_texts_below) (defBody s_texts_below) (defScope s_texts_below) .none kVtexts_below dctexts_below pmtexts_below antexts_below cdtexts_below cttexts_below), sltexts_below⟩)
    (ctexts_below : PySem.W.codeIn K cdtexts_below "texts_below" = true)
    (ktexts_below : PySem.W.keepIn K (.ref ftexts_below) = true)
    (a_law_pen : PySem.W.nsIn K mainGlobals "_law_pen" = some (some (.ref f_law_pen)))
    (l_law_pen : K.lookup f_law_pen = some ⟨oc_law_pen, od_law_pen, .func (PySem.W.fnOf "_law_pen" "_law_pen" (defArgs s__law_pen) (defBody s__law_pen) (defScope s__law_pen) .none kV_law_pen dc_law_pen pm_law_pen an_law_pen cd_law_pen ct_law_pen), sl_law_pen⟩)
    (c_law_pen : PySem.W.codeIn K cd_law_pen "_law_pen" = true)
    (k_law_pen : PySem.W.keepIn K (.ref f_law_pen) = true)
    (a_law_draw : PySem.W.nsIn K mainGlobals "_law_draw" = some (some (.ref f_law_draw)))
    (l_law_draw : K.lookup f_law_draw = some ⟨oc_law_draw, od_law_draw, .func (PySem.W.fnOf "_law_draw" "_law_draw" (defArgs s__law_draw) (defBody s__law_draw) (defScope s__law_draw) .none kV_law_draw dc_law_draw pm_law_draw an_law_draw cd_law_draw ct_law_draw), sl_law_draw⟩)
    (c_law_draw : PySem.W.codeIn K cd_law_draw "_law_draw" = true)
    (k_law_draw : PySem.W.keepIn K (.ref f_law_draw) = true)
    (a_law_pick : PySem.W.nsIn K mainGlobals "_law_pick" = some (some (.ref f_law_pick)))
    (l_law_pick : K.lookup f_law_pick = some ⟨oc_law_pick, od_law_pick, .func (PySem.W.fnOf "_law_pick" "_law_pick" (defArgs s__law_pick) (defBody s__law_pick) (defScope s__law_pick) .none kV_law_pick dc_law_pick pm_law_pick an_law_pick cd_law_pick ct_law_pick), sl_law_pick⟩)
    (c_law_pick : PySem.W.codeIn K cd_law_pick "_law_pick" = true)
    (k_law_pick : PySem.W.keepIn K (.ref f_law_pick) = true)
    (a_law_signs : PySem.W.nsIn K mainGlobals "_law_signs" = some (some (.ref f_law_signs)))
    (l_law_signs : K.lookup f_law_signs = some ⟨oc_law_signs, od_law_signs, .func (PySem.W.fnOf "_law_signs" "_law_signs" (defArgs s__law_signs) (defBody s__law_signs) (defScope s__law_signs) .none kV_law_signs dc_law_signs pm_law_signs an_law_signs cd_law_signs ct_law_signs), sl_law_signs⟩)
    (c_law_signs : PySem.W.codeIn K cd_law_signs "_law_signs" = true)
    (k_law_signs : PySem.W.keepIn K (.ref f_law_signs) = true)
    (a_law_texts : PySem.W.nsIn K mainGlobals "_law_texts" = some (some (.ref f_law_texts)))
    (l_law_texts : K.lookup f_law_texts = some ⟨oc_law_texts, od_law_texts, .func (PySem.W.fnOf "_law_texts" "_law_texts" (defArgs s__law_texts) (defBody s__law_texts) (defScope s__law_texts) .none kV_law_texts dc_law_texts pm_law_texts an_law_texts cd_law_texts ct_law_texts), sl_law_texts⟩)
    (c_law_texts : PySem.W.codeIn K cd_law_texts "_law_texts" = true)
    (k_law_texts : PySem.W.keepIn K (.ref f_law_texts) = true)
    (a_law_text : PySem.W.nsIn K mainGlobals "_law_text" = some (some (.ref f_law_text)))
    (l_law_text : K.lookup f_law_text = some ⟨oc_law_text, od_law_text, .func (PySem.W.fnOf "_law_text" "_law_text" (defArgs s__law_text) (defBody s__law_text) (defScope s__law_text) .none kV_law_text dc_law_text pm_law_text an_law_text cd_law_text ct_law_text), sl_law_text⟩)
    (c_law_text : PySem.W.codeIn K cd_law_text "_law_text" = true)
    (k_law_text : PySem.W.keepIn K (.ref f_law_text) = true)
    (a_law_made : PySem.W.nsIn K mainGlobals "_law_made" = some (some (.ref f_law_made)))
    (l_law_made : K.lookup f_law_made = some ⟨oc_law_made, od_law_made, .func (PySem.W.fnOf "_law_made" "_law_made" (defArgs s__law_made) (defBody s__law_made) (defScope s__law_made) .none kV_law_made dc_law_made pm_law_made an_law_made cd_law_made ct_law_made), sl_law_made⟩)
    (c_law_made : PySem.W.codeIn K cd_law_made "_law_made" = true)
    (k_law_made : PySem.W.keepIn K (.ref f_law_made) = true)
    (a_law_number : PySem.W.nsIn K mainGlobals "_law_number" = some (some (.ref f_law_number)))
    (l_law_number : K.lookup f_law_number = some ⟨oc_law_number, od_law_number, .func (PySem.W.fnOf "_law_number" "_law_number" (defArgs s__law_number) (defBody s__law_number) (defScope s__law_number) .none kV_law_number dc_law_number pm_law_number an_law_number cd_law_number ct_law_number), sl_law_number⟩)
    (c_law_number : PySem.W.codeIn K cd_law_number "_law_number" = true)
    (k_law_number : PySem.W.keepIn K (.ref f_law_number) = true)
    (a_law_bound : PySem.W.nsIn K mainGlobals "_law_bound" = some (some (.ref f_law_bound)))
    (l_law_bound : K.lookup f_law_bound = some ⟨oc_law_bound, od_law_bound, .func (PySem.W.fnOf "_law_bound" "_law_bound" (defArgs s__law_bound) (defBody s__law_bound) (defScope s__law_bound) .none kV_law_bound dc_law_bound pm_law_bound an_law_bound cd_law_bound ct_law_bound), sl_law_bound⟩)
    (c_law_bound : PySem.W.codeIn K cd_law_bound "_law_bound" = true)
    (k_law_bound : PySem.W.keepIn K (.ref f_law_bound) = true)
    (a_law_least : PySem.W.nsIn K mainGlobals "_law_least" = some (some (.ref f_law_least)))
    (l_law_least : K.lookup f_law_least = some ⟨oc_law_least, od_law_least, .func (PySem.W.fnOf "_law_least" "_law_least" (defArgs s__law_least) (defBody s__law_least) (defScope s__law_least) .none kV_law_least dc_law_least pm_law_least an_law_least cd_law_least ct_law_least), sl_law_least⟩)
    (c_law_least : PySem.W.codeIn K cd_law_least "_law_least" = true)
    (k_law_least : PySem.W.keepIn K (.ref f_law_least) = true)
    (a_law_due : PySem.W.nsIn K mainGlobals "_law_due" = some (some (.ref f_law_due)))
    (l_law_due : K.lookup f_law_due = some ⟨oc_law_due, od_law_due, .func (PySem.W.fnOf "_law_due" "_law_due" (defArgs s__law_due) (defBody s__law_due) (defScope s__law_due) .none kV_law_due dc_law_due pm_law_due an_law_due cd_law_due ct_law_due), sl_law_due⟩)
    (c_law_due : PySem.W.codeIn K cd_law_due "_law_due" = true)
    (k_law_due : PySem.W.keepIn K (.ref f_law_due) = true)
    (alaw : PySem.W.nsIn K mainGlobals "law" = some (some (.ref flaw)))
    (llaw : K.lookup flaw = some ⟨oclaw, odlaw, .func (PySem.W.fnOf "law" "law" (defArgs s_law) (defBody s_law) (defScope s_law) .none kVlaw dclaw pmlaw anlaw cdlaw ctlaw), sllaw⟩)
    (claw : PySem.W.codeIn K cdlaw "law" = true)
    (klaw : PySem.W.keepIn K (.ref flaw) = true)
    (aleast_piece : PySem.W.nsIn K mainGlobals "least_piece" = some (some (.ref fleast_piece)))
    (lleast_piece : K.lookup fleast_piece = some ⟨ocleast_piece, odleast_piece, .func (PySem.W.fnOf "least_piece" "least_piece" (defArgs s_least_piece) (defBody s_least_piece) (defScope s_least_piece) .none kVleast_piece dcleast_piece pmleast_piece anleast_piece (.ref ccleast_piece) ctleast_piece), slleast_piece⟩)
    (cleast_piece : PySem.W.codeIn K (.ref ccleast_piece) "least_piece" = true)
    (kleast_piece : PySem.W.keepIn K (.ref fleast_piece) = true)
    (vleast_piece : K.lookup ccleast_piece = some ⟨occleast_piece, ocdleast_piece, .fields vsleast_piece, oslleast_piece⟩)
    (pleast_piece : vsleast_piece[11]? = some (.ref Ptleast_piece))
    (hleast_piece : PySem.W.codeHdIn K ccleast_piece Ptleast_piece = true)
    (uleast_piece : K.lookup Ptleast_piece = none)
    (eleast_piece : h.get? Ptleast_piece = some { cls := .none, data := .fields #[] })
    (aleast_pieces : PySem.W.nsIn K mainGlobals "least_pieces" = some (some (.ref fleast_pieces)))
    (lleast_pieces : K.lookup fleast_pieces = some ⟨ocleast_pieces, odleast_pieces, .func (PySem.W.fnOf "least_pieces" "least_pieces" (defArgs s_least_pieces) (defBody s_least_pieces) (defScope s_least_pieces) .none kVleast_pieces dcleast_pieces pmleast_pieces anleast_pieces (.ref ccleast_pieces) ctleast_pieces), slleast_pieces⟩)
    (cleast_pieces : PySem.W.codeIn K (.ref ccleast_pieces) "least_pieces" = true)
    (kleast_pieces : PySem.W.keepIn K (.ref fleast_pieces) = true)
    (vleast_pieces : K.lookup ccleast_pieces = some ⟨occleast_pieces, ocdleast_pieces, .fields vsleast_pieces, oslleast_pieces⟩)
    (pleast_pieces : vsleast_pieces[11]? = some (.ref Ptleast_pieces))
    (hleast_pieces : PySem.W.codeHdIn K ccleast_pieces Ptleast_pieces = true)
    (uleast_pieces : K.lookup Ptleast_pieces = none)
    (eleast_pieces : h.get? Ptleast_pieces = some { cls := .none, data := .fields #[] })
    (ndP : ([Ptleast_piece, Ptleast_pieces] : List Addr).Nodup)
    (gMOST_KEYS : PySem.W.nsIn K mainGlobals "MOST_KEYS" = some (some (.int 12 tMOST_KEYS)))
    (gMOST_STATES : PySem.W.nsIn K mainGlobals "MOST_STATES" = some (some (.int 16 tMOST_STATES)))
    (z_isinstance : PySem.W.nsIn K mainGlobals "isinstance" = some none)
    (z_list : PySem.W.nsIn K mainGlobals "list" = some none)
    (z_tuple : PySem.W.nsIn K mainGlobals "tuple" = some none)
    (z_dict : PySem.W.nsIn K mainGlobals "dict" = some none)
    (z_int : PySem.W.nsIn K mainGlobals "int" = some none)
    (z_bool : PySem.W.nsIn K mainGlobals "bool" = some none)
    (z_len : PySem.W.nsIn K mainGlobals "len" = some none)
    (z_set : PySem.W.nsIn K mainGlobals "set" = some none)
    (z_sorted : PySem.W.nsIn K mainGlobals "sorted" = some none)
    (z_zip : PySem.W.nsIn K mainGlobals "zip" = some none)
    (z_enumerate : PySem.W.nsIn K mainGlobals "enumerate" = some none)
    (z_range : PySem.W.nsIn K mainGlobals "range" = some none)
    (z_min : PySem.W.nsIn K mainGlobals "min" = some none)
    (z_sum : PySem.W.nsIn K mainGlobals "sum" = some none)
    (hcMachine : PySem.W.findIn K (.ref CMachine) "__class__" = some (some (.builtin "object.__class__")))
    (hmMachine : PySem.W.mroIn K CMachine (.type "object") = some true)
    : LamX.LawAtS l w K (fun o H s E e s' => CX0 o H s E e s') 11 63 "script" mg fa h := by
  have e : flaw = fa := Value.ref.inj (Option.some.inj ((PySem.W.mg_of X G alaw).symm.trans hfa))
  subst e
  have E_BadMachine : ErrC K mg "BadMachine" CBadMachine M := err_mk (PySem.W.mg_of X G aCBadMachine) xLBadMachine saBadMachine gaBadMachine ggBadMachine hcBadMachine hn ht kCBadMachine
  have FI_BadMachine := fun_mk (st := s_BadMachine) lIBadMachine cIBadMachine kIBadMachine
  have I_BadMachine : IniT K "BadMachine.__init__" s_BadMachine CBadMachine IBadMachine _ ["self", "state", "place"] := ⟨iCBadMachine, tIBadMachine, FI_BadMachine, FI_BadMachine.binds (ps := ["self", "state", "place"]) fun _ _ _ _ _ _ us hl => match us, hl with | [_, _, _], _ => rfl⟩
  have E_TooMany : ErrC K mg "TooMany" CTooMany M := err_mk (PySem.W.mg_of X G aCTooMany) xLTooMany saTooMany gaTooMany ggTooMany hcTooMany hn ht kCTooMany
  have FI_TooMany := fun_mk (st := s_TooMany) lITooMany cITooMany kITooMany
  have I_TooMany : IniT K "TooMany.__init__" s_TooMany CTooMany ITooMany _ ["self", "what"] := ⟨iCTooMany, tITooMany, FI_TooMany, FI_TooMany.binds (ps := ["self", "what"]) fun _ _ _ _ _ _ us hl => match us, hl with | [_, _], _ => rfl⟩
  have E_BadSign : ErrC K mg "BadSign" CBadSign M := err_mk (PySem.W.mg_of X G aCBadSign) xLBadSign saBadSign gaBadSign ggBadSign hcBadSign hn ht kCBadSign
  have FI_BadSign := fun_mk (st := s_BadSign) lIBadSign cIBadSign kIBadSign
  have I_BadSign : IniT K "BadSign.__init__" s_BadSign CBadSign IBadSign _ ["self", "place"] := ⟨iCBadSign, tIBadSign, FI_BadSign, FI_BadSign.binds (ps := ["self", "place"]) fun _ _ _ _ _ _ us hl => match us, hl with | [_, _], _ => rfl⟩
  have x_TooMany_TooMany : PySem.W.exmOne K (.ref CTooMany) (.ref CTooMany) = some true := PySem.W.exm_ref ((E_TooMany.sub (.type "BaseException")).trans rfl) E_TooMany.exc.hd E_TooMany.oex.tyC s_TooMany_TooMany
  have cl_Machine : Cls K CMachine := ⟨pgMachine, hdMachine, poMachine, saMachine⟩
  have F_Machine_init := fun_mk (st := s_init) lMachine_init cMachine_init kMachine_init
  have b_Machine_init := F_Machine_init.binds (ps := ["self", "signs", "rows", "ends"]) fun _ _ _ _ _ _ us hl => match us, hl with | [_, _, _, _], _ => rfl
  have mk_Machine : Mk K CMachine fMachine_init := ⟨mkMachine, aMachine_init, iMachine_init, kcMachine⟩
  have F_Machine_walk := fun_mk (st := s_Machine_walk) lMachine_walk cMachine_walk kMachine_walk
  have b_Machine_walk := F_Machine_walk.binds (ps := ["self", "state", "text"]) fun _ _ _ _ _ _ us hl => match us, hl with | [_, _, _], _ => rfl
  have m_Machine_walk : Meth K CMachine "walk" fMachine_walk := ⟨aMachine_walk, iMachine_walk, kMachine_walk⟩
  have F_Machine_keys_of := fun_mk (st := s_Machine_keys_of) lMachine_keys_of cMachine_keys_of kMachine_keys_of
  have b_Machine_keys_of := F_Machine_keys_of.binds (ps := ["self", "text"]) fun _ _ _ _ _ _ us hl => match us, hl with | [_, _], _ => rfl
  have m_Machine_keys_of : Meth K CMachine "keys_of" fMachine_keys_of := ⟨aMachine_keys_of, iMachine_keys_of, kMachine_keys_of⟩
  have Fis_whole := fun_mk (st := s_is_whole) lis_whole cis_whole kis_whole
  have Dis_whole : DefT K mg "is_whole" "is_whole" s_is_whole ["value"] fis_whole _ := ⟨PySem.W.mg_of X G ais_whole, Fis_whole, Fis_whole.binds (ps := ["value"]) fun _ _ _ _ _ _ us hl => match us, hl with | [_], _ => rfl⟩
  have Fkey_list := fun_mk (st := s_key_list) lkey_list ckey_list kkey_list
  have Dkey_list : DefT K mg "key_list" "key_list" s_key_list ["given"] fkey_list _ := ⟨PySem.W.mg_of X G akey_list, Fkey_list, Fkey_list.binds (ps := ["given"]) fun _ _ _ _ _ _ us hl => match us, hl with | [_], _ => rfl⟩
  have Fcheck_ways := fun_mk (st := s_check_ways) lcheck_ways ccheck_ways kcheck_ways
  have Dcheck_ways : DefT K mg "check_ways" "check_ways" s_check_ways ["rows"] fcheck_ways _ := ⟨PySem.W.mg_of X G acheck_ways, Fcheck_ways, Fcheck_ways.binds (ps := ["rows"]) fun _ _ _ _ _ _ us hl => match us, hl with | [_], _ => rfl⟩
  have Fkeys_in := fun_mk (st := s_keys_in) lkeys_in ckeys_in kkeys_in
  have Dkeys_in : DefT K mg "keys_in" "keys_in" s_keys_in ["rows", "ends"] fkeys_in _ := ⟨PySem.W.mg_of X G akeys_in, Fkeys_in, Fkeys_in.binds (ps := ["rows", "ends"]) fun _ _ _ _ _ _ us hl => match us, hl with | [_, _], _ => rfl⟩
  have Fcopied := fun_mk (st := s_copied) lcopied ccopied kcopied
  have Dcopied : DefT K mg "copied" "copied" s_copied ["field"] fcopied _ := ⟨PySem.W.mg_of X G acopied, Fcopied, Fcopied.binds (ps := ["field"]) fun _ _ _ _ _ _ us hl => match us, hl with | [_], _ => rfl⟩
  have Fbuilt := fun_mk (st := s_built) lbuilt cbuilt kbuilt
  have Dbuilt : DefT K mg "built" "built" s_built ["signs", "labels", "step", "at_end"] fbuilt _ := ⟨PySem.W.mg_of X G abuilt, Fbuilt, Fbuilt.binds (ps := ["signs", "labels", "step", "at_end"]) fun _ _ _ _ _ _ us hl => match us, hl with | [_, _, _, _], _ => rfl⟩
  have Fcheck_pieces := fun_mk (st := s_check_pieces) lcheck_pieces ccheck_pieces kcheck_pieces
  have Dcheck_pieces : DefT K mg "check_pieces" "check_pieces" s_check_pieces ["many", "size", "width"] fcheck_pieces _ := ⟨PySem.W.mg_of X G acheck_pieces, Fcheck_pieces, Fcheck_pieces.binds (ps := ["many", "size", "width"]) fun _ _ _ _ _ _ us hl => match us, hl with | [_, _, _], _ => rfl⟩
  have Fpieces := fun_mk (st := s_pieces) lpieces cpieces kpieces
  have Dpieces : DefT K mg "pieces" "pieces" s_pieces ["signs", "size"] fpieces _ := ⟨PySem.W.mg_of X G apieces, Fpieces, Fpieces.binds (ps := ["signs", "size"]) fun _ _ _ _ _ _ us hl => match us, hl with | [_, _], _ => rfl⟩
  have Flightest := fun_mk (st := s_lightest) llightest clightest klightest
  have Dlightest : DefT K mg "lightest" "lightest" s_lightest ["signs", "places", "size"] flightest _ := ⟨PySem.W.mg_of X G alightest, Flightest, Flightest.binds (ps := ["signs", "places", "size"]) fun _ _ _ _ _ _ us hl => match us, hl with | [_, _, _], _ => rfl⟩
  have Fmany_of := fun_mk (st := s_many_of) lmany_of cmany_of kmany_of
  have Dmany_of : DefT K mg "many_of" "many_of" s_many_of ["many", "length"] fmany_of _ := ⟨PySem.W.mg_of X G amany_of, Fmany_of, Fmany_of.binds (ps := ["many", "length"]) fun _ _ _ _ _ _ us hl => match us, hl with | [_, _], _ => rfl⟩
  have Fmany_below := fun_mk (st := s_many_below) lmany_below cmany_below kmany_below
  have Dmany_below : DefT K mg "many_below" "many_below" s_many_below ["many", "length"] fmany_below _ := ⟨PySem.W.mg_of X G amany_below, Fmany_below, Fmany_below.binds (ps := ["many", "length"]) fun _ _ _ _ _ _ us hl => match us, hl with | [_, _], _ => rfl⟩
  have Ftexts_of := fun_mk (st := s_texts_of) ltexts_of ctexts_of ktexts_of
  have Dtexts_of : DefT K mg "texts_of" "texts_of" s_texts_of ["signs", "length"] ftexts_of _ := ⟨PySem.W.mg_of X G atexts_of, Ftexts_of, Ftexts_of.binds (ps := ["signs", "length"]) fun _ _ _ _ _ _ us hl => match us, hl with | [_, _], _ => rfl⟩
  have Ftexts_below := fun_mk (st := s_texts_below) ltexts_below ctexts_below ktexts_below
  have Dtexts_below : DefT K mg "texts_below" "texts_below" s_texts_below ["signs", "length"] ftexts_below _ := ⟨PySem.W.mg_of X G atexts_below, Ftexts_below, Ftexts_below.binds (ps := ["signs", "length"]) fun _ _ _ _ _ _ us hl => match us, hl with | [_, _], _ => rfl⟩
  have F_law_pen := fun_mk (st := s__law_pen) l_law_pen c_law_pen k_law_pen
  have D_law_pen : DefT K mg "_law_pen" "_law_pen" s__law_pen ["script"] f_law_pen _ := ⟨PySem.W.mg_of X G a_law_pen, F_law_pen, F_law_pen.binds (ps := ["script"]) fun _ _ _ _ _ _ us hl => match us, hl with | [_], _ => rfl⟩
  have F_law_draw := fun_mk (st := s__law_draw) l_law_draw c_law_draw k_law_draw
  have D_law_draw : DefT K mg "_law_draw" "_law_draw" s__law_draw ["pen", "many"] f_law_draw _ := ⟨PySem.W.mg_of X G a_law_draw, F_law_draw, F_law_draw.binds (ps := ["pen", "many"]) fun _ _ _ _ _ _ us hl => match us, hl with | [_, _], _ => rfl⟩
  have F_law_pick := fun_mk (st := s__law_pick) l_law_pick c_law_pick k_law_pick
  have D_law_pick : DefT K mg "_law_pick" "_law_pick" s__law_pick ["pen", "items"] f_law_pick _ := ⟨PySem.W.mg_of X G a_law_pick, F_law_pick, F_law_pick.binds (ps := ["pen", "items"]) fun _ _ _ _ _ _ us hl => match us, hl with | [_, _], _ => rfl⟩
  have F_law_signs := fun_mk (st := s__law_signs) l_law_signs c_law_signs k_law_signs
  have D_law_signs : DefT K mg "_law_signs" "_law_signs" s__law_signs ["pen", "many"] f_law_signs _ := ⟨PySem.W.mg_of X G a_law_signs, F_law_signs, F_law_signs.binds (ps := ["pen", "many"]) fun _ _ _ _ _ _ us hl => match us, hl with | [_, _], _ => rfl⟩
  have F_law_texts := fun_mk (st := s__law_texts) l_law_texts c_law_texts k_law_texts
  have D_law_texts : DefT K mg "_law_texts" "_law_texts" s__law_texts ["signs", "most"] f_law_texts _ := ⟨PySem.W.mg_of X G a_law_texts, F_law_texts, F_law_texts.binds (ps := ["signs", "most"]) fun _ _ _ _ _ _ us hl => match us, hl with | [_, _], _ => rfl⟩
  have F_law_text := fun_mk (st := s__law_text) l_law_text c_law_text k_law_text
  have D_law_text : DefT K mg "_law_text" "_law_text" s__law_text ["pen", "signs", "most"] f_law_text _ := ⟨PySem.W.mg_of X G a_law_text, F_law_text, F_law_text.binds (ps := ["pen", "signs", "most"]) fun _ _ _ _ _ _ us hl => match us, hl with | [_, _, _], _ => rfl⟩
  have F_law_made := fun_mk (st := s__law_made) l_law_made c_law_made k_law_made
  have D_law_made : DefT K mg "_law_made" "_law_made" s__law_made ["sort", "signs", "many", "size"] f_law_made _ := ⟨PySem.W.mg_of X G a_law_made, F_law_made, F_law_made.binds (ps := ["sort", "signs", "many", "size"]) fun _ _ _ _ _ _ us hl => match us, hl with | [_, _, _, _], _ => rfl⟩
  have F_law_number := fun_mk (st := s__law_number) l_law_number c_law_number k_law_number
  have D_law_number : DefT K mg "_law_number" "_law_number" s__law_number ["signs", "many"] f_law_number _ := ⟨PySem.W.mg_of X G a_law_number, F_law_number, F_law_number.binds (ps := ["signs", "many"]) fun _ _ _ _ _ _ us hl => match us, hl with | [_, _], _ => rfl⟩
  have F_law_bound := fun_mk (st := s__law_bound) l_law_bound c_law_bound k_law_bound
  have D_law_bound : DefT K mg "_law_bound" "_law_bound" s__law_bound ["signs", "many", "size"] f_law_bound _ := ⟨PySem.W.mg_of X G a_law_bound, F_law_bound, F_law_bound.binds (ps := ["signs", "many", "size"]) fun _ _ _ _ _ _ us hl => match us, hl with | [_, _, _], _ => rfl⟩
  have F_law_least := fun_mk (st := s__law_least) l_law_least c_law_least k_law_least
  have D_law_least : DefT K mg "_law_least" "_law_least" s__law_least ["signs", "runs"] f_law_least _ := ⟨PySem.W.mg_of X G a_law_least, F_law_least, F_law_least.binds (ps := ["signs", "runs"]) fun _ _ _ _ _ _ us hl => match us, hl with | [_, _], _ => rfl⟩
  have F_law_due := fun_mk (st := s__law_due) l_law_due c_law_due k_law_due
  have D_law_due : DefT K mg "_law_due" "_law_due" s__law_due ["sort", "signs", "text", "many", "size"] f_law_due _ := ⟨PySem.W.mg_of X G a_law_due, F_law_due, F_law_due.binds (ps := ["sort", "signs", "text", "many", "size"]) fun _ _ _ _ _ _ us hl => match us, hl with | [_, _, _, _, _], _ => rfl⟩
  have Flaw := fun_mk (st := s_law) llaw claw klaw
  have Dlaw : DefT K mg "law" "law" s_law ["script"] flaw _ := ⟨PySem.W.mg_of X G alaw, Flaw, Flaw.binds (ps := ["script"]) fun _ _ _ _ _ _ us hl => match us, hl with | [_], _ => rfl⟩
  have FCleast_piece : FunC K "least_piece" "least_piece" s_least_piece fleast_piece _ ccleast_piece := ⟨⟨_, _, _, _, _, _, _, _, rfl, lleast_piece, cleast_piece⟩, kleast_piece⟩
  have bCleast_piece := FCleast_piece.fn.binds (ps := ["signs", "text", "size"]) fun _ _ _ _ _ _ us hl => match us, hl with | [_, _, _], _ => rfl
  have FCleast_pieces : FunC K "least_pieces" "least_pieces" s_least_pieces fleast_pieces _ ccleast_pieces := ⟨⟨_, _, _, _, _, _, _, _, rfl, lleast_pieces, cleast_pieces⟩, kleast_pieces⟩
  have bCleast_pieces := FCleast_pieces.fn.binds (ps := ["letter", "signs", "places", "size"]) fun _ _ _ _ _ _ us hl => match us, hl with | [_, _, _, _], _ => rfl
  have g_MOST_KEYS := PySem.W.mg_of X G gMOST_KEYS
  have g_MOST_STATES := PySem.W.mg_of X G gMOST_STATES
  have n_isinstance := PySem.W.mg_none_of X G z_isinstance
  have n_list := PySem.W.mg_none_of X G z_list
  have n_tuple := PySem.W.mg_none_of X G z_tuple
  have n_dict := PySem.W.mg_none_of X G z_dict
  have n_int := PySem.W.mg_none_of X G z_int
  have n_bool := PySem.W.mg_none_of X G z_bool
  have n_len := PySem.W.mg_none_of X G z_len
  have n_set := PySem.W.mg_none_of X G z_set
  have n_sorted := PySem.W.mg_none_of X G z_sorted
  have n_zip := PySem.W.mg_none_of X G z_zip
  have n_enumerate := PySem.W.mg_none_of X G z_enumerate
  have n_range := PySem.W.mg_none_of X G z_range
  have n_min := PySem.W.mg_none_of X G z_min
  have n_sum := PySem.W.mg_none_of X G z_sum
  let A : EAd := { M := M, c1 := CBadMachine, c2 := CTooMany, i1 := IBadMachine, i2 := ITooMany, e1 := PySem.W.fnOf "__init__" "BadMachine.__init__" (defArgs s_BadMachine) (defBody s_BadMachine) (defScope s_BadMachine) .none kViBadMachine dciBadMachine pmiBadMachine aniBadMachine cdiBadMachine ctiBadMachine, e2 := PySem.W.fnOf "__init__" "TooMany.__init__" (defArgs s_TooMany) (defBody s_TooMany) (defScope s_TooMany) .none kViTooMany dciTooMany pmiTooMany aniTooMany cdiTooMany ctiTooMany, fc := fcopied, dc := PySem.W.fnOf "copied" "copied" (defArgs s_copied) (defBody s_copied) (defScope s_copied) .none kVcopied dccopied pmcopied ancopied cdcopied ctcopied }
  have TE : TxtE K mg A := ⟨E_BadMachine, I_BadMachine, nfBadMachine_state, nfBadMachine_place, E_TooMany, I_TooMany, nfTooMany_what, Dcopied, n_isinstance, n_list, n_tuple, n_dict⟩
  let B : MAd := { f1 := fis_whole, f2 := fkey_list, f3 := fcheck_ways, f4 := fkeys_in, d1 := PySem.W.fnOf "is_whole" "is_whole" (defArgs s_is_whole) (defBody s_is_whole) (defScope s_is_whole) .none kVis_whole dcis_whole pmis_whole anis_whole cdis_whole ctis_whole, d2 := PySem.W.fnOf "key_list" "key_list" (defArgs s_key_list) (defBody s_key_list) (defScope s_key_list) .none kVkey_list dckey_list pmkey_list ankey_list cdkey_list ctkey_list, d3 := PySem.W.fnOf "check_ways" "check_ways" (defArgs s_check_ways) (defBody s_check_ways) (defScope s_check_ways) .none kVcheck_ways dccheck_ways pmcheck_ways ancheck_ways cdcheck_ways ctcheck_ways, d4 := PySem.W.fnOf "keys_in" "keys_in" (defArgs s_keys_in) (defBody s_keys_in) (defScope s_keys_in) .none kVkeys_in dckeys_in pmkeys_in ankeys_in cdkeys_in ctkeys_in }
  have TM : TxtM K mg B := ⟨Dis_whole, Dkey_list, Dcheck_ways, Dkeys_in, n_isinstance, n_int, n_bool, n_len, n_set, n_sorted, n_tuple, n_zip, n_enumerate⟩
  let Z : CAd := { C := CMachine, f := fMachine_init, d := PySem.W.fnOf "__init__" "Machine.__init__" (defArgs s_init) (defBody s_init) (defScope s_init) .none kVMachine_init dcMachine_init pmMachine_init anMachine_init cdMachine_init ctMachine_init }
  have TC : TxtC K mg Z := ⟨cl_Machine, mk_Machine, F_Machine_init, b_Machine_init, PySem.W.mg_of X G aCMachine, naMachine_signs, naMachine_rows, naMachine_ends, naMachine_all_keys, naMachine__ways, ⟨_, g_MOST_KEYS⟩⟩
  let S : SAd := { c := CBadSign, i := IBadSign, e := PySem.W.fnOf "__init__" "BadSign.__init__" (defArgs s_BadSign) (defBody s_BadSign) (defScope s_BadSign) .none kViBadSign dciBadSign pmiBadSign aniBadSign cdiBadSign ctiBadSign, fw := fMachine_walk, fk := fMachine_keys_of, dw := PySem.W.fnOf "walk" "Machine.walk" (defArgs s_Machine_walk) (defBody s_Machine_walk) (defScope s_Machine_walk) .none kVMachine_walk dcMachine_walk pmMachine_walk anMachine_walk cdMachine_walk ctMachine_walk, dk := PySem.W.fnOf "keys_of" "Machine.keys_of" (defArgs s_Machine_keys_of) (defBody s_Machine_keys_of) (defScope s_Machine_keys_of) .none kVMachine_keys_of dcMachine_keys_of pmMachine_keys_of anMachine_keys_of cdMachine_keys_of ctMachine_keys_of }
  have TS : TxtS K mg A Z S := ⟨E_BadSign, I_BadSign, nfBadSign_place, m_Machine_walk, F_Machine_walk, b_Machine_walk, m_Machine_keys_of, F_Machine_keys_of, b_Machine_keys_of⟩
  let F : FAd := { fo := fmany_of, fb := fmany_below, ft := ftexts_of, fw := ftexts_below, dO := PySem.W.fnOf "many_of" "many_of" (defArgs s_many_of) (defBody s_many_of) (defScope s_many_of) .none kVmany_of dcmany_of pmmany_of anmany_of cdmany_of ctmany_of, db := PySem.W.fnOf "many_below" "many_below" (defArgs s_many_below) (defBody s_many_below) (defScope s_many_below) .none kVmany_below dcmany_below pmmany_below anmany_below cdmany_below ctmany_below, dt := PySem.W.fnOf "texts_of" "texts_of" (defArgs s_texts_of) (defBody s_texts_of) (defScope s_texts_of) .none kVtexts_of dctexts_of pmtexts_of antexts_of cdtexts_of cttexts_of, dw := PySem.W.fnOf "texts_below" "texts_below" (defArgs s_texts_below) (defBody s_texts_below) (defScope s_texts_below) .none kVtexts_below dctexts_below pmtexts_below antexts_below cdtexts_below cttexts_below }
  have TF : TxtF K mg F := ⟨Dmany_of, Dmany_below, Dtexts_of, Dtexts_below, n_range, n_sum⟩
  have TBu : TxtBu K mg fbuilt (PySem.W.fnOf "built" "built" (defArgs s_built) (defBody s_built) (defScope s_built) .none kVbuilt dcbuilt pmbuilt anbuilt cdbuilt ctbuilt) := ⟨Dbuilt, n_enumerate⟩
  have TCp : TxtCp K mg fcheck_pieces (PySem.W.fnOf "check_pieces" "check_pieces" (defArgs s_check_pieces) (defBody s_check_pieces) (defScope s_check_pieces) .none kVcheck_pieces dccheck_pieces pmcheck_pieces ancheck_pieces cdcheck_pieces ctcheck_pieces) := ⟨Dcheck_pieces, ⟨_, g_MOST_KEYS⟩, ⟨_, g_MOST_STATES⟩⟩
  let L : LAd := { f1 := f_law_signs, d1 := PySem.W.fnOf "_law_signs" "_law_signs" (defArgs s__law_signs) (defBody s__law_signs) (defScope s__law_signs) .none kV_law_signs dc_law_signs pm_law_signs an_law_signs cd_law_signs ct_law_signs, p1 := f_law_pen, p2 := f_law_draw, p3 := f_law_pick, q1 := PySem.W.fnOf "_law_pen" "_law_pen" (defArgs s__law_pen) (defBody s__law_pen) (defScope s__law_pen) .none kV_law_pen dc_law_pen pm_law_pen an_law_pen cd_law_pen ct_law_pen, q2 := PySem.W.fnOf "_law_draw" "_law_draw" (defArgs s__law_draw) (defBody s__law_draw) (defScope s__law_draw) .none kV_law_draw dc_law_draw pm_law_draw an_law_draw cd_law_draw ct_law_draw, q3 := PySem.W.fnOf "_law_pick" "_law_pick" (defArgs s__law_pick) (defBody s__law_pick) (defScope s__law_pick) .none kV_law_pick dc_law_pick pm_law_pick an_law_pick cd_law_pick ct_law_pick }
  have TP : TxtP K mg f_law_pen f_law_draw f_law_pick (PySem.W.fnOf "_law_pen" "_law_pen" (defArgs s__law_pen) (defBody s__law_pen) (defScope s__law_pen) .none kV_law_pen dc_law_pen pm_law_pen an_law_pen cd_law_pen ct_law_pen) (PySem.W.fnOf "_law_draw" "_law_draw" (defArgs s__law_draw) (defBody s__law_draw) (defScope s__law_draw) .none kV_law_draw dc_law_draw pm_law_draw an_law_draw cd_law_draw ct_law_draw) (PySem.W.fnOf "_law_pick" "_law_pick" (defArgs s__law_pick) (defBody s__law_pick) (defScope s__law_pick) .none kV_law_pick dc_law_pick pm_law_pick an_law_pick cd_law_pick ct_law_pick) := ⟨D_law_pen, D_law_draw, D_law_pick, n_list, n_int, n_len⟩
  have TL : TxtL K mg L := ⟨TP, D_law_signs, n_len, n_range⟩
  let D : DAd := { fM := f_law_made, dM := PySem.W.fnOf "_law_made" "_law_made" (defArgs s__law_made) (defBody s__law_made) (defScope s__law_made) .none kV_law_made dc_law_made pm_law_made an_law_made cd_law_made ct_law_made, fT := f_law_text, dT := PySem.W.fnOf "_law_text" "_law_text" (defArgs s__law_text) (defBody s__law_text) (defScope s__law_text) .none kV_law_text dc_law_text pm_law_text an_law_text cd_law_text ct_law_text, fX := f_law_texts, dX := PySem.W.fnOf "_law_texts" "_law_texts" (defArgs s__law_texts) (defBody s__law_texts) (defScope s__law_texts) .none kV_law_texts dc_law_texts pm_law_texts an_law_texts cd_law_texts ct_law_texts, fb := fbuilt, db := PySem.W.fnOf "built" "built" (defArgs s_built) (defBody s_built) (defScope s_built) .none kVbuilt dcbuilt pmbuilt anbuilt cdbuilt ctbuilt, fl := fleast_pieces, dl := (PySem.W.fnOf "least_pieces" "least_pieces" (defArgs s_least_pieces) (defBody s_least_pieces) (defScope s_least_pieces) .none kVleast_pieces dcleast_pieces pmleast_pieces anleast_pieces (.ref ccleast_pieces) ctleast_pieces), cl := ccleast_pieces, Pl := Ptleast_pieces, fp := fleast_piece, dp := (PySem.W.fnOf "least_piece" "least_piece" (defArgs s_least_piece) (defBody s_least_piece) (defScope s_least_piece) .none kVleast_piece dcleast_piece pmleast_piece anleast_piece (.ref ccleast_piece) ctleast_piece), cp := ccleast_piece, Pp := Ptleast_piece, fc := fcheck_pieces, dc := PySem.W.fnOf "check_pieces" "check_pieces" (defArgs s_check_pieces) (defBody s_check_pieces) (defScope s_check_pieces) .none kVcheck_pieces dccheck_pieces pmcheck_pieces ancheck_pieces cdcheck_pieces ctcheck_pieces, f0 := fpieces, d0 := PySem.W.fnOf "pieces" "pieces" (defArgs s_pieces) (defBody s_pieces) (defScope s_pieces) .none kVpieces dcpieces pmpieces anpieces cdpieces ctpieces, f1 := flightest, d1 := PySem.W.fnOf "lightest" "lightest" (defArgs s_lightest) (defBody s_lightest) (defScope s_lightest) .none kVlightest dclightest pmlightest anlightest cdlightest ctlightest, fn := f_law_number, dn := PySem.W.fnOf "_law_number" "_law_number" (defArgs s__law_number) (defBody s__law_number) (defScope s__law_number) .none kV_law_number dc_law_number pm_law_number an_law_number cd_law_number ct_law_number, fo := f_law_bound, do_ := PySem.W.fnOf "_law_bound" "_law_bound" (defArgs s__law_bound) (defBody s__law_bound) (defScope s__law_bound) .none kV_law_bound dc_law_bound pm_law_bound an_law_bound cd_law_bound ct_law_bound, fe := f_law_least, de := PySem.W.fnOf "_law_least" "_law_least" (defArgs s__law_least) (defBody s__law_least) (defScope s__law_least) .none kV_law_least dc_law_least pm_law_least an_law_least cd_law_least ct_law_least, fu := f_law_due, du := PySem.W.fnOf "_law_due" "_law_due" (defArgs s__law_due) (defBody s__law_due) (defScope s__law_due) .none kV_law_due dc_law_due pm_law_due an_law_due cd_law_due ct_law_due }
  have dist : ∀ {P : Addr} {g : Nat → Nat → Str}, (P, g) ∈ [(Ptleast_piece, nmLp), (Ptleast_pieces, nmLs)] → ∀ p ∈ [(Ptleast_piece, nmLp), (Ptleast_pieces, nmLs)], p.1 = P → p.2 = g := fun {P g} hm p hp e => pairs_one [(Ptleast_piece, nmLp), (Ptleast_pieces, nmLs)] (by simpa using ndP) hp hm e
  refine ⟨PySem.W.fnOf "law" "law" (defArgs s_law) (defBody s_law) (defScope s_law) .none kVlaw dclaw pmlaw anlaw cdlaw ctlaw, [(ccleast_piece, Ptleast_piece), (ccleast_pieces, Ptleast_pieces)], spLaw K [(Ptleast_piece, nmLp), (Ptleast_pieces, nmLs)], ?_, ?_, ?_, fun s v => .of_eq rfl, fun H a ns hl _ hT hS => ⟨a, ns, rfl, hS, hl, fun p hp => ?_, fun _ => rfl⟩, fun base Xb Gb hb => ?_⟩
  · intro p hp
    simp only [List.mem_cons, List.not_mem_nil, or_false] at hp
    rcases hp with rfl | rfl
    all_goals assumption
  · intro p hp
    simp only [List.mem_cons, List.not_mem_nil, or_false] at hp
    rcases hp with rfl | rfl
    all_goals assumption
  · intro p hp
    simp only [List.mem_cons, List.not_mem_nil, or_false] at hp
    rcases hp with rfl | rfl
    all_goals exact PySem.W.codeHd_of_K X (by assumption)
  · have hT' := hT
    simp only [List.mem_cons, List.not_mem_nil, or_false] at hp
    rcases hp with rfl | rfl
    · exact NdefX.TabN.nil (hT (ccleast_piece, Ptleast_piece) (by simp))
    · exact NdefX.TabN.nil (hT (ccleast_pieces, Ptleast_pieces) (by simp))
  · have T0 : TxtLp K mg base [(Ptleast_piece, nmLp), (Ptleast_pieces, nmLs)] fleast_piece _ ccleast_piece Ptleast_piece := ⟨PySem.W.mg_of X G aleast_piece, FCleast_piece, bCleast_piece, hb (ccleast_piece, Ptleast_piece) (by simp), by simp, dist (by simp), n_len, n_range, n_min⟩
    have T1 : TxtLs K mg base [(Ptleast_piece, nmLp), (Ptleast_pieces, nmLs)] fleast_pieces _ ccleast_pieces Ptleast_pieces := ⟨PySem.W.mg_of X G aleast_pieces, FCleast_pieces, bCleast_pieces, hb (ccleast_pieces, Ptleast_pieces) (by simp), by simp, dist (by simp), n_len⟩
    have T : TxtW K mg base [(Ptleast_piece, nmLp), (Ptleast_pieces, nmLs)] A B Z S F D L flaw (PySem.W.fnOf "law" "law" (defArgs s_law) (defBody s_law) (defScope s_law) .none kVlaw dclaw pmlaw anlaw cdlaw ctlaw) := ⟨TM, TE, TC, TS, TF, TBu, T0, TCp, T1, ⟨Dpieces, Dlightest⟩, ⟨D_law_made, x_TooMany_TooMany⟩, ⟨D_law_number, D_law_bound, n_range, n_len⟩, ⟨D_law_least, D_law_due, n_range, n_len, n_tuple, n_sorted, n_set⟩, ⟨D_law_texts, n_range⟩, ⟨TP, D_law_text, n_range⟩, TL, Dlaw, n_range, n_min, n_len, n_isinstance, hcMachine, hn, ht, hmMachine⟩
    exact ok_law T
theorem walk {l : PySem.W.OpenLaw} {q : Program} {loose : List Str} {XP : (Str → Option Value) → Heap → Prop} {YP : World → Heap → Prop} {d : DefRec} (hn : l.most = some 63) (hdf : d.params.defaults = [])
    (F : ∀ (w : World) (mg : Str → Option Value) (fa : Addr) (h : Heap), YP w h → h.Ns mainGlobals mg → mg d.name = some (.ref fa) → ∃ K : PySem.W.Frag, K.In h ∧ LamX.LawAtS l w K (fun o H s E e s' => CX0 o H s E e s') 11 63 "script" mg fa h) :
    PySem.W.WalkO q loose XP YP l.row.toRowW d [] (fun f vs => PySem.call f vs) :=
  LamX.walk_ofTsE (n := 63) (k := 11) (x := "script") (CX := fun _ o H s E e s' => CX0 o H s E e s') hn (by decide) hdf ⟨rfl, by decide, by decide⟩ F fun _ _ _ _ _ z => z
end Kx

open PySem PySem.W PyProof.Rows
set_option maxRecDepth 100000 in
set_option maxHeartbeats 0 in
theorem PySem.Challenge.cw_nevermiss_k08_pieces_and_lightest_holds : PySem.Challenge.rw_nevermiss_k08_pieces_and_lightest.Holds := by
  w_on; o_law; km_head; (case hw => w_witness2)
  k_fill
  refine Kx.walk (l := PySem.Challenge.rw_nevermiss_k08_pieces_and_lightest) rfl rfl ?F
  case F =>
    intro w mg fa h Y G hmg
    have KX := km_in_of Y
    refine' ⟨_, KX, ?_⟩
    refine' Kx.all_mk KX G hmg ?hn ?ht ?aM ?m1 ?m2 ?m3 ?aCBadMachine ?xLBadMachine ?saBadMachine ?gaBadMachine ?ggBadMachine ?hcBadMachine ?kCBadMachine ?iCBadMachine ?tIBadMachine ?lIBadMachine ?cIBadMachine ?kIBadMachine ?nfBadMachine_state ?nfBadMachine_place ?aCTooMany ?xLTooMany ?saTooMany ?gaTooMany ?ggTooMany ?hcTooMany ?kCTooMany ?iCTooMany ?tITooMany ?lITooMany ?cITooMany ?kITooMany ?nfTooMany_what ?aCBadSign ?xLBadSign ?saBadSign ?gaBadSign ?ggBadSign ?hcBadSign ?kCBadSign ?iCBadSign ?tIBadSign ?lIBadSign ?cIBadSign ?kIBadSign ?nfBadSign_place ?s_TooMany_TooMany ?aCMachine ?pgMachine ?hdMachine ?poMachine ?saMachine ?mkMachine ?kcMachine ?naMachine_signs ?naMachine_rows ?naMachine_ends ?naMachine_all_keys ?naMachine__ways ?aMachine_init ?iMachine_init ?lMachine_init ?cMachine_init ?kMachine_init ?aMachine_walk ?iMachine_walk ?lMachine_walk ?cMachine_walk ?kMachine_walk ?aMachine_keys_of ?iMachine_keys_of ?lMachine_keys_of ?cMachine_keys_of ?kMachine_keys_of ?ais_whole ?lis_whole ?cis_whole ?kis_whole ?akey_list ?lkey_list ?ckey_list ?kkey_list ?acheck_ways ?lcheck_ways ?ccheck_ways ?kcheck_ways ?akeys_in ?lkeys_in ?ckeys_in ?kkeys_in ?acopied ?lcopied ?ccopied ?kcopied ?abuilt ?lbuilt ?cbuilt ?kbuilt ?acheck_pieces ?lcheck_pieces ?ccheck_pieces ?kcheck_pieces ?apieces ?lpieces ?cpieces ?kpieces ?alightest ?llightest ?clightest ?klightest ?amany_of ?lmany_of ?cmany_of ?kmany_of ?amany_below ?lmany_below ?cmany_below ?kmany_below ?atexts_of ?ltexts_of ?ctexts_of ?ktexts_of ?atexts_below ?ltexts_below ?ctexts_below ?ktexts_below ?a_law_pen ?l_law_pen ?c_law_pen ?k_law_pen ?a_law_draw ?l_law_draw ?c_law_draw ?k_law_draw ?a_law_pick ?l_law_pick ?c_law_pick ?k_law_pick ?a_law_signs ?l_law_signs ?c_law_signs ?k_law_signs ?a_law_texts ?l_law_texts ?c_law_texts ?k_law_texts ?a_law_text ?l_law_text ?c_law_text ?k_law_text ?a_law_made ?l_law_made ?c_law_made ?k_law_made ?a_law_number ?l_law_number ?c_law_number ?k_law_number ?a_law_bound ?l_law_bound ?c_law_bound ?k_law_bound ?a_law_least ?l_law_least ?c_law_least ?k_law_least ?a_law_due ?l_law_due ?c_law_due ?k_law_due ?alaw ?llaw ?claw ?klaw ?aleast_piece ?lleast_piece ?cleast_piece ?kleast_piece ?vleast_piece ?pleast_piece ?hleast_piece ?uleast_piece ?eleast_piece ?aleast_pieces ?lleast_pieces ?cleast_pieces ?kleast_pieces ?vleast_pieces ?pleast_pieces ?hleast_pieces ?uleast_pieces ?eleast_pieces ?ndP ?gMOST_KEYS ?gMOST_STATES ?z_isinstance ?z_list ?z_tuple ?z_dict ?z_int ?z_bool ?z_len ?z_set ?z_sorted ?z_zip ?z_enumerate ?z_range ?z_min ?z_sum ?hcMachine ?hmMachine
    (case hn => k_is)
    (case ht => k_is)
    (case aM => k_is)
    (case m1 => k_is)
    (case m2 => k_is)
    (case m3 => k_is)
    (case aCBadMachine => k_is)
    (case xLBadMachine => k_is)
    (case saBadMachine => k_is)
    (case gaBadMachine => k_is)
    (case ggBadMachine => k_is)
    (case hcBadMachine => k_is)
    (case kCBadMachine => k_is)
    (case iCBadMachine => k_is)
    (case tIBadMachine => k_is)
    (case lIBadMachine => k_is)
    (case cIBadMachine => k_is)
    (case kIBadMachine => k_is)
    (case nfBadMachine_state => k_is)
    (case nfBadMachine_place => k_is)
    (case aCTooMany => k_is)
    (case xLTooMany => k_is)
    (case saTooMany => k_is)
    (case gaTooMany => k_is)
    (case ggTooMany => k_is)
    (case hcTooMany => k_is)
    (case kCTooMany => k_is)
    (case iCTooMany => k_is)
    (case tITooMany => k_is)
    (case lITooMany => k_is)
    (case cITooMany => k_is)
    (case kITooMany => k_is)
    (case nfTooMany_what => k_is)
    (case aCBadSign => k_is)
    (case xLBadSign => k_is)
    (case saBadSign => k_is)
    (case gaBadSign => k_is)
    (case ggBadSign => k_is)
    (case hcBadSign => k_is)
    (case kCBadSign => k_is)
    (case iCBadSign => k_is)
    (case tIBadSign => k_is)
    (case lIBadSign => k_is)
    (case cIBadSign => k_is)
    (case kIBadSign => k_is)
    (case nfBadSign_place => k_is)
    (case s_TooMany_TooMany => k_is)
    (case aCMachine => k_is)
    (case pgMachine => k_is)
    (case hdMachine => k_is)
    (case poMachine => k_is)
    (case saMachine => k_is)
    (case mkMachine => k_is)
    (case kcMachine => k_is)
    (case naMachine_signs => k_is)
    (case naMachine_rows => k_is)
    (case naMachine_ends => k_is)
    (case naMachine_all_keys => k_is)
    (case naMachine__ways => k_is)
    (case aMachine_init => k_is)
    (case iMachine_init => k_is)
    (case lMachine_init => k_is)
    (case cMachine_init => k_is)
    (case kMachine_init => k_is)
    (case aMachine_walk => k_is)
    (case iMachine_walk => k_is)
    (case lMachine_walk => k_is)
    (case cMachine_walk => k_is)
    (case kMachine_walk => k_is)
    (case aMachine_keys_of => k_is)
    (case iMachine_keys_of => k_is)
    (case lMachine_keys_of => k_is)
    (case cMachine_keys_of => k_is)
    (case kMachine_keys_of => k_is)
    (case ais_whole => k_is)
    (case lis_whole => k_is)
    (case cis_whole => k_is)
    (case kis_whole => k_is)
    (case akey_list => k_is)
    (case lkey_list => k_is)
    (case ckey_list => k_is)
    (case kkey_list => k_is)
    (case acheck_ways => k_is)
    (case lcheck_ways => k_is)
    (case ccheck_ways => k_is)
    (case kcheck_ways => k_is)
    (case akeys_in => k_is)
    (case lkeys_in => k_is)
    (case ckeys_in => k_is)
    (case kkeys_in => k_is)
    (case acopied => k_is)
    (case lcopied => k_is)
    (case ccopied => k_is)
    (case kcopied => k_is)
    (case abuilt => k_is)
    (case lbuilt => k_is)
    (case cbuilt => k_is)
    (case kbuilt => k_is)
    (case acheck_pieces => k_is)
    (case lcheck_pieces => k_is)
    (case ccheck_pieces => k_is)
    (case kcheck_pieces => k_is)
    (case apieces => k_is)
    (case lpieces => k_is)
    (case cpieces => k_is)
    (case kpieces => k_is)
    (case alightest => k_is)
    (case llightest => k_is)
    (case clightest => k_is)
    (case klightest => k_is)
    (case amany_of => k_is)
    (case lmany_of => k_is)
    (case cmany_of => k_is)
    (case kmany_of => k_is)
    (case amany_below => k_is)
    (case lmany_below => k_is)
    (case cmany_below => k_is)
    (case kmany_below => k_is)
    (case atexts_of => k_is)
    (case ltexts_of => k_is)
    (case ctexts_of => k_is)
    (case ktexts_of => k_is)
    (case atexts_below => k_is)
    (case ltexts_below => k_is)
    (case ctexts_below => k_is)
    (case ktexts_below => k_is)
    (case a_law_pen => k_is)
    (case l_law_pen => k_is)
    (case c_law_pen => k_is)
    (case k_law_pen => k_is)
    (case a_law_draw => k_is)
    (case l_law_draw => k_is)
    (case c_law_draw => k_is)
    (case k_law_draw => k_is)
    (case a_law_pick => k_is)
    (case l_law_pick => k_is)
    (case c_law_pick => k_is)
    (case k_law_pick => k_is)
    (case a_law_signs => k_is)
    (case l_law_signs => k_is)
    (case c_law_signs => k_is)
    (case k_law_signs => k_is)
    (case a_law_texts => k_is)
    (case l_law_texts => k_is)
    (case c_law_texts => k_is)
    (case k_law_texts => k_is)
    (case a_law_text => k_is)
    (case l_law_text => k_is)
    (case c_law_text => k_is)
    (case k_law_text => k_is)
    (case a_law_made => k_is)
    (case l_law_made => k_is)
    (case c_law_made => k_is)
    (case k_law_made => k_is)
    (case a_law_number => k_is)
    (case l_law_number => k_is)
    (case c_law_number => k_is)
    (case k_law_number => k_is)
    (case a_law_bound => k_is)
    (case l_law_bound => k_is)
    (case c_law_bound => k_is)
    (case k_law_bound => k_is)
    (case a_law_least => k_is)
    (case l_law_least => k_is)
    (case c_law_least => k_is)
    (case k_law_least => k_is)
    (case a_law_due => k_is)
    (case l_law_due => k_is)
    (case c_law_due => k_is)
    (case k_law_due => k_is)
    (case alaw => k_is)
    (case llaw => k_is)
    (case claw => k_is)
    (case klaw => k_is)
    (case aleast_piece => k_is)
    (case lleast_piece => k_is)
    (case cleast_piece => k_is)
    (case kleast_piece => k_is)
    (case vleast_piece => k_is)
    (case pleast_piece => rfl)
    (case hleast_piece => kernel_rfl)
    (case uleast_piece => kernel_rfl)
    (case eleast_piece => exact km_tabs_of Y _ (by k_mem))
    (case aleast_pieces => k_is)
    (case lleast_pieces => k_is)
    (case cleast_pieces => k_is)
    (case kleast_pieces => k_is)
    (case vleast_pieces => k_is)
    (case pleast_pieces => rfl)
    (case hleast_pieces => kernel_rfl)
    (case uleast_pieces => kernel_rfl)
    (case eleast_pieces => exact km_tabs_of Y _ (by k_mem))
    (case ndP => decide)
    (case gMOST_KEYS => k_is)
    (case gMOST_STATES => k_is)
    (case z_isinstance => k_is)
    (case z_list => k_is)
    (case z_tuple => k_is)
    (case z_dict => k_is)
    (case z_int => k_is)
    (case z_bool => k_is)
    (case z_len => k_is)
    (case z_set => k_is)
    (case z_sorted => k_is)
    (case z_zip => k_is)
    (case z_enumerate => k_is)
    (case z_range => k_is)
    (case z_min => k_is)
    (case z_sum => k_is)
    (case hcMachine => k_is)
    (case hmMachine => k_is)

