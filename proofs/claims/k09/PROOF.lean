import PyProof.Rows.All
import Wide.All
import OpenK.AllK
import Wide.FinOn
import HandS.ForMost
import HandS.ForExc
import HandS.ExcInit
import HandS.ExcField
import HandS.ExcIs
import HandS.ExcValue
import HandS.HotCalls
import HandS.MakeKwOnly
import HandS.IsInst
import HandS.Conv
import HandS.Wide
import HandS.Codes
import KE.KExcIs
import HandS.Strs
import HandS.SetTxt0
import HandS.SetFor
import PyProof.StrWalks
import PyProof.WalksMore
import PyProof.SetRoads
import PyProof.Rows.SortShellAny
import HandS.AnyAll
import HandS.Comp
import HandS.Walk
import HandS.Zip
import HandS.Star
import HandS.Flow
import HandS.DictComp
import HandS.List
import HandS.Text
import PyProof.AutoSeq1
import PyProof.StrBlock2
import KE.GoesMore
import HandS.Nested
import HandS.Words
import HandS.WordsExc
import HandS.ExcOwn
import KE.KeyNested
import PyProof.Rows.TupTab
import HandS.LawCells
import KE.KDictDisplayH
import PyProof.CollectStr
import HandS.OwnEq
import HandS.TupAny
import HandS.Style
import HandS.Deep
import PyProof.ListStr
import KE.KNestM
import HandS.EndTab
import HandS.HeadWalk
import HandS.NestedK
import PySem.Challenge.RW_nevermiss_k09_folded_and_beside
set_option Elab.async false
set_option linter.all false
set_option maxRecDepth 100000
set_option maxHeartbeats 4000000
/-! An own exception class called with keywords: its own __init__ sees them. -/
namespace Own
open PySem PySem.Calls PySem.HandSPX
section
variable {prog : Program} {wo : World} {Ar : Around} {hp : Heap} {gs : Array GenState} {dr : Drawn} {tk : Nat} {os : OsState} {kw : List (Str × Value)}
variable {nm qn : Str} {Cl Ns : Addr} {bases tail full : List Value} {slots : List Str} {subs : List Value} {abst : Bool} {coll : Option Bool} {dict : Option Addr} {s0 s1 s2 s3 s5 : Option Value} {hd : Bool} {Base new ini : String}
local macro_rules | `(tactic| walk_at "stp") => `(tactic| first | with_reducible refine wpAny_loadPart_at (by assumption) ?_ | with_reducible refine wpAny_madeBy_exc (by assumption) ?_ | wp_step)
/-- what stands of the class at Cl -/
abbrev Has (hp : Heap) (nm qn : Str) (Cl Ns : Addr) (bases tail : List Value) (hd : Bool) (slots : List Str) (subs : List Value) (abst : Bool) (coll : Option Bool) (dict : Option Addr) (s0 s1 s2 s3 s5 : Option Value) (new : String) : Prop :=
  hp.get? Cl = some (excClassObj nm qn Cl Ns bases tail hd slots subs abst coll dict s0 s1 s2 s3 s5 new)
theorem inTail (F : ExcBaseFacts Base new ini full) (same : ∀ T : String, tail.contains (.type T) = full.contains (.type T)) : (Value.ref Cl :: tail).contains (.type Base) = true := by
  rw [List.contains_cons, same, F.hasB]
  exact Bool.or_true _
theorem seen {Q : Unit → Shared → Prop} {E : Value → Shared → Prop} (F : ExcBaseFacts Base new ini full) (same : ∀ T : String, tail.contains (.type T) = full.contains (.type T)) (h : Has hp nm qn Cl Ns bases tail hd slots subs abst coll dict s0 s1 s2 s3 s5 new)
    (k : Q () ⟨hp, gs, dr, tk, os⟩) : wpAny (model prog wo) Ar (checkBuiltinCall new ⟨[.ref Cl], kw⟩) Q E ⟨hp, gs, dr, tk, os⟩ := by
  have within := inTail (Cl := Cl) F same
  have ns := F.noStar
  unfold checkBuiltinCall
  simp only [F.newKind, F.newSplit, F.newRow]
  repeat (first | (refine wpAny_isSubtype_exc h ?_; rw [within]) | refine wpAny_staticBase_exc h ?_ | refine wpAny_madeBy_exc h ?_ | refine wpAny_loadPart_at h ?_ | simp only [Bool.false_eq_true, bne_self_eq_false, if_false] | wp_step)
  exact k
theorem bare {R : Result → Shared → Prop} (F : ExcBaseFacts Base new ini full) (same : ∀ T : String, tail.contains (.type T) = full.contains (.type T)) (h : Has hp nm qn Cl Ns bases tail hd slots subs abst coll dict s0 s1 s2 s3 s5 new)
    (k : R (.ok (.ret (.ref (hp.objs.size + 1)))) ⟨(hp.push (W.kdv_tup [])).push (excO Cl hp.objs.size), gs, dr, tk, os⟩) : codeAny (model prog wo) Ar (.builtin new ⟨[.ref Cl], kw⟩) R ⟨hp, gs, dr, tk, os⟩ := by
  have i1 := inTail (Cl := Cl) F same
  have i2 : (Value.ref Cl :: tail).contains (.type "AttributeError") = false := by rw [List.contains_cons, same, F.noAttr] <;> rfl
  have i3 : (Value.ref Cl :: tail).contains (.type "NameError") = false := by rw [List.contains_cons, same, F.noName] <;> rfl
  have en := F.ends
  apply codeAny_builtinAt F.entry
  unfold Builtin.«BaseException.__new__»
  apply wpAt_bind
  apply wpAt_bind
  apply wpAt_stack
  intro top below
  apply wpAt_of_wpAny
  wp_walk
  apply wpAt_of_wpAny
  rw [F.owner]
  repeat (first | with_reducible refine wpAny_madeHere_exc F.canon h ?_ | (with_reducible refine wpAny_isSubtype_exc h ?_; first | rw [i1] | rw [i2] | rw [i3]) | walk_at "stp")
  show R _ _
  rw [Heap.size_push]
  exact k
theorem called {Q : Fin → Shared → Prop} {E : Value → Shared → Prop} {fi : Addr} (F : ExcBaseFacts Base new ini full) (same : ∀ T : String, tail.contains (.type T) = full.contains (.type T)) (h : Has hp nm qn Cl Ns bases tail hd slots subs abst coll dict s0 s1 s2 s3 s5 new)
    (find : W.Looks (model prog wo) hp (typeLookup (.ref Cl) "__init__") (some (.ref fi))) (bound : ∀ me, W.Looks (model prog wo) hp (bindSpecial (.ref fi) me) (.ref fi, [me]))
    (run : codeAny (model prog wo) Ar (.call (.ref fi) ⟨[.ref (hp.objs.size + 1)], kw⟩) (fun r s' => match r with
      | .error e => E e s'
      | .ok (.ret u) => u = .none ∧ Q (.done (.ret (.ref (hp.objs.size + 1)))) s'
      | .ok _ => False) ⟨(hp.push (W.kdv_tup [])).push (excO Cl hp.objs.size), gs, dr, tk, os⟩) :
    wpAny (model prog wo) Ar (Builtin.«type.__call__» ⟨[.ref Cl], kw⟩) Q E ⟨hp, gs, dr, tk, os⟩ := by
  repeat walk_at "stp"
  apply codeAny_call_builtin_code (Code.quiet_builtin _ F.quiet) (seen F same h _)
  apply bare F same h
  show wpAny _ _ _ _ _ _
  have stay : ∀ b o, hp.get? b = some o → ((hp.push (W.kdv_tup [])).push (excO Cl hp.objs.size)).get? b = some o := fun b o e => Heap.get?_push_of_some _ (Heap.get?_push_of_some _ e)
  have cls := stay _ _ h
  have obj : ((hp.push (W.kdv_tup [])).push (excO Cl hp.objs.size)).get? (hp.objs.size + 1) = some (excO Cl hp.objs.size) := by heap_get
  have self : (Value.ref Cl :: tail).contains (.ref Cl) = true := by simp
  have find' := find.keeps stay
  have bound' := (bound (.ref (hp.objs.size + 1))).keeps stay
  unfold isInstance
  repeat (first | with_reducible refine wpAny_loadPart_at obj ?_ | (with_reducible refine wpAny_isSubtype_exc cls ?_; rw [self]) | wp_step)
  apply find'.at
  apply wpAny_holding
  apply wpAny_bind
  apply bound'.at
  apply wpAny_bind
  apply wpAny_call
  refine codeAny_mono run fun r s' q => ?_
  match r, q with
  | .error _, q => exact q
  | .ok (.ret u), ⟨e, q⟩ =>
    subst e
    first
      | exact wpAny_pure (wpAny_pure q)
      | (wp_walk; exact q)
theorem made {R : Result → Shared → Prop} {fi : Addr} (F : ExcBaseFacts Base new ini full) (same : ∀ T : String, tail.contains (.type T) = full.contains (.type T)) (h : Has hp nm qn Cl Ns bases tail hd slots subs abst coll dict s0 s1 s2 s3 s5 new)
    (find : W.Looks (model prog wo) hp (typeLookup (.ref Cl) "__init__") (some (.ref fi))) (bound : ∀ me, W.Looks (model prog wo) hp (bindSpecial (.ref fi) me) (.ref fi, [me]))
    (run : codeAny (model prog wo) (Ar.under (.builtin "type.__call__" ⟨[.ref Cl], kw⟩)) (.call (.ref fi) ⟨[.ref (hp.objs.size + 1)], kw⟩) (W.InitBack (hp.objs.size + 1) R) ⟨(hp.push (W.kdv_tup [])).push (excO Cl hp.objs.size), gs, dr, tk, os⟩) :
    codeAny (model prog wo) Ar (.call (.ref Cl) ⟨[], kw⟩) R ⟨hp, gs, dr, tk, os⟩ := by
  have t1 := tc_lookup
  have t2 := tc_bind (.ref Cl)
  have ty : (⟨hp, gs, dr, tk, os⟩ : Shared).TypeIs (.ref Cl) "type" := ⟨_, h, rfl⟩
  apply codeAny_of_tree
  show wpAny _ _ (callAny (.ref Cl) _) _ _ _
  repeat (any_goals (first | assumption | walk_at "stp"))
  refine ⟨rfl, codeAny_call_builtin_at (Code.quiet_builtin _ (by decide +kernel)) entry_typeCall (wpAny_check_type_call_sub h (called F same h find bound (codeAny_mono run ?_)))⟩
  intro r s' q
  cases r with
  | error _ => exact q
  | ok f => cases f <;> exact q
end
end Own

namespace L2
open PySem PySem.Spec PyProof.Rows
/-! ### exceptions as tracked objects -/
/-- an exception of the class at C stands at a, d its own dict's place -/
def xob (a C : Addr) (d : Option Addr) : HO := .ext fun h => ∃ (oe : Obj) (vs : Array Value), h.get? a = some oe ∧ Zc (.ref C) d oe ∧ oe.data = .fields vs
theorem xob_ok {P : Program} {w : World} {H : Hp} {h : Heap} {a C : Addr} {d : Option Addr} {oe : Obj} {vs : Array Value} (e : h.get? a = some oe) (z : Zc (.ref C) d oe) (hd : oe.data = .fields vs) : ObjOk P w H h a (xob a C d) :=
  ⟨⟨oe, vs, e, z, hd⟩, ⟨_, e⟩, fun _ _ ⟨o, vs, e, z, q⟩ k => ⟨o, vs, k _ e, z, q⟩⟩
theorem xob_at {P : Program} {w : World} {H : Hp} {h : Heap} {a C : Addr} {d : Option Addr} (hok : HOk P w H h) (he : H a = some (xob a C d)) : ∃ (oe : Obj) (vs : Array Value), h.get? a = some oe ∧ Zc (.ref C) d oe ∧ oe.data = .fields vs :=
  (show ObjOk P w H h a (.ext fun h => ∃ (oe : Obj) (vs : Array Value), h.get? a = some oe ∧ Zc (.ref C) d oe ∧ oe.data = .fields vs) from hok a _ he).1
/-- it is an instance in the library's sense; what its dict holds -/
theorem xob_inst {P : Program} {w : World} {H : Hp} {h : Heap} {a C dd : Addr} {fs : List (Str × V)} (hok : HOk P w H h) (he : H a = some (xob a C (some dd))) (hd : H dd = some (.xd fs)) :
    ∃ (oe od : Obj), PySem.W.InstAt h a oe C (some od) ∧ ∀ (f : Str) (v : V), fs.lookup f = some v → ∃ u, PySem.W.lookIn f od = some (some u) ∧ RelV v u := by
  obtain ⟨oe, vs, at_, hz, dat⟩ := xob_at hok he
  obtain ⟨mA, nsp, rel⟩ := show ObjOk P w H h dd (.xd fs) from hok dd _ hd
  obtain ⟨od, atd, look⟩ := lookIn_ns nsp
  refine ⟨oe, od, ⟨at_, hz.1, by simp only [PySem.W.notCls, dat], by rw [hz.2]; exact atd⟩, fun f v e => ?_⟩
  obtain ⟨u, hu, ru⟩ := RelO.some_of (v := v) (o := mA f) (e ▸ rel f)
  exact ⟨u, (look f).trans (congrArg some hu), ru⟩
theorem xob_inst0 {P : Program} {w : World} {H : Hp} {h : Heap} {a C : Addr} (hok : HOk P w H h) (he : H a = some (xob a C none)) : ∃ oe : Obj, PySem.W.InstAt h a oe C none := by
  obtain ⟨oe, vs, at_, hz, dat⟩ := xob_at hok he
  exact ⟨oe, at_, hz.1, by simp only [PySem.W.notCls, dat], by rw [hz.2]; exact True.intro⟩
/-- the kinds that may be told anew -/
def Loose : HO → Prop
  | .ext _ => True
  | .xd _ => True
  | _ => False
theorem Loose.no {o : HO} (h : Loose o) : (∀ x, o ≠ .own x) ∧ (∀ xs, o ≠ .tup xs) ∧ (∀ b u, o ≠ .frz b u) ∧ (∀ ps, o ≠ .tbl ps) := by
  cases o <;> first | exact h.elim | exact ⟨(fun _ z => nomatch z), (fun _ z => nomatch z), (fun _ _ z => nomatch z), (fun _ z => nomatch z)⟩
section
variable {X : Cx} {pins : List (Addr × Obj)} {σ : St} {H : Hp} {s : Shared} {a : Addr} {o o' : HO}
theorem Inv.retell (I : Inv X pins σ H s) (e : H a = some o) (l : Loose o) (ok : ObjOk X.prog X.w (upd H a o') s.heap a o') : Inv X pins σ (upd H a o') s := by
  obtain ⟨nw, nt, nf, nb⟩ := l.no
  have ne : ∀ {b u}, H b = some u → o ≠ u → b ≠ a := fun {b u} q d z => by rw [z, e] at q; exact d (Option.some.inj q)
  have na : ∀ {b}, H b = none → b ≠ a := fun {b} q z => by rw [z, e] at q; cases q
  have U : Un X.fs [] H (upd H a o') s.heap s.heap := {
    keep := fun b o q _ _ _ => q
    slot := fun b o q _ _ _ => ⟨o.slots, q⟩
    free := fun b o q n _ => by rw [upd_ne (na n)]; exact n
    there := fun b o q _ => ⟨o, q⟩
    tups := fun b xs q => by rw [upd_ne (ne q (nt xs))]; exact q
    frzs := fun b o v q => by rw [upd_ne (ne q (nf o v))]; exact q
    tbls := fun b ps q => ⟨#[], by rw [upd_ne (ne q (nb ps)), q]; simp⟩ }
  exact I.un (t' := s.toks) U fun b u q => by
    by_cases hb : b = a
    · subst hb
      rw [upd_same] at q
      cases q
      exact ok
    · rw [upd_ne hb] at q
      exact (I.hok b u q).stay (fun c v _ z => z) (fun c hc => by rw [upd_ne (ne hc (nw b))]; exact hc) fun c xs hc => by rw [upd_ne (ne hc (nt xs))]; exact hc
/-- an object that was made behind the entry, not tracked as yet, is tracked -/
theorem Inv.track (I : Inv X pins σ H s) (na : H a = none) (n0 : X.s_0.heap.get? a = none) (nL : a ≠ X.env.locals) (nC : ∀ x c, X.env.cells.lookup x = some c → c ≠ a) (nP : ∀ p ∈ X.pn ++ pins, p.1 ≠ a)
    (new : ObjOk X.prog X.w (upd H a o) s.heap a o) : Inv X pins σ (upd H a o) s where
  ok := I.ok
  os := I.os
  bare := I.bare
  loc := I.loc
  cell := I.cell
  len := I.len
  free := (upd_ne nL.symm).trans I.free
  freeC := fun x c e => (upd_ne (nC x c e)).trans (I.freeC x c e)
  pin := fun p hp => let ⟨p1, p2, r⟩ := I.pin p hp; ⟨p1, (upd_ne (nP p hp)).trans p2, r⟩
  base := {
    keep := I.base.keep
    slot := I.base.slot
    there := I.base.there
    free := fun b ob e n hx => (upd_ne fun z => by rw [z, n0] at e; cases e).trans (I.base.free b ob e n hx)
    tups := fun b xs q => (upd_ne (ne_of_none (I.base.tups b xs q) na)).trans (I.base.tups b xs q)
    frzs := fun b ob u q => (upd_ne (ne_of_none (I.base.frzs b ob u q) na)).trans (I.base.frzs b ob u q)
    tbls := fun b ps q => let ⟨m, y⟩ := I.base.tbls b ps q; ⟨m, (upd_ne (ne_of_none y na)).trans y⟩ }
  hok := fun b u e => by
    by_cases hb : b = a
    · cases hb
      rw [upd_same] at e
      cases e
      exact new
    · rw [upd_ne hb] at e
      exact (I.hok b u e).stay (fun c v _ z => z) (fun c hc => (upd_ne (ne_of_none hc na)).trans hc) fun c xs hc => (upd_ne (ne_of_none hc na)).trans hc
end
/-! ### e.f, isinstance(e, c), e such an exception -/
def tXfT (K : PySem.W.Frag) (f : Str) (te : TE) : TE := fun σ H Q => te σ H fun x H1 => ∃ (a C dd : Addr) (fs : List (Str × V)) (v : V), x = .ref a ∧ XfC K C ∧ PySem.W.findIn K (.ref C) f = some none ∧ H1 a = some (xob a C (some dd)) ∧ H1 dd = some (.xd fs) ∧ fs.lookup f = some v ∧ Q v H1
theorem pe_xfT {X : Cx} {e : Expr} {te : TE} {pos : Pos} {n : Str} (he : PE X e te) (hb : attributeBase e n X.env (eval e X.env) = eval e X.env := by rfl) : PE X (.Attribute e n pos) (tXfT X.K n te) where
  run := fun pins s σ H Q I h => attr_of hb (thn (he.run pins s σ H _ I h) fun u s1 ⟨x, H1, I1, rx, a, C, dd, fs, v, ex, T, no, ea, ed, lk, q⟩ => by
    cases ex
    cases rx
    obtain ⟨oe, od, J, look⟩ := xob_inst I1.hok ea ed
    obtain ⟨u, hu, ru⟩ := look n v lk
    exact HandSPX.exc_get I1.kIn J T.ga T.gg T.exC (PySem.W.findObj_own T.hdC no rfl hu) (handed_of ru) ⟨v, H1, I1.tok _, ru, q⟩)
/-- an exception's dict: none, or told -/
def OdAt (H : Hp) (d : Option Addr) : Prop := d = none ∨ ∃ dd fs, d = some dd ∧ H dd = some (.xd fs)
def rIsT (K : PySem.W.Frag) : List V → Hp → VK → Prop := fun xs H Q => ∃ (a C : Addr) (d : Option Addr) (c : V) (cv : Value) (b : Bool), xs = [.ref a, c] ∧ H a = some (xob a C d) ∧ OdAt H d ∧ ExcC K C ∧ (∀ u, RelV c u → u = cv) ∧ PySem.W.kitOne K (.ref C) cv = some b ∧ Q (.bl b) H
theorem call_isT {X : Cx} : CallR X (.builtin "isinstance") (rIsT X.K) := fun pins s σ H xs us Q I r ⟨a, D, d, c, cv, b, ex, ea, hd, C, hcv, e, q⟩ => by
  cases ex
  obtain ⟨u, v, rfl, ru, rv⟩ := vals2 r
  cases ru
  cases hcv v rv
  have some_cls : (PySem.W.clsIn X.K D).isSome = true := by
    obtain ⟨cd, h1, _⟩ := PySem.W.any_some C.hd
    rw [h1]; rfl
  have inst : ∃ oe od, PySem.W.InstAt s.heap a oe D od := by
    rcases hd with rfl | ⟨dd, fs, rfl, hdd⟩
    · obtain ⟨oe, J⟩ := xob_inst0 I.hok ea
      exact ⟨oe, _, J⟩
    · obtain ⟨oe, od, J, _⟩ := xob_inst I.hok ea hdd
      exact ⟨oe, _, J⟩
  obtain ⟨oe, od, J⟩ := inst
  exact PySem.W.kia_one (PySem.W.kitx_exc some_cls C.hg C.hk C.hs C.ha C.hn C.ht C.hm) I.kIn J e (fun z => nomatch z) fun tk => ⟨.bl b, H, I.kept (t' := tk) fun _ _ z => z, rfl, q⟩

/-! ### defs that may be called where an exception is handled -/
abbrev RoomW := L2H.RoomH
theorem roomW {k : Nat} {A : Around} (r : Room k A) : RoomW k A := L2H.roomH_of r
structure FnW (P : Program) (w : World) (K : PySem.W.Frag) (mg : Str → Option Value) (base : Heap) (CX : CXT) (k : Nat) (f : Addr) (fd : FuncData) (ps : List Str) (sp : Sp) : Prop where
  arity : ∀ vs H Q E, sp vs H Q E → vs.length = ps.length
  go : ∀ (A : Around) (outer : List Env) (s : Shared) (H : Hp) (args : Args) (us : List Value) (vs : List V) (Q : VK) (E : XK), RoomW k A → Env0 P w K mg base A outer s H → BindsTo s fd args (ps.zip us) → Vals vs us → sp vs H Q E → codeAny (model P w) A (.call (.ref f) args) (CR CX outer P w H s Q E) s
theorem FnW.ok {P : Program} {w : World} {K : PySem.W.Frag} {mg : Str → Option Value} {base : Heap} {CX : CXT} {k : Nat} {f : Addr} {fd : FuncData} {ps : List Str} {sp : Sp} (F : FnW P w K mg base CX k f fd ps sp) : FnOk P w K mg base CX k f fd ps sp :=
  ⟨F.arity, fun A outer s H args us vs Q E hr => F.go A outer s H args us vs Q E (roomW hr)⟩
/-- the context of such a def's body: nothing is said of what is handled -/
abbrev Cx.warm (X : Cx) (A : Around) (xe : Value → Shared → Prop) : Cx := { X with A := A, calm := false, xe := xe }
theorem Inv.warm {X : Cx} {pins : List (Addr × Obj)} {σ : St} {H : Hp} {s : Shared} {A : Around} {xe : Value → Shared → Prop} (I : Inv X pins σ H s) (hA : A.frames = some X.stack) : Inv (X.warm A xe) pins σ H s where
  ok := { I.ok with hd := fun z => (Bool.false_ne_true z).elim, frames := hA }
  os := I.os
  bare := I.bare
  base := I.base
  loc := I.loc
  cell := I.cell
  free := I.free
  freeC := I.freeC
  pin := I.pin
  hok := I.hok
  len := I.len
/-- the body's context -/
abbrev cxW (CX : CXT) (P : Program) (w : World) (K : PySem.W.Frag) (mg : Str → Option Value) (base : Heap) (N : List Str) (qual : Str) (scope : Scope) (f : Addr) (cd : Value) (A : Around) (outer : List Env) (s : Shared) (H : Hp) (E : XK) : Cx :=
  { cxOf CX P w K mg base N qual scope f cd A outer s H E with calm := false }
theorem Fun.okW {P : Program} {w : World} {K : PySem.W.Frag} {mg : Str → Option Value} {base : Heap} {x qual : Str} {st : Stmt} {f : Addr} {fd : FuncData} {N ps : List Str} {k : Nat} {sp : Sp} (F : Fun K x qual st f fd) (S : FnScope N ps (defScope st)) (hps : ∀ vs H Q E, sp vs H Q E → vs.length = ps.length)
    (body : ∀ (cdv : Value) (A : Around) (outer : List Env) (s : Shared) (H : Hp) (vs : List V) (Q : VK) (E : XK), RoomW k (A.deeper (envOfC qual (defScope st) s.heap.objs.size f cdv)) → sp vs H Q E →
      ∃ t, PSs (cxW CX0 P w K mg base N qual (defScope st) f cdv A outer s H E).nox (defBody st) t ∧ t { nx := fun _ H' => Q .non H', rt := Q } (start N vs) H) : FnW P w K mg base CX0 (k + 1) f fd ps sp := by
  obtain ⟨_, _, kV, doc, pm, an, cdv, ct, _, rfl, here, code⟩ := F.ex
  refine ⟨hps, fun A outer s H args us vs Q E room e0 bind r h => ?_⟩
  have KX : K.In s.heap := e0.mod.kin.keeps fun _ _ e => (e0.bs _ _ e).1
  have many := hps _ _ _ _ h
  refine Att.call_fn KX (e0.mod.nolimit.keeps fun _ _ e => (e0.bs _ _ e).1) here code room.depth bind ?_ (fun s1 ic => ?_) S.co S.gen S.kind
  · refine List.all_eq_true.mpr fun y hy => ?_
    rcases S.par y.1 (List.of_mem_zip (show (y.1, y.2) ∈ ps.zip us from hy)).1 with z | z <;> simp [z]
  · obtain ⟨t, ht, q⟩ := body cdv A outer s H vs Q E (room.deeper _) h
    have e1 : Env0 P w K mg base { A with handled := none } outer s H := ⟨e0.frames, e0.mod, e0.bs, e0.bsz, e0.funs, e0.frf, e0.hok, e0.bare⟩
    have I0 := inv_start (CX := CX0) (P := P) (w := w) (mg := mg) (base := base) (f := f) (cd := cdv) (A := { A with handled := none }) (E := E) S rfl e1 many r ic
    have I : Inv (cxW CX0 P w K mg base N qual (defScope st) f cdv A outer s H E) [] (start N vs) H s1 := I0.warm (A := A.deeper (envOfC qual (defScope st) s.heap.objs.size f cdv)) (Around.frames_deeper e0.frames)
    refine wpAny_mono (ht.nox.run [] s1 _ H _ I q) (fun fl s2 hs => ?_) fun _ _ z => z
    cases fl with
    | ret u =>
      obtain ⟨v, _, H', J, rv, q'⟩ := hs
      exact ⟨v, H', J.os, J.bare, J.base, J.hok, rv, q'⟩
    | next =>
      obtain ⟨_, H', J, q'⟩ := hs
      exact ⟨.non, H', J.os, J.bare, J.base, J.hok, rfl, q'⟩
    | brk => exact hs.elim fun _ z => z.elim fun _ z => z.2.elim
    | cont => exact hs.elim fun _ z => z.elim fun _ z => z.2.elim
/-- f(e, ..) of such a def -/
theorem pe_callW {X : Cx} {CX : CXT} {k : Nat} {f : Addr} {fd : FuncData} {ps : List Str} {sp : Sp} {E : XK} {x : Str} {q pos : Pos} {e : Expr} {es : List Expr} {t : TA}
    (F : FnW X.prog X.w X.K X.mg X.base CX k f fd ps sp) (room : RoomW k X.A) (gl : Gl X x) (is : X.mg x = some (.ref f)) (kp : PySem.W.keepIn X.K (.ref f) = true) (bind : Binds X.K fd ps []) (pass : Passes CX X E) (args : PA X (e :: es) t)
    (nodebug : (x == ("__debug__" : Str)) = false := by decide) (first : starEach (e :: es) X.env = (false, eval e X.env) :: starEach es X.env := by rfl) (nostar : (backTo pos (starEach es X.env)).any (·.1) = false := by rfl) :
    PE X (.Call (.Name x q) (e :: es) [] pos) (fun σ H Q => t σ H fun vs H1 => sp vs H1 Q E) where
  run := fun pins s σ H Q I h => wpAny_Call_Name_kw (ld_glob I gl is (PySem.W.callWith_K (h₀ := X.base) I.ok.mod.kin kp (thn (args.run pos pins s σ H _ I h) fun us s1 ⟨vs, H1, I1, r, y⟩ => ⟨I1.kIn, by
    have n : us.length = ps.length := r.length.symm.trans (F.arity _ _ _ _ y)
    have b := bind s1 us I1.kIn (by simpa using n)
    simp only [List.append_nil] at b
    refine wpAny_call (codeAny_mono (F.go X.A X.stack s1 H1 ⟨us, []⟩ us vs Q E room I1.env0 b r y) fun res s2 z => ?_)
    match res, z with
    | .error er, z => exact pass pins σ H1 s1 er s2 I1 z
    | .ok (.ret _), z => exact I1.after z⟩) first nostar) nodebug)

/-! ### try: body, except M as n: suite, where every exception of the body is an own one that M names -/
section
variable {X : Cx} {pins : List (Addr × Obj)} {σ : St} {H : Hp} {s : Shared}
/-- the suite's context, the exception tracked, not pinned -/
theorem Inv.inSuite (I : Inv X pins σ H s) (a : Addr) : Inv (X.suite a (X.pn ++ pins)) [] σ H s where
  ok := I.ok.suite a _
  os := I.os
  bare := I.bare
  base := I.base
  loc := I.loc
  cell := I.cell
  free := I.free
  freeC := I.freeC
  pin := fun p hp => I.pin p ((List.append_nil (X.pn ++ pins)) ▸ hp)
  hok := I.hok
  len := I.len
theorem Inv.outSuite {a : Addr} (I : Inv (X.suite a (X.pn ++ pins)) [] σ H s) (ok : X.Ok) : Inv X pins σ H s where
  ok := ok
  os := I.os
  bare := I.bare
  base := I.base
  loc := I.loc
  cell := I.cell
  free := I.free
  freeC := I.freeC
  pin := fun p hp => I.pin p ((List.append_nil (X.pn ++ pins)).symm ▸ hp)
  hok := I.hok
  len := I.len
end
/-- the ends of a suite: slot i is emptied -/
def Ends.less (D : Ends) (i : Nat) : Ends := { nx := fun σ H => D.nx (σ.set i none) H, rt := D.rt, bk := fun σ H => D.bk (σ.set i none) H, ct := fun σ H => D.ct (σ.set i none) H }
/-- what is wished of an exception of the body -/
def wAsT (K : PySem.W.Frag) (c : Value) (i : Nat) (ts : TS) (D : Ends) : WX := fun cls d σ H => PySem.W.exmOne K cls c = some true ∧ ∃ C : Addr, cls = .ref C ∧ ∀ a, H a = none → ts (D.less i) (σ.set i (some (.ref a))) (upd H a (xob a C d))
section
variable {X : Cx} {x n : Str} {c : Value} {i : Nat} {body suite : List Stmt} {b0 : Stmt} {p1 p2 p3 : Pos} {tb : WX → TS} {ts : TS}
/-- what came behind the state I is none of its things -/
theorem newcomer {pins : List (Addr × Obj)} {σ : St} {H : Hp} {s : Shared} {a : Addr} (I : Inv X pins σ H s) (alone : X.ex = []) (no : s.heap.get? a = none) :
    X.s_0.heap.get? a = none ∧ a ≠ X.env.locals ∧ (∀ x c, X.env.cells.lookup x = some c → c ≠ a) ∧ ∀ p ∈ X.pn ++ pins, p.1 ≠ a := by
  have some_not : ∀ {b : Addr} {o : Obj}, s.heap.get? b = some o → b ≠ a := fun {b o} e z => by rw [z, no] at e; cases e
  refine ⟨Option.eq_none_iff_forall_ne_some.mpr fun o e => ?_, ?_, fun x c e => ?_, fun p hp => some_not (I.pin p hp).1⟩
  · obtain ⟨o', z⟩ := I.base.there a o e (by simp [alone])
    exact some_not z rfl
  · obtain ⟨m, ⟨o, _, _, e, _⟩, _⟩ := I.loc
    exact (some_not e).symm
  · obtain ⟨v, o, e', _⟩ := I.cell x c e
    exact some_not e'
/-- an exception has come to the try: its suite runs -/
theorem caught {pins : List (Addr × Obj)} {D : Ends} {u : Value} {s : Shared} {xe : Value → Shared → Prop} (alone : X.ex = []) (top : X.stack = X.env :: X.outer) (frame : X.env.frame = some X.env.locals) (nodup : X.N.Nodup) (slot : X.N[i]? = some n) (loc : X.env.kindOf n = some .local) (names : Names X x c) (ok : X.Ok)
    (run : ∀ (a : Addr) (pn : List (Addr × Obj)), PSs (X.suite a pn) (b0 :: suite) ts) (fly : XE (X.tr (X.pn ++ pins) xe) (wAsT X.K c i ts D) u s) :
    wpAny (model X.prog X.w) X.A (noteFrame u X.env) (fun _ s2 => wpAny (model X.prog X.w) X.A (setFlight u none) (fun _ s3 => wpAny (model X.prog X.w) X.A (handleBy u X.env [.ExceptHandler (some (.Name x p1)) (some n) (b0 :: suite) p2]) (SP X pins D) X.xe s3) X.xe s2) X.xe s := by
  obtain ⟨a, ground, sI, _, σ1, H1, cls, d, rfl, Jt, stays, slots, sky, free, os, gens, named, C, rfl, wish⟩ := fly
  have J : Inv X pins σ1 H1 sI := Jt.ofTry ok
  refine Sky.land Zc.steady (ok.frames.trans (congrArg some top)) frame (top ▸ sky) fun h3 f3 up3 => ?_
  obtain ⟨o3, v3, g3, z3, d3⟩ := f3.there
  have notFrame : a ∉ frs X.stack := fun hm => by
    obtain ⟨_, o, e, other⟩ := f3.2.2.1.mem (top ▸ hm)
    exact other v3 (Option.some.inj (e.symm.trans g3) ▸ d3)
  have absent : sI.heap.get? a = none := Option.eq_none_iff_forall_ne_some.mpr fun o e => by
    have z := stays a o e notFrame
    rw [f3.2.1] at z
    cases z
  obtain ⟨n0, nL, nC, nP⟩ := newcomer J alone absent
  have J3 : Inv X pins σ1 H1 { s with heap := h3 } := J.landed stays f3.1 (slots.trans up3) os gens
  have clause : ∀ {Q : Value → Shared → Prop} {E : Value → Shared → Prop}, Q c { s with heap := h3 } → wpAny (model X.prog X.w) (X.A.mark (some (.ref a))) (eval (.Name x p1) X.env) Q E { s with heap := h3 } := fun {Q E} q => by
    rcases names with ⟨gl, dbg, is | ⟨no, boot, other⟩⟩
    · exact ld_glob (J3.inSuite a) gl is q dbg
    · exact ld_blt (J3.inSuite a) gl no boot q other dbg
  have cls3 : PySem.W.Looks (model X.prog X.w) h3 (typeOf (.ref a)) (.ref C) := fun _ _ _ _ keep q => wpAny_typeOf_ref (keep _ _ g3) (z3.1.symm ▸ q)
  refine wpAny_handleBy_cons (codeAny_handlers_test (clause ((PySem.W.exm_one (M := model X.prog X.w) J3.kIn cls3 named).here ?_))) (fun z => nomatch z)
  refine codeAny_handlers_suite_as (HandSPX.lands_againZ f3 fun h4 f4 up4 => ?_)
  obtain ⟨o4, v4, g4, z4, d4⟩ := f4.there
  have J4 : Inv X pins σ1 H1 { s with heap := h4 } := J.landed stays f4.1 ((slots.trans up3).trans up4) os gens
  have J5 := (J4.track free n0 nL nC nP (xob_ok g4 z4 d4)).inSuite a
  refine store_ok (X := X.suite a (X.pn ++ pins)) (v := .ref a) J5 nodup slot (.inl loc) rfl (fun s5 S5 => ?_) (.inr loc)
  have leave : ∀ {σ6 : St} {H6 : Hp} {s6 : Shared} {Q : Shared → Prop}, Inv (X.suite a (X.pn ++ pins)) [] σ6 H6 s6 → (∀ s7, Inv X pins (σ6.set i none) H6 s7 → Q s7) → wpAny (model X.prog X.w) X.A (do bindName X.env n .none; unbindBehindTheSuite X.env n p2) (fun _ s7 => Q s7) X.xe s6 :=
    fun S6 q => gone_ok (S6.outSuite ok) nodup slot loc q
  refine wpAny_mono ((run a (X.pn ++ pins)).run [] s5 _ _ _ S5 (wish a free)) (fun fl s6 q => ?_) fun _ _ z => z.elim
  match fl, q with
  | .next, ⟨_, _, S6, q⟩ => exact leave S6 fun _ J7 => ⟨_, _, J7, q⟩
  | .brk, ⟨_, _, S6, q⟩ => exact leave S6 fun _ J7 => ⟨_, _, J7, q⟩
  | .cont, ⟨_, _, S6, q⟩ => exact leave S6 fun _ J7 => ⟨_, _, J7, q⟩
  | .ret _, ⟨_, _, _, S6, r, q⟩ => exact leave S6 fun _ J7 => ⟨_, _, _, J7, r, q⟩
theorem ps_try_asT (alone : X.ex = []) (top : X.stack = X.env :: X.outer) (frame : X.env.frame = some X.env.locals) (nodup : X.N.Nodup) (slot : X.N[i]? = some n) (loc : X.env.kindOf n = some .local) (names : Names X x c)
    (try_ : ∀ (W : WX) (pn : List (Addr × Obj)) (xe : Value → Shared → Prop), Takes (X.tr pn xe) W → PSs (X.tr pn xe) body (tb W)) (run : ∀ (a : Addr) (pn : List (Addr × Obj)), PSs (X.suite a pn) (b0 :: suite) ts) :
    PS X (.Try body [.ExceptHandler (some (.Name x p1)) (some n) (b0 :: suite) p2] [] [] p3) (fun D σ H => tb (wAsT X.K c i ts D) D σ H) where
  run := fun pins s σ H D I h => by
    have ok := I.ok
    refine wpAny_Try_except (wpAny_mono ((try_ (wAsT X.K c i ts D) (X.pn ++ pins) _ fun u s' y => caught alone top frame nodup slot loc names ok run y).run [] s σ H D (I.toTry _) h) (fun fl s1 q => ?_) fun _ _ z => z)
    match fl, q with
    | .next, ⟨_, _, J, q⟩ => exact wpAny_execs_nil ⟨_, _, J.ofTry ok, q⟩
    | .brk, ⟨_, _, J, q⟩ => exact ⟨_, _, J.ofTry ok, q⟩
    | .cont, ⟨_, _, J, q⟩ => exact ⟨_, _, J.ofTry ok, q⟩
    | .ret _, ⟨_, _, _, J, r, q⟩ => exact ⟨_, _, _, J.ofTry ok, r, q⟩
end
end L2

namespace L2
open PySem PySem.Spec PyProof.Rows
/-! ### an own exception made as a value -/
/-- C(k = v, ..), C's own __init__ keeping sp -/
def tXMk (C : Addr) (n : Nat) (sp : Sp) (gV : List V → List V → List V) (tk : TA) : TE := fun σ H Q => tk σ H fun zs H1 => zs.length = n ∧ ∀ a, H1 a = none → sp (gV [.ref a] zs) (upd H1 a (exo a C none))
  (fun v H2 => v = .non ∧ ∃ (d : Addr) (fs : List (Str × V)), H2 a = some (exo a C (some d)) ∧ H2 d = some (exd d fs) ∧ d ≠ a ∧ Q (.ref a) (upd (upd H2 d (.xd fs)) a (xob a C (some d)))) (fun _ _ _ => False)
section
variable {X : Cx} {CX : CXT} {k : Nat} {C fI : Addr} {fd : FuncData} {ps ks : List Str} {sp : Sp} {x : Str} {p pos : Pos} {kws : List Keyword} {tk : TA} {g : List Value → List Value → List Value} {gV : List V → List V → List V}
/-- behind __init__ the exception stands as a made one -/
theorem Inv.finished {pins : List (Addr × Obj)} {σ : St} {H : Hp} {s : Shared} {a d : Addr} {fs : List (Str × V)} (I : Inv X pins σ H s) (ea : H a = some (exo a C (some d))) (ed : H d = some (exd d fs)) (ne : d ≠ a) : Inv X pins σ (upd (upd H d (.xd fs)) a (xob a C (some d))) s := by
  have J : Inv X pins σ (upd H d (.xd fs)) s := I.retell ed True.intro (exd_at I.hok ed)
  have ea' : (upd H d (.xd fs)) a = some (exo a C (some d)) := (upd_ne ne.symm).trans ea
  obtain ⟨t, at_⟩ := exo_at J.hok ea'
  exact J.retell ea' True.intro (xob_ok at_ ⟨rfl, rfl⟩ rfl)
theorem pe_xmk (T : OexC X.K C) (ini : PySem.W.findIn X.K (.ref C) "__init__" = some (some (.ref fI))) (fn : PySem.W.typeIn X.K (.ref fI) = some (.type "function"))
    (fnok : FnOk X.prog X.w X.K X.mg X.base CX k fI fd ps sp) (room : Room (k + 1) X.A) (bind : KBn X.K fd ps 1 ks g gV) (pass : Passes CX X (fun _ _ _ => False)) (gl : Gl X x) (is : X.mg x = some (.ref C)) (vals : PK X kws tk)
    (named : (backToKw pos (keywordEach kws X.env)).all (·.1.isSome) = true := by rfl) (names : (backToKw pos (keywordEach kws X.env)).filterMap (·.1) = ks := by rfl) (nodebug : (x == ("__debug__" : Str)) = false := by decide)
    (plain : ((backTo pos (starEach [] X.env)).any (·.1) || (backToKw pos (keywordEach kws X.env)).any (·.1.isNone)) = false := by rfl) : PE X (.Call (.Name x p) [] kws pos) (tXMk C ks.length sp gV tk) where
  run := fun pins s σ H Q I h => by
    obtain ⟨_, _, _, _, bm, _, _, _, _, _, _, _, _, _, _, cls, mro⟩ := T.cls
    refine wpAny_Call_Name_kw (ld_glob I gl is (PySem.W.callWith_KW0 (h₀ := X.base) I.ok.mod.kin T.kC named (thn (vals.run pos pins s σ H _ I h) fun ws s1 ⟨zs, H1, I1, rz, hz, q1⟩ => ⟨I1.kIn, ?_⟩) plain) nodebug)
    obtain ⟨hp, gs, dr, tks, os⟩ := s1
    have new : H1 (hp.objs.size + 1) = none := I1.hok.fresh (Nat.le_succ _)
    have I2 : Inv X pins σ (upd H1 (hp.objs.size + 1) (exo (hp.objs.size + 1) C none)) ⟨(hp.push (PySem.W.kdv_tup [])).push (PySem.HandSPX.excO C hp.objs.size), gs, dr, tks, os⟩ :=
      I1.laid (t' := tks) (o := exo (hp.objs.size + 1) C none) (fun _ _ e => Heap.get?_push_of_some _ (Heap.get?_push_of_some _ e)) (Nat.le_succ _) (exo_ok (by heap_get))
    have q2 := q1 _ new
    rw [names]
    show wpAny _ _ (call (.ref C) [] (ks.zip ws)) _ _ _
    refine wpAny_call (Own.made (kw := ks.zip ws) PySem.F.excBase_ValueError (fun Y => PySem.HandSPX.refsVE_contains Y bm mro) (I1.kIn _ _ cls) (PySem.W.looks_findIn I1.kIn ini) (fun me => PySem.W.bind_fn I1.kIn me fn)
      (codeAny_mono (fnok.run _ X.stack _ _ ⟨[.ref (hp.objs.size + 1)], ks.zip ws⟩ (g [.ref (hp.objs.size + 1)] ws) _ _ (fun _ _ _ => False) (room.make C [] (ks.zip ws)) (I2.env0.make C [] (ks.zip ws))
        (bind.to _ [.ref (hp.objs.size + 1)] ws I2.kIn rfl (rz.length.symm.trans hz)) (bind.rel (show Vals [V.ref (hp.objs.size + 1)] [Value.ref (hp.objs.size + 1)] from .cons rfl .nil) rz) q2) fun r s2 y => ?_))
    match r, y with
    | .error er, y => exact pass pins σ _ _ er s2 I2 y
    | .ok (.ret u), y =>
      obtain ⟨_, H3, I3, rv, rfl, d, fs, ea, ed, ne, q3⟩ := I2.after y
      exact ⟨rv, .ref (hp.objs.size + 1), _, I3.finished ea ed ne, rfl, q3⟩
/-- C(), C without own __init__, as a value; raised -/
theorem pe_xmk0 {full : List Value} {Base new ini : String} (F : ExcBaseFacts Base new ini full) (own : PySem.W.excIn X.K C full new = true) (is : X.mg x = some (.ref C)) (kp : PySem.W.keepIn X.K (.ref C) = true) (gl : Gl X x) (nodebug : (x == ("__debug__" : Str)) = false := by decide) :
    PE X (.Call (.Name x p) [] [] pos) (fun _ H Q => ∀ a, H a = none → Q (.ref a) (upd H a (xob a C none))) where
  run := fun pins s σ H Q I h => wpAny_Call_Name_kw (ld_glob I gl is (PySem.W.callWith_K0 I.kIn kp (by
    obtain ⟨_, _, _, _, _, _, _, _, _, _, _, _, _, _, _, _, _, cls, ns, no, tl⟩ := exc_obj I.kIn own
    refine wpAny_call_exc_subT F tl cls ns no (fun h' a m => ?_) (Nat.zero_le _)
    have free := I.hok.gone m.new
    obtain ⟨_, at_, _⟩ := m.there
    exact ⟨.ref a, _, I.laidN m.keeps m.new free (xob_ok at_ ⟨rfl, rfl⟩ rfl), rfl, h a free⟩)) nodebug)
theorem pmk_own0 {full : List Value} {Base new ini : String} (F : ExcBaseFacts Base new ini full) (own : PySem.W.excIn X.K C full new = true) (is : X.mg x = some (.ref C)) (kp : PySem.W.keepIn X.K (.ref C) = true) (r : Raises X (.ref C)) (gl : Gl X x) (nodebug : (x == ("__debug__" : Str)) = false := by decide) :
    PMk X (.Call (.Name x p) [] [] pos) (fun _ H Q => Q (.ref C) none H) := fun pins s σ H Q I h => wpAny_Call_Name_kw (ld_glob I gl is (PySem.W.callWith_K0 I.kIn kp (by
    obtain ⟨_, _, _, _, _, _, _, _, _, _, _, _, _, _, _, _, _, cls, ns, no, tl⟩ := exc_obj I.kIn own
    exact wpAny_call_exc_subT F tl cls ns no (fun h' e m => mk_of I m r h (I.hok.gone m.new)) (Nat.zero_le _))) nodebug)
end
end L2

namespace Kx
open PySem L2
def top (i : Nat) : Stmt := PySem.Challenge.pw_nevermiss_k09_folded_and_beside.main.body.getD i (.Pass ⟨0, 0, 0, 0⟩)
abbrev s__law_pen : Stmt := top 39
abbrev s__law_draw : Stmt := top 40
abbrev s__law_pick : Stmt := top 41
/-- a def of the text, as it stands behind the top -/
structure DefT (K : PySem.W.Frag) (mg : Str → Option Value) (name qual : Str) (st : Stmt) (ps : List Str) (f : Addr) (fd : FuncData) : Prop where
  g : mg name = some (.ref f)
  F : Fun K name qual st f fd
  b : Binds K fd ps []
/-! ### the pen -/
/-- all but what stands at p is as it was -/
def SameBut (p : Addr) (H H' : Hp) : Prop := ∀ b o, H b = some o → b ≠ p → H' b = some o
theorem SameBut.refl (p : Addr) (H : Hp) : SameBut p H H := fun _ _ h _ => h
theorem SameBut.trans {p : Addr} {H H1 H2 : Hp} (a : SameBut p H H1) (b : SameBut p H1 H2) : SameBut p H H2 := fun c o h n => b c o (a c o h n) n
theorem SameBut.of {p : Addr} {H H' : Hp} (a : Same H H') : SameBut p H H' := fun c o h _ => a c o h
theorem Same.upd {H : Hp} {p : Addr} {o : HO} (h : H p = none) : Same H (upd H p o) := fun b u e => by rw [upd_ne (ne_of_none e h)]; exact e
theorem SameBut.upd {H : Hp} {p : Addr} {o : HO} : SameBut p H (upd H p o) := fun b u e n => by rw [upd_ne n]; exact e
theorem SameBut.new {H : Hp} {p q : Addr} {o : HO} (h : H q = none) : SameBut p H (L2.upd H q o) := .of (Same.upd h)
abbrev kCells : Key := Sum.inr "cells"
abbrev kAt : Key := Sum.inr "at"
abbrev kLeft : Key := Sum.inr "left"
def penKvs (c : Addr) (a l : Int) : List (Key × V) := [(kCells, .ref c), (kAt, .int a), (kLeft, .int l)]
theorem n_ca : ¬ (kCells = kAt) := by decide +kernel
theorem n_cl : ¬ (kCells = kLeft) := by decide +kernel
theorem n_al : ¬ (kAt = kLeft) := by decide +kernel
theorem pen_cells (c : Addr) (a l : Int) : valV (penKvs c a l) kCells = some (.ref c) := valV_pos rfl
theorem pen_at (c : Addr) (a l : Int) : valV (penKvs c a l) kAt = some (.int a) := by
  unfold penKvs
  rw [valV_neg n_ca]
  exact valV_pos rfl
theorem pen_left (c : Addr) (a l : Int) : valV (penKvs c a l) kLeft = some (.int l) := by
  unfold penKvs
  rw [valV_neg n_cl, valV_neg n_al]
  exact valV_pos rfl
theorem put_at (c : Addr) (a l x : Int) : putK (penKvs c a l) kAt (.int x) = penKvs c x l := by
  have h : ((penKvs c a l).any fun kv => decide (kv.1 = kAt)) = true := by
    rw [valV_any, pen_at]; rfl
  unfold putK
  rw [if_pos h]
  show [if kCells = kAt then (kCells, V.int x) else (kCells, V.ref c), if kAt = kAt then (kAt, V.int x) else (kAt, V.int a), if kLeft = kAt then (kLeft, V.int x) else (kLeft, V.int l)] = _
  rw [if_neg n_ca, if_pos rfl, if_neg (Ne.symm n_al)]
  rfl
theorem put_left (c : Addr) (a l x : Int) : putK (penKvs c a l) kLeft (.int x) = penKvs c a x := by
  have h : ((penKvs c a l).any fun kv => decide (kv.1 = kLeft)) = true := by
    rw [valV_any, pen_left]; rfl
  unfold putK
  rw [if_pos h]
  show [if kCells = kLeft then (kCells, V.int x) else (kCells, V.ref c), if kAt = kLeft then (kAt, V.int x) else (kAt, V.int a), if kLeft = kLeft then (kLeft, V.int x) else (kLeft, V.int l)] = _
  rw [if_neg n_cl, if_neg n_al, if_pos rfl]
  rfl
/-- a pen at p: n bounds the places that were read -/
def PenAt (H : Hp) (p c : Addr) (n : Nat) : Prop := ∃ (ns : List Int) (a l : Int), H p = some (.dK (penKvs c a l)) ∧ H c = some (.lst (ns.map V.int)) ∧ ns.length ≤ 63 ∧ 0 ≤ a ∧ a ≤ n
theorem PenAt.ne {H : Hp} {p c : Addr} {n : Nat} (h : PenAt H p c n) {b : Addr} {xs : List V} (e : H b = some (.lst xs)) : b ≠ p := by
  obtain ⟨ns, a, l, h1, _⟩ := h
  exact ne_of e h1 (by intro z; cases z)
theorem PenAt.keep {H H' : Hp} {p c : Addr} {n : Nat} (h : PenAt H p c n) (s : Same H H') : PenAt H' p c n := by
  obtain ⟨ns, a, l, h1, h2, r⟩ := h
  exact ⟨ns, a, l, s _ _ h1, s _ _ h2, r⟩
/-- a store elsewhere -/
theorem PenAt.put {H : Hp} {p c : Addr} {n : Nat} (h : PenAt H p c n) {d : Addr} {o : HO} (np : d ≠ p) (nc : d ≠ c) : PenAt (upd H d o) p c n := by
  obtain ⟨ns, a, l, h1, h2, r⟩ := h
  exact ⟨ns, a, l, by rw [upd_ne (Ne.symm np)]; exact h1, by rw [upd_ne (Ne.symm nc)]; exact h2, r⟩
theorem PenAt.apart {H : Hp} {p c : Addr} {n : Nat} (h : PenAt H p c n) {d : Addr} (e : H d = none) : d ≠ p ∧ d ≠ c := by
  obtain ⟨ns, a, l, h1, h2, r⟩ := h
  exact ⟨fun z => (by rw [z, h1] at e; cases e), fun z => (by rw [z, h2] at e; cases e)⟩
theorem PenAt.mono {H : Hp} {p c : Addr} {n m : Nat} (h : PenAt H p c n) (s : n ≤ m) : PenAt H p c m := by
  obtain ⟨ns, a, l, h1, h2, h3, h4, h5⟩ := h
  exact ⟨ns, a, l, h1, h2, h3, h4, by omega⟩
def spPen (K : PySem.W.Frag) : Sp := fun vs H Q _ => ∃ (s : Addr) (ns : List Int), vs = [.ref s] ∧ SqL K H s (ns.map V.int) ∧ ns.length ≤ 63 ∧ ∀ p c H', H p = none → Same H H' → PenAt H' p c 0 → Q (.ref p) H'
def spDraw : Sp := fun vs H Q _ => ∃ (p c : Addr) (many : Int) (n : Nat), vs = [.ref p, .int many] ∧ PenAt H p c n ∧ n ≤ 1000000 ∧ 0 < many ∧ many < 1073741824 ∧
  ∀ (r : Int) H', 0 ≤ r → r < many → PenAt H' p c (n + 1) → SameBut p H H' → Q (.int r) H'
def spPick : Sp := fun vs H Q _ => ∃ (p c q : Addr) (xs : List V) (n : Nat), vs = [.ref p, .ref q] ∧ PenAt H p c n ∧ n ≤ 1000000 ∧ H q = some (.lst xs) ∧ 0 < xs.length ∧ xs.length ≤ 1000000 ∧
  ∀ (v : V) (i : Nat) H', xs[i]? = some v → PenAt H' p c (n + 1) → SameBut p H H' → Q v H'
structure TxtP (K : PySem.W.Frag) (mg : Str → Option Value) (f1 f2 f3 : Addr) (d1 d2 d3 : FuncData) : Prop where
  D__law_pen : DefT K mg "_law_pen" "_law_pen" s__law_pen ["script"] f1 d1
  D__law_draw : DefT K mg "_law_draw" "_law_draw" s__law_draw ["pen", "many"] f2 d2
  D__law_pick : DefT K mg "_law_pick" "_law_pick" s__law_pick ["pen", "items"] f3 d3
  n_list : mg "list" = none
  n_int : mg "int" = none
  n_len : mg "len" = none
local macro_rules | `(tactic| walk_at "g") => `(tactic| first | refine ⟨_, _, rfl, rfl, ?_⟩ | refine ⟨_, rfl, ?_⟩ | refine ⟨rfl, ?_⟩)
theorem cut63 (ns : List Int) : ∃ ms : List Int, cutV (ns.map V.int) none (some 63) = ms.map V.int ∧ ms.length ≤ ns.length := by
  refine ⟨(ns.drop (HT.sIx (ns.map V.int).length 0 none)).take (HT.sIx (ns.map V.int).length (ns.map V.int).length (some 63) - HT.sIx (ns.map V.int).length 0 none), ?_, ?_⟩
  · unfold cutV
    rw [List.map_take, List.map_drop]
  · rw [List.length_take, List.length_drop]; omega
section
variable {P : Program} {w : World} {K : PySem.W.Frag} {mg : Str → Option Value} {base : Heap} {f1 f2 f3 : Addr} {d1 d2 d3 : FuncData}
theorem sc_pen : FnScope ["script"] ["script"] (defScope s__law_pen) := ⟨rfl, rfl, rfl, by decide +kernel, rfl, by decide +kernel, by decide +kernel⟩
theorem ok_pen (T : TxtP K mg f1 f2 f3 d1 d2 d3) : FnOk P w K mg base CX0 1 f1 d1 ["script"] (spPen K) := by
  have sc := sc_pen
  refine T.D__law_pen.F.ok sc (fun vs H Q E h => ?_) (fun cdv A outer s H vs Q E hr h => ?_)
  · obtain ⟨_, _, rfl, _⟩ := h; rfl
  · obtain ⟨a, ns, rfl, hs, hl, k⟩ := h
    have hu := hu_of hr
    refine ⟨_, (pss_one (ps_ret (pe_disp (pps_cons pe_str (pe_callTy call_list_of (by rfl) T.n_list (by decide +kernel) (pa_cons (pe_slice sl_list (pv 0) po_none (po_some pe_int)) pa_nil)) (pps_cons pe_str pe_int (pps_cons pe_str pe_int pps_nil))) (by rfl) (by rfl) (fun z => by cases z) (by decide)))), ?_⟩
    intro p hp
    have s1 : Same H (upd H p (.dK [])) := Same.upd hp
    obtain ⟨ms, em, lm⟩ := cut63 ns
    refine ⟨_, rfl, _, rfl, a, _, rfl, s1.seq hs, fun q hq => ?_⟩
    rw [em]
    refine ⟨q, ms.map V.int, rfl, .inl (SqL.of upd_same), fun l hl2 => ?_⟩
    have npq : p ≠ q := ne_of_none upd_same hq
    have npl : p ≠ l := ne_of_none (by rw [upd_ne npq]; exact upd_same) hl2
    refine ⟨by rw [upd_ne npl, upd_ne npq, upd_same], penKvs l 0 0, rfl, (by show 3 ≤ 15; decide), ?_⟩
    refine k p l _ hp (fun b o e => ?_) ⟨ms, 0, 0, ?_, ?_, by omega, by omega, by omega⟩
    · have e1 : upd H p (.dK []) b = some o := s1 b o e
      have e2 : upd (upd H p (.dK [])) q (.lst (ms.map V.int)) b = some o := Same.upd hq b o e1
      rw [upd_ne (ne_of_none e hp)]
      exact Same.upd hl2 b o e2
    · rw [upd_same]
      rfl
    · rw [upd_ne npl.symm, upd_same]
theorem dg_left {H : Hp} {p c : Addr} {a l : Int} (h : H p = some (.dK (penKvs c a l))) : DGet H p (.str "left") (some (.int l)) := by
  have q := DGet.k (k := kLeft) h
  rw [pen_left] at q
  exact q
theorem dg_at {H : Hp} {p c : Addr} {a l : Int} (h : H p = some (.dK (penKvs c a l))) : DGet H p (.str "at") (some (.int a)) := by
  have q := DGet.k (k := kAt) h
  rw [pen_at] at q
  exact q
theorem dg_cells {H : Hp} {p c : Addr} {a l : Int} (h : H p = some (.dK (penKvs c a l))) : DGet H p (.str "cells") (some (.ref c)) := by
  have q := DGet.k (k := kCells) h
  rw [pen_cells] at q
  exact q
theorem dp_left {H : Hp} {p c : Addr} {a l x : Int} (h : H p = some (.dK (penKvs c a l))) : DPut H p (.str "left") (.int x) (upd H p (.dK (penKvs c a x))) := by
  have q := DPut.k (k := kLeft) (v := .int x) h (by show 3 < sizeLine; decide)
  rw [put_left] at q
  exact q
theorem dp_at {H : Hp} {p c : Addr} {a l x : Int} (h : H p = some (.dK (penKvs c a l))) : DPut H p (.str "at") (.int x) (upd H p (.dK (penKvs c x l))) := by
  have q := DPut.k (k := kAt) (v := .int x) h (by show 3 < sizeLine; decide)
  rw [put_at] at q
  exact q
theorem dpInts (K : PySem.W.Frag) (H : Hp) : ∀ ns : List Int, DpAll K H (ns.map V.int) (ns.map PyData.int)
  | [] => .nil
  | n :: ns => .cons (.int n) (dpInts K H ns)
/-- data of a small depth -/
def Sh (n : Nat) (d : PyData) : Prop := d.canLay0 = true ∧ d.depth ≤ n
theorem Sh.int {n : Nat} (i : Int) : Sh n (.int i) := ⟨by simp [PyData.canLay0], by rw [PyData.depth]; omega⟩
theorem Sh.bl {n : Nat} (b : Bool) : Sh n (.bool b) := ⟨by simp [PyData.canLay0], by rw [PyData.depth]; omega⟩
theorem Sh.str {n : Nat} {x : Str} (h : PyData.strOk x = true) : Sh n (.str x) := ⟨by simp [PyData.canLay0, h], by rw [PyData.depth]; omega⟩
theorem Sh.all {n : Nat} : ∀ {xs : List PyData}, (∀ x ∈ xs, Sh n x) → PyData.canLayAll0 xs = true ∧ PyData.depthAll xs ≤ n
  | [], _ => ⟨by simp [PyData.canLayAll0], by rw [PyData.depthAll]; omega⟩
  | x :: xs, h => by
    obtain ⟨a, b⟩ := Sh.all (xs := xs) fun y hy => h y (List.mem_cons_of_mem _ hy)
    obtain ⟨c, d⟩ := h x List.mem_cons_self
    refine ⟨by rw [PyData.canLayAll0, c, a]; rfl, ?_⟩
    rw [PyData.depthAll]
    exact Nat.max_le.mpr ⟨d, b⟩
theorem Sh.list {n : Nat} {xs : List PyData} (h : ∀ x ∈ xs, Sh n x) : Sh (n + 1) (.list xs) := by
  obtain ⟨a, b⟩ := Sh.all h
  exact ⟨by rw [PyData.canLay0]; exact a, by rw [PyData.depth]; omega⟩
theorem Sh.tup {n : Nat} {xs : List PyData} (h : ∀ x ∈ xs, Sh n x) : Sh (n + 1) (.tuple xs) := by
  obtain ⟨a, b⟩ := Sh.all h
  exact ⟨by rw [PyData.canLay0]; exact a, by rw [PyData.depth]; omega⟩
theorem Sh.ok {n : Nat} {d : PyData} (h : Sh n d) (hn : n ≤ 64) : SeqAt.shaped d = true := by
  unfold SeqAt.shaped
  rw [h.1, decide_eq_true (Nat.le_trans h.2 hn)]
  rfl
theorem Sh.refl {n : Nat} {d : PyData} (h : Sh n d) : PyData.eqv d d = true := PySem.SeqAt.eqv_refl d h.1
theorem ifT {c A B : Prop} [Decidable c] (h : c) (a : A) : if decide c = true then A else B := by rw [if_pos (decide_eq_true h)]; exact a
theorem ifF {c A B : Prop} [Decidable c] (h : ¬ c) (b : B) : if decide c = true then A else B := by rw [if_neg (by simpa using h)]; exact b
theorem ifTn {c A B : Prop} [Decidable c] (h : ¬ c) (a : A) : if (!decide c) = true then A else B := by rw [if_pos (by simpa using h)]; exact a
theorem ifFn {c A B : Prop} [Decidable c] (h : c) (b : B) : if (!decide c) = true then A else B := by rw [if_neg (by simpa using h)]; exact b
theorem shInts (ns : List Int) : SeqAt.shaped (.list (ns.map PyData.int)) = true := (Sh.list (n := 0) fun x hx => by
  obtain ⟨i, _, rfl⟩ := List.mem_map.mp hx
  exact Sh.int i).ok (by decide)
theorem eqv_ints_nil (ns : List Int) : PyData.eqv (.list (ns.map PyData.int)) (.list []) = decide (ns = []) := by
  cases ns with
  | nil => rw [List.map_nil, PyData.eqv, PyData.eqvAll]; rfl
  | cons a r => rw [List.map_cons, PyData.eqv, PyData.eqvAll]; rfl
theorem sc_draw : FnScope ["pen", "many", "digit", "at", "cell", "mixed"] ["pen", "many"] (defScope s__law_draw) := ⟨rfl, rfl, rfl, by decide +kernel, rfl, by decide +kernel, by decide +kernel⟩
theorem ok_draw (T : TxtP K mg f1 f2 f3 d1 d2 d3) : FnOk P w K mg base CX0 1 f2 d2 ["pen", "many"] spDraw := by
  have sc := sc_draw
  refine T.D__law_draw.F.ok sc (fun vs H Q E h => ?_) (fun cdv A outer s H vs Q E hr h => ?_)
  · obtain ⟨_, _, _, _, rfl, _⟩ := h; rfl
  · obtain ⟨p, c, many, n, rfl, ⟨ns, a, l, h1, h2, h3, h4, h5⟩, hn, m0, m1, k⟩ := h
    have hu := hu_of hr
    have ncp : c ≠ p := ne_of h2 h1 (by intro z; cases z)
    refine ⟨_, (pss_cons (ps_if (pt_cmpR op_ge (pe_dget hu (pv 0) pe_str (fun _ _ => rfl)) (pv 1) (nomark _)) (pss_cons (ps_set (i := 2) sc.nd rfl (Or.inl rfl) (pe_op op_mod (pe_callTy call_int1 (by rfl) T.n_int (by decide +kernel) (pa_cons (pe_dget hu (pv 0) pe_str (fun _ _ => rfl)) pa_nil)) (pv 1)))
      (pss_cons (ps_dput hu (pv 0) pe_str (pe_op op_fdiv (pe_dget hu (pv 0) pe_str (fun _ _ => rfl)) (pv 1)) rfl)
      (pss_one (ps_ret (pv 2)))))
        pss_nil)
      (pss_cons (ps_set (i := 3) sc.nd rfl (Or.inl rfl) (pe_dget hu (pv 0) pe_str (fun _ _ => rfl)))
      (pss_cons (ps_dput hu (pv 0) pe_str (pe_op op_add (pv 3) pe_int) rfl)
      (pss_cons (ps_set (i := 4) sc.nd rfl (Or.inl rfl) (pe_op op_add (pe_op op_mul pe_int (pv 3)) pe_int))
      (C8.pss_cut (ps_if (pt_cmpR (op_neD hr.units) (pe_dget hu (pv 0) pe_str (fun _ _ => rfl)) (pe_lst pa_nil) (nomark _)) (pss_one (ps_set (i := 4) sc.nd rfl (Or.inl rfl) (pe_ix ix_list (pe_dget hu (pv 0) pe_str (fun _ _ => rfl)) (pe_op op_mod (pe_callTy call_int1 (by rfl) T.n_int (by decide +kernel) (pa_cons (pv 3) pa_nil)) (pe_callB call_len (by rfl) T.n_len (by decide +kernel) (pa_cons (pe_dget hu (pv 0) pe_str (fun _ _ => rfl)) pa_nil))) (fun _ _ => rfl))))
        pss_nil)
      (pss_cons (ps_if (PW.pt (pw_and (pt_cmpR op_lt (pv 3) (pe_callB call_len (by rfl) T.n_len (by decide +kernel) (pa_cons (pe_dget hu (pv 0) pe_str (fun _ _ => rfl)) pa_nil)) (nomark _)) (pw_and1 (pt_cmpR op_ge (pv 4) (pe_op op_pow pe_int pe_int) (nomark _))))) (pss_cons (ps_dput hu (pv 0) pe_str (pe_op op_fdiv (pe_op op_sub (pv 4) (pe_op op_pow pe_int pe_int)) (pv 1)) rfl)
      (pss_one (ps_ret (pe_op op_mod (pe_callTy call_int1 (by rfl) T.n_int (by decide +kernel) (pa_cons (pe_op op_sub (pv 4) (pe_op op_pow pe_int pe_int)) pa_nil)) (pv 1)))))
        pss_nil)
      (pss_cons (ps_set (i := 5) sc.nd rfl (Or.inl rfl) (pe_op op_add (pe_op op_add (pe_op op_add (pe_op op_mul (pe_op op_mod (pe_callTy call_int1 (by rfl) T.n_int (by decide +kernel) (pa_cons (pv 4) pa_nil)) pe_int) pe_int) (pe_op op_mul (pe_op op_mul pe_int (pv 3)) (pv 3))) (pe_op op_mul pe_int (pv 3))) pe_int))
      (pss_cons (ps_set (i := 5) sc.nd rfl (Or.inl rfl) (pe_op op_mod (pe_callTy call_int1 (by rfl) T.n_int (by decide +kernel) (pa_cons (pv 5) pa_nil)) pe_int))
      (pss_cons (ps_set (i := 5) sc.nd rfl (Or.inl rfl) (pe_op op_mod (pe_callTy call_int1 (by rfl) T.n_int (by decide +kernel) (pa_cons (pe_op op_mul (pv 5) (pe_op op_add (pv 5) pe_int)) pa_nil)) pe_int))
      (pss_one (ps_ret (pe_op op_mod (pe_callTy call_int1 (by rfl) T.n_int (by decide +kernel) (pa_cons (pe_op op_fdiv (pe_op op_mod (pe_callTy call_int1 (by rfl) T.n_int (by decide +kernel) (pa_cons (pe_op op_mul (pv 5) (pv 5)) pa_nil)) pe_int) pe_int) pa_nil)) (pv 1))))))))))))), ?_⟩
    refine ⟨_, rfl, p, .int l, rfl, dg_left h1, _, rfl, _, _, rfl, rfl, _, rfl, ?_⟩
    by_cases c1 : many ≤ l
    · refine ifT c1 ?_
      refine ⟨_, rfl, p, .int l, rfl, dg_left h1, .inl ⟨_, rfl, _, rfl, _, _, rfl, rfl, m0, ?_⟩⟩
      refine ⟨_, rfl, p, .int l, rfl, dg_left h1, _, rfl, _, _, rfl, rfl, ⟨m0, m1⟩, _, rfl, p, _, rfl, dp_left h1, ?_⟩
      refine ⟨_, rfl, ?_⟩
      refine k _ _ (Int.emod_nonneg _ (by omega)) (Int.emod_lt_of_pos _ m0) ⟨ns, a, _, upd_same, by rw [upd_ne ncp]; exact h2, h3, h4, by omega⟩ .upd
    · refine ifF c1 ?_
      refine ⟨_, rfl, p, .int a, rfl, dg_at h1, ?_⟩
      refine ⟨_, rfl, _, _, rfl, rfl, _, rfl, p, _, rfl, dp_at h1, ?_⟩
      have g1 : upd H p (.dK (penKvs c (a + 1) l)) p = some (.dK (penKvs c (a + 1) l)) := upd_same
      have g2 : upd H p (.dK (penKvs c (a + 1) l)) c = some (.lst (ns.map V.int)) := by rw [upd_ne ncp]; exact h2
      have g3 : SameBut p H (upd H p (.dK (penKvs c (a + 1) l))) := .upd
      generalize upd H p (.dK (penKvs c (a + 1) l)) = H1 at g1 g2 g3 ⊢
      refine ⟨_, rfl, _, _, rfl, rfl, .inl ⟨by decide, by decide⟩, _, _, rfl, rfl, ?_⟩
      -- if pen['cells'] != []
      refine ⟨fun σ' H' => ∃ cell : Int, σ' = [some (.ref p), some (.int many), none, some (.int a), some (.int cell), none] ∧ Same H1 H', ?_, ?_⟩
      · refine ⟨_, rfl, p, .ref c, rfl, dg_cells g1, (by decide), fun lz hz => ?_⟩
        refine ⟨.list (ns.map PyData.int), .list [], .lst (SqL.of (Same.upd hz _ _ g2)) (dpInts _ _ _), .lst (SqL.of upd_same) .nil, shInts ns, shInts [], _, rfl, ?_⟩
        rw [eqv_ints_nil]
        by_cases c2 : ns = []
        · refine ifFn c2 ?_
          exact ⟨_, rfl, Same.upd hz⟩
        · refine ifTn c2 ?_
          have hpos : 0 < ns.length := List.length_pos_iff.mpr c2
          have hsu := Same.upd (o := .lst ([] : List V)) hz
          have e2 := hsu _ _ g2
          have e1 := hsu _ _ g1
          have hm0 : 0 ≤ a % (ns.length : Int) := Int.emod_nonneg _ (by omega)
          have hm1 : a % (ns.length : Int) < ns.length := Int.emod_lt_of_pos _ (by omega)
          obtain ⟨x, hx⟩ : ∃ x, ns[(a % (ns.length : Int)).toNat]? = some x := ⟨_, List.getElem?_eq_getElem (by omega)⟩
          refine ⟨_, rfl, p, .ref c, rfl, dg_cells e1, _, rfl, .inl ⟨_, rfl, ?_⟩⟩
          refine ⟨_, rfl, p, .ref c, rfl, dg_cells e1, .ref c, ns.length, rfl, .inl ⟨_, SqL.of e2, by rw [List.length_map]⟩, _, _, rfl, rfl, by omega, ?_⟩
          refine ⟨c, ns.map V.int, _, .int x, rfl, rfl, SqL.of e2, ?_, ?_⟩
          · have q := atI_nat (xs := ns.map V.int) (j := (a % (ns.length : Int)).toNat) (v := .int x) (by rw [List.getElem?_map, hx]; rfl)
            rw [Int.toNat_of_nonneg hm0] at q
            exact q
          · exact ⟨x, rfl, hsu⟩
      · rintro σ' H' ⟨cell, rfl, s1⟩
        have e1 := s1 _ _ g1
        have e2 := s1 _ _ g2
        refine ⟨_, rfl, _, rfl, p, .ref c, rfl, dg_cells e1, .ref c, ns.length, rfl, .inl ⟨_, SqL.of e2, by rw [List.length_map]⟩, _, _, rfl, rfl, _, rfl, ?_⟩
        have P18 : CPow 10 18 := ⟨by decide, by decide, by decide⟩
        have fin : ∀ (r : Int) (H2 : Hp) (l2 : Int), 0 ≤ r → r < many → H2 = upd H' p (.dK (penKvs c (a + 1) l2)) ∨ H2 = H' → Q (.int r) H2 := by
          intro r H2 l2 r0 r1 e
          have g3' : SameBut p H H' := g3.trans (.of s1)
          rcases e with rfl | rfl
          · exact k r _ r0 r1 ⟨ns, a + 1, l2, upd_same, by rw [upd_ne ncp]; exact e2, h3, by omega, by omega⟩ (g3'.trans .upd)
          · exact k r _ r0 r1 ⟨ns, a + 1, l, e1, e2, h3, by omega, by omega⟩ g3'
        have last : (tSeq (tAsg (tOp (rI0 fun i j => .int (i + j)) (tOp (rI0 fun i j => .int (i + j)) (tOp (rI0 fun i j => .int (i + j)) (tOp (rI CMul fun i j => .int (i * j)) (tOp (rI (fun _ j => 0 < j) fun i j => .int (i % j)) (tCB (fun xs H Q => (∃ i, xs = [V.int i] ∧ Q (.int i) H) ∨ ∃ k, xs = [V.bl k] ∧ Q (.int (if k then 1 else 0)) H) (tCons (tVar 4) tNil)) (tC (.int 2147483587))) (tC (.int 48271))) (tOp (rI CMul fun i j => .int (i * j)) (tOp (rI CMul fun i j => .int (i * j)) (tC (.int 40014)) (tVar 3)) (tVar 3))) (tOp (rI CMul fun i j => .int (i * j)) (tC (.int 59)) (tVar 3))) (tC (.int 17))) (gName 5))
            (tSeq (tAsg (tOp (rI (fun _ j => 0 < j) fun i j => .int (i % j)) (tCB (fun xs H Q => (∃ i, xs = [V.int i] ∧ Q (.int i) H) ∨ ∃ k, xs = [V.bl k] ∧ Q (.int (if k then 1 else 0)) H) (tCons (tVar 5) tNil)) (tC (.int 2147483629))) (gName 5))
            (tSeq (tAsg (tOp (rI (fun _ j => 0 < j) fun i j => .int (i % j)) (tCB (fun xs H Q => (∃ i, xs = [V.int i] ∧ Q (.int i) H) ∨ ∃ k, xs = [V.bl k] ∧ Q (.int (if k then 1 else 0)) H) (tCons (tOp (rI CMul fun i j => .int (i * j)) (tVar 5) (tOp (rI0 fun i j => .int (i + j)) (tVar 5) (tC (.int 69621)))) tNil)) (tC (.int 2147483549))) (gName 5))
            (tRet (tOp (rI (fun _ j => 0 < j) fun i j => .int (i % j)) (tCB (fun xs H Q => (∃ i, xs = [V.int i] ∧ Q (.int i) H) ∨ ∃ k, xs = [V.bl k] ∧ Q (.int (if k then 1 else 0)) H) (tCons (tOp (rI CDiv fun i j => .int (i / j)) (tOp (rI (fun _ j => 0 < j) fun i j => .int (i % j)) (tCB (fun xs H Q => (∃ i, xs = [V.int i] ∧ Q (.int i) H) ∨ ∃ k, xs = [V.bl k] ∧ Q (.int (if k then 1 else 0)) H) (tCons (tOp (rI CMul fun i j => .int (i * j)) (tVar 5) (tVar 5)) tNil)) (tC (.int 2147483579))) (tC (.int 32))) tNil)) (tVar 1))))))
            { nx := fun _ H' => Q .non H', rt := Q } [some (.ref p), some (.int many), none, some (.int a), some (.int cell), none] H' := by
          refine ⟨_, rfl, .inl ⟨_, rfl, _, _, rfl, rfl, (show (0 : Int) < 2147483587 by decide), _, _, rfl, rfl, .inr ⟨by decide, by decide⟩, _, rfl, _, _, rfl, rfl, .inl ⟨by decide, by decide⟩, _, rfl, _, _, rfl, rfl, .inr ⟨by omega, by omega⟩, _, _, rfl, rfl, _, rfl, _, _, rfl, rfl, .inl ⟨by decide, by decide⟩, _, _, rfl, rfl, _, _, rfl, rfl, ?_⟩⟩
          refine ⟨_, rfl, .inl ⟨_, rfl, _, _, rfl, rfl, (show (0 : Int) < 2147483629 by decide), ?_⟩⟩
          have x0 := Int.emod_nonneg (cell % 2147483587 * 48271 + 40014 * a * a + 59 * a + 17) (show (2147483629 : Int) ≠ 0 by decide)
          have x1 := Int.emod_lt_of_pos (cell % 2147483587 * 48271 + 40014 * a * a + 59 * a + 17) (show (0 : Int) < 2147483629 by decide)
          generalize (cell % 2147483587 * 48271 + 40014 * a * a + 59 * a + 17) % 2147483629 = x at x0 x1 ⊢
          refine ⟨_, rfl, _, rfl, _, _, rfl, rfl, _, _, rfl, rfl, .inl ⟨by omega, by omega⟩, .inl ⟨_, rfl, _, _, rfl, rfl, (show (0 : Int) < 2147483549 by decide), ?_⟩⟩
          have y0 := Int.emod_nonneg (x * (x + 69621)) (show (2147483549 : Int) ≠ 0 by decide)
          have y1 := Int.emod_lt_of_pos (x * (x + 69621)) (show (0 : Int) < 2147483549 by decide)
          generalize (x * (x + 69621)) % 2147483549 = y at y0 y1 ⊢
          refine ⟨_, rfl, _, rfl, _, _, rfl, rfl, .inl ⟨by omega, by omega⟩, .inl ⟨_, rfl, _, _, rfl, rfl, (show (0 : Int) < 2147483579 by decide), _, _, rfl, rfl, ⟨by decide, by decide⟩, .inl ⟨_, rfl, _, rfl, _, _, rfl, rfl, m0, ?_⟩⟩⟩
          exact fin _ _ l (Int.emod_nonneg _ (by omega)) (Int.emod_lt_of_pos _ m0) (.inr rfl)
        by_cases c3 : a < ns.length
        · refine ifT c3 ?_
          refine ⟨_, rfl, _, _, rfl, rfl, P18, _, _, rfl, rfl, _, rfl, ?_⟩
          by_cases c4 : (10 : Int) ^ (18 : Int).toNat ≤ cell
          · refine ifT c4 ?_
            refine ⟨_, rfl, _, _, rfl, rfl, P18, _, _, rfl, rfl, _, rfl, _, _, rfl, rfl, ⟨m0, m1⟩, _, rfl, p, _, rfl, dp_left e1, ?_⟩
            refine ⟨_, rfl, _, _, rfl, rfl, P18, _, _, rfl, rfl, .inl ⟨_, rfl, _, rfl, _, _, rfl, rfl, m0, ?_⟩⟩
            exact fin _ _ _ (Int.emod_nonneg _ (by omega)) (Int.emod_lt_of_pos _ m0) (.inl rfl)
          · refine ifF c4 ?_
            exact last
        · refine ifF c3 ?_
          exact last
theorem sc_pick : FnScope ["pen", "items"] ["pen", "items"] (defScope s__law_pick) := ⟨rfl, rfl, rfl, by decide +kernel, rfl, by decide +kernel, by decide +kernel⟩
theorem ok_pick (T : TxtP K mg f1 f2 f3 d1 d2 d3) : FnOk P w K mg base CX0 2 f3 d3 ["pen", "items"] spPick := by
  have sc := sc_pick
  have G__law_draw : FnOk P w K mg base CX0 1 f2 d2 ["pen", "many"] spDraw := ok_draw T
  refine T.D__law_pick.F.ok sc (fun vs H Q E h => ?_) (fun cdv A outer s H vs Q E hr h => ?_)
  · obtain ⟨_, _, _, _, _, rfl, _⟩ := h; rfl
  · obtain ⟨p, c, q, xs, n, rfl, hp, hn, hq, x0, x1, k⟩ := h
    refine ⟨_, (pss_one (ps_ret (pe_ix ix_list (pv 1) (pe_call G__law_draw (hr.mono (by decide)) rfl T.D__law_draw.g T.D__law_draw.F.kp T.D__law_draw.b .nil pass0 (pa_cons (pv 0) (pa_cons (pe_callB call_len (by rfl) T.n_len (by decide +kernel) (pa_cons (pv 1) pa_nil)) pa_nil))) (fun _ _ => rfl)))), ?_⟩
    refine ⟨_, rfl, _, rfl, _, rfl, .ref q, xs.length, rfl, .inl ⟨_, SqL.of hq, rfl⟩, p, c, _, n, rfl, hp, hn, by omega, by omega, fun r H' r0 r1 hp' sb => ?_⟩
    obtain ⟨x, hx⟩ : ∃ x, xs[r.toNat]? = some x := ⟨_, List.getElem?_eq_getElem (by omega)⟩
    refine ⟨q, xs, r, x, rfl, rfl, SqL.of (sb _ _ hq (hp.ne hq)), ?_, k x _ H' hx hp' sb⟩
    have z := atI_nat hx
    rw [Int.toNat_of_nonneg r0] at z
    exact z
end
end Kx

namespace Own
open PySem L2 PyProof.Rows PySem.Froz
/-! ### sets of texts, as they grow -/
/-- the table stands in its order, and is told -/
def Tidy (w : World) (D : SD) : Prop := Ris D.2.2.place.toList ∧ (w.params.followText "set-order" = true ∨ D.2.2.led = true)
theorem tidy_tail {w : World} {ep : Nat} {es : Array (Int × Value)} {t : SetTable} {b : Bool} (h : Tidy w (es, ep, t)) : Tidy w (tailTx ep es t b) := by
  unfold tailTx
  split
  · exact ⟨relayAll_ris t es _, h.2.imp id fun z => (relayAll_led t es _).trans z⟩
  · exact h
theorem tidy_add {w : World} {k : Int} {v : Value} {D : SD} (h : Tidy w D) : Tidy w (addTx k v D) := by
  refine tidy_tail ?_
  have r := layNew_ris D.2.2 D.1 k v h.1
  have l := layNew_led D.2.2 D.1 k v
  split
  · exact ⟨r, h.2.imp id fun z => l.trans z⟩
  · exact ⟨r, h.2.imp id fun z => l.trans z⟩
/-- the set at a holds the texts l, each once -/
def SetS (P : Program) (w : World) (h : Heap) (a : Addr) (l : List Str) : Prop := ∃ D : SD, h.get? a = some (sObj "set" D) ∧ Tidy w D ∧ TxOk P w D l ∧ l.Nodup
section
variable {P : Program} {w : World} {A : Around} {E : Value → Shared → Prop} {s : Shared} {a : Addr} {l : List Str} {k : Str} {u : Tok}
theorem SetS.at {h h' : Heap} (R : SetS P w h a l) (e : ∀ o, h.get? a = some o → h'.get? a = some o) : SetS P w h' a l := by
  obtain ⟨D, q, r⟩ := R
  exact ⟨D, e _ q, r⟩
/-- a text that is there already -/
theorem stay_s {D : SD} {Q : Bool → Shared → Prop} (ho : s.heap.get? a = some (sObj "set" D)) (F : TxOk P w D l) (hb : l.length < scanBound) (hk : k ∈ l) (q : Q false s) : wpAny (model P w) A (setAddHashed a (.str k u) (hashStr w k)) Q E s := by
  obtain ⟨es, ep, t⟩ := D
  have sz : es.size < scanBound := by rw [show es.size = l.length from F.sz]; exact hb
  unfold setAddHashed setAddHashedIn
  refine wpAny_holding (wpAny_bind (wpAny_setState_of ho rfl F.fit ?_))
  dsimp only
  rw [byScan_of (knd := strKind P w) rfl sz F.el]
  simp only [↓reduceIte]
  unfold setAddByScan
  refine wpAny_bind (wpAny_bind (wpAny_rule (wpAny_bind (wpAny_setScan_of (knd := strKind P w) (k := k) (is_str k u) ho rfl F.fit F.el ?_))))
  obtain ⟨e, he, hq⟩ := (F.mem k).mp hk
  cases c : List.findIdx? (fun e => (strKind P w).is k e.2) es.toList with
  | some j => exact wpAny_pure (wpAny_pure q)
  | none =>
    have z := List.findIdx?_eq_none_iff.mp c e he
    rw [hq] at z
    cases z
/-- one more text -/
theorem put_s {Q : Bool → Shared → Prop} (R : SetS P w s.heap a l) (hb : l.length + 1 < scanBound) (q : ∀ h' l' b, Heap.SameBut a s.heap h' → SetS P w h' a l' → (∀ x, x ∈ l' ↔ x ∈ l ∨ x = k) → l'.length ≤ l.length + 1 → Q b { s with heap := h' }) :
    wpAny (model P w) A (setAddHashed a (.str k u) (hashStr w k)) Q E s := by
  obtain ⟨D, ho, td, F, nd⟩ := R
  by_cases c : k ∈ l
  · exact stay_s ho F (by omega) c (q s.heap l false (.refl _ _) ⟨D, ho, td, F, nd⟩ (fun x => ⟨.inl, fun z => z.elim id fun e => e ▸ c⟩) (by omega))
  · refine add_x ho F c hb (q _ (k :: l) true (Heap.SameBut.update _ _ _) ⟨_, get_upd _ ho rfl, tidy_add td, add_ok u F, List.nodup_cons.mpr ⟨c, nd⟩⟩ (fun x => ?_) (Nat.le_refl _))
    rw [List.mem_cons]
    exact Or.comm
/-- set.update's loop over a walk of texts -/
theorem fill_s {I : Addr} {fp wr : List Addr} {n : Nat} {St : Nat → Heap → Prop} {Pv : Nat → Value → Prop} {R : Result → Shared → Prop} (W : Walks P w A.in1 I fp wr n Pv St) (ha : a ∉ fp) (xs : List Str) (hn : n = xs.length) (hb : n + 1 < scanBound) (hv : ∀ i v, Pv i v → ∃ x t, xs[i]? = some x ∧ v = .str x t)
    (fin : ∀ (h' : Heap) tk l', (∀ b o, b ≠ a → b ∉ wr → s.heap.get? b = some o → h'.get? b = some o) → SetS P w h' a l' → (∀ x, x ∈ l' ↔ x ∈ xs) → l'.length ≤ xs.length → R (.ok (.ret .none)) { s with heap := h', toks := tk }) :
    ∀ (m i : Nat) (h1 : Heap) (tk : Nat), i + m = n → St i h1 → (∀ b o, b ≠ a → b ∉ wr → s.heap.get? b = some o → h1.get? b = some o) → (∃ l, SetS P w h1 a l ∧ (∀ x, x ∈ l ↔ x ∈ xs.take i) ∧ l.length ≤ i) →
      codeAny (model P w) A (.builtin "set.update.loop" ⟨[.ref a, .ref I], []⟩) R { s with heap := h1, toks := tk } := by
  have hw : a ∉ wr := fun z => ha (W.sub _ z)
  intro m
  induction m with
  | zero =>
    intro i h1 tk e st k1 ⟨l, hs, hm, hl⟩
    have e' : i = n := e
    subst e'
    refine codeAny_builtin F.entry_set_update_loop ?_
    rw [Around.under_plainId F.plain_set_update_loop _]
    refine wpAny_bind (W.done { s with heap := h1, toks := tk } _ _ st fun h2 t2 k2 => wpAny_pure (fin h2 t2 l (fun b o b1 b2 e => k2 b o b2 (k1 b o b1 b2 e)) (hs.at fun o e => k2 a o hw e) (fun x => ?_) (by omega)))
    rw [hm x, List.take_of_length_le (by omega)]
  | succ m ih =>
    intro i h1 tk e st k1 ⟨l, hs, hm, hl⟩
    refine codeAny_builtin F.entry_set_update_loop ?_
    rw [Around.under_plainId F.plain_set_update_loop _]
    refine wpAny_bind (W.item i { s with heap := h1, toks := tk } _ _ (by omega) st fun v h2 t2 hp st2 k2 => ?_)
    obtain ⟨x, t, hx, rfl⟩ := hv i v hp
    refine wpAny_bind (m := holding _ (setAdd a _)) (wpAny_holding ?_)
    unfold setAdd
    refine wpAny_holding (wpAny_bind ((strKind P w).pyHash (k := x) (is_str x t) ?_))
    refine put_s (s := { s with heap := h2, toks := t2 + 1 }) (hs.at fun o e => k2 a o hw e) (by omega) fun h3 l3 b sb hs3 hm3 hl3 => ?_
    have k3 : ∀ b o, b ≠ a → h2.get? b = some o → h3.get? b = some o := fun b o q z => (sb.2 b q).trans z
    refine wpAny_pure ⟨plainId_quiet F.plain_set_update_loop _, ih (i + 1) h3 _ (by omega) (W.frame _ _ _ st2 fun b hbf o z => k3 b o (fun q => ha (q ▸ hbf)) z) (fun b o b1 b2 z => k3 b o b1 (k2 b o b2 (k1 b o b1 b2 z))) ⟨l3, hs3, fun y => ?_, by omega⟩⟩
    rw [hm3 y, hm y, List.take_add_one, hx]
    simp
end
end Own

namespace Own
open PySem L2 PyProof.Rows PySem.Froz
/-- the set that has just been made -/
def newSetO (w : World) : Obj := { cls := .type "set", dict := none, data := .set #[] 0 (.fresh 0 0 (!w.params.followText "set-order")) }
theorem new_s (P : Program) (w : World) {h : Heap} {a : Addr} (e : h.get? a = some (newSetO w)) : SetS P w h a [] := by
  refine ⟨(#[], 0, .fresh 0 0 (!w.params.followText "set-order")), e, ⟨List.Pairwise.nil, ?_⟩, .nil (by rfl), List.nodup_nil⟩
  show _ ∨ (!w.params.followText "set-order") = true
  cases w.params.followText "set-order"
  · exact .inr rfl
  · exact .inl rfl
/-- what can be walked, and gives the texts xs: x of the type T -/
structure Gives (P : Program) (w : World) (E : Value → Shared → Prop) (s : Shared) (x : Value) (T : String) (xs : List Str) : Prop where
  ty : ∀ s1 : Shared, (∀ b o, s.heap.get? b = some o → s1.heap.get? b = some o) → s1.TypeIs x T
  no1 : isSubtype (.type T) (.type "set") = pure false
  no2 : isSubtype (.type T) (.type "frozenset") = pure false
  no3 : (Value.type T == Value.type "dict") = false
  it : ∀ (A : Around) (s1 : Shared) (Q : Value → Shared → Prop), A.handled = none → (∀ b o, s.heap.get? b = some o → s1.heap.get? b = some o) →
    (∀ (o : Obj) (fp : List Addr) (St : Nat → Heap → Prop) (Pv : Nat → Value → Prop), (∀ B : Around, B.handled = none → Walks P w B s1.heap.objs.size fp [s1.heap.objs.size] xs.length Pv St) →
      (∀ b ∈ fp, b = s1.heap.objs.size ∨ ∃ o, s.heap.get? b = some o) → (∀ i v, Pv i v → ∃ y t, xs[i]? = some y ∧ v = .str y t) → St 0 (s1.heap.push o) → Q (.ref s1.heap.objs.size) { s1 with heap := s1.heap.push o }) →
    wpAny (model P w) A (pyIter x) Q E s1
section
variable {P : Program} {w : World} {A : Around} {E : Value → Shared → Prop} {s : Shared} {x : Value} {T : String} {xs : List Str}
theorem upd_fr {a : Addr} {s1 : Shared} {Q : Unit → Shared → Prop} (g : Gives P w E s x T xs) (hh : A.handled = none) (k : ∀ b o, s.heap.get? b = some o → s1.heap.get? b = some o) (na : s.heap.get? a = none) (S : SetS P w s1.heap a []) (hb : xs.length + 1 < scanBound)
    (q : ∀ (h' : Heap) tk l, (∀ b o, b ≠ a → s1.heap.get? b = some o → h'.get? b = some o) → SetS P w h' a l → (∀ y, y ∈ l ↔ y ∈ xs) → l.length ≤ xs.length → Q () { s1 with heap := h', toks := tk }) :
    wpAny (model P w) A (Builtin.Frozenset.updateFrom "set.__init__" a x) Q E s1 := by
  have ty := g.ty s1 k
  unfold Builtin.Frozenset.updateFrom
  refine wpAny_bind (m := Builtin.Frozenset.isAnySet x) ?_
  · unfold Builtin.Frozenset.isAnySet orM
    refine wpAny_bind (wpAny_isInstance ty g.no1 ?_)
    refine wpAny_isInstance ty g.no2 ?_
    dsimp only
    simp only [Bool.false_eq_true, ↓reduceIte]
    refine wpAny_bind (wpAny_typeOf ty ?_)
    rw [g.no3]
    simp only [Bool.false_eq_true, ↓reduceIte]
    refine wpAny_bind (g.it A s1 _ hh k fun o fp St Pv W hfp hv st => ?_)
    have ha : a < s1.heap.objs.size := by
      obtain ⟨D, e, _⟩ := S
      exact Heap.lt_size e
    have hf : a ∉ fp := fun z => by
      rcases hfp a z with e | ⟨o, e⟩
      · exact Nat.ne_of_lt ha e
      · rw [na] at e; cases e
    refine wpAny_bind (wpAny_runValue ?_)
    refine fill_s (s := { s1 with heap := s1.heap.push o }) (W A.in1 hh) hf xs rfl hb hv (fun h' tk l kk hs hm hl => ?_) xs.length 0 (s1.heap.push o) s1.toks (by omega) st (fun b o' _ _ e => e) ⟨[], S.at fun o' e => Heap.get?_push_of_some _ e, fun y => by simp, Nat.le_refl _⟩
    refine wpAny_pure (q h' tk l (fun b u hb' e => kk b u hb' (fun z => ?_) (Heap.get?_push_of_some _ e)) hs hm hl)
    exact Nat.ne_of_lt (Heap.lt_size e) (List.mem_singleton.mp z)
theorem call_setG (g : Gives P w E s x T xs) (hh : A.handled = none) (hb : xs.length + 1 < scanBound) {Q : Value → Shared → Prop}
    (q : ∀ (h' : Heap) tk l, (∀ b o, s.heap.get? b = some o → h'.get? b = some o) → SetS P w h' s.heap.objs.size l → (∀ y, y ∈ l ↔ y ∈ xs) → l.length ≤ xs.length → Q (.ref s.heap.objs.size) { s with heap := h', toks := tk }) :
    wpAny (model P w) A (call (.type "set") [x]) Q E s := by
  obtain ⟨c, tl, hmro⟩ := F.called_set.mro
  have k1 := F.called_set.made
  have k2 := F.called_set.sub
  have k3 := F.called_set.notType
  have k4 := F.called_set.canCreate
  have k5 := F.typeCall_set_1 x
  refine wpAny_call (codeAny_of_tree ?_)
  show wpAny _ _ (callAny (.type "set") _) _ _ _
  refine wpAny_pure ⟨Code.quiet_builtin _ (by decide +kernel), codeAny_builtin F.entry_type_call ?_⟩
  rw [Around.under_plain (weight_type_call_type "set" [x] []) rfl]
  repeat (any_goals (first | assumption | wp_step))
  have na : s.heap.get? s.heap.objs.size = none := by
    cases e : s.heap.get? s.heap.objs.size with
    | none => rfl
    | some o => exact absurd (Heap.lt_size e) (Nat.lt_irrefl _)
  have hp : ∀ b o, s.heap.get? b = some o → (s.heap.push (newSetO w)).get? b = some o := fun b o e => Heap.get?_push_of_some _ e
  have hn : (s.heap.push (newSetO w)).get? s.heap.objs.size = some (newSetO w) := Heap.get?_push_size _ rfl
  refine codeAny_mono (code_set_led1 x (E := E) (Q₁ := fun obj z => obj = .ref s.heap.objs.size ∧ z = { s with heap := s.heap.push (newSetO w) }) ⟨rfl, rfl⟩) fun r z hr => ?_
  cases r with
  | error e => exact hr
  | ok fl =>
    cases fl with
    | ret obj =>
      obtain ⟨rfl, rfl⟩ := hr
      have hT : Shared.TypeIs { s with heap := s.heap.push (newSetO w) } (.ref s.heap.objs.size) "set" := ⟨_, hn, rfl⟩
      have k6 := F.called_set.init.lookup
      have k7 := F.called_set.init.bind (.ref s.heap.objs.size)
      repeat (any_goals (first | assumption | wp_step))
      refine codeAny_mono (codeAny_call_builtin (R := wants (fun r z => r = .none ∧ ∃ h' tk l, z = { s with heap := h', toks := tk } ∧ (∀ b o, s.heap.get? b = some o → h'.get? b = some o) ∧ SetS P w h' s.heap.objs.size l ∧ (∀ y, y ∈ l ↔ y ∈ xs) ∧ l.length ≤ xs.length) E)
        F.called_set.init.plain F.entry_set_init (check_set_init_1 hT ?_)) fun r2 z2 hr2 => ?_
      · unfold Builtin.«set.__init__» noKeywords
        generalize hU : @Builtin.Frozenset.updateFrom = U
        wp_walk
        subst hU
        refine upd_fr (E := E) (s1 := { s with heap := s.heap.push (newSetO w) }) g hh hp na (new_s P w hn) hb fun h' tk l kk hs hm hl => ?_
        exact wpAny_pure ⟨rfl, h', tk, l, rfl, fun b o e => kk b o (Nat.ne_of_lt (Heap.lt_size e)) (hp b o e), hs, hm, hl⟩
      · cases r2 with
        | error e => exact hr2
        | ok fl2 =>
          cases fl2 with
          | ret r =>
            obtain ⟨rfl, h', tk, l, rfl, kk, hs, hm, hl⟩ := hr2
            repeat (any_goals (first | assumption | wp_step))
            exact q h' tk l kk hs hm hl
          | _ => exact hr2.elim
    | _ => exact hr.elim
end
end Own

namespace Own
open PySem PySem.Spec L2 PyProof.Rows PySem.Froz
section
variable {P : Program} {w : World} {A : Around} {E : Value → Shared → Prop} {s : Shared} {xs : List Str}
/-- a list of texts -/
theorem gives_list {l : Addr} {us : List Value} (hl : s.heap.IsList l us.toArray) (hu : StrsAre us xs) : Gives P w E s (.ref l) "list" xs where
  ty := fun s1 k => by
    obtain ⟨o, e, r⟩ := hl
    exact ⟨o, k l o e, r.1⟩
  no1 := F.sub_list_set
  no2 := F.sub_list_frozenset
  no3 := by decide
  it := fun A s1 Q hh k q => by
    have hl1 : s1.heap.IsList l us.toArray := by
      obtain ⟨o, e, r⟩ := hl
      exact ⟨o, k l o e, r⟩
    have hb : l < s1.heap.objs.size := by
      obtain ⟨o, e, _⟩ := hl1
      exact Heap.lt_size e
    have hz : us.toArray.size = xs.length := by rw [List.size_toArray]; exact hu.length
    refine wpAny_pyIter_list hl1 (q _ [s1.heap.objs.size, l] (fun i h => h.IsListIter s1.heap.objs.size l i ∧ h.IsList l us.toArray) (fun i v => us.toArray[i]? = some v) (fun B hB => ?_) (fun b hb => ?_) (fun i v e => ?_) ⟨⟨_, Heap.get?_push_size _ rfl, rfl, rfl⟩, hl1.push _⟩)
    · rw [← hz]
      exact Walks.list hB _ l (Nat.ne_of_lt hb) us.toArray
    · rcases List.mem_cons.mp hb with z | z
      · exact .inl z
      · rw [List.mem_singleton.mp z]
        obtain ⟨o, e, _⟩ := hl
        exact .inr ⟨o, e⟩
    · obtain ⟨y, t, z, e2⟩ := hu.item i v (by rw [← e]; simp)
      exact ⟨y, t, e2, z⟩
/-- a tuple of texts -/
theorem gives_tup {l : Addr} {us : List Value} (hl : s.heap.IsTuple l us.toArray) (hu : StrsAre us xs) : Gives P w E s (.ref l) "tuple" xs where
  ty := fun s1 k => by
    obtain ⟨o, e, r⟩ := hl
    exact ⟨o, k l o e, r.1⟩
  no1 := F.sub_tuple_set
  no2 := F.sub_tuple_frozenset
  no3 := by decide
  it := fun A s1 Q hh k q => by
    have hl1 : s1.heap.IsTuple l us.toArray := by
      obtain ⟨o, e, r⟩ := hl
      exact ⟨o, k l o e, r⟩
    have hb : l < s1.heap.objs.size := by
      obtain ⟨o, e, _⟩ := hl1
      exact Heap.lt_size e
    have hz : us.toArray.size = xs.length := by rw [List.size_toArray]; exact hu.length
    refine wpAny_pyIter_tuple hl1 (q _ [s1.heap.objs.size, l] (fun i h => h.IsTupleIter s1.heap.objs.size l i ∧ h.IsTuple l us.toArray) (fun i v => us.toArray[i]? = some v) (fun B hB => ?_) (fun b hb => ?_) (fun i v e => ?_) ⟨⟨_, Heap.get?_push_size _ rfl, rfl, rfl⟩, hl1.push _⟩)
    · rw [← hz]
      exact Walks.tuple hB _ l (Nat.ne_of_lt hb) us.toArray
    · rcases List.mem_cons.mp hb with z | z
      · exact .inl z
      · rw [List.mem_singleton.mp z]
        obtain ⟨o, e, _⟩ := hl
        exact .inr ⟨o, e⟩
    · obtain ⟨y, t, z, e2⟩ := hu.item i v (by rw [← e]; simp)
      exact ⟨y, t, e2, z⟩
/-- the letters of a text -/
def letters (x : Str) : List Str := x.cps.toList.map sing
theorem gives_str {x : Str} {t : Tok} : Gives P w E s (.str x t) "str" (letters x) where
  ty := fun s1 _ => typeIs_str _ _ _
  no1 := PySem.F.sub_str_set
  no2 := PySem.F.sub_str_frozenset
  no3 := by decide
  it := fun A s1 Q hh k q => by
    refine wpAny_pyIter_str fun o St W st => q o [s1.heap.objs.size] St (SignAt x) (fun B hB => ?_) (fun b hb => .inl (List.mem_singleton.mp hb)) (fun i v e => ?_) st
    · have hz : (letters x).length = x.cps.size := by unfold letters; rw [List.length_map, Array.length_toList]
      rw [hz]
      exact W B hB
    · obtain ⟨c, u, e1, e2⟩ := e
      refine ⟨sing c, u, ?_, e2⟩
      unfold letters
      rw [List.getElem?_map, Array.getElem?_toList, e1]
      rfl
/-- a row of texts that has all of l, and is no longer -/
theorem perm_s : ∀ (l ys : List Str), l.Nodup → (∀ x ∈ l, x ∈ ys) → ys.length ≤ l.length → ys.Perm l
  | [], ys, _, _, h => by
    cases ys with
    | nil => exact .nil
    | cons y r => simp at h
  | x :: l, ys, nd, hs, h => by
    obtain ⟨n1, n2⟩ := List.nodup_cons.mp nd
    have hx := hs x List.mem_cons_self
    have le : (ys.erase x).length ≤ l.length := by
      rw [List.length_erase_of_mem hx]
      rw [List.length_cons] at h
      omega
    refine (List.perm_cons_erase hx).trans ((perm_s l (ys.erase x) n2 (fun y hy => ?_) le).cons x)
    exact (List.mem_erase_of_ne (fun e : y = x => n1 (e ▸ hy))).mpr (hs y (List.mem_cons_of_mem _ hy))
def textOf : Value → Str
  | .str x _ => x
  | _ => Str.empty
theorem strs_map : ∀ vs : List Value, (∀ v ∈ vs, ∃ x t, v = .str x t) → StrsAre vs (vs.map textOf)
  | [], _ => .nil
  | v :: vs, h => by
    obtain ⟨x, t, rfl⟩ := h v List.mem_cons_self
    exact .cons x t (strs_map vs fun u hu => h u (List.mem_cons_of_mem _ hu))
/-- sorted(set) -/
theorem sorted_s {a : Addr} {l : List Str} {Q : Value → Shared → Prop} (R : SetS P w s.heap a l) (hh : A.handled = none) (hb : l.length < scanBound)
    (q : ∀ s' p (out : Array Value) (c : Nat) (ys : List Str), (∀ b o, s.heap.get? b = some o → s'.heap.get? b = some o) → s'.gens = s.gens → s'.os = s.os → s.heap.objs.size ≤ p →
      s'.heap.get? p = some (seqObj "list" out c) → StrsAre out.toList ys → ys.Perm l → sortedS ys = true → Q (.ref p) s') :
    wpAny (model P w) A (call (.builtin "sorted") [.ref a]) Q E s := by
  obtain ⟨D, ho, td, F, nd⟩ := R
  refine Calls.call_function_entry kind_sorted plain_sorted entry_sorted (args_sorted1 _) ?_
  unfold Builtin.«sorted»
  refine wpAny_bind (m := checkCount "sorted" 1 1 _) (wpAny_pure ?_)
  have sz : D.1.size = l.length := F.sz
  refine wpAny_bind (collect_set (A := A.in1) hh ⟨_, ho, rfl, rfl⟩ F.fit (by rw [sz]; exact hb) td.1 td.2 fun s1 vs k1 z1 g1 o1 pm => ?_)
  have sv : ∀ v ∈ vs, ∃ x t, v = .str x t ∧ ∃ e ∈ D.1.toList, e.2 = v := fun v hv => by
    obtain ⟨e, he, e2⟩ := List.mem_map.mp (pm.mem_iff.mp hv)
    obtain ⟨⟨k, hk, _⟩, _⟩ := F.el e he
    obtain ⟨t, z⟩ := Value.isStrOf_shape (x := k) (v := e.2) hk
    exact ⟨k, t, e2.symm.trans z, e, he, e2⟩
  have hS : StrsAre vs (vs.map textOf) := strs_map vs fun v hv => let ⟨x, t, z, _⟩ := sv v hv; ⟨x, t, z⟩
  have hlen : vs.length = l.length := by rw [pm.length_eq, List.length_map, Array.length_toList]; exact sz
  have hp : (vs.map textOf).Perm l := perm_s l _ nd (fun x hx => by
    obtain ⟨e, he, z⟩ := (F.mem x).mp hx
    obtain ⟨t, z2⟩ := Value.isStrOf_shape (x := x) (v := e.2) z
    exact List.mem_map.mpr ⟨e.2, pm.mem_iff.mpr (List.mem_map.mpr ⟨e, he, rfl⟩), by rw [z2]; rfl⟩) (by rw [List.length_map]; omega)
  have fit : vs.length ≤ sizeLine := by rw [hlen]; exact fits_of_scanBound hb
  refine wpAny_bind (wpAny_newList ?_ fit)
  have hoL : (s1.heap.push (seqObj "list" vs.toArray 0)).get? s1.heap.objs.size = some (seqObj "list" vs.toArray 0) := Heap.get?_push_size _ rfl
  refine wpAny_bind (wpAny_holding (wpAny_call_entry slot_list_sort ⟨_, hoL, rfl⟩ entry_list_sort
    (list_sort_treeKAny strKind_oneLt hoL hS.keysOf (fun v₁ v₂ rest e => keyKind_strs (by rw [← e]; exact hS)) fit fun st a1 a2 => ⟨_, rfl, ?_⟩) (args_list_sort _)))
  obtain ⟨ys, b1, b2, b3⟩ := sorted_out_str hS a1 a2
  obtain ⟨c, hc⟩ := sortedHeap_at (vs := vs) (out := (arrOf st).map (·.2)) hoL
  refine wpAny_pure ⟨_, rfl, q _ s1.heap.objs.size _ c ys (fun b u e => ?_) g1 o1 z1 hc b1 (b2.trans hp) b3⟩
  have e1 := k1 b u e
  have lt := Heap.lt_size e1
  have e2 := sortedHeap_old (h := s1.heap.push (seqObj "list" vs.toArray 0)) (a := s1.heap.objs.size) (vs := vs) (out := (arrOf st).map (·.2)) (b := b) (Nat.ne_of_lt lt) (by rw [size_push']; exact Nat.lt_succ_of_lt lt)
  exact e2.trans (Heap.get?_push_of_some _ e1)
/-- len(set) -/
theorem len_s {a : Addr} {l : List Str} {Q : Value → Shared → Prop} (R : SetS P w s.heap a l) (hb : l.length < scanBound) (q : Q (.int l.length (s.toks + 1)) { s with toks := s.toks + 1 + 1 }) :
    wpAny (model P w) A (call (.builtin "len") [.ref a]) Q E s := by
  obtain ⟨D, ho, td, F, nd⟩ := R
  have sz : D.1.size = l.length := F.sz
  refine call_len_set ho ⟨rfl, rfl, rfl⟩ rfl F.fit ?_ (by rw [sz]; exact q)
  rw [sz]
  have : (l.length : Int) < 4096 := by unfold scanBound at hb; omega
  exact Int.lt_of_lt_of_le this (by decide +kernel)
/-- x in set -/
theorem in_s {a : Addr} {l : List Str} (R : SetS P w s.heap a l) (hb : l.length < scanBound) : s.heap.SetOf (PySem.strKind P w) a (fun k => decide (k ∈ l)) l.length := by
  obtain ⟨D, ho, td, F, nd⟩ := R
  exact ⟨_, D.1, D.2.1, D.2.2, ho, ⟨rfl, rfl, rfl⟩, rfl, F.el, fun k => by rw [decide_eq_true_eq]; exact F.mem k, by rw [show D.1.size = l.length from F.sz]; exact hb, F.fit, F.sz⟩
end
end Own

namespace Own
open PySem PySem.Spec L2 PyProof.Rows PySem.Froz
/-- a set of texts on the tracked heap -/
def SetT (P : Program) (w : World) (a : Addr) (l : List Str) : HO := .ext fun h => SetS P w h a l
theorem setT_ok {P : Program} {w : World} {H : Hp} {h : Heap} {a : Addr} {l : List Str} (R : SetS P w h a l) : ObjOk P w H h a (SetT P w a l) := by
  have ⟨D, e, _⟩ := R
  exact ⟨R, ⟨_, e⟩, fun h1 h2 p k => SetS.at p k⟩
/-- what gives the texts xs: a list, a tuple, a text letter by letter -/
inductive Texts (K : PySem.W.Frag) (H : Hp) : V → List Str → Prop
  | list {a xs} : SqL K H a (xs.map V.str) → Texts K H (.ref a) xs
  | tup {a xs} : SqT K H a (xs.map V.str) → Texts K H (.ref a) xs
  | text (y : Str) : Texts K H (.str y) (letters y)
def rSetT (P : Program) (w : World) (K : PySem.W.Frag) : List V → Hp → VK → Prop := fun vs H Q => ∃ x xs, vs = [x] ∧ Texts K H x xs ∧ xs.length + 1 < scanBound ∧
  ∀ (p : Addr) (l : List Str), H p = none → l.Nodup → (∀ y, y ∈ l ↔ y ∈ xs) → l.length ≤ xs.length → Q (.ref p) (upd H p (SetT P w p l))
def rSortT (P : Program) (w : World) : List V → Hp → VK → Prop := fun vs H Q => ∃ (a : Addr) (l : List Str), vs = [.ref a] ∧ H a = some (SetT P w a l) ∧ l.length < scanBound ∧
  ∀ (p : Addr) (ys : List Str), H p = none → ys.Perm l → sortedS ys = true → Q (.ref p) (upd H p (.lst (ys.map V.str)))
def rLenT (P : Program) (w : World) : List V → Hp → VK → Prop := fun vs H Q => ∃ (a : Addr) (l : List Str), vs = [.ref a] ∧ H a = some (SetT P w a l) ∧ l.length < scanBound ∧ Q (.int l.length) H
theorem SetS.nodup {P : Program} {w : World} {h : Heap} {a : Addr} {l : List Str} (R : SetS P w h a l) : l.Nodup := by
  obtain ⟨_, _, _, _, nd⟩ := R
  exact nd
section
variable {X : Cx}
theorem setT_at {pins : List (Addr × Obj)} {σ : L2.St} {H : Hp} {s : Shared} {a : Addr} {l : List Str} (I : Inv X pins σ H s) (ha : H a = some (SetT X.prog X.w a l)) : SetS X.prog X.w s.heap a l := (I.hok a _ ha).1
theorem IsTup.isTuple {h : Heap} {a : Addr} {items : Array Value} (e : IsTup h a items) : h.IsTuple a items := e
theorem cr_setT (hc : X.calm = true) : CallR X (.type "set") (rSetT X.prog X.w X.K) := by
  intro pins s σ H vs us Q I r h
  obtain ⟨x, xs, rfl, tx, hb, q⟩ := h
  obtain ⟨u, rfl, rx⟩ := vals1 r
  have go : ∀ T, Gives X.prog X.w X.xe s u T xs → wpAny (model X.prog X.w) X.A (call (.type "set") [u]) (EP X pins σ Q) X.xe s := fun T g =>
    call_setG g (I.ok.hd hc) hb fun h' tk l k S hm hl =>
      ⟨.ref _, upd H s.heap.objs.size (SetT X.prog X.w s.heap.objs.size l), I.laid (t' := tk) k (Nat.le_refl _) (setT_ok S), rfl, q _ l (I.hok.fresh (Nat.le_refl _)) S.nodup hm hl⟩
  cases tx with
  | list hs =>
    obtain ⟨its, rv, hl, _⟩ := I.list hs
    cases rx
    exact go _ (gives_list hl.isList rv.strs)
  | tup hs =>
    obtain ⟨its, rv, hl, _⟩ := I.tuple hs
    cases rx
    exact go _ (gives_tup (IsTup.isTuple hl) rv.strs)
  | text y =>
    obtain ⟨t, rfl⟩ := rx
    exact go _ gives_str
theorem cr_sortT (hc : X.calm = true) : CallR X (.builtin "sorted") (rSortT X.prog X.w) := by
  intro pins s σ H vs us Q I r h
  obtain ⟨a, l, rfl, ha, hb, q⟩ := h
  rw [Vals.ref1 r]
  refine sorted_s (setT_at I ha) (I.ok.hd hc) hb fun s' p out c ys k g o hp hg hi pm hs => ?_
  have hz : (ys.map V.str).length ≤ sizeLine := by rw [List.length_map, pm.length_eq]; exact fits_of_scanBound hb
  have hn : H p = none := I.hok.fresh hp
  have J : Inv X pins σ (upd H p (.lst (ys.map V.str))) { s with heap := s'.heap, gens := s'.gens, drawn := s'.drawn, toks := s'.toks } :=
    I.call (ch := []) (Un.laid k hp hn) (I.hok.laid k hp ⟨hz, out.toList, c, vals_of_strs hi, hg⟩) (by rw [g]; exact I.bare) (fun _ z => nomatch z)
  have e : s' = { s with heap := s'.heap, gens := s'.gens, drawn := s'.drawn, toks := s'.toks } := by
    obtain ⟨_, _, _, _, _⟩ := s'
    obtain ⟨_, _, _, _, _⟩ := s
    cases o
    rfl
  rw [e]
  exact ⟨.ref p, _, J, rfl, q p ys hn pm hs⟩
theorem cr_lenT : CallR X (.builtin "len") (rLenT X.prog X.w) := by
  intro pins s σ H vs us Q I r h
  obtain ⟨a, l, rfl, ha, hb, q⟩ := h
  rw [Vals.ref1 r]
  exact len_s (setT_at I ha) hb ⟨.int l.length, H, I.tok _, ⟨_, rfl⟩, q⟩
/-- a text in a set, or not in it -/
def rInT (P : Program) (w : World) (f : Bool → Bool) : V → V → Hp → VK → Prop := fun x y H Q => ∃ (k : Str) (a : Addr) (l : List Str), x = .str k ∧ y = .ref a ∧ H a = some (SetT P w a l) ∧ l.length < scanBound ∧ Q (.bl (f (decide (k ∈ l)))) H
theorem or_inT : OpR X (compareOp .In) (rInT X.prog X.w id) := by
  intro pins s σ H x y v u Q I rx ry h
  obtain ⟨k, a, l, rfl, rfl, ha, hb, q⟩ := h
  obtain ⟨t, rfl⟩ := rx
  cases ry
  exact wpAny_inSet_of (knd := PySem.strKind X.prog X.w) (k := k) (is_str k t) rfl (in_s (setT_at I ha) hb) ⟨.bl _, H, I.tok _, rfl, q⟩
theorem or_notinT : OpR X (compareOp .NotIn) (rInT X.prog X.w not) := by
  intro pins s σ H x y v u Q I rx ry h
  obtain ⟨k, a, l, rfl, rfl, ha, hb, q⟩ := h
  obtain ⟨t, rfl⟩ := rx
  cases ry
  exact wpAny_notInSet_of (knd := PySem.strKind X.prog X.w) (k := k) (is_str k t) rfl (in_s (setT_at I ha) hb) ⟨.bl _, H, I.tok _, rfl, q⟩
end
end Own

namespace Own
open PySem PySem.Spec L2 PyProof.Rows PySem.Froz
/-! ### the keys of a row of texts: each once, in ascending order -/
def leS (a b : Str) : Prop := ltCps b.cps.toList a.cps.toList = false
theorem leS_iff (a b : Str) : leS a b ↔ a.cps.toList ≤ b.cps.toList := by
  unfold leS
  rw [ltCps_eq, decide_eq_false_iff_not]
  exact List.not_lt
theorem leS_trans {a b c : Str} (h : leS a b) (k : leS b c) : leS a c := (leS_iff a c).mpr (List.le_trans ((leS_iff a b).mp h) ((leS_iff b c).mp k))
theorem leS_total (a b : Str) : leS a b ∨ leS b a := (List.le_total a.cps.toList b.cps.toList).imp (leS_iff a b).mpr (leS_iff b a).mpr
theorem leS_anti {a b : Str} (h : leS a b) (k : leS b a) : a = b := by
  have e := List.le_antisymm ((leS_iff a b).mp h) ((leS_iff b a).mp k)
  obtain ⟨⟨x⟩⟩ := a
  obtain ⟨⟨y⟩⟩ := b
  have e' : x = y := e
  rw [e']
theorem pair_rising : ∀ (l : List Str) (p : Str), risingS p l = true → (p :: l).Pairwise leS
  | [], p, _ => List.pairwise_singleton _ _
  | x :: l, p, h => by
    unfold risingS at h
    rw [Bool.and_eq_true] at h
    have ih := pair_rising l x h.2
    have px : leS p x := by
      have q := h.1
      unfold leS
      simpa using q
    refine List.pairwise_cons.mpr ⟨fun y hy => ?_, ih⟩
    rcases List.mem_cons.mp hy with rfl | z
    · exact px
    · exact leS_trans px ((List.pairwise_cons.mp ih).1 y z)
theorem pair_sorted {l : List Str} (h : sortedS l = true) : l.Pairwise leS := by
  cases l with
  | nil => exact .nil
  | cons x r => exact pair_rising r x h
theorem same_sorted : ∀ (xs ys : List Str), xs.Perm ys → xs.Pairwise leS → ys.Pairwise leS → xs = ys
  | [], ys, p, _, _ => (List.nil_perm.mp p).symm
  | x :: r, [], p, _, _ => (List.perm_nil.mp p)
  | x :: r, y :: t, p, a, b => by
    obtain ⟨a1, a2⟩ := List.pairwise_cons.mp a
    obtain ⟨b1, b2⟩ := List.pairwise_cons.mp b
    have e : x = y := by
      have hx := p.mem_iff.mp (List.mem_cons_self (a := x) (l := r))
      have hy := p.mem_iff.mpr (List.mem_cons_self (a := y) (l := t))
      rcases List.mem_cons.mp hx with z | z
      · exact z
      · rcases List.mem_cons.mp hy with z2 | z2
        · exact z2.symm
        · exact leS_anti (a1 y z2) (b1 x z)
    subst e
    rw [same_sorted r t p.cons_inv a2 b2]
instance (a b : Str) : Decidable (leS a b) := by unfold leS; exact inferInstance
def once (xs : List Str) : List Str := xs.foldr (fun x l => if x ∈ l then l else x :: l) []
theorem once_mem (y : Str) : ∀ xs : List Str, y ∈ once xs ↔ y ∈ xs
  | [] => Iff.rfl
  | x :: xs => by
    have ih := once_mem y xs
    show y ∈ (if x ∈ once xs then once xs else x :: once xs) ↔ _
    split
    · rename_i c
      rw [List.mem_cons, ih]
      exact ⟨.inr, fun z => z.elim (fun e => by rw [e]; exact (once_mem x xs).mp c) id⟩
    · rw [List.mem_cons, List.mem_cons, ih]
theorem once_nodup : ∀ xs : List Str, (once xs).Nodup
  | [] => List.nodup_nil
  | x :: xs => by
    show (if x ∈ once xs then once xs else x :: once xs).Nodup
    split
    · exact once_nodup xs
    · rename_i c
      exact List.nodup_cons.mpr ⟨c, once_nodup xs⟩
theorem once_len : ∀ xs : List Str, (once xs).length ≤ xs.length
  | [] => Nat.le_refl _
  | x :: xs => by
    have ih := once_len xs
    show (if x ∈ once xs then once xs else x :: once xs).length ≤ _
    split
    · rw [List.length_cons]; omega
    · rw [List.length_cons, List.length_cons]; omega
/-- tuple(sorted(set(xs))) -/
def kl (xs : List Str) : List Str := (once xs).mergeSort fun a b => decide (leS a b)
theorem kl_perm (xs : List Str) : (kl xs).Perm (once xs) := List.mergeSort_perm _ _
theorem kl_mem {xs : List Str} {y : Str} : y ∈ kl xs ↔ y ∈ xs := (kl_perm xs).mem_iff.trans (once_mem y xs)
theorem kl_nodup (xs : List Str) : (kl xs).Nodup := (kl_perm xs).nodup_iff.mpr (once_nodup xs)
theorem kl_len (xs : List Str) : (kl xs).length ≤ xs.length := by rw [(kl_perm xs).length_eq]; exact once_len xs
theorem kl_pair (xs : List Str) : (kl xs).Pairwise leS := by
  have h := List.pairwise_mergeSort (le := fun a b => decide (leS a b)) (fun a b c h k => by
    rw [decide_eq_true_eq] at h k ⊢
    exact leS_trans h k) (fun a b => by
    rw [Bool.or_eq_true, decide_eq_true_eq, decide_eq_true_eq]
    exact leS_total a b) (once xs)
  exact h.imp fun z => by rwa [decide_eq_true_eq] at z
theorem perm_mem {l ys : List Str} (a : l.Nodup) (b : ys.Nodup) (h : ∀ y, y ∈ l ↔ y ∈ ys) : l.Perm ys := by
  refine (perm_s l ys a (fun x hx => (h x).mp hx) ?_).symm
  exact (perm_len ys l b fun x hx => (h x).mpr hx)
where perm_len : ∀ (u v : List Str), u.Nodup → (∀ x ∈ u, x ∈ v) → u.length ≤ v.length
  | [], _, _, _ => Nat.zero_le _
  | x :: u, v, nd, hs => by
    obtain ⟨n1, n2⟩ := List.nodup_cons.mp nd
    have hx := hs x List.mem_cons_self
    have ih := perm_len u (v.erase x) n2 fun y hy => (List.mem_erase_of_ne (fun e : y = x => n1 (e ▸ hy))).mpr (hs y (List.mem_cons_of_mem _ hy))
    have e := List.length_erase_of_mem hx
    have p := List.length_pos_of_mem hx
    rw [List.length_cons]
    omega
theorem kl_uniq {xs ys : List Str} (a : ys.Nodup) (s : ys.Pairwise leS) (h : ∀ y, y ∈ ys ↔ y ∈ xs) : ys = kl xs :=
  same_sorted _ _ (perm_mem a (kl_nodup xs) fun y => (h y).trans kl_mem.symm) s (kl_pair xs)
theorem kl_of {xs l ys : List Str} (p : ys.Perm l) (s : sortedS ys = true) (nd : l.Nodup) (h : ∀ y, y ∈ l ↔ y ∈ xs) : ys = kl xs :=
  kl_uniq (p.nodup_iff.mpr nd) (pair_sorted s) fun y => p.mem_iff.trans (h y)
theorem kl_congr {xs ys : List Str} (h : ∀ y, y ∈ xs ↔ y ∈ ys) : kl xs = kl ys := kl_uniq (kl_nodup xs) (kl_pair xs) fun y => kl_mem.trans (h y)
theorem kl_kl (xs : List Str) : kl (kl xs) = kl xs := kl_congr fun _ => kl_mem
theorem len_once {xs l : List Str} (nd : l.Nodup) (h : ∀ y, y ∈ l ↔ y ∈ xs) : l.length = (kl xs).length := (perm_mem nd (kl_nodup xs) fun y => (h y).trans kl_mem.symm).length_eq
theorem kl_sub {xs ys : List Str} (h : ∀ y ∈ xs, y ∈ ys) : (kl xs).length ≤ (kl ys).length := perm_mem.perm_len _ _ (kl_nodup xs) fun y hy => kl_mem.mpr (h y (kl_mem.mp hy))
end Own

/-! list comprehensions of any number of clauses -/
namespace Own
open PySem PySem.Spec PyProof.Rows L2
/-- what a clause whose tests hold does next -/
def onward (elt : Expr) (gs : List Comprehension) (scope : Scope) (pos : Pos) (d : Nat) (acc : Value) (env : Env) : Sem Unit := match gs[d]? with
  | some g' => do
    let x ← eval g'.iter env
    standAt g'.iter.pos
    let x ← if g'.is_async != 0 then foldedIterable g'.iter x else foldedSetIterable g'.iter env x
    let _ ← runOwn (.compStart (.ListComp elt gs scope pos) d (← holding [x] (if g'.is_async != 0 then asyncIter x else pyIter x)) acc env) env
  | none => do
    let _ ← call (.builtin "list.append") [acc, ← eval elt env]
/-- the clause at d is there, or d is the end -/
def Nextly (gs : List Comprehension) (d : Nat) : Prop := gs[d]? = none ∨ ∃ t i fs, gs[d]? = some ⟨t, i, fs, 0⟩
theorem turn_of {elt tg iter : Expr} {ifs : List Expr} {gs : List Comprehension} {scope : Scope} {pos : Pos} {d : Nat} {it acc : Value} {env : Env} (hg : gs[d]? = some ⟨tg, iter, ifs, 0⟩) (hn : Nextly gs (d + 1)) :
    compTurn (.ListComp elt gs scope pos) d it acc env = (do
      standAt iter.pos
      match ← pyNext it with
      | none => pure (.done .next)
      | some v =>
        letOwnedTupleGo tg it v
        assign tg env v
        let mut ok := true
        for c in ifs do
          if ok then ok ← isTrue c env (eval c env)
        if ok then
          onward elt gs scope pos (d + 1) acc env
          again (.compLoop (.ListComp elt gs scope pos) d it acc env)
        else again (.compLoop (.ListComp elt gs scope pos) d it acc env)) := by
  unfold compTurn onward
  dsimp only
  rw [hg]
  have z : ((0 : Int) != 0) = false := rfl
  rcases hn with hn | ⟨t, i, fs, hn⟩
  · rw [hn]
    simp only [z, Bool.false_eq_true, if_false, bind_assoc, pure_bind]
    try rfl
  · rw [hn]
    simp only [z, Bool.false_eq_true, if_false, bind_assoc, pure_bind]
    try rfl
section
variable {prog : Program} {w : World} {A : Around} {R : Result → Shared → Prop} {s : Shared} {elt tg iter : Expr} {ifs : List Expr} {gs : List Comprehension} {scope : Scope} {pos : Pos} {d : Nat} {it acc : Value} {env : Env}
/-- a clause's loop, nothing raised -/
theorem loop_of (hg : gs[d]? = some ⟨tg, iter, ifs, 0⟩) (hn : Nextly gs (d + 1)) (I : Nat → Shared → Prop)
    (turn : ∀ n s, I n s → wpAny (model prog w) A (pyNext it) (fun r s1 => match r with
      | none => R (.ok .next) s1
      | some v => wpAny (model prog w) A (letOwnedTupleGo tg it v) (fun _ s2 => wpAny (model prog w) A (assign tg env v) (fun _ s3 =>
          wpAny (model prog w) A (forIn ifs true fun c r => if r = true then do let ok ← isTrue c env (eval c env); pure (ForInStep.yield ok) else pure (ForInStep.yield r)) (fun ok s4 =>
            if ok = true then wpAny (model prog w) A (onward elt gs scope pos (d + 1) acc env) (fun _ s5 => ∃ m, m < n ∧ I m s5) (fun _ _ => False) s4 else ∃ m, m < n ∧ I m s4) (fun _ _ => False) s3) (fun _ _ => False) s2) (fun _ _ => False) s1) (fun _ _ => False) s)
    (n : Nat) (h : I n s) : codeAny (model prog w) A (.compLoop (.ListComp elt gs scope pos) d it acc env) R s := by
  have no : ∀ (E : Value → Shared → Prop) (x : Value) (z : Shared), False → E x z := fun _ _ _ z => z.elim
  refine codeAny_loop rfl I (fun n s hI => ?_) n h
  show wpAny _ A ((compTurn (.ListComp elt gs scope pos) d it acc env).onRaise (fun x => do noteFrame x env; theTreesLotGoes x)) _ _ s
  refine wpAny_noted ?_
  rw [turn_of hg hn]
  refine wpAny_bind (wpAny_standAt (wpAny_bind (wpAny_mono (turn n s hI) (fun r s1 h1 => ?_) (no _))))
  cases r with
  | none => exact wpAny_pure h1
  | some v =>
    refine wpAny_bind (wpAny_mono h1 (fun _ s2 h2 => wpAny_bind (wpAny_mono h2 (fun _ s3 h3 => wpAny_bind (wpAny_mono h3 (fun b s4 h4 => ?_) (no _))) (no _))) (no _))
    cases b with
    | false => exact wpAny_pure ⟨rfl, h4⟩
    | true => exact wpAny_bind (wpAny_mono h4 (fun _ s5 h5 => wpAny_pure ⟨rfl, h5⟩) (no _))
theorem start_of (hg : gs[d]? = some ⟨tg, iter, ifs, 0⟩) (h0 : codeAny (model prog w) A (.compLoop (.ListComp elt gs scope pos) d it acc env) R s)
    (h : wpAny (model prog w) A (pyIter it) (fun it' s' => codeAny (model prog w) A (.compLoop (.ListComp elt gs scope pos) d it' acc env) R s') (fun _ _ => False) s) :
    codeAny (model prog w) A (.compStart (.ListComp elt gs scope pos) d it acc env) R s := by
  refine codeAny_of_tree ?_
  show wpAny _ _ ((compStart (.ListComp elt gs scope pos) d it acc env).onRaise (fun x => do noteFrame x env; standAt theWindowsPlace)) _ _ s
  refine wpAny_notedAt ?_
  unfold compStart
  have hc : clausesOf (.ListComp elt gs scope pos) = gs := rfl
  rw [hc, hg]
  show wpAny _ _ (ask >>= _) _ _ s
  refine wpAny_bind (wpAny_askSetting (wpAny_ite ?_))
  split
  · first
      | exact wpAny_bind (wpAny_pure (wpAny_pure (And.intro rfl h0)))
      | exact wpAny_pure (And.intro rfl h0)
  · refine wpAny_bind (wpAny_rule ?_)
    show wpAny _ _ (standAt iter.pos >>= _) _ _ s
    exact wpAny_bind (wpAny_standAt (wpAny_bind (wpAny_mono h (fun it' s' h' => wpAny_pure (And.intro rfl h')) fun _ _ x => x.elim)))
end
/-- from slots and heap to what is reached -/
abbrev TN := L2.St → Hp → (Hp → Prop) → Prop
/-- the onward step at depth d, the list at D, the slots vs its own -/
structure Does (Y : Cx) (elt : Expr) (gs : List Comprehension) (scope : Scope) (pos : Pos) (d : Nat) (D : Addr) (vs : List Nat) (t : TN) : Prop where
  run : ∀ (pins : List (Addr × Obj)) (s : Shared) (σ : L2.St) (H : Hp) (Nx : Hp → Prop) (R : Shared → Prop), Inv Y pins σ H s → t σ H Nx →
    (∀ s' σ' H', Inv Y pins σ' H' s' → σ'.length = σ.length → (∀ (i : Nat) v, i ∉ vs → σ[i]? = some (some v) → σ'[i]? = some (some v)) → Nx H' → R s') →
    wpAny (model Y.prog Y.w) Y.A (onward elt gs scope pos d (.ref D) Y.env) (fun _ => R) (fun _ _ => False) s
def tEmit (te : TE) (D : Addr) : TN := fun σ H Nx => te σ H fun y H4 => ∃ acc, H4 D = some (.lst acc) ∧ acc.length < sizeLine ∧ Nx (upd H4 D (.lst (acc ++ [y])))
def tLoop (g : TG) (tt : TT) (t : TN) (vs : List Nat) (J : It) : TN := fun σ H Nx => ∃ W : Nat → Nat → Hp → Prop, (∃ m, W 0 m H) ∧ ∀ j k H, W j k H →
  (J.stop j H ∧ Nx H) ∨ (J.go j H ∧ ∃ N1 : Hp → Prop, (∀ H', N1 H' → ∃ k', k' < k ∧ W (j + 1) k' H') ∧ ∀ x H', J.yld j H x H' → g x (wipe σ vs) H' fun σ3 H5 => wipe σ3 vs = wipe σ vs ∧ tt σ3 H5 fun b H6 =>
    if b = true then t σ3 H6 N1 else N1 H6)
/-- a further clause, and what stands behind it -/
def tFor (wi : TI) (g : TG) (tt : TT) (vs : List Nat) (t : Addr → TN) : Addr → TN := fun D σ H Nx => wi σ H fun J H4 => tLoop g tt (t D) vs J σ H4 Nx
section
variable {Y : Cx} {elt tg iter : Expr} {ifs : List Expr} {gs : List Comprehension} {scope : Scope} {pos : Pos} {d : Nat} {D : Addr} {g : TG} {tt : TT} {te : TE} {t : TN} {wi : TI} {vs vs1 : List Nat}
theorem does_emit (hg : gs[d]? = none) (hx : Y.xe = fun _ _ => False) (pe : PE Y elt te) : Does Y elt gs scope pos d D [] (tEmit te D) := by
  refine ⟨fun pins s σ H Nx R I h k => ?_⟩
  unfold onward
  rw [hg]
  refine wpAny_bind ?_
  have r := pe.run pins s σ H _ I h
  rw [hx] at r
  refine thnF r fun z s1 ⟨y, H1, I1, r1, acc, e, hz, nx⟩ => ?_
  exact wpAny_bind (app_ok I1 e hz r1 fun s2 I2 => wpAny_pure (k s2 σ _ I2 rfl (fun _ _ _ e => e) nx))
theorem loop_n (hg : gs[d]? = some ⟨tg, iter, ifs, 0⟩) (hn : Nextly gs (d + 1)) (hc : Y.calm = true) (hx : Y.xe = fun _ _ => False) (pg : PG Y tg g) (pt : PTs Y ifs tt) (dn : Does Y elt gs scope pos (d + 1) D vs1 t) (hv : ∀ i ∈ vs1, i ∈ vs)
    {pins : List (Addr × Obj)} {s : Shared} {σ : L2.St} {H : Hp} {Nx : Hp → Prop} {R : Result → Shared → Prop} {J : It} {fp : List Addr} {it : Addr} {tn : Nat → Heap → Prop} (I : Inv Y pins σ H s) (T : Turn Y.prog Y.w Y.K tg J fp it tn) (st : tn 0 s.heap) (hf : ∀ b ∈ fp, FpOk Y pins H b)
    (h : tLoop g tt t vs J σ H Nx) (fin : ∀ s' H', Inv Y pins (wipe σ vs) H' s' → Nx H' → R (.ok .next) s') :
    codeAny (model Y.prog Y.w) Y.A (.compLoop (.ListComp elt gs scope pos) d (.ref it) (.ref D) Y.env) R s := by
  obtain ⟨W, ⟨m0, w0⟩, turn⟩ := h
  have ok : ∀ {H' : Hp}, (∀ b ∈ fp, H' b = none) → ∀ b ∈ fp, FpOk Y pins H' b := fun hn b hb => ⟨hn b hb, (hf b hb).2⟩
  refine loop_of hg hn (fun n z => ∃ i H', Inv Y pins (wipe σ vs) H' z ∧ tn i z.heap ∧ (∀ b ∈ fp, H' b = none) ∧ W i n H') ?_ m0 ⟨0, H, I.weak (wipe_length _ _) fun _ _ e => (wipe_some e).1, st, fun b hb => (hf b hb).1, w0⟩
  rintro n z ⟨i, H1, I1, st1, n1, w1⟩
  rcases turn i n H1 w1 with ⟨stop, nx⟩ | ⟨go, N1, back, step⟩
  · refine thnF (T.done Y rfl rfl rfl hc i pins z _ H1 (fun _ _ => False) I1 (ok n1) st1 stop) fun r z2 ⟨hr, I2⟩ => ?_
    rw [hr]
    exact fin z2 H1 I2 nx
  · refine thnF (T.item Y rfl rfl rfl hc i pins z _ H1 (fun _ _ => False) I1 (ok n1) st1 go) fun r z2 ⟨u, hr, h2⟩ => ?_
    rw [hr]
    refine thnF h2 fun _ z3 ⟨x, H3, I3, r3, y3, st3, n3⟩ => ?_
    have J3 := I3.pinned (ok n3) (T.obj _ _ st3)
    have a := pg.run _ z3 _ H3 x u _ J3 r3 (step x H3 y3)
    rw [hx] at a
    refine thnF a fun _ z4 ⟨σ4, H4, I4, e4, q4⟩ => ?_
    have b := pt.run _ z4 σ4 H4 _ I4 q4
    rw [hx] at b
    refine thnF b fun ok5 z5 ⟨H5, I5, q5⟩ => ?_
    -- the end of a turn
    have fin1 : ∀ z6 σ6 H6, Inv Y (pins ++ pinsAt fp z3.heap) σ6 H6 z6 → σ6.length = σ4.length → (∀ (j : Nat) v, j ∉ vs1 → σ4[j]? = some (some v) → σ6[j]? = some (some v)) → N1 H6 → ∃ m, m < n ∧ ∃ i H', Inv Y pins (wipe σ vs) H' z6 ∧ tn i z6.heap ∧ (∀ b ∈ fp, H' b = none) ∧ W i m H' := fun z6 σ6 H6 I6 l6 k6 nx => by
      obtain ⟨m, lt, w6⟩ := back H6 nx
      have pin : ∀ b ∈ fp, ∀ o, z3.heap.get? b = some o → z6.heap.get? b = some o ∧ H6 b = none := fun b hb o e =>
        have q := I6.pin (b, o) (List.mem_append_right _ (List.mem_append_right _ (mem_pinsAt hb e)))
        ⟨q.1, q.2.1⟩
      refine ⟨m, lt, i + 1, H6, I6.unpinned.weak ?_ fun j v e => ?_, T.keep _ _ _ st3 fun b hb o e => (pin b hb o e).1, fun b hb => ?_, w6⟩
      · rw [l6, ← e4, wipe_length]
      · rw [← e4] at e
        obtain ⟨p, q⟩ := wipe_some e
        exact k6 j v (fun m => q (hv j m)) p
      · obtain ⟨o, e, _⟩ := T.obj _ _ st3 b hb
        exact (pin b hb o e).2
    cases ok5 with
    | false =>
      simp only [Bool.false_eq_true, if_false] at q5 ⊢
      exact fin1 z5 σ4 H5 I5 rfl (fun _ _ _ e => e) q5
    | true =>
      simp only [if_true] at q5 ⊢
      exact dn.run _ z5 σ4 H5 N1 _ I5 q5 fin1
theorem does_for {t : Addr → TN} (hg : gs[d]? = some ⟨tg, iter, ifs, 0⟩) (hn : Nextly gs (d + 1)) (hc : Y.calm = true) (hx : Y.xe = fun _ _ => False) (pi : PI Y tg iter wi) (hs : ∀ x, foldedSetIterable iter Y.env x = pure x) (pg : PG Y tg g) (pt : PTs Y ifs tt)
    (dn : Does Y elt gs scope pos (d + 1) D vs1 (t D)) (hv : ∀ i ∈ vs1, i ∈ vs) : Does Y elt gs scope pos d D vs (tFor wi g tt vs t D) := by
  refine ⟨fun pins s σ H Nx R I h k => ?_⟩
  unfold onward
  rw [hg]
  have r := pi.run pins s σ H _ I h
  rw [hx] at r
  refine wpAny_bind (thnF r fun v s1 h1 => wpAny_bind (wpAny_standAt ?_))
  dsimp only
  rw [show ((0 : Int) != 0) = false from rfl]
  simp only [Bool.false_eq_true, if_false]
  refine wpAny_bind (wpAny_of_eq (hs v) (wpAny_bind (wpAny_holding (thnF h1 fun itv s2 h2 => ?_))))
  obtain ⟨it, fp, tn, J, H2, e, I2, T, st2, f2, q⟩ := h2
  subst e
  have lp : codeAny (model Y.prog Y.w) Y.A (.compLoop (.ListComp elt gs scope pos) d (.ref it) (.ref D) Y.env) (fun r s' => match r with
      | .ok _ => R s'
      | .error _ => False) s2 :=
    loop_n hg hn hc hx pg pt dn hv I2 T st2 f2 q fun s' H' I' nx => k s' _ H' I' (wipe_length _ _) (fun i v hi e => by rw [wipe_out hi]; exact e) nx
  refine wpAny_bind (wpAny_runOwn ?_)
  rw [Around.mark_none]
  refine codeAny_mono (start_of hg lp (T.self Y.A 0 _ _ _ st2 lp)) fun r s' hr => ?_
  cases r with
  | ok f => exact wpAny_pure hr
  | error e => exact hr.elim
end
section
variable {X : Cx} {elt tg iter : Expr} {ifs : List Expr} {rest : List Comprehension} {scope : Scope} {own : List (Str × Nat)} {pos : Pos} {g : TG} {tt : TT} {wi : TI} {vs1 : List Nat} {t : Addr → TN}
/-- [elt for tg in iter if .. for ..]; t: what stands behind the first clause -/
def tLcN (wi : TI) (g : TG) (tt : TT) (t : Addr → TN) (vs : List Nat) : TE := fun σ H Q => wi σ H fun J H1 => ∀ D, H1 D = none → tLoop g tt (t D) vs J (wipe σ vs) (upd H1 D (.lst [])) (Q (.ref D))
theorem lcN_core {pins : List (Addr × Obj)} {s : Shared} {σ : L2.St} {H : Hp} {Q : VK} {pos' : Pos} {use : Option (Value → Sem Unit)} {Qf : Value → Shared → Prop} (hc : X.calm = true) (hN : X.N.Nodup) (hi : PI X tg iter wi) (ok : BlkOk X.N X.env.scope scope own) (hn : Nextly (⟨tg, iter, ifs, 0⟩ :: rest) 1) (hv : ∀ i ∈ vs1, i ∈ own.map (·.2))
    (hg : ∀ (s : Shared) (H : Hp) (C : Addr) (cl : List (Str × Addr)) (fp : List Addr), PG (X.blk s H scope (compEnvC scope cl C X.env) fp) tg g) (ht : ∀ (s : Shared) (H : Hp) (C : Addr) (cl : List (Str × Addr)) (fp : List Addr), PTs (X.blk s H scope (compEnvC scope cl C X.env) fp) ifs tt)
    (hd : ∀ (s : Shared) (H : Hp) (C : Addr) (cl : List (Str × Addr)) (fp : List Addr) (D : Addr), Does (X.blk s H scope (compEnvC scope cl C X.env) fp) elt (⟨tg, iter, ifs, 0⟩ :: rest) scope pos 1 D vs1 (t D)) (hs : ∀ x, foldedSetIterable iter X.env x = pure x)
    (I : Inv X pins σ H s) (h : tLcN wi g tt t (own.map (·.2)) σ H Q) (done : ∀ D C s' m H', Inv X pins σ H' s' → Q (.ref D) H' → s'.heap.Ns C m → FpOk X pins H' C → compPost (model X.prog X.w) X.A X.xe use Qf (.ref D) C (.ok .next) s') :
    wpAny (model X.prog X.w) X.A (comprehension (.ListComp elt (⟨tg, iter, ifs, 0⟩ :: rest) scope pos) scope X.env pos' (newList []) false (eval iter X.env) use) Qf X.xe s := by
  have cl : closureFor scope X.env = pure (cloFrom X.env.cells scope.names []) := closure_ok fun y hy e => I.ok.has _ (ok.free y hy e)
  refine wpAny_comprehension_free (use := use) rfl hs cl ok.kind (fun y hy e => (ok.uniq y hy).trans (by rw [e])) (thn (hi.run pins s σ H _ I h) fun xv s1 h1 => thn h1 fun itv s2 h2 => ?_)
  obtain ⟨it, fp, tn, J, H2, rfl, I2, T, st2, f2, q⟩ := h2
  refine wpAny_newObj_type (newEnv_comp ?_) (Nat.zero_le _)
  have q := q s2.heap.objs.size (I2.hok.fresh (Nat.le_refl _))
  have lt : ∀ b ∈ fp, b < s2.heap.objs.size := fun b hb => by
    obtain ⟨o, e, _⟩ := T.obj _ _ st2 b hb
    exact Heap.lt_size e
  have new : ∀ b o, s2.heap.get? b = some o → (s2.heap.push { cls := .type "list", data := .seq ([] : List Value).toArray }).get? b = some o := fun b o e => Heap.get?_push_of_some _ e
  -- the list is there
  have I3 := I2.laid (t' := s2.toks) (o := .lst []) (a := s2.heap.objs.size) new (Nat.le_refl _) ⟨Nat.zero_le _, [], 0, .nil, Heap.get?_push_size _ rfl⟩
  have f3 : ∀ b ∈ fp, FpOk X pins (upd H2 s2.heap.objs.size (.lst [])) b := fun b hb => ⟨by rw [upd_ne (Nat.ne_of_lt (lt b hb))]; exact (f2 b hb).1, (f2 b hb).2⟩
  have st3 := T.keep _ _ _ st2 fun b _ o e => new b o e
  generalize s2.heap.objs.size = D at q I3 f3 lt ⊢
  generalize upd H2 D (.lst []) = H3 at q I3 f3 ⊢
  have lt3 : ∀ b ∈ fp, b < (s2.heap.push { cls := .type "list", data := .seq ([] : List Value).toArray }).objs.size := fun b hb => by
    obtain ⟨o, e, _⟩ := T.obj _ _ st3 b hb
    exact Heap.lt_size e
  change Inv X pins σ H3 { s2 with heap := s2.heap.push { cls := .type "list", data := .seq ([] : List Value).toArray } } at I3
  generalize hz : ({ s2 with heap := s2.heap.push { cls := .type "list", data := .seq ([] : List Value).toArray } } : Shared) = z at I3 ⊢
  have ez : s2.heap.push { cls := .type "list", data := .seq ([] : List Value).toArray } = z.heap := by rw [← hz]
  rw [ez] at st3 lt3
  have I4 := block_start I3 ok hN fun b hb => ⟨f3 b hb, lt3 b hb⟩
  have st4 := T.keep 0 _ (pushCells (z.heap.push { cls := .type "dict", data := .dict #[] }) scope.names) st3 fun b _ o e => pushCells_keeps _ _ _ _ (Heap.get?_push_of_some _ e)
  have pg := hg z H3 z.heap.objs.size (cellsFrom (z.heap.objs.size + 1) scope.names (cloFrom X.env.cells scope.names [])) fp
  have pt := ht z H3 z.heap.objs.size (cellsFrom (z.heap.objs.size + 1) scope.names (cloFrom X.env.cells scope.names [])) fp
  have pd := hd z H3 z.heap.objs.size (cellsFrom (z.heap.objs.size + 1) scope.names (cloFrom X.env.cells scope.names [])) fp D
  change codeAny (model X.prog X.w) X.A (.compStart _ 0 (.ref it) (.ref D) (compEnvC scope (cellsFrom (z.heap.objs.size + 1) scope.names (cloFrom X.env.cells scope.names [])) z.heap.objs.size X.env)) (compPost (model X.prog X.w) X.A X.xe use Qf (.ref D) z.heap.objs.size) { z with heap := pushCells (z.heap.push { cls := .type "dict", data := .dict #[] }) scope.names }
  have fY : ∀ b ∈ fp, FpOk (X.blk z H3 scope (compEnvC scope (cellsFrom (z.heap.objs.size + 1) scope.names (cloFrom X.env.cells scope.names [])) z.heap.objs.size X.env) fp) [] H3 b := fun b hb =>
    ⟨(f3 b hb).1, (I4.ok.exf b hb).1, I4.ok.exfs b hb, .inl hb, fun x c e => (I4.ok.exf b hb).2 x c e, fun p hp => nomatch (show p ∈ ([] : List (Addr × Obj)) from by simpa using hp)⟩
  have free : X.calm = true := hc
  have lp := loop_n (Y := X.blk z H3 scope (compEnvC scope (cellsFrom (z.heap.objs.size + 1) scope.names (cloFrom X.env.cells scope.names [])) z.heap.objs.size X.env) fp) (R := compPost (model X.prog X.w) X.A X.xe use Qf (.ref D) z.heap.objs.size) rfl hn hc rfl pg pt pd hv I4 T st4 fY q fun s' H' I' q' => by
    have J : Inv X pins σ H' s' := I3.call' (ch := fp) I'.os I'.base I'.hok I'.bare fun b hb =>
      have f := f3 b hb
      ⟨f.2.2.2.1, f.2.1, f.2.2.2.2.1, f.2.2.2.2.2⟩
    obtain ⟨m, ns, _⟩ := I'.loc
    have f := I3.fpOk (b := z.heap.objs.size) (H' := H') (Nat.le_refl _) I'.free
    exact done D _ s' m H' J q' ns f
  exact codeAny_compStart_list lp (T.self X.A 0 _ _ _ st4 lp)
theorem pe_lcN (hc : X.calm = true) (hN : X.N.Nodup) (hi : PI X tg iter wi) (ok : BlkOk X.N X.env.scope scope own) (hn : Nextly (⟨tg, iter, ifs, 0⟩ :: rest) 1) (hv : ∀ i ∈ vs1, i ∈ own.map (·.2))
    (hg : ∀ (s : Shared) (H : Hp) (C : Addr) (cl : List (Str × Addr)) (fp : List Addr), PG (X.blk s H scope (compEnvC scope cl C X.env) fp) tg g) (ht : ∀ (s : Shared) (H : Hp) (C : Addr) (cl : List (Str × Addr)) (fp : List Addr), PTs (X.blk s H scope (compEnvC scope cl C X.env) fp) ifs tt)
    (hd : ∀ (s : Shared) (H : Hp) (C : Addr) (cl : List (Str × Addr)) (fp : List Addr) (D : Addr), Does (X.blk s H scope (compEnvC scope cl C X.env) fp) elt (⟨tg, iter, ifs, 0⟩ :: rest) scope pos 1 D vs1 (t D)) (hs : ∀ x, foldedSetIterable iter X.env x = pure x := by intro _; rfl) :
    PE X (.ListComp elt (⟨tg, iter, ifs, 0⟩ :: rest) scope pos) (tLcN wi g tt t (own.map (·.2))) := by
  refine ⟨fun pins s σ H Q I h => ?_⟩
  rw [eval_ListComp]
  refine lcN_core hc hN hi ok hn hv hg ht hd hs I h fun D C s' m H' J q ns f => ⟨m, ns, fun h sb => ⟨.ref D, H', J.turned (t' := s'.toks) (fun b o hb e => (sb.2 b hb).trans e) f.1 f.2.1 f.2.2.2.1 f.2.2.2.2.1 f.2.2.2.2.2, rfl, q⟩⟩
/-- y = [..] on one line, y a local -/
theorem ps_setLcN {i : Nat} {y : Str} {py spos : Pos} (hc : X.calm = true) (hN : X.N.Nodup) (hy : X.N[i]? = some y) (hyl : X.env.scope.names.lookup y = some .local)
    (hsw : swapsWith (.ListComp elt (⟨tg, iter, ifs, 0⟩ :: rest) scope pos) (some (.Name y py)) spos.line X.env = pure true) (hi : PI X tg iter wi) (ok : BlkOk X.N X.env.scope scope own) (hn : Nextly (⟨tg, iter, ifs, 0⟩ :: rest) 1) (hv : ∀ i ∈ vs1, i ∈ own.map (·.2))
    (hg : ∀ (s : Shared) (H : Hp) (C : Addr) (cl : List (Str × Addr)) (fp : List Addr), PG (X.blk s H scope (compEnvC scope cl C X.env) fp) tg g) (ht : ∀ (s : Shared) (H : Hp) (C : Addr) (cl : List (Str × Addr)) (fp : List Addr), PTs (X.blk s H scope (compEnvC scope cl C X.env) fp) ifs tt)
    (hd : ∀ (s : Shared) (H : Hp) (C : Addr) (cl : List (Str × Addr)) (fp : List Addr) (D : Addr), Does (X.blk s H scope (compEnvC scope cl C X.env) fp) elt (⟨tg, iter, ifs, 0⟩ :: rest) scope pos 1 D vs1 (t D)) (hs : ∀ x, foldedSetIterable iter X.env x = pure x := by intro _; rfl) :
    PS X (.Assign [.Name y py] (.ListComp elt (⟨tg, iter, ifs, 0⟩ :: rest) scope pos) spos) (tAsg (tLcN wi g tt t (own.map (·.2))) (gName i)) := by
  refine ⟨fun pins s σ H D I h => ?_⟩
  rw [exec_Assign_Name_used _ _ _ _ hsw]
  refine wpAny_bind (wpAny_standAt (wpAny_bind (m := comprehension _ scope X.env _ (newList []) false (eval iter X.env) (some (assign (.Name y py) X.env)) >>= fun _ => pure ()) ?_))
  refine wpAny_bind (thn (lcN_core (Q := fun x H1 => gName i x σ H1 D.nx) (Qf := fun _ z => SP X pins D .next z) hc hN hi ok hn hv hg ht hd hs I h fun L C s1 m H1 J q ns f => ?_) fun _ z hq => wpAny_pure (wpAny_pure hq))
  show wpAny _ _ (assign (.Name y py) X.env (.ref L)) _ _ _
  refine wpAny_assign_Name (store_ok2 (v := V.ref L) J hN hy (.inl hyl) rfl (fun s2 J2 ⟨a, sb, ha⟩ => ?_) (.inr hyl))
  have ne : C ≠ a := ha.elim (fun z => by rw [z]; exact f.2.1) fun z e => f.2.2.2.2.1 y a z e.symm
  exact ⟨m, ns.sameBut sb ne, fun h3 sb3 => ⟨_, H1, J2.turned (t' := s2.toks) (fun b o hb e => (sb3.2 b hb).trans e) f.1 f.2.1 f.2.2.2.1 f.2.2.2.2.1 f.2.2.2.2.2, q⟩⟩
end
section
variable {J : It} {n : Nat} {G : Hp → Prop} {Yl : Nat → Hp → V → Hp → Prop} {g : TG} {tt : TT} {t : TN} {vs : List Nat} {σ : L2.St} {H : Hp} {Nx : Hp → Prop}
/-- a clause's turns, by what holds after each; τ: the slots ahead of a turn, written out -/
theorem lp_it (τ : L2.St) (ht : wipe σ vs = τ) (w : L2.Walk J n G Yl) (Pv : Nat → Hp → Prop) (h0 : Pv 0 H) (hG : ∀ i H, i ≤ n → Pv i H → G H)
    (hs : ∀ i x H H', i < n → Pv i H → Yl i H x H' → g x τ H' fun σ3 H5 => wipe σ3 vs = τ ∧ tt σ3 H5 fun b H6 => if b = true then t σ3 H6 (Pv (i + 1)) else Pv (i + 1) H6) (hd : ∀ H, Pv n H → Nx H) :
    tLoop g tt t vs J σ H Nx := by
  subst ht
  refine ⟨fun i m H => m + i = n ∧ Pv i H, ⟨n, rfl, h0⟩, fun i m H ⟨e, p⟩ => ?_⟩
  have q := hG i H (by omega) p
  by_cases c : i = n
  · subst c
    exact .inl ⟨w.stops H q, hd H p⟩
  · exact .inr ⟨w.goes i H (by omega) q, Pv (i + 1), fun H' p' => ⟨m - 1, by omega, by omega, p'⟩, fun x H' y => hs i x H H' (by omega) p (w.yields i H x H' (by omega) q y)⟩
end
end Own

/-! zip over a text and a tuple -/
namespace Own
open PySem PySem.Spec PyProof.Rows L2 PySem.Froz
/-- an iterator that is drawn from by zip: n items; At i k: k of them have come from the one at i; keep: what else it rests on -/
structure Draws (P : Program) (w : World) (n : Nat) (itm : Nat → Value → Prop) (At : Addr → Nat → Heap → Prop) (rest : Addr → Prop) : Prop where
  keep : ∀ i k h h', At i k h → (∀ b o, b = i ∨ rest b → h.get? b = some o → h'.get? b = some o) → At i k h'
  has : ∀ i k h, At i k h → ∃ o, h.get? i = some o ∧ ∀ v, o.data ≠ .cell v
  item : ∀ (A : Around) (E : Value → Shared → Prop) (s : Shared) (Q : Value → Shared → Prop) i k, k < n → At i k s.heap → ¬ rest i → (∀ v h' tk, itm k v → At i (k + 1) h' → Heap.SameBut i s.heap h' → Q v { s with heap := h', toks := tk }) →
    wpAny (model P w) A (Builtin.SmallTypes.nextOf (.ref i)) Q E s
  stop : ∀ (A : Around) (E : Value → Shared → Prop) (s : Shared) (Q : Value → Shared → Prop) i, A.handled = none → At i n s.heap → (∀ h' e, Heap.ExtBut i s.heap h' → (∃ o, h'.get? e = some o ∧ o.cls = .type "StopIteration") → E (.ref e) { s with heap := h' }) →
    wpAny (model P w) A (Builtin.SmallTypes.nextOf (.ref i)) Q E s
/-- a text's letters -/
theorem draws_text (P : Program) (w : World) (x : Str) (u : Tok) : Draws P w x.cps.size (fun k v => ∃ c t, x.cps[k]? = some c ∧ v = .str (sing c) t) (fun i k h => h.get? i = some (itObj x u k)) (fun _ => False) where
  keep := fun i k h h' e kk => kk i _ (.inl rfl) e
  has := fun i k h e => ⟨_, e, fun v z => nomatch z⟩
  item := fun A E s Q i k lt ho _ q => by
    obtain ⟨c, hc⟩ : ∃ c, x.cps[k]? = some c := ⟨_, Array.getElem?_eq_getElem lt⟩
    have hT : s.TypeIs (.ref i) "str_ascii_iterator" := ⟨_, ho, rfl⟩
    have hd : (itObj x u k).data = .fields #[.str x u, .int k 0] := rfl
    unfold Builtin.SmallTypes.nextOf
    refine wpAny_bind (wpAny_callSpecial?_slot (name := Str.ofString "__next__") hT F.slot_str_ascii_iterator_next
      (wpAny_call_entry F.slot_str_ascii_iterator_next hT F.entry_str_ascii_iterator_next ?_ (F.args_str_ascii_iterator_next_1 _)))
    refine wpAny_bind (m := field (.ref i) 0) (wpAny_field ho hd (x := .str x u) rfl ?_)
    refine wpAny_bind (m := field (.ref i) 1) (wpAny_field ho hd (x := .int k 0) rfl ?_)
    simp only [Int.toNat_natCast, hc]
    refine wpAny_bind (wpAny_setField ho hd (by simp) (wpAny_bind (wpAny_mkStr (wpAny_pure ⟨_, rfl, wpAny_pure (q _ _ _ ⟨c, _, hc, rfl⟩ ?_ (Heap.SameBut.update ..))⟩) (by show 1 ≤ sizeLine; decide))))
    have e := upd_const (Obj.mapFields (fun vs => vs.setIfInBounds 1 (rawInt ((k : Int) + 1)))) ho
    show (s.heap.update i (Obj.mapFields (fun vs => vs.setIfInBounds 1 (rawInt ((k : Int) + 1))))).get? i = _
    rw [e, it_step x u k]
    exact get_upd _ ho rfl
  stop := fun A E s Q i hh ho q => by
    have hc : x.cps[x.cps.size]? = none := by simp
    have hT : s.TypeIs (.ref i) "str_ascii_iterator" := ⟨_, ho, rfl⟩
    have hd : (itObj x u x.cps.size).data = .fields #[.str x u, .int x.cps.size 0] := rfl
    unfold Builtin.SmallTypes.nextOf
    refine wpAny_bind (wpAny_callSpecial?_slot (name := Str.ofString "__next__") hT F.slot_str_ascii_iterator_next
      (wpAny_call_entry F.slot_str_ascii_iterator_next hT F.entry_str_ascii_iterator_next ?_ (F.args_str_ascii_iterator_next_1 _)))
    refine wpAny_bind (m := field (.ref i) 0) (wpAny_field ho hd (x := .str x u) rfl ?_)
    refine wpAny_bind (m := field (.ref i) 1) (wpAny_field ho hd (x := .int x.cps.size 0) rfl ?_)
    simp only [Int.toNat_natCast, hc]
    refine wpAny_bind (wpAny_rule (wpAny_bind (wpAny_setField ho hd (by simp) (wpAny_bind (wpAny_letGo ?_)))))
    refine wpAny_bind (m := newExc (.type "StopIteration") []) ?_
    simp only [newExc, newTuple]
    refine wpAny_bind (wpAny_newObj_type ?_ (by size_fits))
    refine wpAny_bind (m := firstArgMember _ _) (wpAny_of_eq (a := Value.none) (by first | rfl | (simp only [firstArgMember]; rfl)) (wpAny_newObj_type ?_ (by size_fits)))
    simp only [raiseNew]
    refine wpAny_bind (wpAny_handled ?_)
    first | rw [show A.in1.handled = none from hh] | rw [hh]
    exact wpAny_bind (wpAny_pure (wpAny_throw (q _ _ (((Heap.SameBut.update ..).extBut.push _).push _) ⟨_, Heap.get?_push_size _ rfl, rfl⟩)))
/-- a tuple's items -/
theorem draws_tup (P : Program) (w : World) (l : Addr) (items : Array Value) : Draws P w items.size (fun k v => items[k]? = some v) (fun i k h => h.IsTupleIter i l k ∧ h.IsTuple l items ∧ l ≠ i) (fun b => b = l) where
  keep := fun i k h h' e kk => ⟨e.1.at fun o z => kk i o (.inl rfl) z, (by
    obtain ⟨_, ⟨o, z, r⟩, _⟩ := e
    exact ⟨o, kk l o (.inr rfl) z, r⟩), e.2.2⟩
  has := fun i k h e => by
    obtain ⟨⟨o, z, _, d⟩, _⟩ := e
    exact ⟨o, z, fun v y => by rw [d] at y; cases y⟩
  item := fun A E s Q i k lt ho _ q => RZ.nextOf_tuple_item ho.1 ho.2.1 (Array.getElem?_eq_getElem lt) fun h' it sb => q _ h' s.toks (Array.getElem?_eq_getElem lt) ⟨it, (by
    obtain ⟨o, z, r⟩ := ho.2.1
    exact ⟨o, (sb.2 l ho.2.2).trans z, r⟩), ho.2.2⟩ sb
  stop := fun A E s Q i hh ho q => RZ.nextOf_tuple_end hh ho.1 ho.2.1 (by simp) q
/-- the places of a zip's turning are unlike; what its sources rest on is elsewhere -/
structure Far (z TI TO i1 i2 : Addr) (r1 r2 : Addr → Prop) : Prop where
  a : TI ≠ z
  b : TO ≠ z
  c : i1 ≠ z
  d : i2 ≠ z
  e : TI ≠ TO
  f : TI ≠ i1
  g : TI ≠ i2
  h : TO ≠ i1
  i : TO ≠ i2
  j : i1 ≠ i2
  r : ∀ q, r1 q ∨ r2 q → q ≠ z ∧ q ≠ TO ∧ q ≠ i1 ∧ q ≠ i2
section
variable {P : Program} {w : World} {A : Around} {E : Value → Shared → Prop} {s : Shared} {n1 n2 k : Nat} {it1 it2 : Nat → Value → Prop} {At1 At2 : Addr → Nat → Heap → Prop} {r1 r2 : Addr → Prop} {z TI TO i1 i2 : Addr} {x0 y0 : Value}
/-- both have an item -/
theorem zip_item (D1 : Draws P w n1 it1 At1 r1) (D2 : Draws P w n2 it2 At2 r2) (F : Far z TI TO i1 i2 r1 r2) (hz : IsZip s.heap z TI TO .none) (hI : IsPair s.heap TI (.ref i1) (.ref i2)) (hO : IsPair s.heap TO x0 y0) (h1 : At1 i1 k s.heap) (h2 : At2 i2 k s.heap) (l1 : k < n1) (l2 : k < n2)
    {Q : Value → Shared → Prop} (q : ∀ (h' : Heap) tk v1 v2, it1 k v1 → it2 k v2 → IsZip h' z TI TO (rawInt s.heap.objs.size) → IsPair h' TO v1 v2 → At1 i1 (k + 1) h' → At2 i2 (k + 1) h' → IsPair h' s.heap.objs.size v1 v2 →
      (∀ c o, c ≠ z → c ≠ TO → c ≠ i1 → c ≠ i2 → s.heap.get? c = some o → h'.get? c = some o) → Q (.ref s.heap.objs.size) { s with heap := h', toks := tk }) :
    wpAny (model P w) A (Builtin.«zip.__next__» ⟨[.ref z], []⟩) (fun fin s' => ∃ v, fin = .done (.ret v) ∧ Q v s') E s := by
  have n1r : ¬ r1 i1 := fun z => (F.r i1 (.inl z)).2.2.1 rfl
  have n2r : ¬ r2 i2 := fun z => (F.r i2 (.inr z)).2.2.2 rfl
  refine wpAny_bind (m := field (.ref z) 2) (wpAny_field hz rfl (x := .bool false) rfl ?_)
  refine wpAny_bind (m := field (.ref z) 3) (wpAny_field hz rfl (x := .ref TI) rfl ?_)
  refine wpAny_bind (wpAny_seqItems hI rfl ?_)
  refine wpAny_bind (m := Builtin.SmallTypes.ownedTupleIsFree (.ref z)) ?_
  unfold Builtin.SmallTypes.ownedTupleIsFree
  refine wpAny_bind (wpAny_field hz rfl (x := .none) rfl (wpAny_pure ?_))
  simp only [if_true]
  refine wpAny_bind (wpAny_rule (wpAny_bind (wpAny_field hz rfl (x := .ref TO) rfl (wpAny_bind (wpAny_setField_rec hz (by simp) fun ha za sa => ?_)))))
  replace za : IsZip ha z TI TO .ellipsis := za
  refine wpAny_bind ?_
  simp only [List.zipIdx_cons, List.zipIdx_nil, List.forIn_cons, List.forIn_nil]
  -- the first
  refine wpAny_bind (wpAny_bind (wpAny_onRaise (wpAny_bind (m := Builtin.SmallTypes.nextOf (.ref i1)) ?_)))
  refine D1.item _ _ { s with heap := ha } _ i1 k l1 (D1.keep _ _ _ _ h1 fun b o hb e => (sa.2 b (hb.elim (fun e => e ▸ F.c) fun r => (F.r b (.inl r)).1)).trans e) n1r fun v1 hb tb p1 a1 sb => wpAny_pure ?_
  have Ob : IsPair hb TO x0 y0 := (sb.2 TO F.h).trans ((sa.2 TO F.b).trans hO)
  refine wpAny_bind (wpAny_seqItems Ob rfl (wpAny_bind (wpAny_updateSeq_pair Ob fun hc Oc sc => wpAny_bind (wpAny_letGo (wpAny_pure ?_)))))
  replace Oc : IsPair hc TO v1 y0 := Oc
  -- the second
  refine wpAny_bind (wpAny_bind (wpAny_onRaise (wpAny_bind (m := Builtin.SmallTypes.nextOf (.ref i2)) ?_)))
  have h2c : At2 i2 k hc := D2.keep _ _ _ _ h2 fun b o hb e => by
    have f : b ≠ z ∧ b ≠ TO ∧ b ≠ i1 := hb.elim (fun e => by rw [e]; exact ⟨F.d, F.i.symm, F.j.symm⟩) fun r => have g := F.r b (.inr r); ⟨g.1, g.2.1, g.2.2.1⟩
    exact (sc.2 b f.2.1).trans ((sb.2 b f.2.2).trans ((sa.2 b f.1).trans e))
  refine D2.item _ _ { s with heap := hc, toks := tb } _ i2 k l2 h2c n2r fun v2 hd td p2 a2 sd => wpAny_pure ?_
  have Od : IsPair hd TO v1 y0 := (sd.2 TO F.i).trans Oc
  refine wpAny_bind (wpAny_seqItems Od rfl (wpAny_bind (wpAny_updateSeq_pair Od fun he Oe se => wpAny_bind (wpAny_letGo (wpAny_pure (wpAny_pure ?_))))))
  replace Oe : IsPair he TO v1 v2 := Oe
  refine wpAny_bind (wpAny_seqItems Oe rfl (wpAny_bind (wpAny_newTuple ?_)))
  have sz : he.objs.size = s.heap.objs.size := by rw [se.1, sd.1, sc.1, sb.1, sa.1]
  -- what stands as before
  have kp : ∀ c o, c ≠ z → c ≠ TO → c ≠ i1 → c ≠ i2 → s.heap.get? c = some o → he.get? c = some o := fun c o c1 c2 c3 c4 e => (se.2 c c2).trans ((sd.2 c c4).trans ((sc.2 c c2).trans ((sb.2 c c3).trans ((sa.2 c c1).trans e))))
  have ze : IsZip he z TI TO .ellipsis := (se.2 z F.b.symm).trans ((sd.2 z F.d.symm).trans ((sc.2 z F.b.symm).trans ((sb.2 z F.c.symm).trans za)))
  have a1e : At1 i1 (k + 1) he := D1.keep _ _ _ _ a1 fun b o hb e => by
    have f : b ≠ TO ∧ b ≠ i2 := hb.elim (fun e => by rw [e]; exact ⟨F.h.symm, F.j⟩) fun r => have g := F.r b (.inl r); ⟨g.2.1, g.2.2.2⟩
    exact (se.2 b f.1).trans ((sd.2 b f.2).trans ((sc.2 b f.1).trans e))
  have a2e : At2 i2 (k + 1) he := D2.keep _ _ _ _ a2 fun b o hb e => by
    have f : b ≠ TO := hb.elim (fun e => by rw [e]; exact F.i.symm) fun r => (F.r b (.inr r)).2.1
    exact (se.2 b f).trans e
  refine wpAny_bind (m := Builtin.SmallTypes.ownedTupleHandOut (.ref z) (.ref he.objs.size)) ?_
  unfold Builtin.SmallTypes.ownedTupleHandOut
  have zf : IsZip (he.push { cls := .type "tuple", data := .seq #[v1, v2] }) z TI TO .ellipsis := Heap.get?_push_of_some _ ze
  refine wpAny_bind (wpAny_setField_rec zf (by simp) fun hg zg sg => ?_)
  replace zg : IsZip hg z TI TO (rawInt he.objs.size) := zg
  refine wpAny_setField_rec zg (by simp) fun hh zh sh => ?_
  replace zh : IsZip hh z TI TO (rawInt he.objs.size) := zh
  have up : ∀ c o, c ≠ z → he.get? c = some o → hh.get? c = some o := fun c o c1 e => (sh.2 c c1).trans ((sg.2 c c1).trans (Heap.get?_push_of_some _ e))
  have zlt : z < he.objs.size := Heap.lt_size ze
  have new : IsPair hh he.objs.size v1 v2 := (sh.2 _ (Nat.ne_of_gt zlt)).trans ((sg.2 _ (Nat.ne_of_gt zlt)).trans (Heap.get?_push_size _ rfl))
  rw [sz] at zh new
  refine wpAny_pure ⟨_, rfl, ?_⟩
  show Q (.ref he.objs.size) _
  rw [sz]
  refine q hh _ v1 v2 p1 p2 zh (up _ _ F.b Oe) (D1.keep _ _ _ _ a1e fun b o hb e => up b o (hb.elim (fun e => e ▸ F.c) fun r => (F.r b (.inl r)).1) e) (D2.keep _ _ _ _ a2e fun b o hb e => up b o (hb.elim (fun e => e ▸ F.d) fun r => (F.r b (.inr r)).1) e) new fun c o c1 c2 c3 c4 e => up c o c1 (kp c o c1 c2 c3 c4 e)
/-- the first is at its end -/
theorem zip_stop (D1 : Draws P w n1 it1 At1 r1) (F : Far z TI TO i1 i2 r1 r2) (hh : A.handled = none) (hz : IsZip s.heap z TI TO .none) (hI : IsPair s.heap TI (.ref i1) (.ref i2)) (h1 : At1 i1 n1 s.heap)
    {Q : Fin → Shared → Prop} (q : ∀ (h' : Heap) e, (∀ c o, c ≠ z → c ≠ TO → c ≠ i1 → c ≠ i2 → s.heap.get? c = some o → h'.get? c = some o) → (∃ o, h'.get? e = some o ∧ o.cls = .type "StopIteration") → E (.ref e) { s with heap := h' }) :
    wpAny (model P w) A (Builtin.«zip.__next__» ⟨[.ref z], []⟩) Q E s := by
  refine wpAny_bind (m := field (.ref z) 2) (wpAny_field hz rfl (x := .bool false) rfl ?_)
  refine wpAny_bind (m := field (.ref z) 3) (wpAny_field hz rfl (x := .ref TI) rfl ?_)
  refine wpAny_bind (wpAny_seqItems hI rfl ?_)
  refine wpAny_bind (m := Builtin.SmallTypes.ownedTupleIsFree (.ref z)) ?_
  unfold Builtin.SmallTypes.ownedTupleIsFree
  refine wpAny_bind (wpAny_field hz rfl (x := .none) rfl (wpAny_pure ?_))
  simp only [if_true]
  refine wpAny_bind (wpAny_rule (wpAny_bind (wpAny_field hz rfl (x := .ref TO) rfl (wpAny_bind (wpAny_setField_rec hz (by simp) fun ha za sa => ?_)))))
  replace za : IsZip ha z TI TO .ellipsis := za
  refine wpAny_bind ?_
  simp only [List.zipIdx_cons, List.zipIdx_nil, List.forIn_cons, List.forIn_nil]
  refine wpAny_bind (wpAny_bind (wpAny_onRaise (wpAny_bind (m := Builtin.SmallTypes.nextOf (.ref i1)) ?_)))
  refine D1.stop _ _ { s with heap := ha } _ i1 hh (D1.keep _ _ _ _ h1 fun b o hb e => (sa.2 b (hb.elim (fun e => e ▸ F.c) fun r => (F.r b (.inl r)).1)).trans e) fun hb e kb ⟨o, ho, co⟩ => ?_
  have zb : IsZip hb z TI TO .ellipsis := kb z _ F.c.symm za
  have ne : e ≠ z := fun x => by
    rw [x, zb] at ho
    cases ho
    simp at co
  exact wpAny_setField_rec zb (by simp) fun hc zc sc => q hc e (fun c o c1 _ c3 _ x => (sc.2 c c1).trans (kb c o c3 ((sa.2 c c1).trans x))) ⟨o, (sc.2 e ne).trans ho, co⟩
end
end Own

namespace Own
open PySem PySem.Spec PyProof.Rows L2 PySem.Froz
abbrev zs1 (h : Heap) (x : Str) (u : Tok) : Heap := h.push (itObj x u 0)
abbrev zs2 (h : Heap) (x : Str) (u : Tok) (l : Addr) : Heap := (zs1 h x u).push { cls := .type "tuple_iterator", data := .fields #[.ref l, .int 0 0] }
abbrev zs3 (h : Heap) (x : Str) (u : Tok) (l : Addr) : Heap := (zs2 h x u l).push { cls := .type "tuple", data := .seq #[.ref h.objs.size, .ref (zs1 h x u).objs.size] }
abbrev zs4 (h : Heap) (x : Str) (u : Tok) (l : Addr) : Heap := (zs3 h x u l).push { cls := .type "tuple", data := .seq #[.none, .none] }
abbrev zs5 (h : Heap) (x : Str) (u : Tok) (l : Addr) : Heap := (zs4 h x u l).push { cls := .type "zip", data := .fields #[.none, .bool false, .bool false, .ref (zs2 h x u l).objs.size, .ref (zs3 h x u l).objs.size] }
theorem zip_made (x : Str) (u : Tok) (l : Addr) (ys : Array Value) (ha : x.cps.all (· < 128) = true) :
    Meets (Builtin.«zip.__new__» ⟨[.type "zip", .str x u, .ref l], []⟩) (fun _ R s => s.heap.IsTuple l ys ∧ R (.ok (.ret (.ref (zs4 s.heap x u l).objs.size))) { s with heap := zs5 s.heap x u l }) :=
  .of_wp fun prog w A R s h => by
    obtain ⟨hp, g, d, tk, os⟩ := s
    obtain ⟨hl, h⟩ := h
    have hsub := sub_zip
    have hL : Heap.IsTuple (Shared.heap ⟨hp.push { cls := .type "str_ascii_iterator", data := .fields #[.str x u, .int 0 0] }, g, d, tk, os⟩) l ys := Heap.IsTuple.push hl _
    wp_walk using wpAny_pyIter_ascii (x := x) (t := u) ha, wpAny_pyIter_tuple hL
    exact ⟨_, rfl, h⟩
section
variable {P : Program} {w : World} {A : Around} {E : Value → Shared → Prop} {s : Shared} {n1 n2 k : Nat} {it1 it2 : Nat → Value → Prop} {At1 At2 : Addr → Nat → Heap → Prop} {r1 r2 : Addr → Prop} {z TI TO i1 i2 : Addr} {x0 y0 : Value}
theorem call_zipS {x : Str} {u : Tok} {l : Addr} {ys : Array Value} {Q : Value → Shared → Prop} (ha : x.cps.all (· < 128) = true) (hl : s.heap.IsTuple l ys)
    (q : ∀ h', IsZip h' (s.heap.objs.size + 4) (s.heap.objs.size + 2) (s.heap.objs.size + 3) .none → IsPair h' (s.heap.objs.size + 2) (.ref s.heap.objs.size) (.ref (s.heap.objs.size + 1)) → IsPair h' (s.heap.objs.size + 3) .none .none →
      h'.get? s.heap.objs.size = some (itObj x u 0) → h'.IsTupleIter (s.heap.objs.size + 1) l 0 → (∀ c o, s.heap.get? c = some o → h'.get? c = some o) → Q (.ref (s.heap.objs.size + 4)) { s with heap := h' }) :
    wpAny (model P w) A (call (.type "zip") [.str x u, .ref l]) Q E s := by
  refine callType_new F.called_zip (by decide) (F.typeCall_zip_2 _ _) (F.newCall_zip_2 _ _) (fun obj => F.args_object_init_3 obj _ _) F.entry_zip_new (zip_made x u l ys ha) ⟨hl, ?_⟩
  have e1 : (zs1 s.heap x u).objs.size = s.heap.objs.size + 1 := Heap.size_push ..
  have e2 : (zs2 s.heap x u l).objs.size = s.heap.objs.size + 2 := by rw [Heap.size_push, e1]
  have e3 : (zs3 s.heap x u l).objs.size = s.heap.objs.size + 3 := by rw [Heap.size_push, e2]
  have e4 : (zs4 s.heap x u l).objs.size = s.heap.objs.size + 4 := by rw [Heap.size_push, e3]
  have up : ∀ {h : Heap} {o : Obj} {c : Addr} {v : Obj}, h.get? c = some v → (h.push o).get? c = some v := fun e => Heap.get?_push_of_some _ e
  have g5 : (zs5 s.heap x u l).get? (zs4 s.heap x u l).objs.size = some _ := Heap.get?_push_size _ rfl
  have g4 : (zs5 s.heap x u l).get? (zs3 s.heap x u l).objs.size = some _ := up (Heap.get?_push_size _ rfl)
  have g3 : (zs5 s.heap x u l).get? (zs2 s.heap x u l).objs.size = some _ := up (up (Heap.get?_push_size _ rfl))
  have g2 : (zs5 s.heap x u l).get? (zs1 s.heap x u).objs.size = some _ := up (up (up (Heap.get?_push_size _ rfl)))
  have g1 : (zs5 s.heap x u l).get? s.heap.objs.size = some (itObj x u 0) := up (up (up (up (Heap.get?_push_size _ rfl))))
  rw [e1] at g2 g3
  rw [e2] at g3 g5
  rw [e3] at g4 g5
  rw [e4] at g5
  show _ ∧ _
  rw [e4]
  exact ⟨⟨_, g5, rfl⟩, q _ g5 g3 g4 g1 ⟨_, g2, rfl, rfl⟩ fun c o e => up (up (up (up (up e))))⟩
theorem next_item (D1 : Draws P w n1 it1 At1 r1) (D2 : Draws P w n2 it2 At2 r2) (F : Far z TI TO i1 i2 r1 r2) (hz : IsZip s.heap z TI TO .none) (hI : IsPair s.heap TI (.ref i1) (.ref i2)) (hO : IsPair s.heap TO x0 y0) (h1 : At1 i1 k s.heap) (h2 : At2 i2 k s.heap) (l1 : k < n1) (l2 : k < n2)
    {Q : Option Value → Shared → Prop} (q : ∀ (h' : Heap) tk v1 v2, it1 k v1 → it2 k v2 → IsZip h' z TI TO (rawInt s.heap.objs.size) → IsPair h' TO v1 v2 → At1 i1 (k + 1) h' → At2 i2 (k + 1) h' → IsPair h' s.heap.objs.size v1 v2 →
      (∀ c o, c ≠ z → c ≠ TO → c ≠ i1 → c ≠ i2 → s.heap.get? c = some o → h'.get? c = some o) → Q (some (.ref s.heap.objs.size)) { s with heap := h', toks := tk }) : wpAny (model P w) A (pyNext (.ref z)) Q E s := by
  have hT : s.TypeIs (.ref z) "zip" := ⟨_, hz, rfl⟩
  unfold pyNext
  exact wpAny_bind (wpAny_attempt (wpAny_callSpecial?_slot (name := Str.ofString "__next__") hT PySem.F.slot_zip_next
    (wpAny_call_entry PySem.F.slot_zip_next hT PySem.F.entry_zip_next (zip_item D1 D2 F hz hI hO h1 h2 l1 l2 fun h' tk v1 v2 b1 b2 b3 b4 b5 b6 b7 b8 => wpAny_pure (q h' tk v1 v2 b1 b2 b3 b4 b5 b6 b7 b8)) (PySem.F.args_zip_next_1 _))))
theorem next_stop (D1 : Draws P w n1 it1 At1 r1) (F : Far z TI TO i1 i2 r1 r2) (hh : A.handled = none) (hz : IsZip s.heap z TI TO .none) (hI : IsPair s.heap TI (.ref i1) (.ref i2)) (h1 : At1 i1 n1 s.heap)
    {Q : Option Value → Shared → Prop} (q : ∀ h', (∀ c o, c ≠ z → c ≠ TO → c ≠ i1 → c ≠ i2 → s.heap.get? c = some o → h'.get? c = some o) → Q none { s with heap := h' }) : wpAny (model P w) A (pyNext (.ref z)) Q E s := by
  have hT : s.TypeIs (.ref z) "zip" := ⟨_, hz, rfl⟩
  unfold pyNext
  refine wpAny_bind (wpAny_attempt (wpAny_callSpecial?_slot (name := Str.ofString "__next__") hT PySem.F.slot_zip_next
    (wpAny_call_entry PySem.F.slot_zip_next hT PySem.F.entry_zip_next ?_ (PySem.F.args_zip_next_1 _))))
  refine zip_stop D1 F (show A.in1.handled = none from hh) hz hI h1 fun h' e kk ⟨o, ho, co⟩ => ?_
  exact wpAny_bind (wpAny_isInstance (T := "StopIteration") (b := true) ⟨o, ho, co⟩ isSubtype_stop (wpAny_pure (q h' kk)))
end
end Own

namespace Own
open PySem PySem.Spec PyProof.Rows L2 PySem.Froz
/-- the text y and the tuple at b, that is no shorter, item by item in new pairs -/
def Itzs (K : PySem.W.Frag) (y : Str) (b : Addr) : It :=
  ⟨fun i H => ∃ (ys : List V) (v : V), i < y.cps.size ∧ SqT K H b ys ∧ ys[i]? = some v,
    fun i H v H' => ∃ T c x, v = .ref T ∧ H T = none ∧ H' = upd H T (.tup [.str (sing c), x]) ∧ y.cps[i]? = some c ∧ ∀ ys, SqT K H b ys → ys[i]? = some x,
    fun i H => i = y.cps.size ∧ ∃ ys : List V, SqT K H b ys⟩
/-- the objects of such a walk -/
def ZipSt (y : Str) (u : Tok) (b z TI TO i1 i2 : Addr) (i : Nat) (h : Heap) : Prop :=
  IsZip h z TI TO .none ∧ IsPair h TI (.ref i1) (.ref i2) ∧ (∃ p q, IsPair h TO p q) ∧ h.get? i1 = some (itObj y u i) ∧ h.IsTupleIter i2 b i
theorem turn_zips {P : Program} {w : World} {K : PySem.W.Frag} {elts : List Expr} {kk : Nat} {tpos : Pos} {y : Str} {u : Tok} {b z TI TO i1 i2 : Addr} (F : Far z TI TO i1 i2 (fun _ => False) (fun q => q = b)) :
    Turn P w K (.Tuple elts kk tpos) (Itzs K y b) [z, TI, TO, i1, i2] z (ZipSt y u b z TI TO i1 i2) where
  mem := List.mem_cons_self
  obj := fun i h ⟨hz, hI, ⟨p, q, hO⟩, h1, ⟨o, h2, _, d2⟩⟩ c hc => by
    simp only [List.mem_cons, List.not_mem_nil, or_false] at hc
    rcases hc with rfl | rfl | rfl | rfl | rfl
    · exact ⟨_, hz, fun v e => nomatch e⟩
    · exact ⟨_, hI, fun v e => nomatch e⟩
    · exact ⟨_, hO, fun v e => nomatch e⟩
    · exact ⟨_, h1, fun v e => nomatch e⟩
    · exact ⟨_, h2, fun v e => by rw [d2] at e; cases e⟩
  keep := fun i h h' ⟨hz, hI, ⟨p, q, hO⟩, h1, h2⟩ k =>
    ⟨k z (by simp) _ hz, k TI (by simp) _ hI, ⟨p, q, k TO (by simp) _ hO⟩, k i1 (by simp) _ h1, h2.at fun o e => k i2 (by simp) o e⟩
  item := fun X hP hw hK hc i pins s σ H E I hf ⟨hz, hI, ⟨p, q, hO⟩, h1, h2⟩ ⟨ys, v, hi, hq, hv⟩ => by
    subst hP hw hK
    obtain ⟨its, rv, hb, _⟩ := I.tuple hq
    obtain ⟨r, hr, rr⟩ := rv.get hv
    have hi2 : i < its.toArray.size := by rw [List.size_toArray]; exact (List.getElem?_eq_some_iff.mp hr).1
    have zlt : z < s.heap.objs.size := Heap.lt_size hz
    have far := F.r b (.inr rfl)
    refine next_item (draws_text X.prog X.w y u) (draws_tup X.prog X.w b its.toArray) F hz hI hO h1 ⟨h2, hb, far.2.2.2⟩ hi hi2 fun h' tk v1 v2 ⟨c, t, hc1, e1⟩ e2 z' O' a1 a2 T' kp => ?_
    have e3 : v2 = r := by
      have q : its.toArray[i]? = some r := by simpa using hr
      rw [q] at e2
      exact (Option.some.inj e2).symm
    subst e1 e3
    refine ⟨_, rfl, wpAny_letOwnedTupleGo_zip (s := { s with heap := h', toks := tk }) z' fun h3 z3 sb => ?_⟩
    have kp3 : ∀ c o, c ∉ [z, TI, TO, i1, i2] → s.heap.get? c = some o → h3.get? c = some o := fun c o hn e => by
      simp only [List.mem_cons, List.not_mem_nil, or_false, not_or] at hn
      exact (sb.2 c hn.1).trans (kp c o hn.1 hn.2.2.1 hn.2.2.2.1 hn.2.2.2.2 e)
    have T3 : h3.get? s.heap.objs.size = some { cls := .type "tuple", data := .seq #[.str (sing c) t, v2] } := (sb.2 _ (Nat.ne_of_gt zlt)).trans T'
    have new : ObjOk X.prog X.w (upd H s.heap.objs.size (.tup [.str (sing c), v])) h3 s.heap.objs.size (.tup [.str (sing c), v]) :=
      ⟨by show 2 ≤ sizeLine; decide, [.str (sing c) t, v2], .cons ⟨t, rfl⟩ (.cons rr .nil), ⟨_, T3, rfl, _, rfl⟩⟩
    have J : Inv X pins σ (upd H s.heap.objs.size (.tup [.str (sing c), v])) { s with heap := h3, toks := tk } := I.turnedNew (t' := tk) (ch := [z, TI, TO, i1, i2]) kp3 hf (Nat.le_refl _) new
    refine ⟨.ref s.heap.objs.size, _, J, rfl, ⟨_, c, v, rfl, I.hok.fresh (Nat.le_refl _), rfl, hc1, fun l hl => by rw [I.tuple_inj hl hq]; exact hv⟩, ⟨z3, ?_, ⟨_, _, (sb.2 _ F.b).trans O'⟩, (sb.2 _ F.c).trans a1, a2.1.at fun o e => (sb.2 _ F.d).trans e⟩, fun d hd => ?_⟩
    · exact (sb.2 _ F.a).trans (kp _ _ F.a F.e F.f F.g hI)
    · have lt : d < s.heap.objs.size := by
        simp only [List.mem_cons, List.not_mem_nil, or_false] at hd
        rcases hd with rfl | rfl | rfl | rfl | rfl
        · exact zlt
        · exact Heap.lt_size hI
        · exact Heap.lt_size hO
        · exact Heap.lt_size h1
        · obtain ⟨_, e, _⟩ := h2; exact Heap.lt_size e
      rw [upd_ne (Nat.ne_of_lt lt)]
      exact (hf d hd).1
  done := fun X hP hw hK hc i pins s σ H E I hf ⟨hz, hI, ⟨p, q, hO⟩, h1, h2⟩ ⟨hi, ys, hq⟩ => by
    subst hP hw hK hi
    exact next_stop (draws_text X.prog X.w y u) F (I.ok.hd hc) hz hI h1 fun h' kp => ⟨rfl, I.turnedL (t' := s.toks) (ch := [z, TI, TO, i1, i2]) (fun c o hn e => by
      simp only [List.mem_cons, List.not_mem_nil, or_false, not_or] at hn
      exact kp c o hn.1 hn.2.2.1 hn.2.2.2.1 hn.2.2.2.2 e) hf⟩
  self := fun A i s Q E st h => wpAny_pyIter_zip st.1 h
/-- zip(text, tuple) -/
def iZips (K : PySem.W.Frag) (ta : TA) : TI := fun σ H R => ta σ H fun vs H1 => ∃ (y : Str) (b : Addr) (ys : List V), vs = [.str y, .ref b] ∧ y.cps.all (· < 128) = true ∧ SqT K H1 b ys ∧ R (Itzs K y b) H1
theorem pi_zips {X : Cx} {e e2 : Expr} {ta : TA} {p pos tpos : Pos} {elts : List Expr} {kk : Nat} (hg : Gl X "zip") (hm : X.mg "zip" = none) (ha : PA X [e, e2] ta)
    (hs : starEach [e, e2] X.env = (false, eval e X.env) :: starEach [e2] X.env := by rfl) (hpl : (backTo pos (starEach [e2] X.env)).any (·.1) = false := by rfl) :
    PI X (.Tuple elts kk tpos) (.Call (.Name "zip" p) [e, e2] [] pos) (iZips X.K ta) := by
  refine ⟨fun pins s σ H R I h => Call_ (ld_blt I hg hm PyProof.Rows.boot_zip (PyProof.Rows.callWith_type1 (thn (ha.run pos pins s σ H _ I h) fun us s1 ⟨vs, H1, I1, r1, y, b, ys, ev, asc, hq, q⟩ => ?_) hs hpl))⟩
  subst ev
  cases r1 with
  | cons r rr =>
    cases rr with
    | cons r' r2 =>
      cases r2
      obtain ⟨u, rfl⟩ := r
      cases r'
      obtain ⟨its, rv, hb, _⟩ := I1.tuple hq
      have lt : b < s1.heap.objs.size := by
        obtain ⟨o, e, _⟩ := id hb
        exact Heap.lt_size e
      refine call_zipS asc (show s1.heap.IsTuple b its.toArray from hb) fun h' hz hI hO h1 h2 kp => wpAny_pyIter_zip hz ?_
      have J : Inv X pins σ H1 { s1 with heap := h' } := I1.kept (t' := s1.toks) kp
      have far : Far (s1.heap.objs.size + 4) (s1.heap.objs.size + 2) (s1.heap.objs.size + 3) s1.heap.objs.size (s1.heap.objs.size + 1) (fun _ => False) (fun q => q = b) := by
        have nn : ∀ {m n : Nat}, m ≠ n → (m : Addr) ≠ n := fun h => h
        refine ⟨nn (by omega), nn (by omega), nn (by omega), nn (by omega), nn (by omega), nn (by omega), nn (by omega), nn (by omega), nn (by omega), nn (by omega), fun q hq => ?_⟩
        rcases hq with f | e
        · exact f.elim
        · have lt' : q < s1.heap.objs.size := e.symm ▸ lt
          exact ⟨nn (Nat.ne_of_lt (Nat.lt_add_right _ lt')), nn (Nat.ne_of_lt (Nat.lt_add_right _ lt')), nn (Nat.ne_of_lt lt'), nn (Nat.ne_of_lt (Nat.lt_add_right _ lt'))⟩
      refine ⟨s1.heap.objs.size + 4, [s1.heap.objs.size + 4, s1.heap.objs.size + 2, s1.heap.objs.size + 3, s1.heap.objs.size, s1.heap.objs.size + 1], ZipSt y u b (s1.heap.objs.size + 4) (s1.heap.objs.size + 2) (s1.heap.objs.size + 3) s1.heap.objs.size (s1.heap.objs.size + 1), _, H1, rfl, J, turn_zips far, ⟨hz, hI, ⟨_, _, hO⟩, h1, h2⟩, fun c hc => ?_, q⟩
      have le : s1.heap.objs.size ≤ c := by
        simp only [List.mem_cons, List.not_mem_nil, or_false] at hc
        rcases hc with e | e | e | e | e <;> rw [e] <;> first | exact Nat.le_add_right _ _ | exact Nat.le_refl _
      exact I1.fpOk le (I1.hok.fresh le)
theorem walk_zips {K : PySem.W.Frag} {y : Str} {b : Addr} {ys : List V} (hl : y.cps.size ≤ ys.length) : L2.Walk (Itzs K y b) y.cps.size (fun H => SqT K H b ys) (YPair (fun i => (y.cps[i]?).map fun c => .str (sing c)) (fun i => ys[i]?)) := by
  refine ⟨fun i H hi q => ⟨ys, ys[i], hi, q, List.getElem?_eq_getElem (by omega)⟩, fun H q => ⟨rfl, ys, q⟩, fun i H x H' hi q ⟨T, c, v, e1, e2, e3, e4, e5⟩ => ⟨T, .str (sing c), v, e1, e2, e3, ?_, e5 ys q⟩⟩
  show (y.cps[i]?).map _ = _
  rw [e4]
  rfl
end Own

namespace Kx
open PySem L2 Own
abbrev s_is_whole : Stmt := top 8
abbrev s_key_list : Stmt := top 12
abbrev s_check_ways : Stmt := top 31
abbrev s_keys_in : Stmt := top 32
/-! ### rows of machines -/
abbrev Way := Int × List Str
/-- a tuple of keys -/
def KeysT (H : Hp) (v : V) (ks : List Str) : Prop := ∃ a, v = .ref a ∧ H a = some (.tup (ks.map V.str))
def WayT (H : Hp) (v : V) (w : Way) : Prop := ∃ a kv, v = .ref a ∧ H a = some (.tup [.int w.1, kv]) ∧ KeysT H kv w.2
def RowT (H : Hp) (v : V) (r : List Way) : Prop := ∃ a vs, v = .ref a ∧ H a = some (.tup vs) ∧ Paired (WayT H) vs r
theorem KeysT.keep {H H' : Hp} (s : ∀ b xs, H b = some (.tup xs) → H' b = some (.tup xs)) {v : V} {ks : List Str} (h : KeysT H v ks) : KeysT H' v ks := by
  obtain ⟨a, e, h⟩ := h
  exact ⟨a, e, s _ _ h⟩
theorem WayT.keep {H H' : Hp} (s : ∀ b xs, H b = some (.tup xs) → H' b = some (.tup xs)) {v : V} {r : Way} (h : WayT H v r) : WayT H' v r := by
  obtain ⟨a, kv, e, h, k⟩ := h
  exact ⟨a, kv, e, s _ _ h, k.keep s⟩
theorem RowT.keep {H H' : Hp} (s : ∀ b xs, H b = some (.tup xs) → H' b = some (.tup xs)) {v : V} {r : List Way} (h : RowT H v r) : RowT H' v r := by
  obtain ⟨a, vs, e, h, k⟩ := h
  exact ⟨a, vs, e, s _ _ h, L2.Paired.mapP k fun _ _ z => z.keep s⟩
theorem tups {H H' : Hp} (s : Same H H') : ∀ b xs, H b = some (.tup xs) → H' b = some (.tup xs) := fun b xs e => s b _ e
def keysOfRows (R : List (List Way)) : List Str := R.flatMap fun r => r.flatMap fun w => w.2
/-- the defs of machines -/
structure MAd where
  f1 : Addr
  f2 : Addr
  f3 : Addr
  f4 : Addr
  d1 : FuncData
  d2 : FuncData
  d3 : FuncData
  d4 : FuncData
structure TxtM (K : PySem.W.Frag) (mg : Str → Option Value) (B : MAd) : Prop where
  D_is_whole : DefT K mg "is_whole" "is_whole" s_is_whole ["value"] B.f1 B.d1
  D_key_list : DefT K mg "key_list" "key_list" s_key_list ["given"] B.f2 B.d2
  D_check_ways : DefT K mg "check_ways" "check_ways" s_check_ways ["rows"] B.f3 B.d3
  D_keys_in : DefT K mg "keys_in" "keys_in" s_keys_in ["rows", "ends"] B.f4 B.d4
  n_isinstance : mg "isinstance" = none
  n_int : mg "int" = none
  n_bool : mg "bool" = none
  n_len : mg "len" = none
  n_set : mg "set" = none
  n_sorted : mg "sorted" = none
  n_tuple : mg "tuple" = none
  n_zip : mg "zip" = none
  n_enumerate : mg "enumerate" = none
section
variable {P : Program} {w : World} {K : PySem.W.Frag} {mg : Str → Option Value} {base : Heap} {B : MAd}
def spWhole : Sp := fun vs H Q _ => ∃ i : Int, vs = [.int i] ∧ Q (.bl true) H
theorem sc_is_whole : FnScope ["value"] ["value"] (defScope s_is_whole) := ⟨rfl, rfl, rfl, by decide +kernel, rfl, by decide +kernel, by decide +kernel⟩
theorem ok_is_whole (T : TxtM K mg B) : FnOk P w K mg base CX0 1 B.f1 B.d1 ["value"] spWhole := by
  have sc := sc_is_whole
  refine T.D_is_whole.F.ok sc (fun vs H Q E h => ?_) (fun cdv A1 outer s H vs Q E hr h => ?_)
  · obtain ⟨_, rfl, _⟩ := h; rfl
  · obtain ⟨i, rfl, q⟩ := h
    refine ⟨_, pss_one (ps_ret (pe_and (pe_callB call_isi (by rfl) T.n_isinstance (by decide +kernel) (pa_cons (pv 0) (pa_cons (pe_bltn (v := .ty "int") rfl T.n_int (by decide +kernel) rfl) pa_nil)))
      (pe_one (pe_notT (pe_callB call_isi (by rfl) T.n_isinstance (by decide +kernel) (pa_cons (pv 0) (pa_cons (pe_bltn (v := .ty "bool") rfl T.n_bool (by decide +kernel) rfl) pa_nil))))))), ?_⟩
    refine ⟨_, rfl, _, _, _, _, true, rfl, ClsV.ty _, .base (.int i), kit_ty (by decide +kernel), true, rfl, ?_⟩
    exact ⟨_, rfl, _, _, _, _, false, rfl, ClsV.ty _, .base (.int i), kit_ty (by decide +kernel), false, rfl, q⟩
def spKl (K : PySem.W.Frag) : Sp := fun vs H Q _ => ∃ (x : V) (xs : List Str), vs = [x] ∧ Texts K H x xs ∧ xs.length + 1 < scanBound ∧
  ∀ p H', H p = none → Same H H' → H' p = some (.tup ((kl xs).map V.str)) → Q (.ref p) H'
theorem sc_key_list : FnScope ["given"] ["given"] (defScope s_key_list) := ⟨rfl, rfl, rfl, by decide +kernel, rfl, by decide +kernel, by decide +kernel⟩
theorem ok_key_list (T : TxtM K mg B) : FnOk P w K mg base CX0 1 B.f2 B.d2 ["given"] (spKl K) := by
  have sc := sc_key_list
  refine T.D_key_list.F.ok sc (fun vs H Q E h => ?_) (fun cdv A1 outer s H vs Q E hr h => ?_)
  · obtain ⟨_, _, rfl, _⟩ := h; rfl
  · obtain ⟨x, xs, rfl, tx, hb, q⟩ := h
    refine ⟨_, pss_one (ps_ret (pe_tupleOf rfl T.n_tuple (pe_callB (cr_sortT rfl) (by rfl) T.n_sorted (by decide +kernel) (pa_cons (pe_callTy (cr_setT rfl) (by rfl) T.n_set (by decide +kernel) (pa_cons (pv 0) pa_nil)) pa_nil)))), ?_⟩
    refine ⟨_, rfl, x, xs, rfl, tx, hb, fun p l hp nd hm hl => ?_⟩
    refine ⟨p, l, rfl, upd_same, by omega, fun p2 ys hp2 pm hs => ?_⟩
    refine .inl ⟨p2, _, rfl, SqL.of upd_same, fun p3 hp3 => ?_⟩
    rw [kl_of pm hs nd hm] at *
    have h3 : H p3 = none := by
      cases e : H p3 with
      | none => rfl
      | some o => exact absurd ((Same.upd hp2 _ _ (Same.upd hp _ _ e)).symm.trans hp3) (by simp)
    exact q p3 _ h3 (fun b o e => Same.upd hp3 _ _ (Same.upd hp2 _ _ (Same.upd hp _ _ e))) upd_same
end
end Kx

namespace Kx
open PySem L2 Own
section
variable {P : Program} {w : World} {K : PySem.W.Frag} {mg : Str → Option Value} {base : Heap} {B : MAd}
local macro_rules | `(tactic| walk_at "g") => `(tactic| first | refine ⟨_, _, rfl, rfl, ?_⟩ | refine ⟨_, rfl, ?_⟩ | refine ⟨rfl, ?_⟩)
theorem pat {α β : Type} {F : α → β → Prop} : ∀ {l : List α} {m : List β} {i : Nat} {x : α}, Paired F l m → l[i]? = some x → ∃ y, m[i]? = some y ∧ F x y
  | _, _, i, _, .nil, h => by cases i <;> cases h
  | _, _, 0, _, .cons r _, h => ⟨_, rfl, by cases h; exact r⟩
  | _, _, i + 1, _, .cons _ t, h => pat (i := i) t h
theorem flat_step {α : Type} (f : α → List Str) : ∀ {l : List α} {i : Nat} {x : α}, l[i]? = some x → (l.take (i + 1)).flatMap f = (l.take i).flatMap f ++ f x
  | [], i, _, h => by cases i <;> cases h
  | a :: l, 0, x, h => by
    have e : a = x := Option.some.inj h
    subst e
    simp
  | a :: l, i + 1, x, h => by
    have ih := flat_step f (l := l) (i := i) h
    rw [List.take_succ_cons, List.take_succ_cons, List.flatMap_cons, List.flatMap_cons, ih, List.append_assoc]
theorem flat_le {α : Type} (f : α → List Str) : ∀ {l : List α} {i : Nat} {x : α}, l[i]? = some x → ((l.take i).flatMap f).length + (f x).length ≤ (l.flatMap f).length
  | [], i, _, h => by cases i <;> cases h
  | a :: l, 0, x, h => by
    have e : a = x := Option.some.inj h
    subst e
    simp
  | a :: l, i + 1, x, h => by
    have ih := flat_le f (l := l) (i := i) h
    rw [List.take_succ_cons, List.flatMap_cons, List.flatMap_cons, List.length_append, List.length_append]
    omega
theorem bound_line {n : Nat} (h : n < scanBound) : n < sizeLine := by
  rw [sizeLine_eq]
  unfold scanBound at h
  omega
def spKin (K : PySem.W.Frag) : Sp := fun vs H Q _ => ∃ (r e : Addr) (rv ev : List V) (R : List (List Way)) (Es : List (List Str)), vs = [.ref r, .ref e] ∧ H r = some (.tup rv) ∧ Paired (RowT H) rv R ∧ H e = some (.tup ev) ∧ Paired (KeysT H) ev Es ∧
  (keysOfRows R ++ Es.flatten).length + 1 < scanBound ∧ ∀ p H', H p = none → Same H H' → H' p = some (.tup ((kl (keysOfRows R ++ Es.flatten)).map V.str)) → Q (.ref p) H'
theorem sc_keys_in : FnScope ["rows", "ends", "on_ways", "row", "way", "key", "end"] ["rows", "ends"] (defScope s_keys_in) := ⟨rfl, rfl, rfl, by decide +kernel, rfl, by decide +kernel, by decide +kernel⟩
theorem ok_keys_in (T : TxtM K mg B) : FnOk P w K mg base CX0 2 B.f4 B.d4 ["rows", "ends"] (spKin K) := by
  have sc := sc_keys_in
  have G_key_list : FnOk P w K mg base CX0 1 B.f2 B.d2 ["given"] (spKl K) := ok_key_list T
  refine T.D_keys_in.F.ok sc (fun vs H Q E h => ?_) (fun cdv A1 outer s H vs Q E hr h => ?_)
  · obtain ⟨_, _, _, _, _, _, rfl, _⟩ := h; rfl
  · obtain ⟨r, e, rv, ev, R, Es, rfl, hrv, pR, hev, pE, hb, q⟩ := h
    refine ⟨_, (pss_cons (ps_setLcN (i := 2) (own := [("row", 3), ("way", 4), ("key", 5)]) (vs1 := [4, 5]) (g := gName 3) (tt := tYes) (t := tFor (iTup K (tVar 3)) (gName 4) tYes [4, 5] (tFor (iTup K (tOp (rIxT K) (tVar 4) (tC (.int 1)))) (gName 5) tYes [5] (tEmit (tVar 5)))) rfl sc.nd rfl rfl (sw_true rfl rfl rfl (by decide +kernel)) (pi_tup (pv 0)) (blkOk_by (N := ["rows", "ends", "on_ways", "row", "way", "key", "end"]) (sc := defScope s_keys_in) (own := [("row", 3), ("way", 4), ("key", 5)]) (by decide +kernel)) (.inr ⟨_, _, _, rfl⟩) (by decide)
        (fun _ _ _ _ _ => (pg_name (i := 3) sc.nd rfl (Or.inl rfl))) (fun _ _ _ _ _ => pts_nil)
        (fun _ _ _ _ _ D => does_for rfl (.inr ⟨_, _, _, rfl⟩) rfl rfl (pi_tup (pv 3)) (fun _ => rfl) (pg_name (i := 4) sc.nd rfl (Or.inl rfl)) pts_nil
          (does_for rfl (.inl rfl) rfl rfl (pi_tup (pe_ix ix_tup (pv 4) pe_int (fun _ _ => rfl))) (fun _ => rfl) (pg_name (i := 5) sc.nd rfl (Or.inl rfl)) pts_nil (does_emit rfl rfl (pv 5)) (by decide)) (by decide)))
      (pss_one (ps_ret (pe_call G_key_list (hr.mono (by decide)) rfl T.D_key_list.g T.D_key_list.F.kp T.D_key_list.b .nil pass0 (pa_cons (pe_lst (StX.pa_star (pv 2) (StX.pa_star
        (pe_lcN (own := [("end", 6), ("key", 5)]) (vs1 := [5]) (g := gName 6) (tt := tYes) (t := tFor (iTup K (tVar 6)) (gName 5) tYes [5] (tEmit (tVar 5))) rfl sc.nd (pi_tup (pv 1)) (blkOk_by (N := ["rows", "ends", "on_ways", "row", "way", "key", "end"]) (sc := defScope s_keys_in) (own := [("end", 6), ("key", 5)]) (by decide +kernel)) (.inr ⟨_, _, _, rfl⟩) (by decide)
          (fun _ _ _ _ _ => (pg_name (i := 6) sc.nd rfl (Or.inl rfl))) (fun _ _ _ _ _ => pts_nil)
          (fun _ _ _ _ _ D => does_for rfl (.inl rfl) rfl rfl (pi_tup (pv 6)) (fun _ => rfl) (pg_name (i := 5) sc.nd rfl (Or.inl rfl)) pts_nil (does_emit rfl rfl (pv 5)) (by decide)))
        pa_nil))) pa_nil))))), ?_⟩
    have hb1 : (keysOfRows R).length + Es.flatten.length + 1 < scanBound := by rw [List.length_append] at hb; exact hb
    -- on_ways
    refine ⟨_, rfl, r, rfl, ⟨_, SqT.of hrv⟩, fun D hD => ?_⟩
    have put : ∀ {H' : Hp} {xs : List V}, Same H H' → Same H (upd H' D (.lst xs)) := fun {H' xs} s1 b o e => by rw [upd_ne (ne_of_none e hD)]; exact s1 b o e
    refine lp_it [some (.ref r), some (.ref e), none, none, none, none, none] rfl walk_tup (fun i H' => Same H H' ∧ H' D = some (.lst ((keysOfRows (R.take i)).map V.str))) ⟨Same.upd hD, upd_same⟩ (fun i H' _ z => SqT.of (z.1 _ _ hrv)) ?_ ?_
    · rintro i x H1 _ hi ⟨s1, h1⟩ ⟨rfl, hx⟩
      obtain ⟨rw1, hrw, a, vs, rfl, ha, pr⟩ := pat pR hx
      have l1 := flat_le (fun r : List Way => r.flatMap fun w => w.2) hrw
      refine ⟨rfl, _, rfl, a, rfl, ⟨_, SqT.of (s1 _ _ ha)⟩, ?_⟩
      refine lp_it [some (.ref r), some (.ref e), none, some (.ref a), none, none, none] rfl walk_tup (fun j H' => Same H H' ∧ H' D = some (.lst ((keysOfRows (R.take i) ++ (rw1.take j).flatMap fun w => w.2).map V.str))) ⟨s1, by simpa using h1⟩ (fun j H' _ z => SqT.of (z.1 _ _ ha)) ?_ ?_
      · rintro j y H2 _ hj ⟨s2, h2⟩ ⟨rfl, hy⟩
        obtain ⟨wy, hwy, b, kv, rfl, hb2, kt, rfl, hk⟩ := pat pr hy
        have l2 := flat_le (fun w : Way => w.2) hwy
        refine ⟨rfl, _, rfl, b, _, 1, _, rfl, rfl, SqT.of (s2 _ _ hb2), atI_nat (j := 1) rfl, kt, rfl, ⟨_, SqT.of (s2 _ _ hk)⟩, ?_⟩
        refine lp_it [some (.ref r), some (.ref e), none, some (.ref a), some (.ref b), none, none] rfl walk_tup (fun k H' => Same H H' ∧ H' D = some (.lst ((keysOfRows (R.take i) ++ ((rw1.take j).flatMap fun w => w.2) ++ wy.2.take k).map V.str))) ⟨s2, by simpa using h2⟩ (fun k H' _ z => SqT.of (z.1 _ _ hk)) ?_ ?_
        · rintro k z H3 _ hk3 ⟨s3, h3⟩ ⟨rfl, hz⟩
          rw [List.getElem?_map] at hz
          obtain ⟨key, hkey, rfl⟩ := Option.map_eq_some_iff.mp hz
          refine ⟨rfl, _, rfl, _, h3, ?_, put s3, ?_⟩
          · refine bound_line ?_
            rw [List.length_map, List.length_append, List.length_append, List.length_take]
            unfold keysOfRows at hb1 ⊢
            omega
          · rw [upd_same, List.take_add_one, hkey]
            simp
        · rintro H3 ⟨s3, h3⟩
          refine ⟨s3, ?_⟩
          rw [List.length_map, List.take_length] at h3
          rw [flat_step _ hwy, ← List.append_assoc]
          exact h3
      · rintro H2 ⟨s2, h2⟩
        refine ⟨s2, ?_⟩
        have e : vs.length = rw1.length := Paired.length pr
        rw [e, List.take_length] at h2
        show H2 D = some (.lst (((R.take (i + 1)).flatMap _).map V.str))
        rw [flat_step _ hrw]
        exact h2
    rintro H1 ⟨s1, h1⟩
    have e1 : rv.length = R.length := Paired.length pR
    rw [e1, List.take_length] at h1
    -- the display
    refine ⟨_, rfl, D, _, rfl, .inr (SqL.of h1), ?_⟩
    refine ⟨_, rfl, e, rfl, ⟨_, SqT.of (s1 _ _ hev)⟩, fun D2 hD2 => ?_⟩
    have put2 : ∀ {H' : Hp} {xs : List V}, Same H1 H' → Same H1 (upd H' D2 (.lst xs)) := fun {H' xs} s1 b o e => by rw [upd_ne (ne_of_none e hD2)]; exact s1 b o e
    refine lp_it [some (.ref r), some (.ref e), some (.ref D), none, none, none, none] rfl walk_tup (fun i H' => Same H1 H' ∧ H' D2 = some (.lst (((Es.take i).flatMap id).map V.str))) ⟨Same.upd hD2, upd_same⟩ (fun i H' _ z => SqT.of (z.1 _ _ (s1 _ _ hev))) ?_ ?_
    · rintro i x H2 _ hi ⟨s2, h2⟩ ⟨rfl, hx⟩
      obtain ⟨ks, hks, kt, rfl, hk⟩ := pat pE hx
      have l1 := flat_le id hks
      have l2 : (Es.flatMap id).length = Es.flatten.length := by rw [List.flatMap_id]
      refine ⟨rfl, _, rfl, kt, rfl, ⟨_, SqT.of (s2 _ _ (s1 _ _ hk))⟩, ?_⟩
      refine lp_it [some (.ref r), some (.ref e), some (.ref D), none, none, none, some (.ref kt)] rfl walk_tup (fun k H' => Same H1 H' ∧ H' D2 = some (.lst (((Es.take i).flatMap id ++ ks.take k).map V.str))) ⟨s2, by simpa using h2⟩ (fun k H' _ z => SqT.of (z.1 _ _ (s1 _ _ hk))) ?_ ?_
      · rintro k z H3 _ hk3 ⟨s3, h3⟩ ⟨rfl, hz⟩
        rw [List.getElem?_map] at hz
        obtain ⟨key, hkey, rfl⟩ := Option.map_eq_some_iff.mp hz
        refine ⟨rfl, _, rfl, _, h3, ?_, put2 s3, ?_⟩
        · refine bound_line ?_
          rw [List.length_map, List.length_append, List.length_take]
          have l3 : (id ks).length = ks.length := rfl
          omega
        · rw [upd_same, List.take_add_one, hkey]
          simp
      · rintro H3 ⟨s3, h3⟩
        refine ⟨s3, ?_⟩
        rw [List.length_map, List.take_length] at h3
        rw [flat_step _ hks]
        exact h3
    rintro H2 ⟨s2, h2⟩
    have e2 : ev.length = Es.length := Paired.length pE
    rw [e2, List.take_length, List.flatMap_id] at h2
    refine ⟨D2, _, rfl, .inr (SqL.of h2), ?_⟩
    have eL : (keysOfRows R).map V.str ++ (Es.flatten.map V.str ++ []) = (keysOfRows R ++ Es.flatten).map V.str := by simp
    refine ⟨?_, fun l hl => ?_⟩
    · show ((keysOfRows R).map V.str ++ (Es.flatten.map V.str ++ [])).length ≤ sizeLine
      rw [eL, List.length_map]
      exact Nat.le_of_lt (bound_line (by omega))
    have nl : H l = none := by
      cases c : H l with
      | none => rfl
      | some o => exact absurd ((s2 _ _ (s1 _ _ c)).symm.trans hl) (by simp)
    refine ⟨.ref l, _, rfl, .list (SqL.of (upd_same.trans (congrArg (fun z => some (HO.lst z)) eL))), hb, fun p H' hp s3 h3 => ?_⟩
    have up : Same H (upd H2 l (.lst ((keysOfRows R).map V.str ++ (Es.flatten.map V.str ++ [])))) := fun b o c => Same.upd hl _ _ (s2 _ _ (s1 _ _ c))
    refine q p H' ?_ (fun b o c => s3 _ _ (up _ _ c)) h3
    cases c : H p with
    | none => rfl
    | some o => exact absurd ((up _ _ c).symm.trans hp) (by simp)
end
end Kx

namespace Kx
open PySem L2 Own
abbrev s_copied : Stmt := top 20
abbrev s_BadMachine : Stmt := inClass (top 16) 0
abbrev s_TooMany : Stmt := inClass (top 18) 0
/-! ### the errors of machines: their fields are numbers and words -/
def Flat (v : V) : Prop := (∃ i, v = .int i) ∨ ∃ x, v = .str x
abbrev tailM (M : Addr) : List Value := [.ref M, .type "ValueError", .type "Exception", .type "BaseException", .type "object"]
structure ErrC (K : PySem.W.Frag) (mg : Str → Option Value) (name : Str) (C M : Addr) : Prop where
  g : mg name = some (.ref C)
  oex : OexC K C
  exc : ExcC K C
  cls : PySem.W.isClsIn K C = true
  sub : ∀ b : Value, PySem.W.subIn K (.ref C) b = some ((Value.ref C :: tailM M).contains b)
theorem ErrC.xf {K : PySem.W.Frag} {mg : Str → Option Value} {name : Str} {C M : Addr} (e : ErrC K mg name C M) : XfC K C := ⟨e.exc.hg, e.exc.hk, e.exc.hs, e.exc.hd⟩
structure IniT (K : PySem.W.Frag) (qual : Str) (st : Stmt) (C f : Addr) (fd : FuncData) (ps : List Str) : Prop where
  iC : PySem.W.findIn K (.ref C) "__init__" = some (some (.ref f))
  tI : PySem.W.typeIn K (.ref f) = some (.type "function")
  F : Fun K "__init__" qual st f fd
  b : Binds K fd ps []
structure EAd where
  M : Addr
  c1 : Addr
  c2 : Addr
  i1 : Addr
  i2 : Addr
  e1 : FuncData
  e2 : FuncData
  fc : Addr
  dc : FuncData
structure TxtE (K : PySem.W.Frag) (mg : Str → Option Value) (A : EAd) : Prop where
  E_BadMachine : ErrC K mg "BadMachine" A.c1 A.M
  I_BadMachine : IniT K "BadMachine.__init__" s_BadMachine A.c1 A.i1 A.e1 ["self", "state", "place"]
  N_state : PySem.W.findIn K (.ref A.c1) "state" = some none
  N_place : PySem.W.findIn K (.ref A.c1) "place" = some none
  E_TooMany : ErrC K mg "TooMany" A.c2 A.M
  I_TooMany : IniT K "TooMany.__init__" s_TooMany A.c2 A.i2 A.e2 ["self", "what"]
  N_what : PySem.W.findIn K (.ref A.c2) "what" = some none
  D_copied : DefT K mg "copied" "copied" s_copied ["field"] A.fc A.dc
  n_isinstance : mg "isinstance" = none
  n_list : mg "list" = none
  n_tuple : mg "tuple" = none
  n_dict : mg "dict" = none
section
variable {P : Program} {w : World} {K : PySem.W.Frag} {mg : Str → Option Value} {base : Heap} {A : EAd}
def spFlat : Sp := fun vs H Q _ => ∃ v : V, vs = [v] ∧ Flat v ∧ Q v H
theorem sc_copied : FnScope ["field", "part", "key"] ["field"] (defScope s_copied) := ⟨rfl, rfl, rfl, by decide +kernel, rfl, by decide +kernel, by decide +kernel⟩
theorem ok_copied (T : TxtE K mg A) : FnOk P w K mg base CX0 1 A.fc A.dc ["field"] spFlat := by
  have sc := sc_copied
  refine T.D_copied.F.ok sc (fun vs H Q E h => ?_) (fun cdv A1 outer s H vs Q E hr h => ?_)
  · obtain ⟨_, rfl, _⟩ := h; rfl
  · obtain ⟨v, rfl, hf, q⟩ := h
    refine ⟨_, (pss_cons (ps_if (pt_val (pe_callB call_isi (by rfl) T.n_isinstance (by decide +kernel) (pa_cons (pv 0) (pa_cons (pe_bltn (v := .ty "list") rfl T.n_list (by decide +kernel) rfl) pa_nil)))) (pss_one ps_never)
        pss_nil)
      (pss_cons (ps_if (pt_val (pe_callB call_isi (by rfl) T.n_isinstance (by decide +kernel) (pa_cons (pv 0) (pa_cons (pe_bltn (v := .ty "tuple") rfl T.n_tuple (by decide +kernel) rfl) pa_nil)))) (pss_one ps_never)
        pss_nil)
      (pss_cons (ps_if (pt_val (pe_callB call_isi (by rfl) T.n_isinstance (by decide +kernel) (pa_cons (pv 0) (pa_cons (pe_bltn (v := .ty "dict") rfl T.n_dict (by decide +kernel) rfl) pa_nil)))) (pss_one ps_never)
        pss_nil)
      (pss_one (ps_ret (pv 0)))))), ?_⟩
    rcases hf with ⟨i, rfl⟩ | ⟨x, rfl⟩
    · refine ⟨_, rfl, _, _, _, _, false, rfl, ClsV.ty _, .base (.int i), kit_ty (by decide +kernel), _, rfl, iteF ?_⟩
      refine ⟨_, rfl, _, _, _, _, false, rfl, ClsV.ty _, .base (.int i), kit_ty (by decide +kernel), _, rfl, iteF ?_⟩
      refine ⟨_, rfl, _, _, _, _, false, rfl, ClsV.ty _, .base (.int i), kit_ty (by decide +kernel), _, rfl, iteF ?_⟩
      exact ⟨_, rfl, q⟩
    · refine ⟨_, rfl, _, _, _, _, false, rfl, ClsV.ty _, .base (.str x), kit_ty (by decide +kernel), _, rfl, iteF ?_⟩
      refine ⟨_, rfl, _, _, _, _, false, rfl, ClsV.ty _, .base (.str x), kit_ty (by decide +kernel), _, rfl, iteF ?_⟩
      refine ⟨_, rfl, _, _, _, _, false, rfl, ClsV.ty _, .base (.str x), kit_ty (by decide +kernel), _, rfl, iteF ?_⟩
      exact ⟨_, rfl, q⟩
/-- an error's __init__ of the fields fs -/
def spErr (C : Addr) (names : List Str) : Sp := fun vs H Q _ => ∃ (a : Addr) (us : List V), vs = .ref a :: us ∧ us.length = names.length ∧ H a = some (exo a C none) ∧ (∀ u ∈ us, Flat u) ∧
  ∀ (dx : Addr) (H' : Hp), H dx = none → dx ≠ a → H' a = some (exo a C (some dx)) → H' dx = some (exd dx (names.zip us).reverse) → (∀ b o, H b = some o → b ≠ a → H' b = some o) → Q .non H'
theorem sc_TooMany : FnScope ["self", "what"] ["self", "what"] (defScope s_TooMany) := ⟨rfl, rfl, rfl, by decide +kernel, rfl, by decide +kernel, by decide +kernel⟩
theorem ok_TooMany (T : TxtE K mg A) : FnOk P w K mg base CX0 2 A.i2 A.e2 ["self", "what"] (spErr A.c2 ["what"]) := by
  have sc := sc_TooMany
  have G_copied : FnOk P w K mg base CX0 1 A.fc A.dc ["field"] spFlat := ok_copied T
  refine T.I_TooMany.F.ok sc (fun vs H Q E h => ?_) (fun cdv A1 outer s H vs Q E hr h => ?_)
  · obtain ⟨_, us, rfl, l, _⟩ := h
    rw [List.length_cons, l]; rfl
  · obtain ⟨a, us, rfl, l, ha, hf, k⟩ := h
    obtain ⟨v, rfl⟩ : ∃ v, us = [v] := List.length_eq_one_iff.mp l
    refine ⟨_, (pss_one (ps_ost (pv 0) (pe_call G_copied (hr.mono (by decide)) rfl T.D_copied.g T.D_copied.F.kp T.D_copied.b .nil pass0 (pa_cons (pv 1) pa_nil)))), ?_⟩
    refine ⟨_, rfl, v, rfl, hf v List.mem_cons_self, _, rfl, a, A.c2, rfl, T.E_TooMany.oex, T.N_what, .inl ⟨ha, fun dx hd ne => ?_⟩⟩
    refine k dx _ hd ne upd_same (by rw [upd_ne ne, upd_same]; rfl) fun b o e nb => ?_
    rw [upd_ne nb, upd_ne (ne_of_none e hd)]
    exact e
theorem sc_BadMachine : FnScope ["self", "state", "place"] ["self", "state", "place"] (defScope s_BadMachine) := ⟨rfl, rfl, rfl, by decide +kernel, rfl, by decide +kernel, by decide +kernel⟩
theorem ok_BadMachine (T : TxtE K mg A) : FnOk P w K mg base CX0 2 A.i1 A.e1 ["self", "state", "place"] (spErr A.c1 ["state", "place"]) := by
  have sc := sc_BadMachine
  have G_copied : FnOk P w K mg base CX0 1 A.fc A.dc ["field"] spFlat := ok_copied T
  refine T.I_BadMachine.F.ok sc (fun vs H Q E h => ?_) (fun cdv A1 outer s H vs Q E hr h => ?_)
  · obtain ⟨_, us, rfl, l, _⟩ := h
    rw [List.length_cons, l]; rfl
  · obtain ⟨a, us, rfl, l, ha, hf, k⟩ := h
    obtain ⟨v, u, rfl⟩ : ∃ v u, us = [v, u] := by
      match us, l with
      | [v, u], _ => exact ⟨v, u, rfl⟩
    refine ⟨_, (pss_cons (ps_ost (pv 0) (pe_call G_copied (hr.mono (by decide)) rfl T.D_copied.g T.D_copied.F.kp T.D_copied.b .nil pass0 (pa_cons (pv 1) pa_nil)))
      (pss_one (ps_ost (pv 0) (pe_call G_copied (hr.mono (by decide)) rfl T.D_copied.g T.D_copied.F.kp T.D_copied.b .nil pass0 (pa_cons (pv 2) pa_nil))))), ?_⟩
    refine ⟨_, rfl, v, rfl, hf v (by simp), _, rfl, a, A.c1, rfl, T.E_BadMachine.oex, T.N_state, .inl ⟨ha, fun dx hd ne => ?_⟩⟩
    have q1 : (upd (upd H dx (exd dx [("state", v)])) a (exo a A.c1 (some dx))) a = some (exo a A.c1 (some dx)) := upd_same
    have q2 : (upd (upd H dx (exd dx [("state", v)])) a (exo a A.c1 (some dx))) dx = some (exd dx [("state", v)]) := by rw [upd_ne ne, upd_same]
    have q3 : ∀ b o, H b = some o → b ≠ a → (upd (upd H dx (exd dx [("state", v)])) a (exo a A.c1 (some dx))) b = some o := fun b o e nb => by
      rw [upd_ne nb, upd_ne (ne_of_none e hd)]
      exact e
    generalize upd (upd H dx (exd dx [("state", v)])) a (exo a A.c1 (some dx)) = H2 at q1 q2 q3 ⊢
    refine ⟨_, rfl, u, rfl, hf u (by simp), _, rfl, a, A.c1, rfl, T.E_BadMachine.oex, T.N_place, .inr ⟨dx, [("state", v)], q1, q2, (by show 1 ≤ 900; decide), ?_⟩⟩
    refine k dx _ hd ne (by rw [upd_ne (Ne.symm ne)]; exact q1) upd_same fun b o e nb => ?_
    rw [upd_ne (ne_of_none e hd)]
    exact q3 b o e nb
/-- the reading of C(e, ..) behind raise -/
theorem rsE {H : Hp} {C : Addr} {names : List Str} {us : List V} {W : XK} (l : us.length = names.length) (l2 : us.length ≤ 1000) (hf : ∀ u ∈ us, Flat u) (k : ∀ dx H', H dx = none → Same H H' → H' dx = some (.xd (names.zip us).reverse) → W (.ref C) (some dx) H') :
    us.length ≤ 1000 ∧ ∀ a, H a = none → spErr C names (.ref a :: (us ++ [])) (upd H a (exo a C none)) (fun u H2 => u = .non ∧ ∃ (dx : Addr) (fs : List (Str × V)), H2 a = some (exo a C (some dx)) ∧ H2 dx = some (exd dx fs) ∧ H dx = none ∧ W (.ref C) (some dx) (upd (del H2 a) dx (.xd fs))) (fun _ _ _ => False) := by
  refine ⟨l2, fun a ha => ⟨a, us, by rw [List.append_nil], l, upd_same, hf, fun dx H2 hd ne e1 e2 kp => ?_⟩⟩
  have hd0 : H dx = none := by rw [upd_ne ne] at hd; exact hd
  refine ⟨rfl, dx, _, e1, e2, hd0, k dx _ hd0 (fun b o z => ?_) upd_same⟩
  have nb : b ≠ a := ne_of_none z ha
  rw [upd_ne (ne_of_none z hd0), del_ne nb]
  exact kp b o (by rw [upd_ne nb]; exact z) nb
theorem ErrC.raises {X : Cx} {name : Str} {C M : Addr} (e : ErrC X.K X.mg name C M) : Raises X (.ref C) := raises_own e.oex.exC e.oex.tyC
end
end Kx

namespace Kx
open PySem L2 Own
/-! ### what is handed to a machine: lists of lists of tuples -/
def WayS (K : PySem.W.Frag) (H : Hp) (v : V) (w : Way) : Prop := ∃ a kv, v = .ref a ∧ H a = some (.tup [.int w.1, kv]) ∧ Texts K H kv w.2
def RowL (K : PySem.W.Frag) (H : Hp) (v : V) (r : List Way) : Prop := ∃ a vs, v = .ref a ∧ H a = some (.lst vs) ∧ Paired (WayS K H) vs r
theorem seqT {K : PySem.W.Frag} {H H' : Hp} {a : Addr} {xs : List V} (s : Same H H') (h : SqT K H a xs) : SqT K H' a xs := by
  rcases h with h | h
  · exact .inl (h.imp (s _ _) fun ⟨o, z⟩ => ⟨o, s _ _ z⟩)
  · exact .inr h
theorem _root_.Own.Texts.keep {K : PySem.W.Frag} {H H' : Hp} (s : Same H H') {v : V} {xs : List Str} (h : Texts K H v xs) : Texts K H' v xs := by
  cases h with
  | list h => exact .list (s.seq h)
  | tup h => exact .tup (seqT s h)
  | text y => exact .text y
theorem WayS.keep {K : PySem.W.Frag} {H H' : Hp} (s : Same H H') {v : V} {w : Way} (h : WayS K H v w) : WayS K H' v w := by
  obtain ⟨a, kv, e, h, k⟩ := h
  exact ⟨a, kv, e, s _ _ h, k.keep s⟩
theorem RowL.keep {K : PySem.W.Frag} {H H' : Hp} (s : Same H H') {v : V} {r : List Way} (h : RowL K H v r) : RowL K H' v r := by
  obtain ⟨a, vs, e, h, k⟩ := h
  exact ⟨a, vs, e, s _ _ h, L2.Paired.mapP k fun _ _ z => z.keep s⟩
def Okw (n : Nat) (w : Way) : Prop := 0 ≤ w.1 ∧ w.1 < n
section
variable {P : Program} {w : World} {K : PySem.W.Frag} {mg : Str → Option Value} {base : Heap} {A : EAd} {B : MAd}
def spCheck (K : PySem.W.Frag) (A : EAd) : Sp := fun vs H Q E => ∃ (r : Addr) (rv : List V) (R : List (List Way)), vs = [.ref r] ∧ H r = some (.lst rv) ∧ Paired (RowL K H) rv R ∧
  (∀ H', Same H H' → (∀ (i : Nat) q, R[i]? = some q → ∀ w ∈ q, Okw R.length w) → Q .non H') ∧
  ∀ (i j : Nat) (q : List Way) (w : Way) (dx : Addr) (H' : Hp), R[i]? = some q → q[j]? = some w → ¬ Okw R.length w → (∀ (i' : Nat) q', i' < i → R[i']? = some q' → ∀ w ∈ q', Okw R.length w) → (∀ (j' : Nat) w', j' < j → q[j']? = some w' → Okw R.length w') →
    H dx = none → Same H H' → H' dx = some (.xd [("place", .int j), ("state", .int i)]) → E (.ref A.c1) (some dx) H'
theorem sc_check : FnScope ["rows", "state", "row", "place", "way"] ["rows"] (defScope s_check_ways) := ⟨rfl, rfl, rfl, by decide +kernel, rfl, by decide +kernel, by decide +kernel⟩
theorem ok_check (T : TxtM K mg B) (TE : TxtE K mg A) : FnOk P w K mg base (L2.CX P w) 4 B.f3 B.d3 ["rows"] (spCheck K A) := by
  have sc := sc_check
  have G_is_whole : FnOk P w K mg base CX0 1 B.f1 B.d1 ["value"] spWhole := ok_is_whole T
  refine T.D_check_ways.F.okX sc (fun vs H Q E h => ?_) (fun cdv A1 outer s H vs Q E hr h => ?_)
  · obtain ⟨_, _, _, rfl, _⟩ := h; rfl
  · obtain ⟨r, rv, R, rfl, hrv, pR, good, bad⟩ := h
    refine ⟨_, (pss_one (ps_for (passes_of rfl) rfl (pi_enum (by rfl) T.n_enumerate (pa_cons (pv 0) pa_nil)) (pg_tup rfl (pgs_cons (pg_name (i := 1) sc.nd rfl (Or.inl rfl)) (pgs_cons (pg_name (i := 2) sc.nd rfl (Or.inl rfl)) pgs_nil)))
      (pss_one (ps_for (passes_of rfl) rfl (pi_enum (by rfl) T.n_enumerate (pa_cons (pv 2) pa_nil)) (pg_tup rfl (pgs_cons (pg_name (i := 3) sc.nd rfl (Or.inl rfl)) (pgs_cons (pg_name (i := 4) sc.nd rfl (Or.inl rfl)) pgs_nil)))
        (pss_one (ps_if (PW.pt (pw_or (pt_not (pt_val (pe_call G_is_whole (hr.mono (by decide)) rfl T.D_is_whole.g T.D_is_whole.F.kp T.D_is_whole.b .nil pass0 (pa_cons (pe_ix ix_tup (pv 4) pe_int (fun _ _ => rfl)) pa_nil)))) (pw_or (pt_cmpR op_lt (pe_ix ix_tup (pv 4) pe_int (fun _ _ => rfl)) pe_int (nomark _)) (pw_or1 (pt_cmpR op_ge (pe_ix ix_tup (pv 4) pe_int (fun _ _ => rfl)) (pe_callB call_len (by rfl) T.n_len (by decide +kernel) (pa_cons (pv 0) pa_nil)) (nomark _))))))
          (pss_one (ps_raise rfl (takes_of rfl rfl rfl rfl) (pmk_oex TE.E_BadMachine.oex TE.I_BadMachine.iC TE.I_BadMachine.tI (ok_BadMachine TE) (hr.mono (by decide)) TE.I_BadMachine.b .nil pass0 rfl TE.E_BadMachine.g (pa_cons (pv 1) (pa_cons (pv 3) pa_nil)))))
          pss_nil)))))), ?_⟩
    have shut : ∀ {b : Addr} {o : HO}, H b = none → H b = some o → False := fun e1 e2 => by rw [e1] at e2; cases e2
    refine ⟨_, rfl, r, rv, rfl, SqL.of hrv, ?_⟩
    refine for_it walk_enum (fun i σ H' => (∃ x1 x2 x3 x4, σ = [some (.ref r), x1, x2, x3, x4]) ∧ Same H H' ∧ ∀ (i' : Nat) q', i' < i → R[i']? = some q' → ∀ w ∈ q', Okw R.length w) ⟨⟨_, _, _, _, rfl⟩, Same.refl _, fun i' q' h => nomatch h⟩ (fun i σ H' _ z => SqL.of (z.2.1 _ _ hrv)) ?_ ?_
    · rintro i x σ H1 H1' hi ⟨⟨x1, x2, x3, x4, rfl⟩, s1, g1⟩ ⟨t1, u1, y, rfl, nt1, rfl, eu, hy⟩
      cases eu
      obtain ⟨q, hq, a, vs, rfl, ha, pr⟩ := pat pR hy
      have s2 : Same H (upd H1 t1 (.tup [.int (i : Nat), .ref a])) := fun b o e => Same.upd nt1 _ _ (s1 _ _ e)
      refine ⟨t1, _, rfl, SqT.of upd_same, rfl, _, _, rfl, _, _, rfl, rfl, ?_⟩
      generalize upd H1 t1 (.tup [.int (i : Nat), .ref a]) = H2 at s2 ⊢
      refine ⟨_, rfl, a, vs, rfl, SqL.of (s2 _ _ ha), ?_⟩
      refine for_it walk_enum (fun j σ H' => (∃ x3 x4, σ = [some (.ref r), some (.int (i : Nat)), some (.ref a), x3, x4]) ∧ Same H H' ∧ ∀ (j' : Nat) w', j' < j → q[j']? = some w' → Okw R.length w') ⟨⟨_, _, rfl⟩, s2, fun i' q' h => nomatch h⟩ (fun i σ H' _ z => SqL.of (z.2.1 _ _ ha)) ?_ ?_
      · rintro j x σ H3 H3' hj ⟨⟨x3, x4, rfl⟩, s3, g3⟩ ⟨t2, u2, z, rfl, nt2, rfl, eu, hz⟩
        cases eu
        obtain ⟨wy, hwy, b, kv, rfl, hb, kt⟩ := pat pr hz
        have s4 : Same H (upd H3 t2 (.tup [.int (j : Nat), .ref b])) := fun c o e => Same.upd nt2 _ _ (s3 _ _ e)
        refine ⟨t2, _, rfl, SqT.of upd_same, rfl, _, _, rfl, _, _, rfl, rfl, ?_⟩
        generalize upd H3 t2 (.tup [.int (j : Nat), .ref b]) = H4 at s4 ⊢
        have hw : SqT K H4 b [.int wy.1, kv] := SqT.of (s4 _ _ hb)
        have at0 : atI ([.int wy.1, kv] : List V) 0 = some (.int wy.1) := atI_nat (j := 0) rfl
        have go : ¬ Okw R.length wy → ([V.int (i : Nat), V.int (j : Nat)] : List V).length ≤ 1000 ∧ ∀ a, H4 a = none → spErr A.c1 ["state", "place"] (.ref a :: ([V.int (i : Nat), V.int (j : Nat)] ++ [])) (upd H4 a (exo a A.c1 none)) (fun u H2 => u = .non ∧ ∃ (dx : Addr) (fs : List (Str × V)), H2 a = some (exo a A.c1 (some dx)) ∧ H2 dx = some (exd dx fs) ∧ H4 dx = none ∧ E (.ref A.c1) (some dx) (upd (del H2 a) dx (.xd fs))) (fun _ _ _ => False) := fun nb =>
          rsE rfl (by show 2 ≤ 1000; decide) (fun u hu => .inl (by
            rcases List.mem_cons.mp hu with rfl | hu
            · exact ⟨_, rfl⟩
            · rw [List.mem_singleton.mp hu]; exact ⟨_, rfl⟩)) fun dx H5 hd s5 h5 => bad i j q wy dx H5 hq hwy nb g1 g3 (s4.free hd) (fun b o e => s5 _ _ (s4 _ _ e)) h5
        refine ⟨_, rfl, b, _, 0, _, rfl, rfl, hw, at0, wy.1, rfl, _, rfl, iteF ?_⟩
        refine ⟨_, rfl, b, _, 0, _, rfl, rfl, hw, at0, _, _, rfl, rfl, _, rfl, ?_⟩
        by_cases c1 : wy.1 < 0
        · refine ifT c1 ?_
          refine ⟨_, rfl, _, rfl, ?_⟩
          exact go fun h => by have := h.1; omega
        refine ifF c1 ?_
        refine ⟨_, rfl, b, _, 0, _, rfl, rfl, hw, at0, _, rfl, .ref r, rv.length, rfl, .inl ⟨_, SqL.of (s4 _ _ hrv), rfl⟩, _, _, rfl, rfl, _, rfl, ?_⟩
        have el : rv.length = R.length := Paired.length pR
        by_cases c2 : (rv.length : Int) ≤ wy.1
        · refine ifT c2 ?_
          refine ⟨_, rfl, _, rfl, ?_⟩
          exact go fun h => by have := h.2; omega
        refine ifF c2 ?_
        refine ⟨⟨_, _, rfl⟩, s4, fun j' w' lt hw' => ?_⟩
        by_cases c : j' < j
        · exact g3 j' w' c hw'
        · have ej : j' = j := by omega
          subst ej
          rw [hwy] at hw'
          cases hw'
          exact ⟨by omega, by omega⟩
      · rintro σ H3 ⟨⟨x3, x4, rfl⟩, s3, g3⟩
        have e : vs.length = q.length := Paired.length pr
        refine ⟨⟨_, _, _, _, rfl⟩, s3, fun i' q' lt hq' w hw => ?_⟩
        by_cases c : i' < i
        · exact g1 i' q' c hq' w hw
        · have ei : i' = i := by omega
          subst ei
          rw [hq] at hq'
          cases hq'
          obtain ⟨j', hj'⟩ := List.getElem?_of_mem hw
          exact g3 j' w (by rw [e]; exact (List.getElem?_eq_some_iff.mp hj').1) hj'
    · rintro σ H1 ⟨_, s1, g1⟩
      refine good H1 s1 fun i q hq => g1 i q ?_ hq
      rw [Paired.length pR]
      exact (List.getElem?_eq_some_iff.mp hq).1
end
end Kx

namespace Kx
open PySem L2 Own
abbrev s_init : Stmt := inClass (top 30) 0
/-- the dict of a row's ways after i signs -/
def kvUp (sg : Str) (vs : List V) : Nat → List (Key × V)
  | 0 => []
  | i + 1 => match sg.cps[i]?, vs[i]? with
    | some c, some x => putK (kvUp sg vs i) (Sum.inr (Froz.sing c)) x
    | _, _ => kvUp sg vs i
structure CAd where
  C : Addr
  f : Addr
  d : FuncData
structure TxtC (K : PySem.W.Frag) (mg : Str → Option Value) (Z : CAd) : Prop where
  cl : Cls K Z.C
  make : Mk K Z.C Z.f
  F : Fun K "__init__" "Machine.__init__" s_init Z.f Z.d
  b : Binds K Z.d ["self", "signs", "rows", "ends"] []
  g : mg "Machine" = some (.ref Z.C)
  a1 : NoAttr K Z.C "signs"
  a2 : NoAttr K Z.C "rows"
  a3 : NoAttr K Z.C "ends"
  a4 : NoAttr K Z.C "all_keys"
  a5 : NoAttr K Z.C "_ways"
  g_MOST_KEYS : ∃ t, mg "MOST_KEYS" = some (.int 12 t)
/-- what the inner displays of __init__ ask -/
def rowsTe (K : PySem.W.Frag) : TE := tThen (tLc (iList K (tVar 4)) (gTup K 2 (gCons (gName 5) (gCons (gName 6) gNil))) tYes (tTup (tCons (tVar 5) (tCons (tCall (spKl K) [] E0 (tCons (tVar 6) tNil)) tNil))) [5, 6]) (kTup K)
def waysTe (K : PySem.W.Frag) : TE := tDc (iZips K (tCons (tVar 1) (tCons (tVar 4) tNil))) (gTup K 2 (gCons (gName 8) (gCons (gName 9) gNil))) tYes (tVar 8) (tVar 9) [8, 9]
section
variable {P : Program} {w : World} {K : PySem.W.Frag} {mg : Str → Option Value} {base : Heap} {A : EAd} {B : MAd} {Z : CAd}
theorem sc_init : FnScope ["self", "signs", "rows", "ends", "row", "to", "given", "end", "sign", "way"] ["self", "signs", "rows", "ends"] (defScope s_init) := ⟨rfl, rfl, rfl, by decide +kernel, rfl, by decide +kernel, by decide +kernel⟩
end
end Kx

namespace Kx
open PySem L2 Own
/-- the turns of a display, the slots written out -/
theorem lcs_it {J : It} {n : Nat} {G : Hp → Prop} {Yl : Nat → Hp → V → Hp → Prop} {g : TG} {tt : TT} {te : TE} {vs : List Nat} {σ : L2.St} {H1 : Hp} {D : Addr} {Qd : Hp → Prop} (τ : L2.St) (ht : wipe σ vs = τ) (w : L2.Walk J n G Yl) (Pv : Nat → Hp → Prop) (h0 : Pv 0 (upd H1 D (.lst []))) (hG : ∀ i H, i ≤ n → Pv i H → G H)
    (hs : ∀ i x H H', i < n → Pv i H → Yl i H x H' → g x τ H' fun σ2 H2 => wipe σ2 vs = τ ∧ tt σ2 H2 fun b H3 =>
      if b = true then te σ2 H3 fun y H4 => ∃ acc, H4 D = some (.lst acc) ∧ acc.length < sizeLine ∧ Pv (i + 1) (upd H4 D (.lst (acc ++ [y]))) else Pv (i + 1) H3) (hd : ∀ H, Pv n H → Qd H) :
    ∃ W : Nat → Nat → Hp → Prop, (∃ m, W 0 m (upd H1 D (.lst []))) ∧ ∀ i m H, W i m H →
      (J.stop i H ∧ Qd H) ∨ (J.go i H ∧ ∃ Nx : Hp → Prop, (∀ H', Nx H' → ∃ m', m' < m ∧ W (i + 1) m' H') ∧ ∀ x H', J.yld i H x H' → g x (wipe σ vs) H' fun σ2 H2 => wipe σ2 vs = wipe σ vs ∧ tt σ2 H2 fun b H3 =>
        if b = true then te σ2 H3 fun y H4 => ∃ acc, H4 D = some (.lst acc) ∧ acc.length < sizeLine ∧ Nx (upd H4 D (.lst (acc ++ [y]))) else Nx H3) := by
  subst ht
  exact lc_it w Pv h0 hG hs hd
/-- the same of a display of a dict -/
theorem dcs_it {J : It} {n : Nat} {G : Hp → Prop} {Yl : Nat → Hp → V → Hp → Prop} {g : TG} {tt : TT} {tk tv : TE} {vs : List Nat} {σ : L2.St} {H1 : Hp} {D : Addr} {Qd : Hp → Prop} (τ : L2.St) (ht : wipe σ vs = τ) (w : L2.Walk J n G Yl) (Pv : Nat → Hp → Prop) (h0 : Pv 0 (upd H1 D (.dK []))) (hG : ∀ i H, i ≤ n → Pv i H → G H)
    (hs : ∀ i x H H', i < n → Pv i H → Yl i H x H' → g x τ H' fun σ2 H2 => wipe σ2 vs = τ ∧ tt σ2 H2 fun b H3 =>
      if b = true then tk σ2 H3 fun y H4 => tv σ2 H4 fun z H5 => ∃ kvs k, y = kV k ∧ H5 D = some (.dK kvs) ∧ kvs.length < sizeLine ∧ Pv (i + 1) (upd H5 D (.dK (putK kvs k z))) else Pv (i + 1) H3) (hd : ∀ H, Pv n H → Qd H) :
    ∃ W : Nat → Nat → Hp → Prop, (∃ m, W 0 m (upd H1 D (.dK []))) ∧ ∀ i m H, W i m H →
      (J.stop i H ∧ Qd H) ∨ (J.go i H ∧ ∃ Nx : Hp → Prop, (∀ H', Nx H' → ∃ m', m' < m ∧ W (i + 1) m' H') ∧ ∀ x H', J.yld i H x H' → g x (wipe σ vs) H' fun σ2 H2 => wipe σ2 vs = wipe σ vs ∧ tt σ2 H2 fun b H3 =>
        if b = true then tk σ2 H3 fun y H4 => tv σ2 H4 fun z H5 => ∃ kvs k, y = kV k ∧ H5 D = some (.dK kvs) ∧ kvs.length < sizeLine ∧ Nx (upd H5 D (.dK (putK kvs k z))) else Nx H3) := by
  subst ht
  refine ⟨fun i m H => m + i = n ∧ Pv i H, ⟨n, rfl, h0⟩, fun i m H ⟨e, p⟩ => ?_⟩
  have q := hG i H (by omega) p
  by_cases c : i = n
  · subst c
    exact .inl ⟨w.stops H q, hd H p⟩
  · exact .inr ⟨w.goes i H (by omega) q, Pv (i + 1), fun H' p' => ⟨m - 1, by omega, by omega, p'⟩, fun x H' y => hs i x H H' (by omega) p (w.yields i H x H' (by omega) q y)⟩
/-- a way, a row as a machine keeps them -/
def nw (w : Way) : Way := (w.1, kl w.2)
def nrm (r : List Way) : List Way := r.map nw
theorem psnoc {α β : Type} {F : α → β → Prop} : ∀ {l : List α} {m : List β} {x : α} {y : β}, Paired F l m → F x y → Paired F (l ++ [x]) (m ++ [y])
  | _, _, _, _, .nil, h => .cons h .nil
  | _, _, _, _, .cons r t, h => .cons r (psnoc t h)
/-- [(to, key_list(given)) for to, given in row] behind tuple: a row as it is kept -/
theorem row_made {K : PySem.W.Frag} {v0 v1 v2 v3 : V} {H : Hp} {a : Addr} {vs : List V} {q : List Way} {Q : VK} (ha : H a = some (.lst vs)) (pr : Paired (WayS K H) vs q) (hz : q.length ≤ 1000) (hb : ∀ w ∈ q, w.2.length + 1 < scanBound)
    (k : ∀ p H', H p = none → Same H H' → RowT H' (.ref p) (nrm q) → Q (.ref p) H') : rowsTe K [some v0, some v1, some v2, some v3, some (.ref a), none, none, none, none, none] H Q := by
  have hv : vs.length = q.length := Paired.length pr
  refine ⟨_, rfl, a, rfl, ⟨_, SqL.of ha⟩, fun D hD => ?_⟩
  have put : ∀ {H' : Hp} {xs : List V}, Same H H' → Same H (upd H' D (.lst xs)) := fun {H' xs} s1 b o e => by rw [upd_ne (ne_of_none e hD)]; exact s1 b o e
  refine lcs_it [some v0, some v1, some v2, some v3, some (.ref a), none, none, none, none, none] rfl walk_list (fun j H' => Same H H' ∧ ∃ acc, H' D = some (.lst acc) ∧ acc.length = j ∧ Paired (WayT H') acc ((q.take j).map nw)) ⟨Same.upd hD, [], upd_same, rfl, .nil⟩ (fun i H' _ z => SqL.of (z.1 _ _ ha)) ?_ ?_
  · rintro j x _ H1 hj ⟨s1, acc, hacc, hl, pa⟩ ⟨rfl, hx⟩
    obtain ⟨w, hw, b, kv, rfl, hb2, kt⟩ := pat pr hx
    refine ⟨b, _, rfl, SqT.of (s1 _ _ hb2), rfl, _, _, rfl, _, _, rfl, rfl, rfl, ?_⟩
    refine ⟨_, rfl, _, rfl, kv, w.2, rfl, kt.keep s1, hb w (List.mem_of_getElem? hw), fun p H2 hp s2 h2 => ?_⟩
    refine ⟨by show 2 ≤ sizeLine; decide, fun t ht => ⟨acc, ?_, ?_, ?_, acc ++ [.ref t], upd_same, by rw [List.length_append, hl]; rfl, ?_⟩⟩
    · exact Same.upd ht _ _ (s2 _ _ hacc)
    · rw [hl]
      exact Nat.lt_of_lt_of_le (Nat.lt_of_lt_of_le hj (hv ▸ hz)) (by decide)
    · exact put fun c o e => Same.upd ht _ _ (s2 _ _ (s1 _ _ e))
    · have tk : (q.take (j + 1)).map nw = (q.take j).map nw ++ [nw w] := by rw [List.take_add_one, hw]; simp
      rw [tk]
      have kp : ∀ b xs, H1 b = some (.tup xs) → (upd (upd H2 t (.tup [.int w.1, .ref p])) D (.lst (acc ++ [.ref t]))) b = some (.tup xs) := fun b xs e => by
        have e1 := Same.upd (o := .tup [.int w.1, .ref p]) ht _ _ (s2 _ _ e)
        rw [upd_ne (ne_of e1 (Same.upd ht _ _ (s2 _ _ hacc)) (by intro z; cases z))]
        exact e1
      have nt : t ≠ D := fun e => by
        have := s2 _ _ hacc
        rw [← e, ht] at this
        cases this
      refine psnoc (L2.Paired.mapP pa fun _ _ z => z.keep kp) ⟨t, .ref p, rfl, by rw [upd_ne nt, upd_same]; rfl, p, rfl, ?_⟩
      have e1 := Same.upd (o := .tup [.int w.1, .ref p]) ht _ _ h2
      rw [upd_ne (ne_of e1 (Same.upd ht _ _ (s2 _ _ hacc)) (by intro z; cases z))]
      exact e1
  · rintro H1 ⟨s1, acc, hacc, hl, pa⟩
    rw [hv, List.take_length] at pa
    refine .inl ⟨D, acc, rfl, SqL.of hacc, fun p hp => ?_⟩
    refine k p _ (s1.free hp) (fun b o e => Same.upd hp _ _ (s1 _ _ e)) ⟨p, acc, rfl, upd_same, L2.Paired.mapP pa fun _ _ z => z.keep (tups (Same.upd hp))⟩
theorem kvUp_len (sg : Str) (vs : List V) : ∀ i, (kvUp sg vs i).length ≤ i
  | 0 => Nat.le_refl _
  | i + 1 => by
    have ih := kvUp_len sg vs i
    unfold kvUp
    split
    · rename_i c x _ _
      have := length_putK (kvUp sg vs i) (Sum.inr (Froz.sing c)) x
      omega
    · omega
/-- {sign: way for sign, way in zip(signs, row)} -/
theorem ways_made {K : PySem.W.Frag} {v0 v2 v3 : V} {sg : Str} {H : Hp} {a : Addr} {vs : List V} {Q : VK} (ha : H a = some (.tup vs)) (asc : sg.cps.all (· < 128) = true) (hl : sg.cps.size ≤ vs.length) (hz : sg.cps.size ≤ 1000)
    (k : ∀ d H', H d = none → Same H H' → H' d = some (.dK (kvUp sg vs sg.cps.size)) → Q (.ref d) H') : waysTe K [some v0, some (.str sg), some v2, some v3, some (.ref a), none, none, none, none, none] H Q := by
  refine ⟨_, rfl, _, rfl, sg, a, vs, rfl, asc, SqT.of ha, fun D hD => ?_⟩
  refine dcs_it [some v0, some (.str sg), some v2, some v3, some (.ref a), none, none, none, none, none] rfl (walk_zips hl) (fun i H' => Same H H' ∧ H' D = some (.dK (kvUp sg vs i))) ⟨Same.upd hD, upd_same⟩ (fun i H' _ z => SqT.of (z.1 _ _ ha)) ?_ (fun H' z => k D H' hD z.1 z.2)
  rintro i x H1 H1' hi ⟨s1, h1⟩ ⟨t, y, z, rfl, nt, rfl, ey, ez⟩
  obtain ⟨c, hc, rfl⟩ := Option.map_eq_some_iff.mp ey
  have ln := kvUp_len sg vs i
  refine ⟨t, _, rfl, SqT.of upd_same, rfl, _, _, rfl, _, _, rfl, rfl, rfl, _, rfl, _, rfl, kvUp sg vs i, Sum.inr (Froz.sing c), rfl, Same.upd nt _ _ h1, ?_, ?_, ?_⟩
  · rw [sizeLine_eq]; omega
  · intro b o e
    rw [upd_ne (ne_of_none e hD)]
    exact Same.upd nt _ _ (s1 _ _ e)
  · rw [upd_same]
    have e : kvUp sg vs (i + 1) = putK (kvUp sg vs i) (Sum.inr (Froz.sing c)) z := by
      show (match sg.cps[i]?, vs[i]? with
        | some c, some x => putK (kvUp sg vs i) (Sum.inr (Froz.sing c)) x
        | _, _ => kvUp sg vs i) = _
      rw [hc, show vs[i]? = some z from ez]
    rw [e]
end Kx

namespace Own
open PySem PySem.Spec L2 PyProof.Rows
/-! ### a text so many times -/
def repS (a : Str) (n : Nat) : Str := ⟨((List.replicate n a.cps.toList).flatten).toArray⟩
theorem foldl_cat (x : Array Nat) : ∀ (m : Nat) (a : Array Nat), (List.replicate m x).foldl (· ++ ·) a = a ++ ((List.replicate m x.toList).flatten).toArray
  | 0, a => by simp
  | m + 1, a => by
    rw [List.replicate_succ, List.foldl_cons, foldl_cat x m, List.replicate_succ, List.flatten_cons]
    apply Array.toList_inj.mp
    simp
theorem mul_rep (x : Str) (n : Nat) : Txt.mul x n = repS x n := by
  unfold Txt.mul repS
  by_cases h0 : (n : Int) < 1
  · have : n = 0 := by omega
    subst this
    rw [if_pos h0]
    rfl
  · rw [if_neg h0]
    by_cases h1 : ((n : Int) == 1 || x.length == 0) = true
    · rw [if_pos h1]
      rcases Bool.or_eq_true_iff.mp h1 with h | h
      · have : n = 1 := by have := eq_of_beq h; omega
        subst this
        obtain ⟨c⟩ := x
        simp
      · have e : x.cps = #[] := Array.size_eq_zero_iff.mp (eq_of_beq h)
        obtain ⟨c⟩ := x
        subst e
        simp
    · rw [if_neg h1, Int.toNat_natCast, foldl_cat]
      simp
def rRepS : R2 := fun x y H Q => ∃ (a : Str) (n : Nat), x = .str a ∧ y = .int n ∧ a.cps.size * n ≤ 1000 ∧ n < 2 ^ 62 ∧ Q (.str (repS a n)) H
theorem op_repS {X : Cx} : OpR X (binaryOp .Mult) rRepS := by
  intro pins s σ H x y v u Q I rx ry h
  obtain ⟨a, n, rfl, rfl, hz, hn, q⟩ := h
  obtain ⟨t, rfl⟩ := rx
  obtain ⟨t', rfl⟩ := ry
  refine SB.mul ⟨?_, fun h1 h2 => ?_, fun h1 h2 => ?_⟩ fun t' k => ?_
  · rw [decide_eq_false (by omega), decide_eq_false (by omega)]; rfl
  · intro g
    have hl : a.length * n ≤ 1000 := hz
    have n1 : 1 ≤ (n : Int) := by omega
    have : (2 ^ 63 - 1 : Int) / n ≥ a.length := by
      refine (Int.le_ediv_iff_mul_le (by omega)).mpr ?_
      have : ((a.length * n : Nat) : Int) ≤ 1000 := by omega
      rw [Int.natCast_mul] at this
      omega
    omega
  · have hl : a.length * n ≤ 1000 := hz
    rw [Int.toNat_natCast]
    unfold Builtin.Str.tooLong
    simp only [decide_eq_false_iff_not]
    rw [sizeLine_eq]
    omega
  · rw [mul_rep]
    exact ⟨.str (repS a n), H, I.tok _, ⟨_, rfl⟩, q⟩
/-! ### xs.extend(t), t a tuple -/
theorem ext_tup (l : Addr) (items : Array Value) (n : Nat) (b : Addr) (o : Obj) (items2 : Array Value) (n2 : Nat) (ho : o.cls = .type "tuple") (hd : o.data = .seq items2 n2) (hs0 : ¬(!items.isEmpty && Builtin.List.listTooLong (items.size + items2.size)) = true) (hs1 : items.size ≤ sizeLine) (hs2 : items.size + items2.size ≤ sizeLine) :
    Meets (Builtin.«list.extend» ⟨[.ref l, .ref b], []⟩) (fun _ R s => s.heap.get? l = some { cls := .type "list", dict := none, data := .seq items n, slots := #[] } ∧ s.heap.get? b = some o ∧ R (.ok (.ret Value.none)) { s with heap := s.heap.update l (Obj.mapSeq fun x => x ++ items2) }) :=
  .of_wp fun prog w A R s h => by
    obtain ⟨hp, g, d, tk, os⟩ := s
    obtain ⟨hl, hb, h⟩ := h
    obtain ⟨cls, dict, data, slots⟩ := o
    cases ho
    cases hd
    have f1 := AutoSeq1.idx_int; have f3 := AutoSeq1.sub_list_list; have f4 := AutoSeq1.sub_tuple_list
    have hz' : (items ++ items2).size ≤ sizeLine + 1 := by rw [Array.size_append]; omega
    wp_walk using (wpAny_updateSeq hl rfl (hz := hs1) (_hz' := hz')), AutoSeq1.wpAny_loadPart' hl, AutoSeq1.wpAny_loadPart' hb
    exact ⟨_, rfl, h⟩
def rExtT (K : PySem.W.Frag) : V → List V → Hp → VK → Prop := fun x vs H Q => ∃ l b xs zs, x = .ref l ∧ vs = [.ref b] ∧ H l = some (.lst xs) ∧ SqT K H b zs ∧ xs.length + zs.length ≤ sizeLine ∧ Q .non (upd H l (.lst (xs ++ zs)))
theorem mt_extT {X : Cx} : MtR X "list.extend" (rExtT X.K) := by
  intro pins s σ H x vs v us Q I rx rv h
  obtain ⟨l, b, xs, zs, rfl, rfl, hH, hB, hz, q⟩ := h
  cases rx
  obtain ⟨u, rfl, ru⟩ := rv.one
  cases ru
  obtain ⟨z, its, n, r, hl, e⟩ := I.lstM hH
  obtain ⟨its2, r2, ⟨o, ho, hc, n2, hd⟩, hl2⟩ := I.tuple hB
  have e2 := r2.length
  have hsz : its.toArray.size + its2.toArray.size ≤ sizeLine := by rw [List.size_toArray, List.size_toArray]; omega
  have hlong : ¬ (!its.toArray.isEmpty && Builtin.List.listTooLong (its.toArray.size + its2.toArray.size)) = true := by
    rw [notLongL hsz, Bool.and_false]
    exact Bool.false_ne_true
  refine call_meets F.slot_list_extend ⟨_, e, rfl⟩ F.entry_list_extend (F.args_list_extend_2 _ _)
    (ext_tup l its.toArray n b o its2.toArray n2 hc hd hlong (by rw [List.size_toArray]; omega) hsz) ⟨e, ho, ?_⟩
  refine ⟨.non, _, I.lset (its' := its ++ its2) hH e (by simp) (r.append r2) ?_, rfl, q⟩
  rw [List.length_append]
  omega
end Own
namespace Own
open PySem PySem.Spec L2 PyProof.Rows
/-! ### for x in xs, xs a list or a tuple that stands in the heap -/
def iSeq (tl : TE) : TI := fun σ H R => tl σ H fun x H1 => ∃ a xs, x = .ref a ∧ (H1 a = some (.lst xs) ∨ H1 a = some (.tup xs)) ∧ ∀ (J : It) (G : Hp → Prop), L2.Walk J xs.length G (YAt xs) → (∀ H2, H2 a = H1 a → G H2) → R J H1
theorem pi_seq {X : Cx} {tg l : Expr} {tl : TE} (hl : PE X l tl) : PI X tg l (iSeq tl) := by
  refine ⟨fun pins s σ H R I h => ?_⟩
  refine thn (hl.run pins s σ H _ I h) fun v s1 ⟨x, H1, I1, r1, a, xs, e, hq, q⟩ => ?_
  subst e
  cases r1
  have last : ∀ {o : Obj}, ∀ b ∈ [s1.heap.objs.size], ((b = s1.heap.objs.size)) := fun b hb => by simpa using hb
  rcases hq with hq | hq
  · obtain ⟨its, rv, p, hz⟩ := I1.list (SqL.of hq)
    refine wpAny_pyIter_list p.isList ⟨s1.heap.objs.size, [s1.heap.objs.size], _, _, H1, rfl, I1.kept (t' := s1.toks) fun b o e => Heap.get?_push_of_some _ e, turn_list a _, ⟨_, Heap.get?_push_size _ rfl, rfl, rfl⟩, fun b hb => ?_, q _ _ walk_list fun H2 e => SqL.of (e.trans hq)⟩
    cases last (o := { cls := .type "list", data := .seq #[] 0 }) b hb
    exact I1.fpOk (Nat.le_refl _) (I1.hok.fresh (Nat.le_refl _))
  · obtain ⟨its, rv, p, hz⟩ := I1.tuple (SqT.of hq)
    refine wpAny_pyIter_tuple p ⟨s1.heap.objs.size, [s1.heap.objs.size], _, _, H1, rfl, I1.kept (t' := s1.toks) fun b o e => Heap.get?_push_of_some _ e, turn_tuple a _, ⟨_, Heap.get?_push_size _ rfl, rfl, rfl⟩, fun b hb => ?_, q _ _ walk_tup fun H2 e => SqT.of (e.trans hq)⟩
    cases last (o := { cls := .type "list", data := .seq #[] 0 }) b hb
    exact I1.fpOk (Nat.le_refl _) (I1.hok.fresh (Nat.le_refl _))
end Own

namespace Kx
open PySem L2 Own
/-- an instance stands at m; all but it is as it was -/
def Kd (m : Addr) (H H' : Hp) : Prop := (∃ C dx fs, H m = some (.ins C dx fs)) ∧ ∀ b o, H b = some o → b ≠ m → H' b = some o
section
variable {m : Addr} {H H' H2 : Hp}
theorem Kd.of {C dx : Addr} {fs : List (Str × V)} (hm : H m = some (.ins C dx fs)) (s : Same H H') : Kd m H H' := ⟨⟨C, dx, fs, hm⟩, fun b o e _ => s b o e⟩
theorem Kd.trans (a : Kd m H H') (s : Same H' H2) : Kd m H H2 := ⟨a.1, fun b o e n => s b o (a.2 b o e n)⟩
theorem Kd.get (s : Kd m H H') {b : Addr} {o : HO} (e : H b = some o) (n : ∀ C dx fs, o ≠ .ins C dx fs) : H' b = some o := by
  obtain ⟨⟨C, dx, fs, hm⟩, k⟩ := s
  exact k b o e (ne_of e hm (n C dx fs))
theorem Kd.lst (s : Kd m H H') {b : Addr} {xs : List V} (e : H b = some (.lst xs)) : H' b = some (.lst xs) := s.get e fun _ _ _ z => by cases z
theorem Kd.tup (s : Kd m H H') {b : Addr} {xs : List V} (e : H b = some (.tup xs)) : H' b = some (.tup xs) := s.get e fun _ _ _ z => by cases z
end
theorem Kd.texts {K : PySem.W.Frag} {m : Addr} {H H' : Hp} (s : Kd m H H') {v : V} {xs : List Str} (h : Texts K H v xs) : Texts K H' v xs := by
  cases h with
  | list h =>
    rcases h with (h | ⟨o, h⟩) | h
    · exact .list (.inl (.inl (s.lst h)))
    · exact .list (.inl (.inr ⟨o, s.get h fun _ _ _ z => by cases z⟩))
    · exact .list (.inr h)
  | tup h =>
    rcases h with (h | ⟨o, h⟩) | h
    · exact .tup (.inl (.inl (s.tup h)))
    · exact .tup (.inl (.inr ⟨o, s.get h fun _ _ _ z => by cases z⟩))
    · exact .tup (.inr h)
  | text y => exact .text y
theorem Kd.row {K : PySem.W.Frag} {m : Addr} {H H' : Hp} (s : Kd m H H') {v : V} {r : List Way} (h : RowL K H v r) : RowL K H' v r := by
  obtain ⟨a, vs, e, h, k⟩ := h
  refine ⟨a, vs, e, s.lst h, L2.Paired.mapP k fun _ _ ⟨b, kv, e1, e2, e3⟩ => ⟨b, kv, e1, s.tup e2, s.texts e3⟩⟩
/-- the dicts of a machine's ways -/
def WaysD (sg : Str) (H : Hp) (d : V) (rw : V) : Prop := ∃ a b vs, d = .ref a ∧ rw = .ref b ∧ H b = some (.tup vs) ∧ H a = some (.dK (kvUp sg vs sg.cps.size))
/-- a machine of the signs sg, the rows R and the ends Es stands at m -/
def MachAt (C : Addr) (H : Hp) (m : Addr) (sg : Str) (R : List (List Way)) (Es : List (List Str)) : Prop := ∃ (dx r e k w : Addr) (rv ev wv : List V),
  H m = some (.ins C dx [("signs", .str sg), ("rows", .ref r), ("ends", .ref e), ("all_keys", .ref k), ("_ways", .ref w)]) ∧ H r = some (.tup rv) ∧ Paired (RowT H) rv R ∧ H e = some (.tup ev) ∧ Paired (KeysT H) ev Es ∧
  H k = some (.tup ((kl (keysOfRows R ++ Es.flatten)).map V.str)) ∧ H w = some (.tup wv) ∧ Paired (WaysD sg H) wv rv
theorem way_le {R : List (List Way)} {i : Nat} {q : List Way} {w : Way} (hq : R[i]? = some q) (hw : w ∈ q) : w.2.length ≤ (keysOfRows R).length := by
  obtain ⟨j, hj⟩ := List.getElem?_of_mem hw
  have a := flat_le (fun r : List Way => r.flatMap fun w => w.2) hq
  have b := flat_le (fun w : Way => w.2) hj
  unfold keysOfRows
  omega
theorem snap {α β : Type} (f : α → β) {l : List α} {i : Nat} {x : α} (h : l[i]? = some x) : (l.take (i + 1)).map f = (l.take i).map f ++ [f x] := by rw [List.take_add_one, h]; simp
theorem tyes {σ : L2.St} {H : Hp} {F : Bool → Hp → Prop} (h : F true H) : tYes σ H F := h
theorem mem_nrm {R : List (List Way)} {y : Str} : y ∈ keysOfRows (R.map nrm) ↔ y ∈ keysOfRows R := by
  unfold keysOfRows nrm
  simp only [List.mem_flatMap, List.mem_map]
  constructor
  · rintro ⟨_, ⟨q, hq, rfl⟩, w, hw, hy⟩
    obtain ⟨w0, hw0, rfl⟩ := List.mem_map.mp hw
    exact ⟨q, hq, w0, hw0, kl_mem.mp hy⟩
  · rintro ⟨q, hq, w, hw, hy⟩
    exact ⟨_, ⟨q, hq, rfl⟩, nw w, List.mem_map.mpr ⟨w, hw, rfl⟩, kl_mem.mpr hy⟩
theorem mem_ends {Es : List (List Str)} {y : Str} : y ∈ (Es.map kl).flatten ↔ y ∈ Es.flatten := by
  simp only [List.mem_flatten, List.mem_map]
  constructor
  · rintro ⟨_, ⟨q, hq, rfl⟩, hy⟩
    exact ⟨q, hq, kl_mem.mp hy⟩
  · rintro ⟨q, hq, hy⟩
    exact ⟨_, ⟨q, hq, rfl⟩, kl_mem.mpr hy⟩
theorem len_row : ∀ r : List Way, ((nrm r).flatMap fun w => w.2).length ≤ (r.flatMap fun w => w.2).length
  | [] => Nat.le_refl _
  | w :: r => by
    have ih := len_row r
    have k := kl_len w.2
    unfold nrm at ih ⊢
    rw [List.map_cons, List.flatMap_cons, List.flatMap_cons, List.length_append, List.length_append]
    show (kl w.2).length + _ ≤ _
    omega
theorem len_nrm : ∀ R : List (List Way), (keysOfRows (R.map nrm)).length ≤ (keysOfRows R).length
  | [] => Nat.le_refl _
  | r :: R => by
    have ih := len_nrm R
    have k := len_row r
    unfold keysOfRows at ih ⊢
    rw [List.map_cons, List.flatMap_cons, List.flatMap_cons, List.length_append, List.length_append]
    omega
theorem len_ends : ∀ Es : List (List Str), (Es.map kl).flatten.length ≤ Es.flatten.length
  | [] => Nat.le_refl _
  | e :: Es => by
    have ih := len_ends Es
    have k := kl_len e
    rw [List.map_cons, List.flatten_cons, List.flatten_cons, List.length_append, List.length_append]
    omega
theorem WaysD.keep {sg : Str} {H H' : Hp} (s : ∀ b xs, H b = some (.tup xs) → H' b = some (.tup xs)) (s2 : ∀ b xs, H b = some (.dK xs) → H' b = some (.dK xs)) {d rw1 : V} (h : WaysD sg H d rw1) : WaysD sg H' d rw1 := by
  obtain ⟨a, b, vs, e1, e2, e3, e4⟩ := h
  exact ⟨a, b, vs, e1, e2, s _ _ e3, s2 _ _ e4⟩
section
variable {P : Program} {w : World} {K : PySem.W.Frag} {mg : Str → Option Value} {base : Heap} {A : EAd} {B : MAd} {Z : CAd}
def spInit (K : PySem.W.Frag) (A : EAd) (Z : CAd) : Sp := fun vs H Q E => ∃ (m r e dx : Addr) (sg : Str) (rv ev : List V) (R : List (List Way)) (Es : List (List Str)), vs = [.ref m, .str sg, .ref r, .ref e] ∧ H m = some (.ins Z.C dx []) ∧
  H r = some (.lst rv) ∧ Paired (RowL K H) rv R ∧ (H e = some (.lst ev) ∨ H e = some (.tup ev)) ∧ Paired (Texts K H) ev Es ∧ sg.cps.all (· < 128) = true ∧ sg.cps.size ≤ 1000 ∧ (∀ q ∈ R, sg.cps.size ≤ q.length ∧ q.length ≤ 1000) ∧ R.length ≤ 1000 ∧ Es.length ≤ 1000 ∧ (keysOfRows R ++ Es.flatten).length + 1 < scanBound ∧
  (∀ (i j : Nat) (q : List Way) (w : Way) (d : Addr) (H' : Hp), R[i]? = some q → q[j]? = some w → ¬ Okw R.length w → (∀ (i' : Nat) q', i' < i → R[i']? = some q' → ∀ w ∈ q', Okw R.length w) → (∀ (j' : Nat) w', j' < j → q[j']? = some w' → Okw R.length w') →
    H d = none → Kd m H H' → H' d = some (.xd [("place", .int j), ("state", .int i)]) → E (.ref A.c1) (some d) H') ∧
  ((∀ (i : Nat) q, R[i]? = some q → ∀ w ∈ q, Okw R.length w) → ∀ H', Kd m H H' → (12 < (kl (keysOfRows R ++ Es.flatten)).length → ∀ d, H d = none → H' d = some (.xd [("what", .str "keys")]) → E (.ref A.c2) (some d) H') ∧
    ((kl (keysOfRows R ++ Es.flatten)).length ≤ 12 → MachAt Z.C H' m sg (R.map nrm) (Es.map kl) → Q .non H'))
theorem ok_init (T : TxtM K mg B) (TE : TxtE K mg A) (TC : TxtC K mg Z) : FnOk P w K mg base (L2.CX P w) 5 Z.f Z.d ["self", "signs", "rows", "ends"] (spInit K A Z) := by
  have sc := sc_init
  have G_check : FnOk P w K mg base (L2.CX P w) 4 B.f3 B.d3 ["rows"] (spCheck K A) := ok_check T TE
  have G_key_list : FnOk P w K mg base CX0 1 B.f2 B.d2 ["given"] (spKl K) := ok_key_list T
  have G_keys_in : FnOk P w K mg base CX0 2 B.f4 B.d4 ["rows", "ends"] (spKin K) := ok_keys_in T
  obtain ⟨tk, g12⟩ := TC.g_MOST_KEYS
  refine TC.F.okX sc (fun vs H Q E h => ?_) (fun cdv A1 outer s H vs Q E hr h => ?_)
  · obtain ⟨_, _, _, _, _, _, _, _, _, rfl, _⟩ := h; rfl
  · obtain ⟨m, r, e, dx, sg, rv, ev, R, Es, rfl, hm, hrv, pR, hev, pE, asc, sz, rl, Rl, El, hb, bad, good⟩ := h
    refine ⟨_, (pss_cons (ps_expr (pe_callS G_check (hr.mono (by decide)) rfl T.D_check_ways.g T.D_check_ways.F.kp T.D_check_ways.b (fun σ => passAt (takes_of rfl rfl rfl rfl) σ) (pa_cons (pv 2) pa_nil)))
      (pss_cons (ps_fld (pv 0) (pv 1) rfl)
      (pss_cons (ps_fld (pv 0) (pe_tupleOf rfl T.n_tuple (pe_lc (own := [("row", 4)]) (g := gName 4) (tt := tYes) (te := rowsTe K) rfl sc.nd (pi_list (pv 2)) (blkOk_by (N := ["self", "signs", "rows", "ends", "row", "to", "given", "end", "sign", "way"]) (sc := defScope s_init) (own := [("row", 4)]) (by decide +kernel)) (fun _ _ _ _ _ => (pg_name (i := 4) sc.nd rfl (Or.inl rfl))) (fun _ _ _ _ _ => pts_nil)
        (fun _ _ _ _ _ => pe_tupleOf rfl T.n_tuple (pe_lc (own := [("to", 5), ("given", 6)]) (tt := tYes) rfl sc.nd (pi_list (pv 4)) (blkOk_by (own := [("to", 5), ("given", 6)]) (by rfl)) (fun _ _ _ _ _ => pg_tup rfl (pgs_cons (pg_name (i := 5) sc.nd rfl (Or.inl rfl)) (pgs_cons (pg_name (i := 6) sc.nd rfl (Or.inl rfl)) pgs_nil))) (fun _ _ _ _ _ => pts_nil)
          (fun _ _ _ _ _ => pe_tup (pa_cons (pv 5) (pa_cons (pe_call G_key_list (hr.mono (by decide)) rfl T.D_key_list.g T.D_key_list.F.kp T.D_key_list.b .nil pass0 (pa_cons (pv 6) pa_nil)) pa_nil))))))) rfl)
      (pss_cons (ps_fld (pv 0) (pe_tupleOf rfl T.n_tuple (pe_lc (own := [("end", 7)]) (g := gName 7) (tt := tYes) rfl sc.nd (pi_seq (pv 3)) (blkOk_by (N := ["self", "signs", "rows", "ends", "row", "to", "given", "end", "sign", "way"]) (sc := defScope s_init) (own := [("end", 7)]) (by decide +kernel)) (fun _ _ _ _ _ => (pg_name (i := 7) sc.nd rfl (Or.inl rfl))) (fun _ _ _ _ _ => pts_nil)
        (fun _ _ _ _ _ => pe_call G_key_list (hr.mono (by decide)) rfl T.D_key_list.g T.D_key_list.F.kp T.D_key_list.b .nil pass0 (pa_cons (pv 7) pa_nil)))) rfl)
      (pss_cons (ps_fld (pv 0) (pe_call G_keys_in (hr.mono (by decide)) rfl T.D_keys_in.g T.D_keys_in.F.kp T.D_keys_in.b .nil pass0 (pa_cons (pe_fld (pv 0) rfl) (pa_cons (pe_fld (pv 0) rfl) pa_nil))) rfl)
      (pss_cons (ps_if (pt_cmpR op_gt (pe_callB call_len (by rfl) T.n_len (by decide +kernel) (pa_cons (pe_fld (pv 0) rfl) pa_nil)) (pe_glob (v := .int 12) rfl g12 ⟨_, rfl⟩) (nomark _))
          (pss_one (ps_raise rfl (takes_of rfl rfl rfl rfl) (pmk_oex TE.E_TooMany.oex TE.I_TooMany.iC TE.I_TooMany.tI (ok_TooMany TE) (hr.mono (by decide)) TE.I_TooMany.b .nil pass0 rfl TE.E_TooMany.g (pa_cons pe_str pa_nil))))
          pss_nil)
      (pss_one (ps_fld (pv 0) (pe_tupleOf rfl T.n_tuple (pe_lc (own := [("row", 4)]) (g := gName 4) (tt := tYes) (te := waysTe K) rfl sc.nd (pi_tup (pe_fld (pv 0) rfl)) (blkOk_by (N := ["self", "signs", "rows", "ends", "row", "to", "given", "end", "sign", "way"]) (sc := defScope s_init) (own := [("row", 4)]) (by decide +kernel)) (fun _ _ _ _ _ => (pg_name (i := 4) sc.nd rfl (Or.inl rfl))) (fun _ _ _ _ _ => pts_nil)
        (fun _ _ _ _ _ => pe_dc (own := [("sign", 8), ("way", 9)]) (tt := tYes) rfl sc.nd (pi_zips (by rfl) T.n_zip (pa_cons (pv 1) (pa_cons (pv 4) pa_nil))) (blkOk_by (own := [("sign", 8), ("way", 9)]) (by rfl)) (fun _ _ _ _ _ => pg_tup rfl (pgs_cons (pg_name (i := 8) sc.nd rfl (Or.inl rfl)) (pgs_cons (pg_name (i := 9) sc.nd rfl (Or.inl rfl)) pgs_nil))) (fun _ _ _ _ _ => pts_nil) (fun _ _ _ _ _ => pv 8) (fun _ _ _ _ _ => pv 9)))) rfl)))))))), ?_⟩
    refine ⟨_, rfl, r, rv, R, rfl, hrv, pR, fun H1 s1 ok => ?_, fun i j q w d H1 hq hw nb g1 g2 hd s1 h1 => bad i j q w d H1 hq hw nb g1 g2 hd (.of hm s1) h1⟩
    replace good := good ok
    -- self.signs
    refine ⟨_, rfl, _, rfl, m, Z.C, dx, [], rfl, s1 _ _ hm, TC.cl, TC.a1, (by show 0 < 1000; decide), ?_⟩
    have k2 : Kd m H (upd H1 m (.ins Z.C dx (putF "signs" (.str sg) []))) := ⟨⟨_, _, _, hm⟩, fun b o e n => by
      rw [upd_ne n]
      exact s1 _ _ e⟩
    have m2 : (upd H1 m (.ins Z.C dx (putF "signs" (.str sg) []))) m = some (.ins Z.C dx [("signs", .str sg)]) := upd_same
    generalize upd H1 m (.ins Z.C dx (putF "signs" (.str sg) [])) = H2 at k2 m2 ⊢
    -- self.rows
    refine ⟨_, rfl, r, rfl, ⟨_, SqL.of (k2.lst hrv)⟩, fun D hD => ?_⟩
    refine lcs_it [some (.ref m), some (.str sg), some (.ref r), some (.ref e), none, none, none, none, none, none] rfl walk_list (fun i H' => Same H2 H' ∧ ∃ acc, H' D = some (.lst acc) ∧ acc.length = i ∧ Paired (RowT H') acc ((R.take i).map nrm)) ⟨Same.upd hD, [], upd_same, rfl, .nil⟩ (fun i H' _ z => SqL.of (z.1 _ _ (k2.lst hrv))) ?_ ?_
    · rintro i x _ H3 hi ⟨s3, acc, hacc, hl, pa⟩ ⟨rfl, hx⟩
      obtain ⟨q, hq, a, vs, rfl, ha, pr⟩ := pat (L2.Paired.mapP pR fun _ _ z => k2.row z) hx
      refine ⟨rfl, ?_⟩
      refine row_made (s3 _ _ ha) (L2.Paired.mapP pr fun _ _ z => z.keep s3) (rl q (List.mem_of_getElem? hq)).2 (fun w hw => ?_) fun p H4 hp s4 h4 => ?_
      · have := way_le hq hw
        rw [List.length_append] at hb
        omega
      · have pl : rv.length = R.length := Paired.length pR
        have kp : ∀ b xs, H4 b = some (.tup xs) → (upd H4 D (.lst (acc ++ [.ref p]))) b = some (.tup xs) := fun b xs e => by
          rw [upd_ne (ne_of e (s4 _ _ hacc) (by intro z; cases z))]
          exact e
        refine ⟨acc, s4 _ _ hacc, ?_, fun b o e => ?_, acc ++ [.ref p], upd_same, by rw [List.length_append, hl]; rfl, ?_⟩
        · rw [sizeLine_eq]; omega
        · rw [upd_ne (ne_of_none e hD)]
          exact s4 _ _ (s3 _ _ e)
        · rw [snap nrm hq]
          exact psnoc (L2.Paired.mapP pa fun _ _ z => z.keep fun b xs e => kp b xs (s4 _ _ e)) (h4.keep kp)
    rintro H3 ⟨s3, rv3, hacc, hl, pa⟩
    rw [show rv.length = R.length from Paired.length pR, List.take_length] at pa
    refine .inl ⟨D, rv3, rfl, SqL.of hacc, fun r3 hr3 => ?_⟩
    have s4 : Same H2 (upd H3 r3 (.tup rv3)) := fun b o e => Same.upd hr3 _ _ (s3 _ _ e)
    have r4 : (upd H3 r3 (.tup rv3)) r3 = some (.tup rv3) := upd_same
    have pa4 : Paired (RowT (upd H3 r3 (.tup rv3))) rv3 (R.map nrm) := L2.Paired.mapP pa fun _ _ z => z.keep (tups (Same.upd hr3))
    generalize upd H3 r3 (.tup rv3) = H4 at s4 r4 pa4 ⊢
    refine ⟨_, rfl, m, Z.C, dx, [("signs", .str sg)], rfl, s4 _ _ m2, TC.cl, TC.a2, (by show 1 < 1000; decide), ?_⟩
    have next : ∀ {Ha Hb : Hp} {fs fs' : List (Str × V)}, Kd m H Ha → Same Ha Hb → Hb m = some (.ins Z.C dx fs) → Kd m H (upd Hb m (.ins Z.C dx fs')) := fun {Ha Hb fs fs'} k s e => ⟨k.1, fun b o e1 n => by
      rw [upd_ne n]
      exact s _ _ (k.2 b o e1 n)⟩
    have k5 : Kd m H (upd H4 m (.ins Z.C dx (putF "rows" (.ref r3) [("signs", .str sg)]))) := next k2 s4 (s4 _ _ m2)
    have m5 : (upd H4 m (.ins Z.C dx (putF "rows" (.ref r3) [("signs", .str sg)]))) m = some (.ins Z.C dx [("signs", .str sg), ("rows", .ref r3)]) := upd_same
    have j5 : ∀ b xs, H4 b = some (.tup xs) → (upd H4 m (.ins Z.C dx (putF "rows" (.ref r3) [("signs", .str sg)]))) b = some (.tup xs) := fun b xs e => by
      rw [upd_ne (ne_of e (s4 _ _ m2) (by intro z; cases z))]
      exact e
    have r5 := j5 _ _ r4
    have pa5 := L2.Paired.mapP pa4 fun _ _ z => z.keep j5
    clear j5
    generalize upd H4 m (.ins Z.C dx (putF "rows" (.ref r3) [("signs", .str sg)])) = H5 at k5 m5 r5 pa5 ⊢
    -- self.ends
    have hev5 : H5 e = some (.lst ev) ∨ H5 e = some (.tup ev) := hev.imp (fun z => k5.lst z) fun z => k5.tup z
    refine ⟨_, rfl, e, ev, rfl, hev5, fun J G wk gk D5 hD5 => ?_⟩
    refine lcs_it [some (.ref m), some (.str sg), some (.ref r), some (.ref e), none, none, none, none, none, none] rfl wk (fun i H' => Same H5 H' ∧ ∃ acc, H' D5 = some (.lst acc) ∧ acc.length = i ∧ Paired (KeysT H') acc ((Es.take i).map kl)) ⟨Same.upd hD5, [], upd_same, rfl, .nil⟩ (fun i H' _ z => gk H' (by rcases hev5 with h | h <;> rw [h, z.1 _ _ h])) ?_ ?_
    · rintro i x _ H6 hi ⟨s6, acc, hacc, hl, pa⟩ ⟨rfl, hx⟩
      obtain ⟨ks, hks, kt⟩ := pat (L2.Paired.mapP pE fun _ _ z => k5.texts z) hx
      have l1 := flat_le id hks
      have l2 : (Es.flatMap id).length = Es.flatten.length := by rw [List.flatMap_id]
      refine ⟨rfl, _, rfl, x, ks, rfl, kt.keep s6, ?_, fun p H7 hp s7 h7 => ?_⟩
      · have l3 : (id ks).length = ks.length := rfl
        rw [List.length_append] at hb
        omega
      · have pl : ev.length = Es.length := Paired.length pE
        have kp : ∀ b xs, H7 b = some (.tup xs) → (upd H7 D5 (.lst (acc ++ [.ref p]))) b = some (.tup xs) := fun b xs e => by
          rw [upd_ne (ne_of e (s7 _ _ hacc) (by intro z; cases z))]
          exact e
        refine ⟨acc, s7 _ _ hacc, ?_, fun b o e => ?_, acc ++ [.ref p], upd_same, by rw [List.length_append, hl]; rfl, ?_⟩
        · rw [sizeLine_eq]; omega
        · rw [upd_ne (ne_of_none e hD5)]
          exact s7 _ _ (s6 _ _ e)
        · rw [snap kl hks]
          exact psnoc (L2.Paired.mapP pa fun _ _ z => z.keep fun b xs e => kp b xs (s7 _ _ e)) ⟨p, rfl, kp _ _ h7⟩
    rintro H6 ⟨s6, ev6, hacc6, hl6, pe6⟩
    rw [show ev.length = Es.length from Paired.length pE, List.take_length] at pe6
    refine .inl ⟨D5, ev6, rfl, SqL.of hacc6, fun e6 he6 => ?_⟩
    have s7 : Same H5 (upd H6 e6 (.tup ev6)) := fun b o e => Same.upd he6 _ _ (s6 _ _ e)
    have e7 : (upd H6 e6 (.tup ev6)) e6 = some (.tup ev6) := upd_same
    have pe7 : Paired (KeysT (upd H6 e6 (.tup ev6))) ev6 (Es.map kl) := L2.Paired.mapP pe6 fun _ _ z => z.keep (tups (Same.upd he6))
    generalize upd H6 e6 (.tup ev6) = H7 at s7 e7 pe7 ⊢
    refine ⟨_, rfl, m, Z.C, dx, [("signs", .str sg), ("rows", .ref r3)], rfl, s7 _ _ m5, TC.cl, TC.a3, (by show 2 < 1000; decide), ?_⟩
    have k8 : Kd m H (upd H7 m (.ins Z.C dx (putF "ends" (.ref e6) [("signs", .str sg), ("rows", .ref r3)]))) := next k5 s7 (s7 _ _ m5)
    have m8 : (upd H7 m (.ins Z.C dx (putF "ends" (.ref e6) [("signs", .str sg), ("rows", .ref r3)]))) m = some (.ins Z.C dx [("signs", .str sg), ("rows", .ref r3), ("ends", .ref e6)]) := upd_same
    have j8 : ∀ b xs, H7 b = some (.tup xs) → (upd H7 m (.ins Z.C dx (putF "ends" (.ref e6) [("signs", .str sg), ("rows", .ref r3)]))) b = some (.tup xs) := fun b xs e => by
      rw [upd_ne (ne_of e (s7 _ _ m5) (by intro z; cases z))]
      exact e
    have r8 := j8 _ _ (s7 _ _ r5)
    have pa8 := L2.Paired.mapP pa5 fun _ _ z => z.keep fun b xs e => j8 b xs (s7 _ _ e)
    have e8 := j8 _ _ e7
    have pe8 := L2.Paired.mapP pe7 fun _ _ z => z.keep j8
    clear j8
    generalize upd H7 m (.ins Z.C dx (putF "ends" (.ref e6) [("signs", .str sg), ("rows", .ref r3)])) = H8 at k8 m8 r8 pa8 e8 pe8 ⊢
    -- self.all_keys
    have mem : ∀ y, y ∈ keysOfRows (R.map nrm) ++ (Es.map kl).flatten ↔ y ∈ keysOfRows R ++ Es.flatten := fun y => by
      rw [List.mem_append, List.mem_append, mem_nrm, mem_ends]
    have len8 : (keysOfRows (R.map nrm) ++ (Es.map kl).flatten).length ≤ (keysOfRows R ++ Es.flatten).length := by
      have a := len_nrm R
      have b := len_ends Es
      rw [List.length_append, List.length_append]
      omega
    refine ⟨_, rfl, m, Z.C, dx, _, _, rfl, m8, TC.cl, TC.a2, rfl, _, rfl, m, Z.C, dx, _, _, rfl, m8, TC.cl, TC.a3, rfl, ?_⟩
    refine ⟨r3, e6, rv3, ev6, R.map nrm, Es.map kl, rfl, r8, pa8, e8, pe8, by omega, fun k9 H9 hk9 s9 h9 => ?_⟩
    rw [kl_congr mem] at h9
    refine ⟨_, rfl, m, Z.C, dx, [("signs", .str sg), ("rows", .ref r3), ("ends", .ref e6)], rfl, s9 _ _ m8, TC.cl, TC.a4, (by show 3 < 1000; decide), ?_⟩
    have k10 : Kd m H (upd H9 m (.ins Z.C dx (putF "all_keys" (.ref k9) [("signs", .str sg), ("rows", .ref r3), ("ends", .ref e6)]))) := next k8 s9 (s9 _ _ m8)
    have m10 : (upd H9 m (.ins Z.C dx (putF "all_keys" (.ref k9) [("signs", .str sg), ("rows", .ref r3), ("ends", .ref e6)]))) m = some (.ins Z.C dx [("signs", .str sg), ("rows", .ref r3), ("ends", .ref e6), ("all_keys", .ref k9)]) := upd_same
    have j10 : ∀ b xs, H9 b = some (.tup xs) → (upd H9 m (.ins Z.C dx (putF "all_keys" (.ref k9) [("signs", .str sg), ("rows", .ref r3), ("ends", .ref e6)]))) b = some (.tup xs) := fun b xs e => by
      rw [upd_ne (ne_of e (s9 _ _ m8) (by intro z; cases z))]
      exact e
    have f10 : ∀ d, (upd H9 m (.ins Z.C dx (putF "all_keys" (.ref k9) [("signs", .str sg), ("rows", .ref r3), ("ends", .ref e6)]))) d = none → H d = none := fun d hd => by
      have nd : d ≠ m := fun e => by rw [e, m10] at hd; cases hd
      rw [upd_ne nd] at hd
      cases c : H d with
      | none => rfl
      | some o =>
        have := s9 _ _ (k8.2 d o c nd)
        rw [hd] at this
        cases this
    have r10 := j10 _ _ (s9 _ _ r8)
    have pa10 := L2.Paired.mapP pa8 fun _ _ z => z.keep fun b xs e => j10 b xs (s9 _ _ e)
    have e10 := j10 _ _ (s9 _ _ e8)
    have pe10 := L2.Paired.mapP pe8 fun _ _ z => z.keep fun b xs e => j10 b xs (s9 _ _ e)
    have a10 := j10 _ _ h9
    clear j10
    generalize upd H9 m (.ins Z.C dx (putF "all_keys" (.ref k9) [("signs", .str sg), ("rows", .ref r3), ("ends", .ref e6)])) = H10 at k10 m10 f10 r10 pa10 e10 pe10 a10 ⊢
    -- if len(self.all_keys) > MOST_KEYS
    refine ⟨_, rfl, m, Z.C, dx, _, _, rfl, m10, TC.cl, TC.a4, rfl, .ref k9, _, rfl, .inr ⟨_, SqT.of a10, rfl⟩, _, _, rfl, rfl, _, rfl, ?_⟩
    rw [List.length_map]
    by_cases c : (12 : Int) < ((kl (keysOfRows R ++ Es.flatten)).length : Nat)
    · refine ifT c ?_
      refine rsE rfl (by show 1 ≤ 1000; decide) (fun u hu => ?_) fun d H11 hd s11 h11 => (good H11 (k10.trans s11)).1 (by omega) d (f10 d hd) h11
      rw [List.mem_singleton.mp hu]
      exact .inr ⟨_, rfl⟩
    refine ifF c ?_
    -- self._ways
    refine ⟨_, rfl, m, Z.C, dx, _, _, rfl, m10, TC.cl, TC.a2, rfl, r3, rfl, ⟨_, SqT.of r10⟩, fun W hW => ?_⟩
    have rl3 : rv3.length = R.length := (Paired.length pa10).trans (List.length_map ..)
    refine lcs_it [some (.ref m), some (.str sg), some (.ref r), some (.ref e), none, none, none, none, none, none] rfl walk_tup (fun i H' => Same H10 H' ∧ ∃ acc, H' W = some (.lst acc) ∧ acc.length = i ∧ Paired (WaysD sg H') acc (rv3.take i)) ⟨Same.upd hW, [], upd_same, rfl, .nil⟩ (fun i H' _ z => SqT.of (z.1 _ _ r10)) ?_ ?_
    · rintro i x _ H11 hi ⟨s11, acc, hacc, hl, pw⟩ ⟨rfl, hx⟩
      obtain ⟨row, hrow, a, vs, rfl, ha, pr⟩ := pat pa10 hx
      rw [List.getElem?_map] at hrow
      obtain ⟨q, hq, rfl⟩ := Option.map_eq_some_iff.mp hrow
      have vl : vs.length = q.length := (Paired.length pr).trans (List.length_map ..)
      have q1 := rl q (List.mem_of_getElem? hq)
      refine ⟨rfl, tyes ?_⟩
      simp only [if_true]
      refine ways_made (s11 _ _ ha) asc (by omega) sz fun d H12 hd s12 h12 => ?_
      have kt : ∀ b xs, H12 b = some (.tup xs) → (upd H12 W (.lst (acc ++ [.ref d]))) b = some (.tup xs) := fun b xs e => by
        rw [upd_ne (ne_of e (s12 _ _ hacc) (by intro z; cases z))]
        exact e
      have kd : ∀ b xs, H12 b = some (.dK xs) → (upd H12 W (.lst (acc ++ [.ref d]))) b = some (.dK xs) := fun b xs e => by
        rw [upd_ne (ne_of e (s12 _ _ hacc) (by intro z; cases z))]
        exact e
      refine ⟨acc, s12 _ _ hacc, ?_, fun b o e => ?_, acc ++ [.ref d], upd_same, by rw [List.length_append, hl]; rfl, ?_⟩
      · rw [sizeLine_eq]; omega
      · rw [upd_ne (ne_of_none e hW)]
        exact s12 _ _ (s11 _ _ e)
      · have tk : rv3.take (i + 1) = rv3.take i ++ [.ref a] := by rw [List.take_add_one, hx]; rfl
        rw [tk]
        exact psnoc (L2.Paired.mapP pw fun _ _ z => z.keep (fun b xs e => kt b xs (s12 _ _ e)) fun b xs e => kd b xs (s12 _ _ e)) ⟨d, a, vs, rfl, rfl, kt _ _ (s12 _ _ (s11 _ _ ha)), kd _ _ h12⟩
    rintro H11 ⟨s11, wv, hacc, hl, pw⟩
    rw [List.take_length] at pw
    refine .inl ⟨W, wv, rfl, SqL.of hacc, fun w6 hw6 => ?_⟩
    have s12 : Same H10 (upd H11 w6 (.tup wv)) := fun b o e => Same.upd hw6 _ _ (s11 _ _ e)
    have w12 : (upd H11 w6 (.tup wv)) w6 = some (.tup wv) := upd_same
    have pw12 : Paired (WaysD sg (upd H11 w6 (.tup wv))) wv rv3 := L2.Paired.mapP pw fun _ _ z => z.keep (tups (Same.upd hw6)) fun b xs e => Same.upd hw6 _ _ e
    generalize upd H11 w6 (.tup wv) = H12 at s12 w12 pw12 ⊢
    refine ⟨_, rfl, m, Z.C, dx, [("signs", .str sg), ("rows", .ref r3), ("ends", .ref e6), ("all_keys", .ref k9)], rfl, s12 _ _ m10, TC.cl, TC.a5, (by show 4 < 1000; decide), ?_⟩
    have j : ∀ b xs, H12 b = some (.tup xs) → (upd H12 m (.ins Z.C dx (putF "_ways" (.ref w6) [("signs", .str sg), ("rows", .ref r3), ("ends", .ref e6), ("all_keys", .ref k9)]))) b = some (.tup xs) := fun b xs e => by
      rw [upd_ne (ne_of e (s12 _ _ m10) (by intro z; cases z))]
      exact e
    have jd : ∀ b xs, H12 b = some (.dK xs) → (upd H12 m (.ins Z.C dx (putF "_ways" (.ref w6) [("signs", .str sg), ("rows", .ref r3), ("ends", .ref e6), ("all_keys", .ref k9)]))) b = some (.dK xs) := fun b xs e => by
      rw [upd_ne (ne_of e (s12 _ _ m10) (by intro z; cases z))]
      exact e
    refine (good _ (next k10 s12 (s12 _ _ m10))).2 (by omega) ⟨dx, r3, e6, k9, w6, rv3, ev6, wv, upd_same, j _ _ (s12 _ _ r10), ?_, j _ _ (s12 _ _ e10), ?_, ?_, j _ _ w12, ?_⟩
    · exact L2.Paired.mapP pa10 fun _ _ z => z.keep fun b xs e => j b xs (s12 _ _ e)
    · exact L2.Paired.mapP pe10 fun _ _ z => z.keep fun b xs e => j b xs (s12 _ _ e)
    · rw [kl_congr mem]
      exact j _ _ (s12 _ _ a10)
    · exact L2.Paired.mapP pw12 fun _ _ z => z.keep j jd
end
end Kx

/-! enumerate over a text -/
namespace Own
open PySem PySem.Spec PyProof.Rows L2 PySem.Froz
/-- the letters of the text y, each in a new pair with its place -/
def Ites (y : Str) : It :=
  ⟨fun i _ => i < y.cps.size, fun i H v H' => ∃ T c, v = .ref T ∧ H T = none ∧ H' = upd H T (.tup [.int (i : Nat), .str (sing c)]) ∧ y.cps[i]? = some c, fun i _ => i = y.cps.size⟩
theorem turn_enumS {P : Program} {w : World} {K : PySem.W.Frag} {elts : List Expr} {kk : Nat} {tpos : Pos} (y : Str) (u : Tok) (e it : Addr) :
    Turn P w K (.Tuple elts kk tpos) (Ites y) [e, it] e (fun i h => (∃ old, IsEnum h e it ((i : Nat) : Int) old) ∧ h.IsStrIter it (strIterType y) y u i ∧ e ≠ it) where
  mem := List.mem_cons_self
  obj := fun i h ⟨⟨old, he⟩, ⟨o, ho, hc, hd⟩, _⟩ b hb => by
    rcases List.mem_cons.mp hb with rfl | hb
    · exact ⟨_, he, fun v q => nomatch q⟩
    · rw [List.mem_singleton.mp hb]
      exact ⟨o, ho, fun v q => by rw [hd] at q; cases q⟩
  keep := fun i h h' ⟨⟨old, he⟩, ⟨o, ho, r⟩, hne⟩ k => ⟨⟨old, k e (by simp) _ he⟩, ⟨o, k it (by simp) _ ho, r⟩, hne⟩
  item := fun X hP hw hK hc i pins s σ H E I hf ⟨⟨old, he⟩, hit, hne⟩ hi => by
    subst hP hw hK
    have elt : e < s.heap.objs.size := Heap.lt_size he
    have ilt : it < s.heap.objs.size := by
      obtain ⟨_, q, _⟩ := hit
      exact Heap.lt_size q
    have ef : e ∉ [it] := fun m => hne (List.mem_singleton.mp m)
    refine wpAny_pyNext_enum_itemD (Draws.text (A := X.A.in1) (I.ok.hd hc) it y u) he hit hi hne ef fun x h' tk ⟨c, t, hc1, ex⟩ ho hit' hT hz kk => ?_
    subst ex
    refine ⟨_, rfl, wpAny_letOwnedTupleGo_enum (s := { s with heap := h', toks := tk + 1 }) ho fun h2 he2 sb => ?_⟩
    have hT2 : h2.get? s.heap.objs.size = some { cls := .type "tuple", data := .seq #[.int i tk, .str (sing c) t] } := (sb.2 _ (Nat.ne_of_gt elt)).trans hT
    have new : ObjOk X.prog X.w (upd H s.heap.objs.size (.tup [.int (i : Nat), .str (sing c)])) h2 s.heap.objs.size (.tup [.int (i : Nat), .str (sing c)]) :=
      ⟨by show 2 ≤ sizeLine; decide, [.int i tk, .str (sing c) t], .cons ⟨_, rfl⟩ (.cons ⟨t, rfl⟩ .nil), ⟨_, hT2, rfl, _, rfl⟩⟩
    have kp : ∀ b o, b ∉ [e, it] → s.heap.get? b = some o → h2.get? b = some o := fun b o nb q => by
      simp only [List.mem_cons, List.not_mem_nil, or_false, not_or] at nb
      exact (sb.2 b nb.1).trans (kk b o nb.1 nb.2 q)
    have J := I.turnedNew (h' := h2) (t' := tk + 1) (ch := [e, it]) kp hf (Nat.le_refl _) new
    refine ⟨.ref s.heap.objs.size, _, J, rfl, ⟨_, c, rfl, I.hok.fresh (Nat.le_refl _), rfl, hc1⟩, ⟨⟨.str (sing c) t, ?_⟩, ?_, hne⟩, fun b hb => ?_⟩
    · have e1 : ((i + 1 : Nat) : Int) = (i : Int) + 1 := by omega
      rw [e1]
      exact he2
    · obtain ⟨o, q, r⟩ := hit'
      exact ⟨o, (sb.2 it (Ne.symm hne)).trans q, r⟩
    · have lt : b < s.heap.objs.size := by
        rcases List.mem_cons.mp hb with rfl | hb
        · exact elt
        · rw [List.mem_singleton.mp hb]
          exact ilt
      rw [upd_ne (Nat.ne_of_lt lt)]
      exact (hf b hb).1
  done := fun X hP hw hK hc i pins s σ H E I hf ⟨⟨old, he⟩, hit, hne⟩ hi => by
    subst hP hw hK
    have hi : i = y.cps.size := hi
    subst hi
    obtain ⟨f0, f1, f2, f3, f4, f5⟩ := hf it (by simp)
    exact wpAny_pyNext_enum_endD (Draws.text (A := X.A.in1) (I.ok.hd hc) it y u) he hit fun h' eb => ⟨rfl, I.turned (t' := s.toks) (fun b o nb q => eb b o nb q) f0 f1 f3 f4 f5⟩
  self := fun A i s Q E ⟨⟨_, he⟩, _⟩ h => wpAny_pyIter_enum he h
/-- enumerate(text) -/
def iEnumS (ta : TA) : TI := fun σ H R => ta σ H fun vs H1 => ∃ y : Str, vs = [.str y] ∧ R (Ites y) H1
theorem pi_enumS {X : Cx} {e : Expr} {ta : TA} {p pos tpos : Pos} {elts : List Expr} {kk : Nat} (hg : Gl X "enumerate") (hm : X.mg "enumerate" = none) (ha : PA X [e] ta) (hs : starEach [e] X.env = [(false, eval e X.env)] := by rfl) :
    PI X (.Tuple elts kk tpos) (.Call (.Name "enumerate" p) [e] [] pos) (iEnumS ta) := by
  refine ⟨fun pins s σ H R I h => Call_ (ld_blt I hg hm boot_enumerate (PyProof.Rows.callWith_type1 (thn (ha.run pos pins s σ H _ I h) fun us s1 ⟨vs, H1, I1, r1, y, ev, q⟩ => ?_) hs rfl))⟩
  subst ev
  obtain ⟨v, rfl, u, rfl⟩ := vals1 r1
  refine call_enumerate_str fun h' he hit hz kp => wpAny_pyIter_enum he ?_
  have J : Inv X pins σ H1 { s1 with heap := h' } := I1.kept (t' := s1.toks) kp
  refine ⟨s1.heap.objs.size + 1, [s1.heap.objs.size + 1, s1.heap.objs.size], _, _, H1, rfl, J, turn_enumS y u (s1.heap.objs.size + 1) s1.heap.objs.size, ⟨⟨.none, he⟩, hit, Nat.succ_ne_self _⟩, fun b hb => ?_, q⟩
  have le : s1.heap.objs.size ≤ b := by
    rcases List.mem_cons.mp hb with rfl | hb
    · exact Nat.le_add_right _ _
    · rw [List.mem_singleton.mp hb]
      exact Nat.le_refl _
  exact I1.fpOk le (I1.hok.fresh le)
theorem walk_enumS {y : Str} : L2.Walk (Ites y) y.cps.size (fun _ => True) (YPair (fun i => some (.int (i : Nat))) (fun i => (y.cps[i]?).map fun c => .str (sing c))) :=
  ⟨fun _ _ hi _ => hi, fun _ _ => rfl, fun i H x H' hi _ ⟨T, c, e1, e2, e3, e4⟩ => ⟨T, .int (i : Nat), .str (sing c), e1, e2, e3, rfl, by show (y.cps[i]?).map _ = _; rw [e4]; rfl⟩⟩
end Own

namespace Kx
open PySem L2 Own
abbrev s_BadSign : Stmt := inClass (top 17) 0
abbrev s_Machine_walk : Stmt := inClass (top 30) 4
abbrev s_Machine_keys_of : Stmt := inClass (top 30) 5
abbrev s_Machine_after : Stmt := inClass (top 30) 6
/-! ### reading in plain lists -/
/-- the way of the letter c from the state s -/
def stepW (sg : Str) (R : List (List Way)) (s c : Nat) : Option Way := (sg.cps.toList.idxOf? c).bind fun j => (R[s]?).bind fun q => q[j]?
def acc1 (sg : Str) (R : List (List Way)) (p : Nat × List Str) (c : Nat) : Nat × List Str := match stepW sg R p.1 c with
  | some w => (w.1.toNat, p.2 ++ w.2)
  | none => p
/-- the state behind some letters, and the keys on the way -/
def runW (sg : Str) (R : List (List Way)) (s : Nat) (cs : List Nat) : Nat × List Str := cs.foldl (acc1 sg R) (s, [])
theorem runW_snoc (sg : Str) (R : List (List Way)) (s : Nat) (cs : List Nat) (c : Nat) : runW sg R s (cs ++ [c]) = acc1 sg R (runW sg R s cs) c := by
  unfold runW
  rw [List.foldl_append]
  rfl
/-- a machine as all of them are that were made -/
structure Full (sg : Str) (R : List (List Way)) (Es : List (List Str)) : Prop where
  nd : sg.cps.toList.Nodup
  row : ∀ q ∈ R, q.length = sg.cps.size ∧ ∀ w ∈ q, Okw R.length w
  ends : Es.length = R.length
  pos : 0 < R.length
  size : (keysOfRows R ++ Es.flatten).length + 1 < scanBound
theorem Full.way {sg : Str} {R : List (List Way)} {Es : List (List Str)} (F : Full sg R Es) {s j c : Nat} (hs : s < R.length) (hc : sg.cps[j]? = some c) : ∃ q w, R[s]? = some q ∧ q[j]? = some w ∧ stepW sg R s c = some w ∧ Okw R.length w := by
  have hq : R[s]? = some R[s] := List.getElem?_eq_getElem hs
  obtain ⟨l, g⟩ := F.row R[s] (List.getElem_mem hs)
  have hj : j < sg.cps.size := by
    obtain ⟨h, _⟩ := Array.getElem?_eq_some_iff.mp hc
    exact h
  have hw : R[s][j]? = some R[s][j] := List.getElem?_eq_getElem (by omega)
  refine ⟨R[s], R[s][j], hq, hw, ?_, g _ (List.getElem_mem _)⟩
  have hi : sg.cps.toList.idxOf? c = some j := by
    rw [List.idxOf?_eq_some_iff]
    obtain ⟨h, e⟩ := Array.getElem?_eq_some_iff.mp hc
    refine ⟨by simpa using h, by simpa using e, fun i hi => ?_⟩
    have nd := List.pairwise_iff_getElem.mp F.nd i j (by simp; omega) (by simpa using h) hi
    simp only [Array.getElem_toList, beq_iff_eq] at nd ⊢
    rw [e] at nd
    simpa using nd
  unfold stepW
  rw [hi, hq]
  exact hw
theorem Full.out {sg : Str} {R : List (List Way)} {s c : Nat} (hc : c ∉ sg.cps.toList) : stepW sg R s c = none := by
  unfold stepW
  rw [List.idxOf?_eq_none_iff.mpr hc]
  rfl
/-- what a reading within the signs comes to -/
theorem Full.run {sg : Str} {R : List (List Way)} {Es : List (List Str)} (F : Full sg R Es) {s : Nat} (hs : s < R.length) : ∀ cs : List Nat, (runW sg R s cs).1 < R.length ∧ ∀ y ∈ (runW sg R s cs).2, y ∈ keysOfRows R := by
  suffices h : ∀ (cs : List Nat) (p : Nat × List Str), p.1 < R.length → (∀ y ∈ p.2, y ∈ keysOfRows R) → (cs.foldl (acc1 sg R) p).1 < R.length ∧ ∀ y ∈ (cs.foldl (acc1 sg R) p).2, y ∈ keysOfRows R from
    fun cs => h cs (s, []) hs (fun _ z => nomatch z)
  intro cs
  induction cs with
  | nil => exact fun p a b => ⟨a, b⟩
  | cons c cs ih =>
    intro p a b
    refine ih (acc1 sg R p c) ?_ ?_
    all_goals
      unfold acc1
      cases e : stepW sg R p.1 c with
      | none => first | exact a | exact b
      | some w =>
        unfold stepW at e
        obtain ⟨j, _, e⟩ := Option.bind_eq_some_iff.mp e
        obtain ⟨q, hq, e⟩ := Option.bind_eq_some_iff.mp e
        have hqm := List.mem_of_getElem? hq
        have hwm := List.mem_of_getElem? e
        first
        | exact (by have := (F.row q hqm).2 w hwm; show w.1.toNat < R.length; have h1 := this.1; have h2 := this.2; omega)
        | exact fun y hy => (by
            rcases List.mem_append.mp hy with hy | hy
            · exact b y hy
            · exact List.mem_flatMap.mpr ⟨q, hqm, List.mem_flatMap.mpr ⟨w, hwm, hy⟩⟩)
/-! ### the dicts of ways, and of keys -/
abbrev lk (c : Nat) : Key := Sum.inr (Froz.sing c)
theorem sing_inj {a b : Nat} (h : lk a = lk b) : a = b := by
  have h1 : Froz.sing a = Froz.sing b := Sum.inr.inj h
  have h2 : (#[a] : Array Nat) = #[b] := congrArg Str.cps h1
  simpa using h2
theorem kvUp_out {sg : Str} {vs : List V} {c : Nat} (hc : c ∉ sg.cps.toList) : ∀ i, valV (kvUp sg vs i) (lk c) = none
  | 0 => rfl
  | i + 1 => by
    have ih := kvUp_out hc (vs := vs) i
    unfold kvUp
    split
    · rename_i d x hd _
      rw [valV_put, if_neg, ih]
      intro e
      have e' := sing_inj e
      subst e'
      exact hc (Array.mem_toList_iff.mpr (Array.mem_of_getElem? hd))
    · exact ih
theorem kvUp_in {sg : Str} {vs : List V} {c j : Nat} (nd : sg.cps.toList.Nodup) (hc : sg.cps[j]? = some c) : ∀ i, j < i → i ≤ sg.cps.size → sg.cps.size ≤ vs.length → valV (kvUp sg vs i) (lk c) = vs[j]?
  | i + 1, hj, hi, hl => by
    have h1 : sg.cps[i]? = some (sg.cps[i]'(by omega)) := Array.getElem?_eq_getElem (by omega)
    have h2 : vs[i]? = some (vs[i]'(by omega)) := List.getElem?_eq_getElem (by omega)
    unfold kvUp
    rw [h1, h2]
    dsimp only
    rw [valV_put]
    by_cases e : j = i
    · subst e
      have e1 : sg.cps[j]'(by omega) = c := by
        rw [h1] at hc
        exact Option.some.inj hc
      rw [e1, if_pos rfl, h2]
    · rw [if_neg]
      · exact kvUp_in nd hc i (by omega) (by omega) hl
      · intro z
        have z' := sing_inj z
        obtain ⟨hj', ec⟩ := Array.getElem?_eq_some_iff.mp hc
        have p := List.pairwise_iff_getElem.mp nd j i (by simpa using hj') (by simp; omega) (by omega)
        simp only [Array.getElem_toList] at p
        exact p (ec.trans z')
/-- a dict with the keys ys, each True -/
def gotK (ys : List Str) : List (Key × V) := ys.map fun y => (Sum.inr y, V.bl true)
theorem got_val (ys : List Str) (y : Str) : valV (gotK ys) (Sum.inr y) = if y ∈ ys then some (.bl true) else none := by
  induction ys with
  | nil => rfl
  | cons a r ih =>
    unfold gotK at ih ⊢
    rw [List.map_cons]
    by_cases e : a = y
    · subst e
      rw [valV_pos rfl, if_pos List.mem_cons_self]
    · rw [valV_neg (by simpa using e), ih]
      by_cases m : y ∈ r
      · rw [if_pos m, if_pos (List.mem_cons_of_mem _ m)]
      · rw [if_neg m, if_neg (by simp only [List.mem_cons, not_or]; exact ⟨fun z => e z.symm, m⟩)]
theorem got_put (ys : List Str) (y : Str) : putK (gotK ys) (Sum.inr y) (.bl true) = gotK (if y ∈ ys then ys else ys ++ [y]) := by
  unfold putK
  rw [valV_any, got_val]
  by_cases m : y ∈ ys
  · rw [if_pos m, if_pos m, if_pos (show (some (V.bl true)).isSome = true from rfl)]
    unfold gotK
    rw [List.map_map]
    refine List.map_congr_left fun a _ => ?_
    simp only [Function.comp]
    by_cases e : (Sum.inr a : Key) = Sum.inr y
    · rw [if_pos e]
    · rw [if_neg e]
  · rw [if_neg m, if_neg m, if_neg (show ¬ (none : Option V).isSome = true by simp)]
    unfold gotK
    rw [List.map_append]
    rfl
theorem nd_sub_len {α : Type} [DecidableEq α] : ∀ {l m : List α}, l.Nodup → (∀ x ∈ l, x ∈ m) → l.length ≤ m.length
  | [], _, _, _ => Nat.zero_le _
  | a :: l, m, nd, h => by
    obtain ⟨na, nl⟩ := List.nodup_cons.mp nd
    have ha := h a List.mem_cons_self
    have ih := nd_sub_len (l := l) (m := m.erase a) nl fun x hx => (List.mem_erase_of_ne fun z : x = a => na (z ▸ hx)).mpr (h x (List.mem_cons_of_mem _ hx))
    rw [List.length_erase_of_mem ha] at ih
    have := List.length_pos_of_mem ha
    rw [List.length_cons]
    omega
theorem got_grow {ys zs : List Str} (nd : ys.Nodup) (y : Str) : (if y ∈ ys then ys else ys ++ [y]).Nodup ∧ ∀ x, x ∈ (if y ∈ ys then ys else ys ++ [y]) ↔ x ∈ ys ∨ x = y := by
  by_cases m : y ∈ ys
  · rw [if_pos m]
    exact ⟨nd, fun x => ⟨.inl, fun z => z.elim id fun e => e ▸ m⟩⟩
  · rw [if_neg m]
    refine ⟨List.nodup_append.mpr ⟨nd, by simp, fun a ha b hb => ?_⟩, fun x => by simp⟩
    rw [List.mem_singleton.mp hb]
    exact fun e => m (e ▸ ha)
end Kx

namespace Kx
open PySem L2 Own
structure SAd where
  c : Addr
  i : Addr
  e : FuncData
  fw : Addr
  fk : Addr
  dw : FuncData
  dk : FuncData
structure TxtS (K : PySem.W.Frag) (mg : Str → Option Value) (A : EAd) (Z : CAd) (S : SAd) : Prop where
  E_BadSign : ErrC K mg "BadSign" S.c A.M
  I_BadSign : IniT K "BadSign.__init__" s_BadSign S.c S.i S.e ["self", "place"]
  N_place : PySem.W.findIn K (.ref S.c) "place" = some none
  M_walk : Meth K Z.C "walk" S.fw
  F_walk : Fun K "walk" "Machine.walk" s_Machine_walk S.fw S.dw
  b_walk : Binds K S.dw ["self", "state", "text"] []
  M_keys_of : Meth K Z.C "keys_of" S.fk
  F_keys_of : Fun K "keys_of" "Machine.keys_of" s_Machine_keys_of S.fk S.dk
  b_keys_of : Binds K S.dk ["self", "text"] []
section
variable {P : Program} {w : World} {K : PySem.W.Frag} {mg : Str → Option Value} {base : Heap} {A : EAd} {B : MAd} {Z : CAd} {S : SAd}
theorem sc_BadSign : FnScope ["self", "place"] ["self", "place"] (defScope s_BadSign) := ⟨rfl, rfl, rfl, by decide +kernel, rfl, by decide +kernel, by decide +kernel⟩
theorem ok_BadSign (T : TxtE K mg A) (TS : TxtS K mg A Z S) : FnOk P w K mg base CX0 2 S.i S.e ["self", "place"] (spErr S.c ["place"]) := by
  have sc := sc_BadSign
  have G_copied : FnOk P w K mg base CX0 1 A.fc A.dc ["field"] spFlat := ok_copied T
  refine TS.I_BadSign.F.ok sc (fun vs H Q E h => ?_) (fun cdv A1 outer s H vs Q E hr h => ?_)
  · obtain ⟨_, us, rfl, l, _⟩ := h
    rw [List.length_cons, l]; rfl
  · obtain ⟨a, us, rfl, l, ha, hf, k⟩ := h
    obtain ⟨v, rfl⟩ : ∃ v, us = [v] := List.length_eq_one_iff.mp l
    refine ⟨_, (pss_one (ps_ost (pv 0) (pe_call G_copied (hr.mono (by decide)) rfl T.D_copied.g T.D_copied.F.kp T.D_copied.b .nil pass0 (pa_cons (pv 1) pa_nil)))), ?_⟩
    refine ⟨_, rfl, v, rfl, hf v List.mem_cons_self, _, rfl, a, S.c, rfl, TS.E_BadSign.oex, TS.N_place, .inl ⟨ha, fun dx hd ne => ?_⟩⟩
    refine k dx _ hd ne upd_same (by rw [upd_ne ne, upd_same]; rfl) fun b o e nb => ?_
    rw [upd_ne nb, upd_ne (ne_of_none e hd)]
    exact e
/-- self.walk(state, text): the state behind the text and the keys on the way, or the place of the first letter that is no sign -/
def spWalk (Z : CAd) (S : SAd) : Sp := fun vs H Q E => ∃ (m : Addr) (st : Nat) (y sg : Str) (R : List (List Way)) (Es : List (List Str)), vs = [.ref m, .int st, .str y] ∧ MachAt Z.C H m sg R Es ∧ Full sg R Es ∧ st < R.length ∧
  ((∀ c ∈ y.cps.toList, c ∈ sg.cps.toList) → ∀ (p k : Addr) H', Same H H' → H' p = some (.tup [.int (runW sg R st y.cps.toList).1, .ref k]) → H' k = some (.tup ((kl (runW sg R st y.cps.toList).2).map V.str)) → Q (.ref p) H') ∧
  (∀ (i : Nat) (c : Nat) (d : Addr) H', y.cps[i]? = some c → c ∉ sg.cps.toList → (∀ (j : Nat) c', j < i → y.cps[j]? = some c' → c' ∈ sg.cps.toList) → H d = none → Same H H' → H' d = some (.xd [("place", .int i)]) → E (.ref S.c) (some d) H')
theorem sc_walk : FnScope ["self", "state", "text", "got", "place", "letter", "way", "given", "key"] ["self", "state", "text"] (defScope s_Machine_walk) := ⟨rfl, rfl, rfl, by decide +kernel, rfl, by decide +kernel, by decide +kernel⟩
theorem wayT_at {sg : Str} {H : Hp} {rv wv : List V} {R : List (List Way)} {s j c : Nat} {q : List Way} {w : Way} (pr : Paired (RowT H) rv R) (pw : Paired (WaysD sg H) wv rv) (nd : sg.cps.toList.Nodup) (hq : R[s]? = some q) (hl : q.length = sg.cps.size) (hw : q[j]? = some w) (hc : sg.cps[j]? = some c) :
    ∃ (d b kv : Addr) (kvs : List (Key × V)), wv[s]? = some (.ref d) ∧ H d = some (.dK kvs) ∧ valV kvs (lk c) = some (.ref b) ∧ H b = some (.tup [.int w.1, .ref kv]) ∧ H kv = some (.tup (w.2.map V.str)) := by
  have hs : s < R.length := (List.getElem?_eq_some_iff.mp hq).1
  have l1 := Paired.length pr
  have l2 := Paired.length pw
  have hwv : wv[s]? = some (wv[s]'(by omega)) := List.getElem?_eq_getElem (by omega)
  obtain ⟨rw1, hrw, d, b, vs, ed, eb, hb, hd⟩ := pat pw hwv
  obtain ⟨q', hq', b', vs', eb', hb', pq⟩ := pat pr hrw
  rw [hq] at hq'
  cases hq'
  rw [eb] at eb'
  cases eb'
  rw [hb] at hb'
  cases hb'
  have lv : vs.length = q.length := Paired.length pq
  have hj : j < q.length := (List.getElem?_eq_some_iff.mp hw).1
  have hvj : vs[j]? = some (vs[j]'(by omega)) := List.getElem?_eq_getElem (by omega)
  obtain ⟨w', hw', a, kv, ea, ha, kt, ek, hk⟩ := pat pq hvj
  rw [hw] at hw'
  cases hw'
  rw [ek] at ha
  refine ⟨d, a, kt, _, by rw [hwv, ed], hd, ?_, ha, hk⟩
  rw [kvUp_in nd hc sg.cps.size (by omega) (Nat.le_refl _) (by omega), hvj, ea]
theorem dict_at {sg : Str} {H : Hp} {rv wv : List V} {s c : Nat} (pw : Paired (WaysD sg H) wv rv) (hs : s < rv.length) (hc : c ∉ sg.cps.toList) : ∃ (d : Addr) (kvs : List (Key × V)), wv[s]? = some (.ref d) ∧ H d = some (.dK kvs) ∧ valV kvs (lk c) = none := by
  have l2 := Paired.length pw
  have hwv : wv[s]? = some (wv[s]'(by omega)) := List.getElem?_eq_getElem (by omega)
  obtain ⟨rw1, hrw, d, b, vs, ed, eb, hb, hd⟩ := pat pw hwv
  exact ⟨d, _, by rw [hwv, ed], hd, kvUp_out hc _⟩
theorem ok_walk (T : TxtM K mg B) (TE : TxtE K mg A) (TC : TxtC K mg Z) (TS : TxtS K mg A Z S) : FnOk P w K mg base (L2.CX P w) 4 S.fw S.dw ["self", "state", "text"] (spWalk Z S) := by
  have sc := sc_walk
  have G_key_list : FnOk P w K mg base CX0 1 B.f2 B.d2 ["given"] (spKl K) := ok_key_list T
  refine TS.F_walk.okX sc (fun vs H Q E h => ?_) (fun cdv A1 outer s H vs Q E hr h => ?_)
  · obtain ⟨_, _, _, _, _, _, rfl, _⟩ := h; rfl
  · obtain ⟨m, st, y, sg, R, Es, rfl, hm, F, hst, good, bad⟩ := h
    have hu := hu_of hr
    refine ⟨_, (pss_cons (ps_set (i := 3) sc.nd rfl (Or.inl rfl) pe_dnewK)
      (pss_cons (ps_for (passes_of rfl) rfl (pi_enumS (by rfl) T.n_enumerate (pa_cons (pv 2) pa_nil)) (pg_tup rfl (pgs_cons (pg_name (i := 4) sc.nd rfl (Or.inl rfl)) (pgs_cons (pg_name (i := 5) sc.nd rfl (Or.inl rfl)) pgs_nil)))
        (pss_cons (ps_set (i := 6) sc.nd rfl (Or.inl rfl) (pe_dget1 hu (pe_ix ix_tup (pe_fld (pv 0) rfl) (pv 1) (fun _ _ => rfl)) (pv 5) ⟨by rfl, by rfl, by rfl, by rfl⟩))
        (pss_cons (ps_if (pt_cmpR op_isN (pv 6) pe_non (nomark _))
          (pss_one (ps_raise rfl (takes_of rfl rfl rfl rfl) (pmk_oex TS.E_BadSign.oex TS.I_BadSign.iC TS.I_BadSign.tI (ok_BadSign TE TS) (hr.mono (by decide)) TS.I_BadSign.b .nil pass0 rfl TS.E_BadSign.g (pa_cons (pv 4) pa_nil))))
          pss_nil)
        (pss_cons (ps_asg (pv 6) (pg_tup rfl (pgs_cons (pg_name (i := 1) sc.nd rfl (Or.inl rfl)) (pgs_cons (pg_name (i := 7) sc.nd rfl (Or.inl rfl)) pgs_nil))))
        (pss_one (ps_for (passes_of rfl) rfl (pi_tup (pv 7)) (pg_name (i := 8) sc.nd rfl (Or.inl rfl))
          (pss_one (ps_dput hu (pv 3) (pv 8) pe_bl rfl))))))))
      (pss_one (ps_ret (pe_tup (pa_cons (pv 1) (pa_cons (pe_call G_key_list (hr.mono (by decide)) rfl T.D_key_list.g T.D_key_list.F.kp T.D_key_list.b .nil pass0 (pa_cons (pe_callTy (call_list_dK rfl) (by rfl) TE.n_list (by decide +kernel) (pa_cons (pv 3) pa_nil)) pa_nil)) pa_nil))))))), ?_⟩
    intro D hD
    obtain ⟨dx, r, e, k, w5, rv, ev, wv, hm0, hr0, pr, he0, pe, hk0, hw0, pw⟩ := hm
    have rl : rv.length = R.length := Paired.length pr
    have keepT : ∀ {H' : Hp}, Same H H' → Paired (RowT H') rv R := fun s1 => L2.Paired.mapP pr fun _ _ z => z.keep (tups s1)
    have keepW : ∀ {H' : Hp}, Same H H' → Paired (WaysD sg H') wv rv := fun s1 => L2.Paired.mapP pw fun _ _ z => z.keep (tups s1) fun b xs z => s1 b _ z
    have put : ∀ {H' : Hp} {o : HO}, Same H H' → Same H (upd H' D o) := fun {H' o} s1 b u z => by rw [upd_ne (ne_of_none z hD)]; exact s1 b u z
    refine ⟨_, rfl, y, rfl, ?_⟩
    refine for_it walk_enumS (fun i σ H' => (∃ x4 x5 x6 x7 x8, σ = [some (.ref m), some (.int (runW sg R st (y.cps.toList.take i)).1), some (.str y), some (.ref D), x4, x5, x6, x7, x8]) ∧ Same H H' ∧ (∃ ys, H' D = some (.dK (gotK ys)) ∧ ys.Nodup ∧ ∀ x, x ∈ ys ↔ x ∈ (runW sg R st (y.cps.toList.take i)).2) ∧ ∀ (j : Nat) c', j < i → y.cps[j]? = some c' → c' ∈ sg.cps.toList)
      ⟨⟨_, _, _, _, _, rfl⟩, Same.upd hD, ⟨[], upd_same, .nil, fun x => Iff.rfl⟩, fun j c' z => nomatch z⟩ (fun _ _ _ _ _ => trivial) ?_ ?_
    · rintro i x σ H1 H1' hi ⟨⟨x4, x5, x6, x7, x8, rfl⟩, s1, ⟨ys, hys, nd, mem⟩, g1⟩ ⟨t1, u1, v1, rfl, nt1, rfl, eu, ev1⟩
      cases eu
      obtain ⟨c, hc, rfl⟩ := Option.map_eq_some_iff.mp ev1
      have hct : y.cps.toList[i]? = some c := by rw [Array.getElem?_toList]; exact hc
      have s2 : Same H (upd H1 t1 (.tup [.int (i : Nat), .str (Froz.sing c)])) := fun b o z => Same.upd nt1 _ _ (s1 _ _ z)
      have hy2 : (upd H1 t1 (.tup [.int (i : Nat), .str (Froz.sing c)])) D = some (.dK (gotK ys)) := Same.upd nt1 _ _ hys
      refine ⟨t1, _, rfl, SqT.of upd_same, rfl, _, _, rfl, _, _, rfl, rfl, ?_⟩
      generalize upd H1 t1 (.tup [.int (i : Nat), .str (Froz.sing c)]) = H2 at s2 hy2 ⊢
      obtain ⟨run1, run2⟩ := F.run hst (y.cps.toList.take i)
      generalize hrun : runW sg R st (y.cps.toList.take i) = rn at run1 run2 mem ⊢
      refine ⟨_, rfl, m, Z.C, dx, _, _, rfl, s2 _ _ hm0, TC.cl, TC.a5, rfl, _, rfl, w5, wv, ((rn.1 : Nat) : Int), ?_⟩
      by_cases cm : c ∈ sg.cps.toList
      · obtain ⟨j, hj⟩ := List.getElem?_of_mem cm
        rw [Array.getElem?_toList] at hj
        obtain ⟨q, wy, hq, hw, hstep, okw⟩ := F.way run1 hj
        obtain ⟨d, b, kv, kvs, ewv, hd, hv, hb, hkv⟩ := wayT_at pr pw F.nd hq (F.row q (List.mem_of_getElem? hq)).1 hw hj
        have dg : DGet H2 d (.str (Froz.sing c)) (some (.ref b)) := by
          have z := DGet.k (k := lk c) (s2 _ _ hd)
          rw [hv] at z
          exact z
        refine ⟨_, rfl, rfl, SqT.of (s2 _ _ hw0), atI_nat ewv, d, rfl, .inl ⟨kvs, .inl (s2 _ _ hd)⟩, _, rfl, some (.ref b), dg, ?_⟩
        have hnn : 0 ≤ wy.1 := okw.1
        have hrun2 : runW sg R st (y.cps.toList.take (i + 1)) = (wy.1.toNat, rn.2 ++ wy.2) := by
          rw [List.take_add_one, hct]
          show runW sg R st (y.cps.toList.take i ++ [c]) = _
          rw [runW_snoc, hrun]
          unfold acc1
          rw [hstep]
        have kb : ∀ x ∈ rn.2 ++ wy.2, x ∈ keysOfRows R := fun x hx => by
          rcases List.mem_append.mp hx with hx | hx
          · exact run2 x hx
          · exact List.mem_flatMap.mpr ⟨q, List.mem_of_getElem? hq, List.mem_flatMap.mpr ⟨wy, List.mem_of_getElem? hw, hx⟩⟩
        refine ⟨_, rfl, rfl, _, rfl, iteF ?_⟩
        refine ⟨_, rfl, b, _, rfl, SqT.of (s2 _ _ hb), rfl, _, _, rfl, _, _, rfl, rfl, ?_⟩
        refine ⟨_, rfl, kv, rfl, ⟨_, SqT.of (s2 _ _ hkv)⟩, ?_⟩
        refine for_it walk_tup (fun j2 σ H' => (∃ x8, σ = [some (.ref m), some (.int wy.1), some (.str y), some (.ref D), some (.int (i : Nat)), some (.str (Froz.sing c)), some (.ref b), some (.ref kv), x8]) ∧ Same H H' ∧ ∃ ys, H' D = some (.dK (gotK ys)) ∧ ys.Nodup ∧ ∀ x, x ∈ ys ↔ x ∈ rn.2 ++ wy.2.take j2)
          ⟨⟨_, rfl⟩, s2, ys, hy2, nd, fun x => by simpa using mem x⟩ (fun j2 σ H' _ z => SqT.of (z.2.1 _ _ hkv)) ?_ ?_
        · rintro j2 x σ H3 H3' hj2 ⟨⟨x8, rfl⟩, s3, ys3, hys3, nd3, mem3⟩ ⟨rfl, hx⟩
          rw [List.getElem?_map] at hx
          obtain ⟨key, hkey, rfl⟩ := Option.map_eq_some_iff.mp hx
          have kin : key ∈ wy.2 := List.mem_of_getElem? hkey
          have small : (gotK ys3).length < sizeLine := by
            have l1 : ys3.length ≤ (keysOfRows R).length := nd_sub_len nd3 fun x hx => kb x (by
              rcases List.mem_append.mp ((mem3 x).mp hx) with z | z
              · exact List.mem_append_left _ z
              · exact List.mem_append_right _ (List.mem_of_mem_take z))
            have l2 := F.size
            rw [List.length_append] at l2
            unfold gotK
            rw [List.length_map]
            exact bound_line (by omega)
          refine ⟨_, rfl, _, rfl, D, _, rfl, DPut.k (k := Sum.inr key) hys3 small, ?_⟩
          obtain ⟨g2, g3⟩ := got_grow (zs := []) nd3 key
          rw [got_put]
          refine ⟨⟨_, rfl⟩, put s3, _, upd_same, g2, fun x => ?_⟩
          rw [g3, mem3, List.take_add_one, hkey]
          simp only [List.mem_append, Option.toList_some, List.mem_singleton]
          constructor
          · rintro ((z | z) | z)
            · exact .inl z
            · exact .inr (.inl z)
            · exact .inr (.inr z)
          · rintro (z | z | z)
            · exact .inl (.inl z)
            · exact .inl (.inr z)
            · exact .inr z
        · rintro σ H3 ⟨⟨x8, rfl⟩, s3, ys3, hys3, nd3, mem3⟩
          rw [List.length_map, List.take_length] at mem3
          have e0 : (((runW sg R st (y.cps.toList.take (i + 1))).1 : Nat) : Int) = wy.1 := by
            rw [hrun2]
            exact Int.toNat_of_nonneg hnn
          refine ⟨⟨some (.int (i : Nat)), some (.str (Froz.sing c)), some (.ref b), some (.ref kv), x8, by rw [e0]⟩, s3, ⟨ys3, hys3, nd3, ?_⟩, fun j' c' lt hc' => ?_⟩
          · rw [hrun2]
            exact mem3
          · by_cases e : j' < i
            · exact g1 j' c' e hc'
            · have e : j' = i := by omega
              subst e
              rw [hc] at hc'
              cases hc'
              exact cm
      · obtain ⟨d, kvs, ewv, hd, hv⟩ := dict_at pw (by omega : rn.1 < rv.length) cm
        have dg : DGet H2 d (.str (Froz.sing c)) none := by
          have z := DGet.k (k := lk c) (s2 _ _ hd)
          rw [hv] at z
          exact z
        refine ⟨_, rfl, rfl, SqT.of (s2 _ _ hw0), atI_nat ewv, d, rfl, .inl ⟨kvs, .inl (s2 _ _ hd)⟩, _, rfl, none, dg, ?_⟩
        refine ⟨_, rfl, rfl, _, rfl, iteT ?_⟩
        refine ⟨_, rfl, ?_⟩
        exact rsE rfl (by show 1 ≤ 1000; decide) (fun u hu => .inl ⟨_, List.mem_singleton.mp hu⟩) fun dx5 H5 hd5 s5 h5 => bad i c dx5 H5 hc cm g1 (s2.free hd5) (fun b o e => s5 _ _ (s2 _ _ e)) h5
    · rintro σ H1 ⟨⟨x4, x5, x6, x7, x8, rfl⟩, s1, ⟨ys, hys, nd, mem⟩, g1⟩
      have el : y.cps.toList.take y.cps.size = y.cps.toList := List.take_of_length_le (by simp)
      rw [el] at mem ⊢
      obtain ⟨run1, run2⟩ := F.run hst y.cps.toList
      have inn : ∀ c ∈ y.cps.toList, c ∈ sg.cps.toList := fun c hc => by
        obtain ⟨j, hj⟩ := List.getElem?_of_mem hc
        rw [Array.getElem?_toList] at hj
        exact g1 j c (Array.getElem?_eq_some_iff.mp hj).1 hj
      have l2 := F.size
      rw [List.length_append] at l2
      have l1 : ys.length ≤ (keysOfRows R).length := nd_sub_len nd fun x hx => run2 x ((mem x).mp hx)
      refine ⟨_, rfl, _, rfl, D, _, rfl, hys, fun q hq => ?_⟩
      have e1 : (gotK ys).map (fun kv => kV kv.1) = ys.map V.str := by
        unfold gotK
        rw [List.map_map]
        rfl
      rw [e1]
      refine ⟨.ref q, ys, rfl, .list (SqL.of upd_same), by omega, fun p2 H2 hp2 s2 h2 => ?_⟩
      refine ⟨by show 2 ≤ sizeLine; decide, fun t ht => ?_⟩
      rw [kl_congr mem] at h2
      exact good inn t p2 _ (fun b o z => Same.upd ht _ _ (s2 _ _ (Same.upd hq _ _ (s1 _ _ z)))) upd_same (Same.upd ht _ _ h2)
end
end Kx

namespace Kx
open PySem L2 Own
section
variable {P : Program} {w : World} {K : PySem.W.Frag} {mg : Str → Option Value} {base : Heap} {A : EAd} {B : MAd} {Z : CAd} {S : SAd}
def keysW (sg : Str) (R : List (List Way)) (Es : List (List Str)) (cs : List Nat) : List Str := kl ((runW sg R 0 cs).2 ++ Es.getD (runW sg R 0 cs).1 [])
/-- self.keys_of(text), self.after(text) -/
def spAsk (Z : CAd) (S : SAd) (ans : Str → List (List Way) → List (List Str) → Str → Hp → V → Prop) : Sp := fun vs H Q E => ∃ (m : Addr) (y sg : Str) (R : List (List Way)) (Es : List (List Str)), vs = [.ref m, .str y] ∧ MachAt Z.C H m sg R Es ∧ Full sg R Es ∧
  ((∀ c ∈ y.cps.toList, c ∈ sg.cps.toList) → ∀ v H', Same H H' → ans sg R Es y H' v → Q v H') ∧
  (∀ (i : Nat) (c : Nat) (d : Addr) H', y.cps[i]? = some c → c ∉ sg.cps.toList → (∀ (j : Nat) c', j < i → y.cps[j]? = some c' → c' ∈ sg.cps.toList) → H d = none → Same H H' → H' d = some (.xd [("place", .int i)]) → E (.ref S.c) (some d) H')
def ansKeys (sg : Str) (R : List (List Way)) (Es : List (List Str)) (y : Str) (H : Hp) (v : V) : Prop := KeysT H v (keysW sg R Es y.cps.toList)
def ansState (sg : Str) (R : List (List Way)) (Es : List (List Str)) (y : Str) (H : Hp) (v : V) : Prop := v = .int (runW sg R 0 y.cps.toList).1
theorem sc_keys_of : FnScope ["self", "text", "state", "given"] ["self", "text"] (defScope s_Machine_keys_of) := ⟨rfl, rfl, rfl, by decide +kernel, rfl, by decide +kernel, by decide +kernel⟩
theorem ok_keys_of (T : TxtM K mg B) (TE : TxtE K mg A) (TC : TxtC K mg Z) (TS : TxtS K mg A Z S) : FnOk P w K mg base (L2.CX P w) 5 S.fk S.dk ["self", "text"] (spAsk Z S ansKeys) := by
  have sc := sc_keys_of
  have G_walk : FnOk P w K mg base (L2.CX P w) 4 S.fw S.dw ["self", "state", "text"] (spWalk Z S) := ok_walk T TE TC TS
  have G_key_list : FnOk P w K mg base CX0 1 B.f2 B.d2 ["given"] (spKl K) := ok_key_list T
  refine TS.F_keys_of.okX sc (fun vs H Q E h => ?_) (fun cdv A1 outer s H vs Q E hr h => ?_)
  · obtain ⟨_, _, _, _, _, rfl, _⟩ := h; rfl
  · obtain ⟨m, y, sg, R, Es, rfl, hm, F, good, bad⟩ := h
    refine ⟨_, (pss_cons (ps_asg (pe_meth (pv 0) TC.cl TS.M_walk G_walk (hr.mono (by decide)) TS.b_walk .nil (passes_call (takes_of rfl rfl rfl rfl) fun _ _ _ _ h => h) (pa_cons pe_int (pa_cons (pv 1) pa_nil))) (pg_tup rfl (pgs_cons (pg_name (i := 2) sc.nd rfl (Or.inl rfl)) (pgs_cons (pg_name (i := 3) sc.nd rfl (Or.inl rfl)) pgs_nil))))
      (pss_one (ps_ret (pe_call G_key_list (hr.mono (by decide)) rfl T.D_key_list.g T.D_key_list.F.kp T.D_key_list.b .nil pass0 (pa_cons (pe_lst (StX.pa_star (pv 3) (StX.pa_star (pe_ix ix_tup (pe_fld (pv 0) rfl) (pv 2) (fun _ _ => rfl)) pa_nil))) pa_nil))))), ?_⟩
    have hm' := hm
    obtain ⟨dx, r, e, k, w5, rv, ev, wv, hm0, hr0, pr, he0, pe, hk0, hw0, pw⟩ := hm'
    refine ⟨_, rfl, m, dx, _, rfl, hm0, rfl, _, rfl, m, 0, y, sg, R, Es, rfl, hm, F, F.pos, fun inn p k2 H1 s1 h1 h2 => ?_, bad⟩
    obtain ⟨run1, run2⟩ := F.run F.pos y.cps.toList
    replace good := good inn
    have ee := F.ends
    have le : ev.length = Es.length := Paired.length pe
    have hev : ev[(runW sg R 0 y.cps.toList).1]? = some (ev[(runW sg R 0 y.cps.toList).1]'(by omega)) := List.getElem?_eq_getElem (by omega)
    obtain ⟨ks, hks, a, eka, ha⟩ := pat pe hev
    rw [eka] at hev
    have ek : Es.getD (runW sg R 0 y.cps.toList).1 [] = ks := by rw [List.getD_eq_getElem?_getD, hks]; rfl
    refine ⟨p, _, rfl, SqT.of h1, rfl, _, _, rfl, _, _, rfl, rfl, ?_⟩
    refine ⟨_, rfl, k2, _, rfl, .inl (SqT.of h2), ?_⟩
    refine ⟨_, rfl, m, Z.C, dx, _, _, rfl, s1 _ _ hm0, TC.cl, TC.a3, rfl, _, rfl, e, ev, _, _, rfl, rfl, SqT.of (s1 _ _ he0), atI_nat hev, a, _, rfl, .inl (SqT.of (s1 _ _ ha)), ?_⟩
    have l0 : (kl (runW sg R 0 y.cps.toList).2).length ≤ (keysOfRows R).length := nd_sub_len (kl_nodup _) fun x hx => run2 x (kl_mem.mp hx)
    have l1 : ks.length ≤ Es.flatten.length := by
      have := flat_le id hks
      rw [List.flatMap_id, List.flatMap_id] at this
      have : (id ks).length = ks.length := rfl
      omega
    have l2 := F.size
    rw [List.length_append] at l2
    have eL : (kl (runW sg R 0 y.cps.toList).2).map V.str ++ (ks.map V.str ++ []) = (kl (runW sg R 0 y.cps.toList).2 ++ ks).map V.str := by simp
    refine ⟨?_, fun l hl => ?_⟩
    · show ((kl (runW sg R 0 y.cps.toList).2).map V.str ++ (ks.map V.str ++ [])).length ≤ sizeLine
      rw [eL, List.length_map, List.length_append]
      exact Nat.le_of_lt (bound_line (by omega))
    refine ⟨.ref l, _, rfl, .list (SqL.of (upd_same.trans (congrArg (fun z => some (HO.lst z)) eL))), by rw [List.length_append]; omega, fun q H3 hq s3 h3 => ?_⟩
    refine good _ _ (fun b o z => s3 _ _ (Same.upd hl _ _ (s1 _ _ z))) ⟨q, rfl, ?_⟩
    have ek2 : kl (kl (runW sg R 0 y.cps.toList).2 ++ ks) = keysW sg R Es y.cps.toList := by
      unfold keysW
      rw [ek]
      exact kl_congr fun x => by rw [List.mem_append, List.mem_append, kl_mem]
    rw [← ek2]
    exact h3
end
end Kx

namespace Kx
open PySem L2 Own
abbrev s__law_signs : Stmt := top 42
abbrev s__law_keys : Stmt := top 43
abbrev s__law_tables : Stmt := top 44
structure LAd where
  f1 : Addr
  f2 : Addr
  f3 : Addr
  d1 : FuncData
  d2 : FuncData
  d3 : FuncData
  p1 : Addr
  p2 : Addr
  p3 : Addr
  q1 : FuncData
  q2 : FuncData
  q3 : FuncData
structure TxtL (K : PySem.W.Frag) (mg : Str → Option Value) (L : LAd) : Prop where
  pen : TxtP K mg L.p1 L.p2 L.p3 L.q1 L.q2 L.q3
  D__law_signs : DefT K mg "_law_signs" "_law_signs" s__law_signs ["pen", "many"] L.f1 L.d1
  D__law_keys : DefT K mg "_law_keys" "_law_keys" s__law_keys ["pen", "words"] L.f2 L.d2
  D__law_tables : DefT K mg "_law_tables" "_law_tables" s__law_tables ["pen", "signs", "most", "words"] L.f3 L.d3
  n_len : mg "len" = none
  n_range : mg "range" = none
  n_set : mg "set" = none
  n_sorted : mg "sorted" = none
section
variable {P : Program} {w : World} {K : PySem.W.Frag} {mg : Str → Option Value} {base : Heap} {L : LAd}
def alpha : List Nat := (List.range 26).map (97 + ·)
def spSigns : Sp := fun vs H Q _ => ∃ (p c : Addr) (many n : Nat), vs = [.ref p, .int many] ∧ PenAt H p c n ∧ n + many ≤ 1000000 ∧ many ≤ 26 ∧
  ∀ (sg : Str) H', sg.cps.size = many → sg.cps.toList.Nodup → (∀ c ∈ sg.cps.toList, c ∈ alpha) → PenAt H' p c (n + many) → SameBut p H H' → Q (.str sg) H'
theorem sc_signs : FnScope ["pen", "many", "left", "found", "turn", "at"] ["pen", "many"] (defScope s__law_signs) := ⟨rfl, rfl, rfl, by decide +kernel, rfl, by decide +kernel, by decide +kernel⟩
theorem ok_signs (T : TxtL K mg L) : FnOk P w K mg base CX0 2 L.f1 L.d1 ["pen", "many"] spSigns := by
  have sc := sc_signs
  have G_draw : FnOk P w K mg base CX0 1 L.p2 L.q2 ["pen", "many"] spDraw := ok_draw T.pen
  refine T.D__law_signs.F.ok sc (fun vs H Q E h => ?_) (fun cdv A1 outer s H vs Q E hr h => ?_)
  · obtain ⟨_, _, _, _, rfl, _⟩ := h; rfl
  · obtain ⟨p, pc, many, n, rfl, hp, hn, h26, k⟩ := h
    refine ⟨_, (pss_cons (ps_asg (pe_tup (pa_cons pe_str (pa_cons pe_str pa_nil))) (pg_tup rfl (pgs_cons (pg_name (i := 2) sc.nd rfl (Or.inl rfl)) (pgs_cons (pg_name (i := 3) sc.nd rfl (Or.inl rfl)) pgs_nil))))
      (pss_cons (ps_for PassesOwn.never rfl (pi_range1 rfl T.n_range (pa_cons (pv 1) pa_nil)) (pg_name (i := 4) sc.nd rfl (Or.inl rfl))
        (pss_cons (ps_set (i := 5) sc.nd rfl (Or.inl rfl) (pe_call G_draw (hr.mono (by decide)) rfl T.pen.D__law_draw.g T.pen.D__law_draw.F.kp T.pen.D__law_draw.b .nil pass0 (pa_cons (pv 0) (pa_cons (pe_callB call_len (by rfl) T.n_len (by decide +kernel) (pa_cons (pv 2) pa_nil)) pa_nil))))
        (pss_one (ps_par (i := 3) (j := 2) rfl sc.nd rfl rfl (by decide) rfl rfl (pa_cons (pe_op op_add_str (pv 3) (pe_ix ix_str (pv 2) (pv 5) (fun _ _ => rfl))) (pa_cons (pe_op op_add_str (pe_slice sl_str (pv 2) po_none (po_some (pv 5))) (pe_slice sl_str (pv 2) (po_some (pe_op op_add (pv 5) pe_int)) po_none)) pa_nil)) rfl))))
      (pss_one (ps_ret (pv 3))))), ?_⟩
    have lt26 : alpha.length = 26 := rfl
    refine ⟨by show 2 ≤ sizeLine; decide, fun t0 ht0 => ⟨t0, _, rfl, SqT.of upd_same, rfl, _, _, rfl, _, _, rfl, rfl, ?_⟩⟩
    have hp0 : PenAt (upd H t0 (.tup [.str "abcdefghijklmnopqrstuvwxyz", .str ""])) p pc n := hp.keep (Same.upd ht0)
    have sb0 : SameBut p H (upd H t0 (.tup [.str "abcdefghijklmnopqrstuvwxyz", .str ""])) := .new ht0
    generalize upd H t0 (.tup [.str "abcdefghijklmnopqrstuvwxyz", .str ""]) = H0 at hp0 sb0 ⊢
    refine ⟨_, rfl, many, rfl, by omega, by omega, ?_⟩
    rw [Int.toNat_natCast]
    refine for_it walk_range (fun i σ H' => ∃ x4 x5, ∃ l f : Str, σ = [some (.ref p), some (.int many), some (.str l), some (.str f), x4, x5] ∧ PenAt H' p pc (n + i) ∧ SameBut p H H' ∧ (f.cps.toList ++ l.cps.toList).Perm alpha ∧ f.cps.size = i)
      ⟨_, _, _, _, rfl, hp0, sb0, by decide +kernel, rfl⟩ (fun _ _ _ _ _ => trivial) ?_ ?_
    · rintro i x σ _ H1 hi ⟨x4, x5, l, f, rfl, hp1, sb1, pm, fz⟩ ⟨rfl, rfl⟩
      have hlen : f.cps.size + l.cps.size = 26 := by
        have e := pm.length_eq
        rw [List.length_append, Array.length_toList, Array.length_toList] at e
        exact e
      have ll : l.length = l.cps.size := rfl
      have fl : f.length = f.cps.size := rfl
      refine ⟨_, rfl, _, rfl, .str l, l.length, rfl, ⟨by rw [sizeLine_eq]; omega, rfl⟩, p, pc, _, n + i, rfl, hp1, by omega, by omega, by omega, fun at1 H2 r0 r1 hp2 sb2 => ?_⟩
      obtain ⟨j, rfl⟩ := Int.eq_ofNat_of_zero_le r0
      have jl : j < l.cps.toList.length := by rw [Array.length_toList]; omega
      have hc : l.cps.toList[j]? = some l.cps.toList[j] := List.getElem?_eq_getElem jl
      generalize l.cps.toList[j] = c at hc
      refine ⟨_, rfl, _, rfl, _, rfl, l, _, c, rfl, rfl, by rw [sizeLine_eq]; omega, atI_nat hc, f, ⟨#[c]⟩, rfl, rfl, ?_, ?_⟩
      · show f.length + 1 ≤ sizeLine
        rw [sizeLine_eq]; omega
      refine ⟨_, rfl, _, rfl, _, rfl, l, rfl, by rw [sizeLine_eq]; omega, ?_⟩
      have e1 : cutS l none (some ((j : Nat) : Int)) = ⟨(l.cps.toList.take j).toArray⟩ := by
        unfold cutS
        rw [HT.sIx_none, HT.sIx_nat]
        have : min j l.length = j := by omega
        rw [this]
        simp
      have e2 : cutS l (some (((j : Nat) : Int) + 1)) none = ⟨(l.cps.toList.drop (j + 1)).toArray⟩ := by
        unfold cutS
        rw [show ((j : Nat) : Int) + 1 = ((j + 1 : Nat) : Int) from rfl, HT.sIx_none, HT.sIx_nat]
        have : min (j + 1) l.length = j + 1 := by omega
        rw [this, List.take_of_length_le]
        rw [List.length_drop, Array.length_toList]
        omega
      refine ⟨_, rfl, _, rfl, _, _, rfl, rfl, _, rfl, l, rfl, by rw [sizeLine_eq]; omega, _, _, rfl, rfl, ?_, _, _, rfl, ?_⟩
      · show (cutS l none (some ((j : Nat) : Int))).length + (cutS l (some (((j : Nat) : Int) + 1)) none).length ≤ sizeLine
        rw [e1, e2]
        show (l.cps.toList.take j).toArray.size + (l.cps.toList.drop (j + 1)).toArray.size ≤ sizeLine
        rw [List.size_toArray, List.size_toArray, List.length_take, List.length_drop, Array.length_toList, sizeLine_eq]
        omega
      · refine ⟨_, _, _, _, rfl, hp2, sb1.trans sb2, ?_, ?_⟩
        · show ((f.cps ++ #[c]).toList ++ ((cutS l none (some ((j : Nat) : Int))).cps ++ (cutS l (some (((j : Nat) : Int) + 1)) none).cps).toList).Perm alpha
          rw [e1, e2]
          refine List.Perm.trans ?_ pm
          have sp : l.cps.toList = l.cps.toList.take j ++ c :: l.cps.toList.drop (j + 1) := by
            have h1 := List.take_append_drop j l.cps.toList
            obtain ⟨hj, ec⟩ := List.getElem?_eq_some_iff.mp hc
            rw [List.drop_eq_getElem_cons hj, ec] at h1
            exact h1.symm
          have lhs : ((f.cps ++ #[c]).toList ++ ((⟨(l.cps.toList.take j).toArray⟩ : Str).cps ++ (⟨(l.cps.toList.drop (j + 1)).toArray⟩ : Str).cps).toList) = f.cps.toList ++ (c :: (l.cps.toList.take j ++ l.cps.toList.drop (j + 1))) := by simp
          rw [lhs]
          refine List.Perm.append_left _ ?_
          refine List.Perm.trans ?_ (List.Perm.of_eq sp.symm)
          exact List.perm_middle.symm
        · show (f.cps ++ #[c]).size = i + 1
          rw [Array.size_append, fz]
          rfl
    · rintro σ H1 ⟨x4, x5, l, f, rfl, hp1, sb1, pm, fz⟩
      refine ⟨_, rfl, k f H1 fz ?_ (fun c hc => pm.mem_iff.mp (List.mem_append_left _ hc)) hp1 sb1⟩
      have nd : (f.cps.toList ++ l.cps.toList).Nodup := pm.nodup_iff.mpr (by decide +kernel)
      exact (List.nodup_append.mp nd).1
end
end Kx

namespace Kx
open PySem L2 Own
section
variable {P : Program} {w : World} {K : PySem.W.Frag} {mg : Str → Option Value} {base : Heap} {L : LAd}
/-- up to two of the words, each once, in their order -/
def spKeys : Sp := fun vs H Q _ => ∃ (p c q : Addr) (n : Nat) (ws : List Str), vs = [.ref p, .ref q] ∧ PenAt H p c n ∧ n + 3 ≤ 1000000 ∧ H q = some (.lst (ws.map V.str)) ∧ 0 < ws.length ∧ ws.length ≤ 1000 ∧
  ∀ (t : Addr) (ks : List Str) (H' : Hp), H t = none → H' t = some (.lst (ks.map V.str)) → (∀ y ∈ ks, y ∈ ws) → ks.length ≤ 2 → kl ks = ks → PenAt H' p c (n + 3) → SameBut p H H' → Q (.ref t) H'
theorem sc_keys : FnScope ["pen", "words", "many", "k"] ["pen", "words"] (defScope s__law_keys) := ⟨rfl, rfl, rfl, by decide +kernel, rfl, by decide +kernel, by decide +kernel⟩
theorem ok_keys (T : TxtL K mg L) : FnOk P w K mg base CX0 3 L.f2 L.d2 ["pen", "words"] spKeys := by
  have sc := sc_keys
  have G_pick : FnOk P w K mg base CX0 2 L.p3 L.q3 ["pen", "items"] spPick := ok_pick T.pen
  refine T.D__law_keys.F.ok sc (fun vs H Q E h => ?_) (fun cdv A1 outer s H vs Q E hr h => ?_)
  · obtain ⟨_, _, _, _, _, rfl, _⟩ := h; rfl
  · obtain ⟨p, c, q, n, ws, rfl, hp, hn, hq, w0, w1, k⟩ := h
    refine ⟨_, (pss_cons (ps_set (i := 2) sc.nd rfl (Or.inl rfl) (pe_call G_pick (hr.mono (by decide)) rfl T.pen.D__law_pick.g T.pen.D__law_pick.F.kp T.pen.D__law_pick.b .nil pass0 (pa_cons (pv 0) (pa_cons (pe_lst (pa_cons pe_int (pa_cons pe_int (pa_cons pe_int (pa_cons pe_int (pa_cons pe_int (pa_cons pe_int pa_nil))))))) pa_nil))))
      (pss_one (ps_ret (pe_callB (cr_sortT rfl) (by rfl) T.n_sorted (by decide +kernel) (pa_cons (pe_callTy (cr_setT rfl) (by rfl) T.n_set (by decide +kernel) (pa_cons
        (pe_lc (own := [("k", 3)]) (g := gName 3) (tt := tYes) rfl sc.nd (pi_range1 rfl T.n_range (pa_cons (pv 2) pa_nil)) (blkOk_by (N := ["pen", "words", "many", "k"]) (sc := defScope s__law_keys) (own := [("k", 3)]) (by decide +kernel)) (fun _ _ _ _ _ => (pg_name (i := 3) sc.nd rfl (Or.inl rfl))) (fun _ _ _ _ _ => pts_nil)
          (fun _ _ _ _ _ => pe_call G_pick (hr.mono (by decide)) rfl T.pen.D__law_pick.g T.pen.D__law_pick.F.kp T.pen.D__law_pick.b .nil pass0 (pa_cons (pv 0) (pa_cons (pv 1) pa_nil)))) pa_nil)) pa_nil))))), ?_⟩
    refine ⟨_, rfl, by show 6 ≤ sizeLine; decide, fun l0 hl0 => ?_⟩
    have s0 : Same H (upd H l0 (.lst [.int 0, .int 0, .int 0, .int 1, .int 1, .int 2])) := Same.upd hl0
    have i0 : (upd H l0 (.lst [.int 0, .int 0, .int 0, .int 1, .int 1, .int 2])) l0 = some (.lst [.int 0, .int 0, .int 0, .int 1, .int 1, .int 2]) := upd_same
    generalize upd H l0 (.lst [.int 0, .int 0, .int 0, .int 1, .int 1, .int 2]) = H0 at s0 i0 ⊢
    refine ⟨p, c, l0, _, n, rfl, hp.keep s0, by omega, i0, by show 0 < 6; decide, by show 6 ≤ 1000000; decide, fun v i H1 hv hp1 sb1 => ?_⟩
    obtain ⟨m, m2, rfl⟩ : ∃ m : Nat, m ≤ 2 ∧ v = .int m := by
      have hi : i < 6 := (List.getElem?_eq_some_iff.mp hv).1
      match i, hi, hv with
      | 0, _, hv => exact ⟨0, by omega, (Option.some.inj hv).symm⟩
      | 1, _, hv => exact ⟨0, by omega, (Option.some.inj hv).symm⟩
      | 2, _, hv => exact ⟨0, by omega, (Option.some.inj hv).symm⟩
      | 3, _, hv => exact ⟨1, by omega, (Option.some.inj hv).symm⟩
      | 4, _, hv => exact ⟨1, by omega, (Option.some.inj hv).symm⟩
      | 5, _, hv => exact ⟨2, by omega, (Option.some.inj hv).symm⟩
    have sbH : SameBut p H H1 := (SameBut.of s0).trans sb1
    have nq : q ≠ p := hp.ne hq
    -- the display
    refine ⟨_, rfl, m, rfl, by omega, by omega, fun D hD => ?_⟩
    rw [Int.toNat_natCast]
    refine lcs_it [some (.ref p), some (.ref q), some (.int m), none] rfl walk_range (fun i H' => PenAt H' p c (n + 1 + i) ∧ SameBut p H H' ∧ ∃ xs : List Str, H' D = some (.lst (xs.map V.str)) ∧ xs.length = i ∧ ∀ y ∈ xs, y ∈ ws) ?_ (fun _ _ _ _ => trivial) ?_ ?_
    · exact ⟨hp1.keep (Same.upd hD), sbH.trans (.new hD), [], upd_same, rfl, fun y hy => nomatch hy⟩
    · rintro i x _ H2 hi ⟨hp2, sb2, xs, hxs, hl, hw⟩ ⟨rfl, rfl⟩
      have ap := hp1.apart hD
      have mw : (ws.map V.str).length = ws.length := List.length_map ..
      refine ⟨rfl, _, rfl, _, rfl, p, c, q, ws.map V.str, n + 1 + i, rfl, hp2, by omega, sb2 _ _ hq nq, by omega, by omega, fun v j H3 hv hp3 sb3 => ?_⟩
      rw [List.getElem?_map] at hv
      obtain ⟨y, hy, rfl⟩ := Option.map_eq_some_iff.mp hv
      have hD3 := sb3 _ _ hxs ap.1
      refine ⟨xs.map V.str, hD3, ?_, hp3.put ap.1 ap.2, fun b o e nb => ?_, xs ++ [y], by rw [upd_same, List.map_append]; rfl, by rw [List.length_append, hl]; rfl, fun z hz => ?_⟩
      · rw [List.length_map, sizeLine_eq]; omega
      · have nD : b ≠ D := ne_of_none (sbH _ _ e nb) hD
        rw [upd_ne nD]
        exact sb3 _ _ (sb2 _ _ e nb) nb
      · rcases List.mem_append.mp hz with hz | hz
        · exact hw z hz
        · rw [List.mem_singleton.mp hz]
          exact List.mem_of_getElem? hy
    · rintro H2 ⟨hp2, sb2, xs, hxs, hl, hw⟩
      refine ⟨.ref D, xs, rfl, .list (SqL.of hxs), by unfold scanBound; omega, fun s3 l hs3 nd hm ln => ?_⟩
      refine ⟨s3, l, rfl, upd_same, by unfold scanBound; omega, fun t ys ht pm so => ?_⟩
      have ek := kl_of pm so nd hm
      have s2 : Same H2 (upd (upd H2 s3 (SetT P w s3 l)) t (.lst (ys.map V.str))) := fun b o e => Same.upd ht _ _ (Same.upd hs3 _ _ e)
      refine k t ys _ ?_ upd_same (fun y hy => hw y ((hm y).mp (pm.mem_iff.mp hy))) ?_ ?_ ((hp2.keep s2).mono (by omega)) (sb2.trans (.of s2))
      · cases e : H t with
        | none => rfl
        | some o =>
          have ht2 : H2 t = none := (Same.upd hs3).free ht
          by_cases tp : t = p
          · obtain ⟨_, _, _, h1, _⟩ := hp2
            rw [tp, h1] at ht2
            cases ht2
          · have := sb2 _ _ e tp
            rw [this] at ht2
            cases ht2
      · rw [pm.length_eq]; omega
      · rw [ek]; exact kl_kl _
end
end Kx

namespace Kx
open PySem L2 Own
/-- drawn keys: words, each once, in order, at most two -/
def KeyOk (ws ks : List Str) : Prop := (∀ y ∈ ks, y ∈ ws) ∧ ks.length ≤ 2 ∧ kl ks = ks
/-- objects of H that G had not -/
def WayN (G H : Hp) (v : V) (w : Way) : Prop := ∃ a kv, v = .ref a ∧ H a = some (.tup [.int w.1, .ref kv]) ∧ H kv = some (.lst (w.2.map V.str)) ∧ G a = none ∧ G kv = none
def RowN (G H : Hp) (v : V) (r : List Way) : Prop := ∃ a vs, v = .ref a ∧ H a = some (.lst vs) ∧ G a = none ∧ Paired (WayN G H) vs r
def KeyN (G H : Hp) (v : V) (ks : List Str) : Prop := ∃ a, v = .ref a ∧ H a = some (.lst (ks.map V.str)) ∧ G a = none
def Nk (G H H' : Hp) : Prop := ∀ b o, H b = some o → G b = none → H' b = some o
theorem WayN.keep {G G' H H' : Hp} (k : Nk G H H') (g : ∀ b, G b = none → G' b = none) {v : V} {w : Way} (h : WayN G H v w) : WayN G' H' v w := by
  obtain ⟨a, kv, e, h1, h2, g1, g2⟩ := h
  exact ⟨a, kv, e, k _ _ h1 g1, k _ _ h2 g2, g _ g1, g _ g2⟩
theorem RowN.keep {G G' H H' : Hp} (k : Nk G H H') (g : ∀ b, G b = none → G' b = none) {v : V} {r : List Way} (h : RowN G H v r) : RowN G' H' v r := by
  obtain ⟨a, vs, e, h1, g1, pr⟩ := h
  exact ⟨a, vs, e, k _ _ h1 g1, g _ g1, L2.Paired.mapP pr fun _ _ z => z.keep k g⟩
theorem KeyN.keep {G G' H H' : Hp} (k : Nk G H H') (g : ∀ b, G b = none → G' b = none) {v : V} {ks : List Str} (h : KeyN G H v ks) : KeyN G' H' v ks := by
  obtain ⟨a, e, h1, g1⟩ := h
  exact ⟨a, e, k _ _ h1 g1, g _ g1⟩
def GoodW (many : Int) (ws : List Str) (w : Way) : Prop := 0 ≤ w.1 ∧ w.1 < many ∧ KeyOk ws w.2
theorem PenAt.some {H : Hp} {p c : Addr} {n : Nat} (h : PenAt H p c n) : ∃ o, H p = some o := by
  obtain ⟨_, _, _, h1, _⟩ := h
  exact ⟨_, h1⟩
/-- what is not there now was not there -/
theorem none_back {H H' : Hp} {p c : Addr} {n : Nat} (s : SameBut p H H') (hp : PenAt H' p c n) {b : Addr} (e : H' b = none) : H b = none := by
  cases h : H b with
  | none => rfl
  | some o =>
    by_cases z : b = p
    · obtain ⟨o', h'⟩ := hp.some
      rw [z, h'] at e
      cases e
    · rw [s _ _ h z] at e
      cases e
def rowTe : TE := tLc (iStr (tVar 1)) (gName 7) tYes (tTup (tCons (tCall spDraw [] E0 (tCons (tVar 0) (tCons (tVar 4) tNil))) (tCons (tCall spKeys [] E0 (tCons (tVar 0) (tCons (tVar 3) tNil))) tNil))) [7]
theorem row_drawn {H : Hp} {p c q : Addr} {n : Nat} {sg : Str} {v2 v6 : V} {many : Int} {ws : List Str} {Q : VK} (hp : PenAt H p c n) (hn : n + 4 * sg.cps.size ≤ 1000000) (zg : sg.cps.size ≤ 1000) (hq : H q = some (.lst (ws.map V.str))) (w0 : 0 < ws.length) (w1 : ws.length ≤ 1000) (m0 : 0 < many) (m1 : many < 1000)
    (k : ∀ (t : Addr) (r : List Way) (H' : Hp), RowN H H' (.ref t) r → r.length = sg.cps.size → (∀ w ∈ r, GoodW many ws w) → PenAt H' p c (n + 4 * sg.cps.size) → SameBut p H H' → Q (.ref t) H') :
    rowTe [some (.ref p), some (.str sg), some v2, some (.ref q), some (.int many), none, some v6, none] H Q := by
  refine ⟨_, rfl, sg, rfl, fun D hD => ?_⟩
  have ap := hp.apart hD
  have nq : q ≠ p := hp.ne hq
  have gD : (upd H D (.lst [])) D = some (.lst []) := upd_same
  have gH : ∀ b, (upd H D (.lst [])) b = none → H b = none ∧ b ≠ D := fun b e => by
    have nb : b ≠ D := fun z => by rw [z, gD] at e; cases e
    exact ⟨by rw [upd_ne nb] at e; exact e, nb⟩
  have gU : ∀ b, H b = none → b ≠ D → (upd H D (.lst [])) b = none := fun b e nb => by rw [upd_ne nb]; exact e
  refine lcs_it [some (.ref p), some (.str sg), some v2, some (.ref q), some (.int many), none, some v6, none] rfl walk_str
    (fun j H' => PenAt H' p c (n + 4 * j) ∧ SameBut p H H' ∧ ∃ (acc : List V) (r : List Way), H' D = some (.lst acc) ∧ acc.length = j ∧ Paired (WayN (upd H D (.lst [])) H') acc r ∧ ∀ w ∈ r, GoodW many ws w)
    ⟨hp.keep (Same.upd hD), .new hD, [], [], upd_same, rfl, .nil, fun w hw => nomatch hw⟩ (fun _ _ _ _ => trivial) ?_ ?_
  · rintro j x _ H1 hj ⟨hp1, sb1, acc, r, hacc, hl, pa, gd⟩ ⟨rfl, ch, hc, rfl⟩
    refine ⟨rfl, _, rfl, _, rfl, p, c, many, n + 4 * j, rfl, hp1, by omega, m0, by omega, fun to H2 t0 t1 hp2 sb2 => ?_⟩
    have q2 := sb2 _ _ (sb1 _ _ hq nq) nq
    refine ⟨_, rfl, _, rfl, p, c, q, n + 4 * j + 1, ws, rfl, hp2, by omega, q2, w0, w1, fun t ks H3 ht h3 hm hk2 hkk hp3 sb3 => ?_⟩
    refine ⟨by show 2 ≤ sizeLine; decide, fun a ha => ?_⟩
    have D1 := sb2 _ _ hacc ap.1
    have D3 := sb3 _ _ D1 ap.1
    have nta : t ≠ a := ne_of_none h3 ha
    have ntD : t ≠ D := fun z => by rw [z, D1] at ht; cases ht
    have naD : a ≠ D := fun z => by rw [z, D3] at ha; cases ha
    have apa := hp3.apart ha
    have s13 : SameBut p H H3 := (sb1.trans sb2).trans sb3
    have Ha : H a = none := none_back s13 hp3 ha
    have Ht : H t = none := none_back (sb1.trans sb2) hp2 ht
    refine ⟨acc, by rw [upd_ne naD.symm]; exact D3, by rw [hl, sizeLine_eq]; omega, ((hp3.put apa.1 apa.2).put ap.1 ap.2).mono (by omega), fun b o e nb => ?_, acc ++ [.ref a], r ++ [(to, ks)], upd_same, by rw [List.length_append, hl]; rfl, ?_, fun w hw => ?_⟩
    · have nD : b ≠ D := ne_of_none e hD
      have na : b ≠ a := ne_of_none e Ha
      rw [upd_ne nD, upd_ne na]
      exact s13 _ _ e nb
    · refine psnoc (L2.Paired.mapP pa fun _ _ z => z.keep (fun b o e g => ?_) fun _ g => g) ⟨a, t, rfl, by rw [upd_ne naD, upd_same], by rw [upd_ne ntD, upd_ne nta]; exact h3, gU _ Ha naD, gU _ Ht ntD⟩
      obtain ⟨g1, nD⟩ := gH b g
      have np : b ≠ p := fun z => by
        obtain ⟨o', h'⟩ := hp.some
        rw [z, h'] at g1
        cases g1
      have e3 := sb3 _ _ (sb2 _ _ e np) np
      rw [upd_ne nD, upd_ne (ne_of_none e3 ha)]
      exact e3
    · rcases List.mem_append.mp hw with hw | hw
      · exact gd w hw
      · rw [List.mem_singleton.mp hw]
        exact ⟨t0, t1, hm, hk2, hkk⟩
  · rintro H1 ⟨hp1, sb1, acc, r, hacc, hl, pa, gd⟩
    refine k D r H1 ⟨D, acc, rfl, hacc, hD, L2.Paired.mapP pa fun _ _ z => z.keep (fun _ _ e _ => e) fun b g => (gH b g).1⟩ ?_ gd hp1 sb1
    rw [← Paired.length pa, hl]
section
variable {P : Program} {w : World} {K : PySem.W.Frag} {mg : Str → Option Value} {base : Heap} {L : LAd}
def spTables : Sp := fun vs H Q _ => ∃ (p c q : Addr) (sg : Str) (most n : Nat) (ws : List Str), vs = [.ref p, .str sg, .int most, .ref q] ∧ PenAt H p c n ∧ n + 400 ≤ 1000000 ∧ sg.cps.size ≤ 4 ∧ 0 < most ∧ most ≤ 16 ∧ H q = some (.lst (ws.map V.str)) ∧ 0 < ws.length ∧ ws.length ≤ 1000 ∧
  ∀ (t r e : Addr) (rv ev : List V) (R : List (List Way)) (Es : List (List Str)) (many : Nat) (H' : Hp), 0 < many → many ≤ most → H' t = some (.tup [.ref r, .ref e]) → H' r = some (.lst rv) → Paired (RowN H H') rv R → H' e = some (.lst ev) → Paired (KeyN H H') ev Es → R.length = many → Es.length = many →
    (∀ row ∈ R, row.length = sg.cps.size ∧ ∀ w ∈ row, GoodW many ws w) → (∀ ks ∈ Es, KeyOk ws ks) → H t = none → H r = none → H e = none → PenAt H' p c (n + 400) → SameBut p H H' → Q (.ref t) H'
theorem sc_tables : FnScope ["pen", "signs", "most", "words", "many", "rows", "state", "sign"] ["pen", "signs", "most", "words"] (defScope s__law_tables) := ⟨rfl, rfl, rfl, by decide +kernel, rfl, by decide +kernel, by decide +kernel⟩
theorem ok_tables (T : TxtL K mg L) : FnOk P w K mg base CX0 4 L.f3 L.d3 ["pen", "signs", "most", "words"] spTables := by
  have sc := sc_tables
  have G_draw : FnOk P w K mg base CX0 1 L.p2 L.q2 ["pen", "many"] spDraw := ok_draw T.pen
  have G_keys : FnOk P w K mg base CX0 3 L.f2 L.d2 ["pen", "words"] spKeys := ok_keys T
  refine T.D__law_tables.F.ok sc (fun vs H Q E h => ?_) (fun cdv A1 outer s H vs Q E hr h => ?_)
  · obtain ⟨_, _, _, _, _, _, _, rfl, _⟩ := h; rfl
  · obtain ⟨p, c, q, sg, most, n, ws, rfl, hp, hn, z4, o0, o16, hq, w0, w1, k⟩ := h
    refine ⟨_, (pss_cons (ps_set (i := 4) sc.nd rfl (Or.inr rfl) (pe_op op_add pe_int (pe_call G_draw (hr.mono (by decide)) rfl T.pen.D__law_draw.g T.pen.D__law_draw.F.kp T.pen.D__law_draw.b .nil pass0 (pa_cons (pv 0) (pa_cons (pv 2) pa_nil)))))
      (pss_cons (ps_setLc (i := 5) (own := [("state", 6)]) (g := gName 6) (tt := tYes) (te := rowTe) rfl sc.nd rfl rfl (sw_true rfl rfl rfl (by decide +kernel)) (pi_range1 rfl T.n_range (pa_cons (pv 4) pa_nil)) (blkOk_by (N := ["pen", "signs", "most", "words", "many", "rows", "state", "sign"]) (sc := defScope s__law_tables) (own := [("state", 6)]) (by decide +kernel)) (fun _ _ _ _ _ => (pg_name (i := 6) sc.nd rfl (Or.inl rfl))) (fun _ _ _ _ _ => pts_nil)
        (fun _ _ _ _ _ => pe_lc (own := [("sign", 7)]) (tt := tYes) rfl sc.nd (pi_str (pv 1)) (blkOk_by (own := [("sign", 7)]) (by rfl)) (fun _ _ _ _ _ => pg_name (i := 7) sc.nd rfl (Or.inl rfl)) (fun _ _ _ _ _ => pts_nil)
          (fun _ _ _ _ _ => pe_tup (pa_cons (pe_call G_draw (hr.mono (by decide)) rfl T.pen.D__law_draw.g T.pen.D__law_draw.F.kp T.pen.D__law_draw.b .nil pass0 (pa_cons (pv 0) (pa_cons (pv 4) pa_nil))) (pa_cons (pe_call G_keys (hr.mono (by decide)) rfl T.D__law_keys.g T.D__law_keys.F.kp T.D__law_keys.b .nil pass0 (pa_cons (pv 0) (pa_cons (pv 3) pa_nil))) pa_nil)))))
      (pss_one (ps_ret (pe_tup (pa_cons (pv 5) (pa_cons (pe_lc (own := [("state", 6)]) (g := gName 6) (tt := tYes) rfl sc.nd (pi_range1 rfl T.n_range (pa_cons (pv 4) pa_nil)) (blkOk_by (N := ["pen", "signs", "most", "words", "many", "rows", "state", "sign"]) (sc := defScope s__law_tables) (own := [("state", 6)]) (by decide +kernel)) (fun _ _ _ _ _ => (pg_name (i := 6) sc.nd rfl (Or.inl rfl))) (fun _ _ _ _ _ => pts_nil)
          (fun _ _ _ _ _ => pe_call G_keys (hr.mono (by decide)) rfl T.D__law_keys.g T.D__law_keys.F.kp T.D__law_keys.b .nil pass0 (pa_cons (pv 0) (pa_cons (pv 3) pa_nil)))) pa_nil))))))), ?_⟩
    have nq : q ≠ p := hp.ne hq
    refine ⟨_, rfl, _, rfl, p, c, most, n, rfl, hp, by omega, by omega, by omega, fun r0 H1 r1 r2 hp1 sb1 => ?_⟩
    obtain ⟨m0, rfl⟩ := Int.eq_ofNat_of_zero_le r1
    refine ⟨_, _, rfl, rfl, ?_⟩
    have tn : (1 + ((m0 : Nat) : Int)).toNat = m0 + 1 := by omega
    -- rows
    refine ⟨_, rfl, 1 + ((m0 : Nat) : Int), rfl, by omega, by omega, fun D hD => ?_⟩
    rw [tn]
    have ap := hp1.apart hD
    have gD : (upd H1 D (.lst [])) D = some (.lst []) := upd_same
    have gU : ∀ {H' : Hp} {m : Nat}, SameBut p H1 H' → PenAt H' p c m → (∃ xs, H' D = some (.lst xs)) → ∀ b, H' b = none → (upd H1 D (.lst [])) b = none := fun {H' m} s0 h0 ⟨xs, d0⟩ b e => by
      have nb : b ≠ D := fun z => by rw [z, d0] at e; cases e
      rw [upd_ne nb]
      exact none_back s0 h0 e
    have gP : ∀ b, (upd H1 D (.lst [])) b = none → b ≠ p ∧ b ≠ D := fun b e => by
      refine ⟨fun z => ?_, fun z => by rw [z, gD] at e; cases e⟩
      obtain ⟨o, h⟩ := hp1.some
      rw [z, upd_ne ap.1.symm, h] at e
      cases e
    refine lcs_it [some (.ref p), some (.str sg), some (.int most), some (.ref q), some (.int (1 + ((m0 : Nat) : Int))), none, none, none] rfl walk_range
      (fun i H' => PenAt H' p c (n + 1 + 16 * i) ∧ SameBut p H1 H' ∧ ∃ (acc : List V) (R : List (List Way)), H' D = some (.lst acc) ∧ acc.length = i ∧ Paired (RowN (upd H1 D (.lst [])) H') acc R ∧ ∀ row ∈ R, row.length = sg.cps.size ∧ ∀ w ∈ row, GoodW (1 + ((m0 : Nat) : Int)) ws w)
      ⟨hp1.keep (Same.upd hD), .new hD, [], [], upd_same, rfl, .nil, fun w hw => nomatch hw⟩ (fun _ _ _ _ => trivial) ?_ ?_
    · rintro i x _ H2 hi ⟨hp2, sb2, acc, R, hacc, hl, pa, gd⟩ ⟨rfl, rfl⟩
      refine ⟨rfl, tyes ?_⟩
      simp only [if_true]
      refine row_drawn hp2 (by omega) (by omega) (sb2 _ _ (sb1 _ _ hq nq) nq) w0 w1 (by omega) (by omega) fun t r H3 hr3 lr g3 hp3 sb3 => ?_
      have D3 := sb3 _ _ hacc ap.1
      refine ⟨acc, D3, by rw [hl, sizeLine_eq]; omega, (hp3.put ap.1 ap.2).mono (by omega), fun b o e nb => ?_, acc ++ [.ref t], R ++ [r], upd_same, by rw [List.length_append, hl]; rfl, ?_, fun row hrow => ?_⟩
      · rw [upd_ne (ne_of_none e hD)]
        exact sb3 _ _ (sb2 _ _ e nb) nb
      · refine psnoc (L2.Paired.mapP pa fun _ _ z => z.keep (fun b o e g => ?_) fun _ g => g) (hr3.keep (fun b o e g => ?_) (gU sb2 hp2 ⟨_, hacc⟩))
        · rw [upd_ne (gP b g).2]
          exact sb3 _ _ e (gP b g).1
        · have nb : b ≠ D := fun z => by rw [z, hacc] at g; cases g
          rw [upd_ne nb]
          exact e
      · rcases List.mem_append.mp hrow with h | h
        · exact gd row h
        · rw [List.mem_singleton.mp h]
          exact ⟨lr, g3⟩
    rintro H2 ⟨hp2, sb2, rv, R, hrv, hl, pR, gR⟩
    -- ends
    refine ⟨_, rfl, _, rfl, 1 + ((m0 : Nat) : Int), rfl, by omega, by omega, fun D2 hD2 => ?_⟩
    rw [tn]
    have ap2 := hp2.apart hD2
    have nDD : D ≠ D2 := ne_of_none hrv hD2
    have gD2 : (upd H2 D2 (.lst [])) D2 = some (.lst []) := upd_same
    have gP2 : ∀ b, (upd H2 D2 (.lst [])) b = none → b ≠ p ∧ b ≠ D2 ∧ H2 b = none := fun b e => by
      have nb : b ≠ D2 := fun z => by rw [z, gD2] at e; cases e
      rw [upd_ne nb] at e
      refine ⟨fun z => ?_, nb, e⟩
      obtain ⟨o, h⟩ := hp2.some
      rw [z, h] at e
      cases e
    refine lcs_it [some (.ref p), some (.str sg), some (.int most), some (.ref q), some (.int (1 + ((m0 : Nat) : Int))), some (.ref D), none, none] rfl walk_range
      (fun i H' => PenAt H' p c (n + 1 + 16 * (m0 + 1) + 3 * i) ∧ SameBut p H2 H' ∧ ∃ (acc : List V) (Es : List (List Str)), H' D2 = some (.lst acc) ∧ acc.length = i ∧ Paired (KeyN (upd H2 D2 (.lst [])) H') acc Es ∧ ∀ ks ∈ Es, KeyOk ws ks)
      ⟨hp2.keep (Same.upd hD2), .new hD2, [], [], upd_same, rfl, .nil, fun w hw => nomatch hw⟩ (fun _ _ _ _ => trivial) ?_ ?_
    · rintro i x _ H3 hi ⟨hp3, sb3, acc, Es, hacc, hl3, pa, gd⟩ ⟨rfl, rfl⟩
      refine ⟨rfl, _, rfl, _, rfl, p, c, q, _, ws, rfl, hp3, by omega, sb3 _ _ (sb2 _ _ (sb1 _ _ hq nq) nq) nq, w0, w1, fun t ks H4 ht h4 hm hk2 hkk hp4 sb4 => ?_⟩
      have D4 := sb4 _ _ hacc ap2.1
      have nt : t ≠ D2 := fun z => by rw [z, hacc] at ht; cases ht
      refine ⟨acc, D4, by rw [hl3, sizeLine_eq]; omega, (hp4.put ap2.1 ap2.2).mono (by omega), fun b o e nb => ?_, acc ++ [.ref t], Es ++ [ks], upd_same, by rw [List.length_append, hl3]; rfl, ?_, fun k1 hk1 => ?_⟩
      · rw [upd_ne (ne_of_none e hD2)]
        exact sb4 _ _ (sb3 _ _ e nb) nb
      · refine psnoc (L2.Paired.mapP pa fun _ _ z => z.keep (fun b o e g => ?_) fun _ g => g) ⟨t, rfl, by rw [upd_ne nt]; exact h4, ?_⟩
        · rw [upd_ne (gP2 b g).2.1]
          exact sb4 _ _ e (gP2 b g).1
        · rw [upd_ne nt]
          exact none_back sb3 hp3 ht
      · rcases List.mem_append.mp hk1 with h | h
        · exact gd k1 h
        · rw [List.mem_singleton.mp h]
          exact ⟨hm, hk2, hkk⟩
    rintro H3 ⟨hp3, sb3, ev, Es, hev, hl3, pE, gE⟩
    refine ⟨by show 2 ≤ sizeLine; decide, fun t ht => ?_⟩
    have rD := sb3 _ _ hrv ap.1
    have ntD : D ≠ t := ne_of_none rD ht
    have ntE : D2 ≠ t := ne_of_none hev ht
    have s13 : SameBut p H H3 := (sb1.trans sb2).trans sb3
    have back1 : ∀ b, H1 b = none → H b = none := fun b e => none_back sb1 hp1 e
    have back2 : ∀ b, H2 b = none → H b = none := fun b e => none_back (sb1.trans sb2) hp2 e
    refine k t D D2 rv ev R Es (m0 + 1) _ (by omega) (by omega) upd_same (by rw [upd_ne ntD]; exact rD) ?_ (by rw [upd_ne ntE]; exact hev) ?_ ((Paired.length pR).symm.trans hl) ((Paired.length pE).symm.trans hl3) (fun row hrow => ⟨(gR row hrow).1, fun w hw => ?_⟩) gE (none_back s13 hp3 ht) (back1 D hD) (back2 D2 hD2) ((hp3.keep (Same.upd ht)).mono (by omega)) (s13.trans (.new ht))
    · refine L2.Paired.mapP pR fun _ _ z => z.keep (fun b o e g => ?_) fun b g => ?_
      · have e3 := sb3 _ _ e (gP b g).1
        rw [upd_ne (ne_of_none e3 ht)]
        exact e3
      · have nb := (gP b g).2
        rw [upd_ne nb] at g
        exact back1 b g
    · refine L2.Paired.mapP pE fun _ _ z => z.keep (fun b o e _ => ?_) fun b g => back2 b (gP2 b g).2.2
      rw [upd_ne (ne_of_none e ht)]
      exact e
    · have := (gR row hrow).2 w hw
      rw [show ((m0 + 1 : Nat) : Int) = 1 + ((m0 : Nat) : Int) by omega]
      exact this
end
end Kx

/-! Functions that are handed on: the cells of a waiting frame stand still, each with its object. -/
namespace PinX
open PySem PySem.Spec PyProof.Rows L2 LamX NdefX
/-- the object at c is o -/
def PinO (c : Addr) (o : Obj) : HO := .ext fun h => h.get? c = some o
/-- the heap without these -/
def unp (cs : List Addr) (H : Hp) : Hp := fun b => if b ∈ cs then none else H b
/-- H1, these as in H -/
def rep (cs : List Addr) (H H1 : Hp) : Hp := fun b => if b ∈ cs then H b else H1 b
/-- these stand still in H -/
def Pinned (cs : List Addr) (H : Hp) : Prop := ∀ c ∈ cs, ∃ o, H c = some (PinO c o)
theorem unp_in {cs : List Addr} {H : Hp} {b : Addr} (h : b ∈ cs) : unp cs H b = none := if_pos h
theorem unp_out {cs : List Addr} {H : Hp} {b : Addr} (h : b ∉ cs) : unp cs H b = H b := if_neg h
theorem rep_in {cs : List Addr} {H H1 : Hp} {b : Addr} (h : b ∈ cs) : rep cs H H1 b = H b := if_pos h
theorem rep_out {cs : List Addr} {H H1 : Hp} {b : Addr} (h : b ∉ cs) : rep cs H H1 b = H1 b := if_neg h
theorem Pinned.out {cs : List Addr} {H : Hp} (p : Pinned cs H) {b : Addr} {o : HO} (e : H b = some o) (n : ∀ c u, o ≠ PinO c u) : b ∉ cs := fun hb => by
  obtain ⟨u, z⟩ := p b hb
  rw [e] at z
  exact n _ _ (Option.some.inj z)
theorem Pinned.none {cs : List Addr} {H : Hp} (p : Pinned cs H) {b : Addr} (e : H b = none) : b ∉ cs := fun hb => by
  obtain ⟨u, z⟩ := p b hb
  rw [e] at z
  cases z
/-- what held goes on to hold where the heaps agree on all but ext's -/
theorem hok_less {P : Program} {w : World} {cs : List Addr} {H : Hp} {h : Heap} (p : Pinned cs H) (k : HOk P w H h) : HOk P w (unp cs H) h := fun a o e => by
  by_cases ha : a ∈ cs
  · rw [unp_in ha] at e; cases e
  · rw [unp_out ha] at e
    refine (k a o e).stay (fun _ _ _ q => q) (fun b q => ?_) fun b xs q => ?_
    · rw [unp_out (p.out q fun c u z => by cases z)]; exact q
    · rw [unp_out (p.out q fun c u z => by cases z)]; exact q
theorem hok_more {P : Program} {w : World} {cs : List Addr} {H H1 : Hp} {h' : Heap} (p : Pinned cs H) (n : ∀ c ∈ cs, H1 c = none) (z : ∀ c ∈ cs, ∀ o, H c = some (PinO c o) → h'.get? c = some o) (k : HOk P w H1 h') : HOk P w (rep cs H H1) h' := fun a o e => by
  by_cases ha : a ∈ cs
  · rw [rep_in ha] at e
    obtain ⟨u, hu⟩ := p a ha
    rw [hu] at e
    cases e
    have hz := z a ha u hu
    exact ⟨hz, ⟨u, hz⟩, fun h1 h2 q st => st _ q⟩
  · rw [rep_out ha] at e
    have out : ∀ {b : Addr} {u : HO}, H1 b = some u → b ∉ cs := fun {b u} q hb => by
      rw [n b hb] at q; cases q
    refine (k a o e).stay (fun _ _ _ q => q) (fun b q => ?_) fun b xs q => ?_
    · rw [rep_out (out q)]; exact q
    · rw [rep_out (out q)]; exact q
section
variable {P : Program} {w : World} {K : PySem.W.Frag} {mg : Str → Option Value} {base : Heap} {A : Around} {outer : List Env} {s : Shared} {H : Hp} {cs : List Addr}
/-- the callee's start, without the pins -/
theorem env_less (p : Pinned cs H) (e : Env0 P w K mg base A outer s H) : Env0 P w K mg base A outer s (unp cs H) :=
  ⟨e.frames, e.mod, fun b o q => ⟨(e.bs b o q).1, by rw [unp_out (p.none (e.bs b o q).2)]; exact (e.bs b o q).2⟩, e.bsz, e.funs, fun b hb => by rw [unp_out (p.none (e.frf b hb))]; exact e.frf b hb, hok_less p e.hok, e.bare⟩
/-- the callee's end, with the pins again -/
theorem ce_more {Q : VK} {u : Value} {s' : Shared} (p : Pinned cs H) (e : Env0 P w K mg base A outer s H) (h : CE outer P w (unp cs H) s (fun v H1 => (∀ c ∈ cs, H1 c = none) → Q v (rep cs H H1)) u s') : CE outer P w H s Q u s' := by
  obtain ⟨v, H1, os, bare, un, hok, r, q⟩ := h
  have at_ : ∀ c ∈ cs, ∀ o, H c = some (PinO c o) → s.heap.get? c = some o := fun c hc o z => (e.hok c _ z).1
  have ex : ∀ c ∈ cs, ∃ o, s.heap.get? c = some o := fun c hc => by
    obtain ⟨o, z⟩ := p c hc
    exact ⟨o, at_ c hc o z⟩
  have n1 : ∀ c ∈ cs, H1 c = none := fun c hc => by
    obtain ⟨o, z⟩ := ex c hc
    exact un.free c o z (unp_in hc) (by simp)
  have nf : ∀ c ∈ cs, c ∉ frs outer := fun c hc hb => by
    obtain ⟨o, z⟩ := p c hc
    rw [e.frf c hb] at z
    cases z
  have st : ∀ c ∈ cs, ∀ o, H c = some (PinO c o) → s'.heap.get? c = some o := fun c hc o z => un.keep c o (at_ c hc o z) (unp_in hc) (nf c hc) (by simp)
  have mid : ∀ {b : Addr} {u : HO}, (∀ c v, u ≠ PinO c v) → H b = some u → b ∉ cs ∧ unp cs H b = some u := fun {b u} n z => ⟨p.out z n, by rw [unp_out (p.out z n)]; exact z⟩
  refine ⟨v, rep cs H H1, os, bare, ⟨fun b o z n hf hx => ?_, fun b o z n hf hx => ?_, fun b o z n hx => ?_, un.there, fun b xs z => ?_, fun b o u z => ?_, fun b ps z => ?_⟩, hok_more p n1 st hok, r, q n1⟩
  · exact un.keep b o z (by rw [unp_out (p.none n)]; exact n) hf hx
  · exact un.slot b o z (by rw [unp_out (p.none n)]; exact n) hf hx
  · rw [rep_out (p.none n)]
    exact un.free b o z (by rw [unp_out (p.none n)]; exact n) hx
  · obtain ⟨a, c⟩ := mid (fun c v y => by cases y) z
    rw [rep_out a]
    exact un.tups b xs c
  · obtain ⟨a, c⟩ := mid (fun c v y => by cases y) z
    rw [rep_out a]
    exact un.frzs b o u c
  · obtain ⟨a, c⟩ := mid (fun c v y => by cases y) z
    rw [rep_out a]
    exact un.tbls b ps c
end
/-! ### a function with pinned cells -/
def cells (F : NF) : List Addr := F.cl.map (·.2)
/-- the function F at f; its captured cells stand still and hold ws -/
structure CloAt (H : Hp) (f : Addr) (F : NF) (fr : List Str) (ws : List (Option V)) : Prop where
  fn : H f = some (FnO f F)
  code : H F.c = some (CodeO F.c F.qual)
  len : ws.length = fr.length
  all : ∀ c ∈ cells F, ∃ o v, H c = some (PinO c o) ∧ o.data = .cell v
  inj : ∀ x y c, F.cl.lookup x = some c → F.cl.lookup y = some c → x = y
  has : ∀ (i : Nat) (y : Str), fr[i]? = some y → ∃ c, F.cl.lookup y = some c ∧ ∀ v, ws[i]? = some (some v) → ∃ o u, L2.RelV v u ∧ H c = some (PinO c o) ∧ o.data = .cell (some u)
theorem CloAt.pin {H : Hp} {f : Addr} {F : NF} {fr : List Str} {ws : List (Option V)} (c : CloAt H f F fr ws) : Pinned (cells F) H := fun a ha => by
  obtain ⟨o, v, z, _⟩ := c.all a ha
  exact ⟨o, z⟩
theorem CloAt.keep {H H' : Hp} {f : Addr} {F : NF} {fr : List Str} {ws : List (Option V)} (e : ∀ b o, (∃ φ, o = HO.ext φ) → H b = some o → H' b = some o) (c : CloAt H f F fr ws) : CloAt H' f F fr ws :=
  ⟨e _ _ ⟨_, rfl⟩ c.fn, e _ _ ⟨_, rfl⟩ c.code, c.len, fun a ha => by
    obtain ⟨o, v, z, k⟩ := c.all a ha
    exact ⟨o, v, e _ _ ⟨_, rfl⟩ z, k⟩, c.inj, fun i y hy => by
    obtain ⟨a, ha, k⟩ := c.has i y hy
    exact ⟨a, ha, fun v hv => by
      obtain ⟨o, u, r, z, d⟩ := k v hv
      exact ⟨o, u, r, e _ _ ⟨_, rfl⟩ z, d⟩⟩⟩
theorem CloAt.same {H H' : Hp} {f : Addr} {F : NF} {fr : List Str} {ws : List (Option V)} (e : ∀ b o, H b = some o → H' b = some o) (c : CloAt H f F fr ws) : CloAt H' f F fr ws := c.keep fun b o _ z => e b o z
theorem fn_out {H : Hp} {f : Addr} {F : NF} {fr : List Str} {ws : List (Option V)} {h : Heap} {P : Program} {w : World} (k : HOk P w H h) (c : CloAt H f F fr ws) : f ∉ cells F ∧ F.c ∉ cells F := by
  refine ⟨fun hf => ?_, fun hc => ?_⟩
  · obtain ⟨o, v, z, d⟩ := c.all f hf
    have hz : h.get? f = some o := (k f _ z).1
    obtain ⟨od, sl, doc, pm, ctv, ho⟩ := fnO_at k c.fn
    rw [hz] at ho
    cases ho
    cases d
  · obtain ⟨o, v, z, d⟩ := c.all F.c hc
    have hz : h.get? F.c = some o := (k F.c _ z).1
    obtain ⟨⟨oc, vs, t, h1, h2, h3⟩, _, _⟩ := k F.c _ c.code
    rw [hz] at h1
    cases h1
    rw [d] at h2
    cases h2
section
variable {P : Program} {w : World} {K : PySem.W.Frag} {mg : Str → Option Value} {base : Heap} {A : Around} {outer : List Env} {s : Shared} {H : Hp} {cs : List Addr}
theorem cell_mem {F : NF} {y : Str} {c : Addr} (h : F.cl.lookup y = some c) : c ∈ cells F := List.mem_map.mpr ⟨(y, c), PySem.mem_of_lookup h, rfl⟩
theorem clo_cells {f : Addr} {F : NF} {fr : List Str} {ws : List (Option V)} (k : HOk P w H s.heap) (c : CloAt H f F fr ws) : CellsAt F.cl fr ws s.heap (unp (cells F) H) :=
  ⟨c.len, fun y a e => ⟨unp_in (cell_mem e), by
    obtain ⟨o, v, z, d⟩ := c.all a (cell_mem e)
    exact ⟨v, o, (k a _ z).1, d⟩⟩, c.inj, fun i y hy => by
    obtain ⟨a, ha, g⟩ := c.has i y hy
    exact ⟨a, ha, fun v hv => by
      obtain ⟨o, u, r, z, d⟩ := g v hv
      exact ⟨u, r, o, (k a _ z).1, d⟩⟩⟩
/-- the promise of a function whose cells stand still -/
theorem clo_run {k : Nat} {f : Addr} {F : NF} {ps fr : List Str} {ws : List (Option V)} {sp : List (Option V) → Sp} {us : List Value} {vs : List V} {Q : VK} (Fn : NOk P w K mg base CX0 k f F ps fr sp) (hr : Room k A) (e : Env0 P w K mg base A outer s H) (c : CloAt H f F fr ws) (r : Vals vs us)
    (q : sp ws vs (unp (cells F) H) (fun v H2 => (∀ a ∈ cells F, H2 a = none) → Q v (rep (cells F) H H2)) E0) : codeAny (model P w) A (.call (.ref f) ⟨us, []⟩) (CR CX0 outer P w H s Q E0) s := by
  obtain ⟨o1, o2⟩ := fn_out e.hok c
  refine codeAny_mono (Fn.run A outer s (unp (cells F) H) us vs ws _ E0 hr (env_less c.pin e) (by rw [unp_out o1]; exact c.fn) (by rw [unp_out o2]; exact c.code) (clo_cells e.hok c) r q) fun r s' hq => ?_
  cases r with
  | error e' => exact hq
  | ok fl =>
    cases fl with
    | ret u => exact ce_more c.pin e hq
    | next => exact hq
    | brk => exact hq
    | cont => exact hq
end
/-- f(..), f a name that holds a function whose cells stand still -/
def tCallC (P : Program) (w : World) (K : PySem.W.Frag) (mg : Str → Option Value) (base : Heap) (k i : Nat) (t : TA) : TE := fun σ H Q => ∃ (f : Addr) (F : NF) (ps fr : List Str) (ws : List (Option V)) (sp : List (Option V) → Sp), σ[i]? = some (some (.ref f)) ∧ H f = some (FnO f F) ∧ NOk P w K mg base CX0 k f F ps fr sp ∧
  t σ H fun vs H1 => CloAt H1 f F fr ws ∧ sp ws vs (unp (cells F) H1) (fun v H2 => (∀ a ∈ cells F, H2 a = none) → Q v (rep (cells F) H1 H2)) E0
section
variable {X : Cx} {i j k : Nat} {x : Str} {t : TA} {e : Expr} {es : List Expr} {p pos : Pos}
theorem pe_callc (hr : Room j X.A) (hk : k ≤ j) (hN : X.N[i]? = some x) (hv : Vis X.env.scope x) (ha : PA X (e :: es) t)
    (hd : (x == ("__debug__" : Str)) = false := by decide)
    (hcd : (x == ("__classdict__" : Str)) = false := by decide) (he : starEach (e :: es) X.env = (false, eval e X.env) :: starEach es X.env := by rfl)
    (hpl : (backTo pos (starEach es X.env)).any (·.1) = false := by rfl) :
    PE X (.Call (.Name x p) (e :: es) [] pos) (tCallC X.prog X.w X.K X.mg X.base k i t) := by
  refine ⟨fun pins s σ H Q I h => ?_⟩
  obtain ⟨f, F, ps, fr, ws, sp, hs, hf, Fn, ht⟩ := h
  have slot := (pe_var (pos := p) hN hv hd hcd).run pins s σ H (fun v H1 => v = .ref f ∧ H1 = H) I ⟨.ref f, hs, rfl, rfl⟩
  refine wpAny_Call_Name_kw (thn slot ?_)
  rintro u s1 ⟨v, H1, I1, r1, q1⟩
  obtain ⟨ev, eH⟩ := q1
  subst ev
  rw [eH] at I1
  obtain rfl : u = Value.ref f := r1
  refine PySem.W.callWith_F (first := []) (fnAt_of I1 hf) (thn (ha.run pos pins s1 σ H _ I1 ht) fun us s2 ⟨vs, H2, I2, r, c, q⟩ => ⟨fnAt_of I2 c.fn, ?_⟩) he hpl
  show wpAny _ _ (call (.ref f) us) _ _ _
  refine wpAny_call (codeAny_mono (clo_run Fn (hr.mono hk) I2.env0 c r q) fun r s' hq => ?_)
  cases r with
  | error e' => exact False.elim hq
  | ok fl =>
    cases fl with
    | ret u => exact I2.after hq
    | next => exact False.elim hq
    | brk => exact False.elim hq
    | cont => exact False.elim hq
end
/-! ### a call that hands functions of this frame on -/
def pinA (cs : List Addr) (h : Heap) (H : Hp) : Hp := fun b => if b ∈ cs then (h.get? b).map (PinO b) else H b
theorem pinA_in {cs : List Addr} {h : Heap} {H : Hp} {b : Addr} {o : Obj} (m : b ∈ cs) (e : h.get? b = some o) : pinA cs h H b = some (PinO b o) := by
  unfold pinA
  rw [if_pos m, e] <;> rfl
theorem pinA_out {cs : List Addr} {h : Heap} {H : Hp} {b : Addr} (m : b ∉ cs) : pinA cs h H b = H b := if_neg m
/-- the heap of the callee: the cells cs of the running frame stand still -/
structure PinsP (X : Cx) (σ : L2.St) (cs : List Addr) (H1 Hp : L2.Hp) : Prop where
  out : ∀ b, b ∉ cs → Hp b = H1 b
  new : ∀ c ∈ cs, H1 c = none
  pin : Pinned cs Hp
  dat : ∀ c ∈ cs, ∃ o v, Hp c = some (PinO c o) ∧ o.data = .cell v
  clo : ∀ (f : Addr) (F : NF) (fr : List Str) (js : List Nat), Caps X F.cl fr js → (∀ p ∈ F.cl, X.env.cells.lookup p.1 = some p.2) → H1 f = some (FnO f F) → H1 F.c = some (CodeO F.c F.qual) → CloAt Hp f F fr (js.map (slotAt σ))
theorem PinsP.at_ {X : Cx} {σ : L2.St} {cs : List Addr} {H1 Hp : L2.Hp} (p : PinsP X σ cs H1 Hp) {b : Addr} {o : HO} (e : H1 b = some o) : Hp b = some o := by
  rw [p.out b fun z => by rw [p.new b z] at e; cases e]
  exact e
theorem PinsP.kept {X : Cx} {σ : L2.St} {cs : List Addr} {H1 Hp H2 : L2.Hp} (p : PinsP X σ cs H1 Hp) (e : ∀ b o, Hp b = some o → H2 b = some o) : ∀ c ∈ cs, H2 c = Hp c := fun c hc => by
  obtain ⟨o, z⟩ := p.pin c hc
  rw [z, e _ _ z]
theorem PinsP.back {X : Cx} {σ : L2.St} {cs : List Addr} {H1 Hp H2 : L2.Hp} (p : PinsP X σ cs H1 Hp) (e : ∀ b o, Hp b = some o → H2 b = some o) : ∀ b o, H1 b = some o → unp cs H2 b = some o := fun b o z => by
  rw [unp_out fun m => by rw [p.new b m] at z; cases z]
  exact e _ _ (p.at_ z)
theorem PinsP.keptN {X : Cx} {σ : L2.St} {cs : List Addr} {H1 Hp H2 : L2.Hp} (p : PinsP X σ cs H1 Hp) (e : ExtN Hp H2) : ∀ c ∈ cs, H2 c = Hp c := fun c hc => by
  obtain ⟨o, z⟩ := p.pin c hc
  rw [z, e _ _ z fun ps y => by cases y]
theorem PinsP.backN {X : Cx} {σ : L2.St} {cs : List Addr} {H1 Hp H2 : L2.Hp} (p : PinsP X σ cs H1 Hp) (e : ExtN Hp H2) : ExtN H1 (unp cs H2) := fun b o z nt => by
  rw [unp_out fun m => by rw [p.new b m] at z; cases z]
  exact e _ _ (p.at_ z) nt
theorem PinsP.gotN {X : Cx} {σ : L2.St} {cs : List Addr} {H1 Hp H2 : L2.Hp} (p : PinsP X σ cs H1 Hp) (e : ExtN Hp H2) {a : Addr} {o : HO} (h : H2 a = some o) (n : ∀ c u, o ≠ PinO c u) : unp cs H2 a = some o := by
  rw [unp_out fun m => ?_]
  · exact h
  · obtain ⟨u, z⟩ := p.pin a m
    rw [p.keptN e a m, z] at h
    exact n _ _ (Option.some.inj h).symm
/-- a cell is no code object -/
theorem pin_code {c : Addr} {o : Obj} {v : Option Value} {q : Str} (d : o.data = .cell v) : PinO c o ≠ CodeO c q := fun e => by
  have e1 : (fun h : Heap => h.get? c = some o) = fun h : Heap => ∃ (oc : Obj) (vs : Array Value) (t : Tok), h.get? c = some oc ∧ oc.data = .fields vs ∧ vs[1]? = some (.str q t) := HO.ext.inj e
  have g : Heap.get? { objs := Array.replicate (c + 1) o } c = some o := by
    unfold Heap.get?
    have h : (Array.replicate (c + 1) o)[c]? = some o := by
      rw [Array.getElem?_replicate, if_pos (Nat.lt_succ_self c)]
    simp only [h]
    obtain ⟨a, b, dt, sl⟩ := o
    cases d
    rfl
  obtain ⟨oc, vs, t, h1, h2, _⟩ := (congrFun e1 _).mp g
  rw [g] at h1
  cases h1
  rw [d] at h2
  cases h2
theorem PinsP.tabs {X : Cx} {σ : L2.St} {cs : List Addr} {H1 Hp H2 : L2.Hp} {T : List NTab} (p : PinsP X σ cs H1 Hp) (e : ExtN Hp H2) (t : TabsN T H2) : TabsN T (unp cs H2) := fun q hq => by
  obtain ⟨ps, h1, h2, h3⟩ := t q hq
  refine ⟨ps, p.gotN e h1 (fun c u y => by cases y), h2, fun pos cv hc => ?_⟩
  obtain ⟨c, e1, e2⟩ := h3 pos cv hc
  refine ⟨c, e1, ?_⟩
  rw [unp_out fun m => ?_]
  · exact e2
  · obtain ⟨o, v, z, d⟩ := p.dat c m
    rw [p.keptN e c m, z] at e2
    exact pin_code d (Option.some.inj e2)
/-- what is found behind, and is no pin -/
theorem PinsP.got {X : Cx} {σ : L2.St} {cs : List Addr} {H1 Hp H2 : L2.Hp} (p : PinsP X σ cs H1 Hp) (e : ∀ b o, Hp b = some o → H2 b = some o) {a : Addr} {o : HO} (h : H2 a = some o) (n : ∀ c u, o ≠ PinO c u) : unp cs H2 a = some o := by
  rw [unp_out fun m => ?_]
  · exact h
  · obtain ⟨u, z⟩ := p.pin a m
    rw [e _ _ z] at h
    exact n _ _ (Option.some.inj h).symm
section
variable {P : Program} {w : World} {K : PySem.W.Frag} {mg : Str → Option Value} {base : Heap} {A : Around} {outer : List Env} {s : Shared} {H : L2.Hp} {cs : List Addr}
theorem pinA_pinned {h : Heap} (ex : ∀ c ∈ cs, ∃ o, h.get? c = some o) : Pinned cs (pinA cs h H) := fun c hc => by
  obtain ⟨o, z⟩ := ex c hc
  exact ⟨o, pinA_in hc z⟩
theorem env_pin (ex : ∀ c ∈ cs, ∃ o, s.heap.get? c = some o) (nH : ∀ c ∈ cs, H c = none) (nb : ∀ c ∈ cs, base.get? c = none) (nf : ∀ c ∈ cs, c ∉ frs outer) (e : Env0 P w K mg base A outer s H) : Env0 P w K mg base A outer s (pinA cs s.heap H) := by
  refine ⟨e.frames, e.mod, fun b o q => ⟨(e.bs b o q).1, ?_⟩, e.bsz, e.funs, fun b hb => ?_, fun a o z => ?_, e.bare⟩
  · rw [pinA_out fun m => by rw [nb b m] at q; cases q]
    exact (e.bs b o q).2
  · rw [pinA_out fun m => nf b m hb]
    exact e.frf b hb
  · by_cases ha : a ∈ cs
    · obtain ⟨u, hu⟩ := ex a ha
      rw [pinA_in ha hu] at z
      cases z
      exact ⟨hu, ⟨u, hu⟩, fun h1 h2 q st => st _ q⟩
    · rw [pinA_out ha] at z
      have out : ∀ {b : Addr} {u : HO}, H b = some u → b ∉ cs := fun {b u} q hb => by
        rw [nH b hb] at q; cases q
      refine (e.hok a o z).stay (fun _ _ _ q => q) (fun b q => ?_) fun b xs q => ?_
      · rw [pinA_out (out q)]; exact q
      · rw [pinA_out (out q)]; exact q
theorem ce_less {Q : VK} {u : Value} {s' : Shared} (ex : ∀ c ∈ cs, ∃ o, s.heap.get? c = some o) (nH : ∀ c ∈ cs, H c = none) (nf : ∀ c ∈ cs, c ∉ frs outer)
    (h : CE outer P w (pinA cs s.heap H) s (fun v H2 => (∀ c ∈ cs, H2 c = pinA cs s.heap H c) ∧ Q v (unp cs H2)) u s') : CE outer P w H s Q u s' := by
  obtain ⟨v, H2, os, bare, un, hok, r, st, q⟩ := h
  have pn : Pinned cs H2 := fun c hc => by
    obtain ⟨o, z⟩ := ex c hc
    exact ⟨o, (st c hc).trans (pinA_in hc z)⟩
  have mid : ∀ {b : Addr} {u : HO}, H b = some u → b ∉ cs ∧ pinA cs s.heap H b = some u := fun {b u} z => by
    have n : b ∉ cs := fun m => by rw [nH b m] at z; cases z
    exact ⟨n, by rw [pinA_out n]; exact z⟩
  refine ⟨v, unp cs H2, os, bare, ⟨fun b o z n hf hx => ?_, fun b o z n hf hx => ?_, fun b o z n hx => ?_, un.there, fun b xs z => ?_, fun b o u z => ?_, fun b ps z => ?_⟩, hok_less pn hok, r, q⟩
  · by_cases hb : b ∈ cs
    · exact (hok b _ ((st b hb).trans (pinA_in hb z))).1
    · exact un.keep b o z (by rw [pinA_out hb]; exact n) hf hx
  · exact un.slot b o z (by rw [pinA_out fun m => nf b m hf]; exact n) hf hx
  · by_cases hb : b ∈ cs
    · exact unp_in hb
    · rw [unp_out hb]
      exact un.free b o z (by rw [pinA_out hb]; exact n) hx
  · obtain ⟨a, c⟩ := mid z
    rw [unp_out a]
    exact un.tups b xs c
  · obtain ⟨a, c⟩ := mid z
    rw [unp_out a]
    exact un.frzs b o u c
  · obtain ⟨a, c⟩ := mid z
    rw [unp_out a]
    exact un.tbls b ps c
end
/-- f(..), f a def of the module, with functions of this frame among the arguments -/
def tCallP (X : Cx) (cs : List Addr) (sp : Sp) (t : TA) : TE := fun σ H Q => t σ H fun vs H1 => ∀ Hp, PinsP X σ cs H1 Hp → sp vs Hp (fun v H2 => (∀ c ∈ cs, H2 c = Hp c) ∧ Q v (unp cs H2)) E0
section
variable {X : Cx} {k : Nat} {f : Addr} {fd : FuncData} {ps : List Str} {sp : Sp} {x : Str} {p pos : Pos} {e : Expr} {es : List Expr} {t : TA} {cs : List Addr}
theorem own_cells {pins : List (Addr × Obj)} {σ : L2.St} {H : L2.Hp} {s : Shared} (I : Inv X pins σ H s) (h1 : ∀ c ∈ cs, ∃ y, X.fn y = true ∧ X.env.cells.lookup y = some c) :
    (∀ c ∈ cs, ∃ o v, s.heap.get? c = some o ∧ o.data = .cell v) ∧ (∀ c ∈ cs, H c = none) ∧ (∀ c ∈ cs, X.base.get? c = none) ∧ ∀ c ∈ cs, c ∉ frs X.stack := by
  have ex : ∀ c ∈ cs, ∃ o v, s.heap.get? c = some o ∧ o.data = .cell v := fun c hc => by
    obtain ⟨y, _, hy⟩ := h1 c hc
    obtain ⟨v, o, ho, d⟩ := I.cell y c hy
    exact ⟨o, v, ho, d⟩
  have big : ∀ c ∈ cs, X.s_0.heap.objs.size ≤ c := fun c hc => by
    obtain ⟨y, hf, hy⟩ := h1 c hc
    exact I.ok.cab y c hf hy
  refine ⟨ex, fun c hc => ?_, fun c hc => ?_, fun c hc hb => ?_⟩
  · obtain ⟨y, _, hy⟩ := h1 c hc
    exact I.freeC y c hy
  · cases e : X.base.get? c with
    | none => rfl
    | some o => exact absurd (Nat.lt_of_lt_of_le (Heap.lt_size e) (Nat.le_trans I.ok.bsz (big c hc))) (Nat.lt_irrefl _)
  · have no : c ∉ X.fs := fun hb => by
      obtain ⟨_, o, ho, _⟩ := I.ok.funs.mem hb
      exact absurd (Nat.lt_of_lt_of_le (Heap.lt_size ho) (big c hc)) (Nat.lt_irrefl _)
    rcases I.ok.stk with z | ⟨z, zf⟩
    · rw [z] at hb
      exact no hb
    · rw [z] at hb
      unfold frs at hb
      rw [List.filterMap_cons, zf] at hb
      rcases List.mem_cons.mp hb with rfl | hb
      · obtain ⟨o, v, ho, d⟩ := ex _ hc
        obtain ⟨m, hn, _⟩ := I.loc
        obtain ⟨o', es, ep, ho', d', _⟩ := hn
        rw [ho] at ho'
        cases ho'
        rw [d] at d'
        cases d'
      · exact no hb
theorem pe_callP (F : FnOk X.prog X.w X.K X.mg X.base CX0 k f fd ps sp) (hr : Room k X.A) (hg : Gl X x) (hm : X.mg x = some (.ref f)) (hk : PySem.W.keepIn X.K (.ref f) = true) (hb : Binds X.K fd ps [])
    (h1 : ∀ c ∈ cs, ∃ y, X.fn y = true ∧ X.env.cells.lookup y = some c) (h2 : ∀ y c, X.env.cells.lookup y = some c → c ∈ cs)
    (ha : PA X (e :: es) t)
    (hdb : (x == ("__debug__" : Str)) = false := by decide)
    (he : starEach (e :: es) X.env = (false, eval e X.env) :: starEach es X.env := by rfl)
    (hpl : (backTo pos (starEach es X.env)).any (·.1) = false := by rfl) :
    PE X (.Call (.Name x p) (e :: es) [] pos) (tCallP X cs sp t) := by
  refine ⟨fun pins s σ H Q I h => ?_⟩
  have args := ha.run pos pins s σ H _ I h
  refine wpAny_Call_Name_kw (ld_glob I hg hm (PySem.W.callWith_K (h₀ := X.base) I.ok.mod.kin hk (thn args ?_) he hpl) hdb)
  rintro us s1 ⟨vs, H1, I1, r, q⟩
  refine ⟨I1.kIn, ?_⟩
  obtain ⟨ex, nH, nb, nf⟩ := own_cells I1 h1
  have ex' : ∀ c ∈ cs, ∃ o, s1.heap.get? c = some o := fun c hc => by
    obtain ⟨o, _, z, _⟩ := ex c hc
    exact ⟨o, z⟩
  have q := q (pinA cs s1.heap H1) ⟨fun b hb => pinA_out hb, nH, pinA_pinned ex', fun c hc => (by obtain ⟨o, v, z, d⟩ := ex c hc; exact ⟨o, v, pinA_in hc z, d⟩), fun g G fr js cp sub hg hc => by
    have C := cells_of I1 cp
    refine ⟨by rw [pinA_out fun m => by rw [nH g m] at hg; cases hg]; exact hg, by rw [pinA_out fun m => by rw [nH G.c m] at hc; cases hc]; exact hc, C.len, fun c hc => ?_, C.inj, fun i y hy => ?_⟩
    · obtain ⟨⟨y, c'⟩, hp, rfl⟩ := List.mem_map.mp hc
      have hm := h2 y c' (sub _ hp)
      obtain ⟨o, v, z, d⟩ := ex c' hm
      exact ⟨o, v, pinA_in hm z, d⟩
    · obtain ⟨c, hc, hv⟩ := C.has i y hy
      refine ⟨c, hc, fun v ev => ?_⟩
      obtain ⟨u, ru, o, ho, d⟩ := hv v ev
      exact ⟨o, u, ru, pinA_in (h2 y c (cp.sub y c hc)) ho, d⟩⟩
  have hl : us.length = ps.length := by rw [← r.length]; exact F.len _ _ _ _ q
  have hb1 : BindsTo s1 fd ⟨us, []⟩ (ps.zip us) := by
    have z := hb s1 us I1.kIn (by rw [List.append_nil]; exact hl)
    rw [List.append_nil] at z
    exact z
  refine wpAny_call (codeAny_mono (F.run X.A X.stack s1 _ ⟨us, []⟩ us vs _ E0 hr (env_pin ex' nH nb nf I1.env0) hb1 r q) fun r s' hq => ?_)
  cases r with
  | error e => exact False.elim hq
  | ok fl =>
    cases fl with
    | ret u => exact I1.after (ce_less ex' nH nf hq)
    | next => exact False.elim hq
    | brk => exact False.elim hq
    | cont => exact False.elim hq
end
end PinX

/-! defs that make functions and hand them on -/
namespace PinX
open PySem PySem.Spec PyProof.Rows L2 LamX NdefX
/-- a def of the text, its code object at c -/
structure FunC (K : PySem.W.Frag) (x qual : Str) (st : Stmt) (f : Addr) (fd : FuncData) (c : Addr) : Prop where
  ex : ∃ (oc : Value) (od : Option Addr) (kV doc pm : Value) (an : Option Addr) (ct : Value) (osl : Array (Option Value)),
    fd = PySem.W.fnOf x qual (defArgs st) (defBody st) (defScope st) .none kV doc pm an (.ref c) ct ∧ K.lookup f = some ⟨oc, od, .func fd, osl⟩ ∧ PySem.W.codeIn K (.ref c) qual = true
  kp : PySem.W.keepIn K (.ref f) = true
section
variable {P : Program} {w : World} {K : PySem.W.Frag} {mg : Str → Option Value} {base : Heap}
theorem FunC.fn {x qual : Str} {st : Stmt} {f : Addr} {fd : FuncData} {c : Addr} (F : FunC K x qual st f fd c) : Fun K x qual st f fd := by
  obtain ⟨oc, od, kV, doc, pm, an, ct, osl, e, lk, hcd⟩ := F.ex
  exact ⟨⟨oc, od, kV, doc, pm, an, .ref c, ct, osl, e, lk, hcd⟩, F.kp⟩
theorem FunC.ok {x qual : Str} {st : Stmt} {f : Addr} {fd : FuncData} {c : Addr} {N ps : List Str} {k : Nat} {sp : Sp} (F : FunC K x qual st f fd c) (S : FnScope N ps (defScope st)) (len : ∀ vs H Q E, sp vs H Q E → vs.length = ps.length)
    (hbody : ∀ (A : Around) (outer : List Env) (s : Shared) (H : Hp) (vs : List V) (Q : VK) (E : XK), Room k (A.deeper (envOfC qual (defScope st) s.heap.objs.size f (.ref c))) → sp vs H Q E →
      ∃ t, PSs (cxOf CX0 P w K mg base N qual (defScope st) f (.ref c) A outer s H E).nox (defBody st) t ∧ t { nx := fun _ H' => Q .non H', rt := Q } (start N vs) H) : FnOk P w K mg base CX0 (k + 1) f fd ps sp := by
  obtain ⟨oc, od, kV, doc, pm, an, ct, osl, rfl, lk, hcd⟩ := F.ex
  refine fn_of lk hcd S len fun A outer s H vs Q E hr hsp => ?_
  obtain ⟨t, h, q⟩ := hbody A outer s H vs Q E hr hsp
  exact ⟨t, h.nox, q⟩
theorem FunC.okX {x qual : Str} {st : Stmt} {f : Addr} {fd : FuncData} {c : Addr} {N ps : List Str} {k : Nat} {sp : Sp} (F : FunC K x qual st f fd c) (S : FnScope N ps (defScope st)) (len : ∀ vs H Q E, sp vs H Q E → vs.length = ps.length)
    (hbody : ∀ (A : Around) (outer : List Env) (s : Shared) (H : Hp) (vs : List V) (Q : VK) (E : XK), Room k (A.deeper (envOfC qual (defScope st) s.heap.objs.size f (.ref c))) → sp vs H Q E →
      ∃ t, PSs (cxOf (L2.CX P w) P w K mg base N qual (defScope st) f (.ref c) A outer s H E) (defBody st) t ∧ t { nx := fun _ H' => Q .non H', rt := Q } (start N vs) H) : FnOk P w K mg base (L2.CX P w) (k + 1) f fd ps sp := by
  obtain ⟨oc, od, kV, doc, pm, an, ct, osl, rfl, lk, hcd⟩ := F.ex
  exact fn_of lk hcd S len fun A outer s H vs Q E hr hsp => hbody A outer s H vs Q E hr hsp
end
/-- the addresses of cells -/
theorem cells_at {cl : List (Str × Addr)} (nd : (cl.map (·.1)).Nodup) : ∀ c ∈ cl.map (·.2), ∃ y, cl.lookup y = some c := by
  induction cl with
  | nil => intro c h; cases h
  | cons p cl ih =>
    intro c h
    obtain ⟨y, a⟩ := p
    rw [List.map_cons] at nd h
    rcases List.mem_cons.mp h with rfl | h
    · exact ⟨y, by simp [List.lookup]⟩
    · obtain ⟨z, hz⟩ := ih (List.nodup_cons.mp nd).2 c h
      refine ⟨z, ?_⟩
      have ne : z ≠ y := fun e => (List.nodup_cons.mp nd).1 (by rw [← e]; exact List.mem_map.mpr ⟨(z, c), PySem.mem_of_lookup hz, rfl⟩)
      have : (z == y) = false := by simpa using ne
      simp [List.lookup, this, hz]
theorem cells_in {cl : List (Str × Addr)} : ∀ y c, cl.lookup y = some c → c ∈ cl.map (·.2) := fun y c h => List.mem_map.mpr ⟨(y, c), PySem.mem_of_lookup h, rfl⟩
/-- called with vs in a heap that has all of H it comes to a value as R tells -/
def CanCall (P : Program) (w : World) (K : PySem.W.Frag) (mg : Str → Option Value) (base : Heap) (k : Nat) (H : Hp) (v : V) (vs : List V) (R : Hp → V → Prop) : Prop :=
  ∃ (f : Addr) (F : NdefX.NF) (ps fr : List Str) (ws : List (Option V)) (sp : List (Option V) → Sp), v = .ref f ∧ CloAt H f F fr ws ∧ NdefX.NOk P w K mg base CX0 k f F ps fr sp ∧
  ∀ H1, ExtN H H1 → ∀ Q : VK, (∀ z H2, Same H1 H2 → R H2 z → Q z H2) → sp ws vs (unp (cells F) H1) (fun z H2 => (∀ a ∈ cells F, H2 a = none) → Q z (rep (cells F) H1 H2)) E0
section
variable {P : Program} {w : World} {K : PySem.W.Frag} {mg : Str → Option Value} {base : Heap}
/-- a function of the frame, as the callee of a call that hands it on may call it -/
theorem can_made {X : Cx} {σ : L2.St} {cs : List Addr} {H1 Hp : L2.Hp} {f : Addr} {F : NF} {ps fr : List Str} {js : List Nat} {k : Nat} {sp : List (Option V) → Sp} {vs : List V} {R : L2.Hp → V → Prop}
    (p : PinsP X σ cs H1 Hp) (fn : H1 f = some (FnO f F)) (co : H1 F.c = some (CodeO F.c F.qual)) (cap : Caps X F.cl fr js) (sub : ∀ q ∈ F.cl, X.env.cells.lookup q.1 = some q.2) (h2 : ∀ y c, X.env.cells.lookup y = some c → c ∈ cs)
    (Fn : NOk P w K mg base CX0 k f F ps fr sp) (mono : ∀ H H' z, Same H H' → R H z → R H' z)
    (hs : ∀ H2, ExtN H1 H2 → ∀ Q : VK, (∀ z H3, Same H2 H3 → R H3 z → Q z H3) → sp (js.map (slotAt σ)) vs H2 Q E0) : CanCall P w K mg base k Hp (.ref f) vs R := by
  have inc : ∀ a ∈ cells F, a ∈ cs := fun a ha => by
    obtain ⟨⟨y, c⟩, hp, rfl⟩ := List.mem_map.mp ha
    exact h2 y c (sub _ hp)
  refine ⟨f, F, ps, fr, _, sp, rfl, p.clo f F fr js cap sub fn co, Fn, fun G sG Q q => ?_⟩
  refine hs (unp (cells F) G) (fun b o z nt => ?_) _ fun z H3 s3 r nn => q z _ (fun b o e => ?_) (mono _ _ _ (fun b o e => ?_) r)
  · rw [unp_out fun m => by rw [p.new b (inc b m)] at z; cases z]
    exact sG _ _ (p.at_ z) nt
  · by_cases m : b ∈ cells F
    · rw [rep_in m]; exact e
    · rw [rep_out m]
      exact s3 _ _ (by rw [unp_out m]; exact e)
  · by_cases m : b ∈ cells F
    · rw [nn b m] at e; cases e
    · rw [rep_out m]; exact e
theorem sameN {H H' : L2.Hp} (s : Same H H') : ExtN H H' := fun b o e _ => s b o e
theorem extN_trans {H H1 H2 : L2.Hp} (a : ExtN H H1) (b : ExtN H1 H2) : ExtN H H2 := fun c o e n => b c o (a c o e n) n
theorem CanCall.keep {k : Nat} {H H' : L2.Hp} {v : V} {vs : List V} {R : L2.Hp → V → Prop} (e : ExtN H H') (h : CanCall P w K mg base k H v vs R) : CanCall P w K mg base k H' v vs R := by
  obtain ⟨f, F, ps, fr, ws, sp, h1, h2, h3, h4⟩ := h
  exact ⟨f, F, ps, fr, ws, sp, h1, h2.keep fun b o ⟨φ, z⟩ q => e b o q fun ps y => (by rw [z] at y; cases y), h3, fun H1 s => h4 H1 (extN_trans e s)⟩
/-- the call of a slot -/
theorem callc_of {k i : Nat} {H0 H : L2.Hp} {v : V} {vs : List V} {R : L2.Hp → V → Prop} {σ : L2.St} {t : TA} {Q : VK} (c : CanCall P w K mg base k H0 v vs R) (hs : σ[i]? = some (some v)) (e : ExtN H0 H)
    (ht : ∀ G : List V → L2.Hp → Prop, (∀ H1, Same H H1 → G vs H1) → t σ H G) (q : ∀ z H2, Same H H2 → R H2 z → Q z H2) : tCallC P w K mg base k i t σ H Q := by
  have c' := c.keep e
  obtain ⟨f, F, ps, fr, ws, sp, rfl, h2, h3, h4⟩ := c'
  refine ⟨f, F, ps, fr, ws, sp, hs, h2.fn, h3, ht _ fun H1 s1 => ⟨h2.same s1, h4 H1 (sameN s1) Q fun z H2 s2 r => q z H2 (s1.trans s2) r⟩⟩
theorem pe_cc {X : Cx} {e : Expr} {es : List Expr} {t : TA} {p pos : Pos} {j k : Nat} {x : Str} (i : Nat) (hr : Room j X.A) (hk : k ≤ j) (ha : PA X (e :: es) t) (hN : X.N[i]? = some x := by rfl)
    (hv : Vis X.env.scope x := by first | exact Or.inl rfl | exact Or.inr (Or.inl rfl) | exact Or.inr (Or.inr rfl)) (hd : (x == ("__debug__" : Str)) = false := by decide)
    (hcd : (x == ("__classdict__" : Str)) = false := by decide) (he : starEach (e :: es) X.env = (false, eval e X.env) :: starEach es X.env := by rfl)
    (hpl : (backTo pos (starEach es X.env)).any (·.1) = false := by rfl) :
    PE X (.Call (.Name x p) (e :: es) [] pos) (tCallC X.prog X.w X.K X.mg X.base k i t) := pe_callc hr hk hN hv ha hd hcd he hpl
end
/-! ### the captured names of a function that a def of the module makes -/
section
variable {CX : CXT} {P : Program} {w : World} {K : PySem.W.Frag} {mg : Str → Option Value} {base : Heap} {N : List Str} {qual : Str} {sc nsc : Scope} {f : Addr} {cd : Value} {A : Around} {outer : List Env} {s : Shared} {H : L2.Hp} {E : XK} {fr : List Str} {js : List Nat} {L : Nat}
theorem own_has (h : ∀ y ∈ nsc.names, y.2 = .free → sc.names.lookup y.1 = some .cell) : ∀ y ∈ nsc.names, y.2 = .free → ∃ c, (cellsFrom L sc.names []).lookup y.1 = some c := fun y hy e => cell_has (h y hy e)
theorem clo_mem {cl : List (Str × Addr)} {names : List (Str × NameKind)} (hfree : ∀ y ∈ names, y.2 = .free → ∃ c, cl.lookup y.1 = some c) : ∀ q ∈ cloFrom cl names [], cl.lookup q.1 = some q.2 := fun ⟨y, c⟩ hq => by
  rcases cloFrom_mem hq with hm | ⟨h1, h2⟩
  · cases hm
  · obtain ⟨c1, hc⟩ := hfree _ h1 rfl
    have hc : cl.lookup y = some c1 := hc
    have e2 : c = c1 := by
      rw [h2, hc] <;> rfl
    rw [e2]
    exact hc
theorem caps_own {X : Cx} (hc : X.env.cells = cellsFrom L sc.names []) (hs : X.env.scope = sc) (h : ∀ y ∈ nsc.names, y.2 = .free → sc.names.lookup y.1 = some .cell) (hfr : ∀ y ∈ fr, (y, NameKind.free) ∈ nsc.names) (hjs : js.map (fun j => X.N[j]?) = fr.map some) :
    Caps X (cloFrom X.env.cells nsc.names []) fr js ∧ ∀ q ∈ cloFrom X.env.cells nsc.names [], X.env.cells.lookup q.1 = some q.2 := by
  have hf : ∀ y ∈ nsc.names, y.2 = .free → ∃ c, X.env.cells.lookup y.1 = some c := by rw [hc]; exact own_has h
  exact ⟨⟨fun y c e => clo_cm hf e, fun y hy => .inl (by rw [hs]; exact h (y, .free) (hfr y hy) rfl), fun y hy c hc => clo_has hf (hfr y hy) hc, hjs⟩, clo_mem hf⟩
end
end PinX

/-! a call that hands functions on and may raise -/
namespace PinX
open PySem PySem.Spec PyProof.Rows L2 LamX NdefX
section
variable {P : Program} {w : World} {outer : List Env} {s : Shared} {H : L2.Hp} {cs : List Addr}
theorem cx_less {E : XK} {u : Value} {s' : Shared} (ex : ∀ c ∈ cs, ∃ o, s.heap.get? c = some o) (nH : ∀ c ∈ cs, H c = none)
    (h : L2.CX P w outer (pinA cs s.heap H) s (fun cl d H2 => (∀ c ∈ cs, H2 c = pinA cs s.heap H c) ∧ E cl d (unp cs H2)) u s') : L2.CX P w outer H s E u s' := by
  obtain ⟨a, B, H2, cls, d, rfl, fl, hok, ub, na, os, ag, st, hE⟩ := h
  have pn : Pinned cs H2 := fun c hc => by
    obtain ⟨o, z⟩ := ex c hc
    exact ⟨o, (st c hc).trans (pinA_in hc z)⟩
  have mid : ∀ {b : Addr} {u : HO}, H b = some u → b ∉ cs ∧ pinA cs s.heap H b = some u := fun {b u} z => by
    have n : b ∉ cs := fun m => by rw [nH b m] at z; cases z
    exact ⟨n, by rw [pinA_out n]; exact z⟩
  refine ⟨a, B, unp cs H2, cls, d, rfl, fl, hok_less pn hok, ⟨fun b o z n hf => ?_, ub.slot, fun b o z n => ?_, ub.there, fun b xs z => ?_, fun b o u z => ?_, fun b ps z => ?_⟩, ?_, os, ag, hE⟩
  · by_cases hb : b ∈ cs
    · exact (hok b _ ((st b hb).trans (pinA_in hb z))).1
    · exact ub.keep b o z (by rw [pinA_out hb]; exact n) hf
  · by_cases hb : b ∈ cs
    · exact unp_in hb
    · rw [unp_out hb]
      exact ub.free b o z (by rw [pinA_out hb]; exact n)
  · obtain ⟨a, c⟩ := mid z
    rw [unp_out a]
    exact ub.tups b xs c
  · obtain ⟨a, c⟩ := mid z
    rw [unp_out a]
    exact ub.frzs b o u c
  · obtain ⟨a, c⟩ := mid z
    rw [unp_out a]
    exact ub.tbls b ps c
  · rw [unp_out (pn.none na)]
    exact na
end
def tCallPS (X : Cx) (cs : List Addr) (sp : Sp) (E : L2.St → XK) (t : TA) : TE := fun σ H Q => t σ H fun vs H1 => ∀ Hp, PinsP X σ cs H1 Hp → sp vs Hp (fun v H2 => (∀ c ∈ cs, H2 c = Hp c) ∧ Q v (unp cs H2)) (fun cl d H2 => (∀ c ∈ cs, H2 c = Hp c) ∧ E σ cl d (unp cs H2))
section
variable {X : Cx} {k : Nat} {f : Addr} {fd : FuncData} {ps : List Str} {sp : Sp} {E : L2.St → XK} {x : Str} {p pos : Pos} {e : Expr} {es : List Expr} {t : TA} {cs : List Addr}
theorem pe_callPS (F : FnOk X.prog X.w X.K X.mg X.base (L2.CX X.prog X.w) k f fd ps sp) (hr : Room k X.A) (hg : Gl X x) (hm : X.mg x = some (.ref f)) (hk : PySem.W.keepIn X.K (.ref f) = true) (hb : Binds X.K fd ps [])
    (h1 : ∀ c ∈ cs, ∃ y, X.fn y = true ∧ X.env.cells.lookup y = some c) (h2 : ∀ y c, X.env.cells.lookup y = some c → c ∈ cs) (hx : ∀ σ, PassesAt (L2.CX X.prog X.w) X σ (E σ))
    (ha : PA X (e :: es) t)
    (hdb : (x == ("__debug__" : Str)) = false := by decide)
    (he : starEach (e :: es) X.env = (false, eval e X.env) :: starEach es X.env := by rfl)
    (hpl : (backTo pos (starEach es X.env)).any (·.1) = false := by rfl) :
    PE X (.Call (.Name x p) (e :: es) [] pos) (tCallPS X cs sp E t) := by
  refine ⟨fun pins s σ H Q I h => ?_⟩
  have args := ha.run pos pins s σ H _ I h
  refine wpAny_Call_Name_kw (ld_glob I hg hm (PySem.W.callWith_K (h₀ := X.base) I.ok.mod.kin hk (thn args ?_) he hpl) hdb)
  rintro us s1 ⟨vs, H1, I1, r, q⟩
  refine ⟨I1.kIn, ?_⟩
  obtain ⟨ex, nH, nb, nf⟩ := own_cells I1 h1
  have ex' : ∀ c ∈ cs, ∃ o, s1.heap.get? c = some o := fun c hc => by
    obtain ⟨o, _, z, _⟩ := ex c hc
    exact ⟨o, z⟩
  have q := q (pinA cs s1.heap H1) ⟨fun b hb => pinA_out hb, nH, pinA_pinned ex', fun c hc => (by obtain ⟨o, v, z, d⟩ := ex c hc; exact ⟨o, v, pinA_in hc z, d⟩), fun g G fr js cp sub hg hc => by
    have C := cells_of I1 cp
    refine ⟨by rw [pinA_out fun m => by rw [nH g m] at hg; cases hg]; exact hg, by rw [pinA_out fun m => by rw [nH G.c m] at hc; cases hc]; exact hc, C.len, fun c hc => ?_, C.inj, fun i y hy => ?_⟩
    · obtain ⟨⟨y, c'⟩, hp, rfl⟩ := List.mem_map.mp hc
      have hm := h2 y c' (sub _ hp)
      obtain ⟨o, v, z, d⟩ := ex c' hm
      exact ⟨o, v, pinA_in hm z, d⟩
    · obtain ⟨c, hc, hv⟩ := C.has i y hy
      refine ⟨c, hc, fun v ev => ?_⟩
      obtain ⟨u, ru, o, ho, d⟩ := hv v ev
      exact ⟨o, u, ru, pinA_in (h2 y c (cp.sub y c hc)) ho, d⟩⟩
  have hl : us.length = ps.length := by rw [← r.length]; exact F.len _ _ _ _ q
  have hb1 : BindsTo s1 fd ⟨us, []⟩ (ps.zip us) := by
    have z := hb s1 us I1.kIn (by rw [List.append_nil]; exact hl)
    rw [List.append_nil] at z
    exact z
  refine wpAny_call (codeAny_mono (F.run X.A X.stack s1 _ ⟨us, []⟩ us vs _ _ hr (env_pin ex' nH nb nf I1.env0) hb1 r q) fun r s' hq => ?_)
  cases r with
  | error e => exact hx σ pins H1 s1 e s' I1 (cx_less ex' nH hq)
  | ok fl =>
    cases fl with
    | ret u => exact I1.after (ce_less ex' nH nf hq)
    | next => exact False.elim hq
    | brk => exact False.elim hq
    | cont => exact False.elim hq
end
end PinX

/-! functions handed on that may make functions themselves: tables grow -/
namespace PinX
open PySem PySem.Spec PyProof.Rows L2 LamX NdefX
/-- tables where cells are taken out -/
theorem tabs_unp {T : List NTab} {cs : List Addr} {G : Hp} (d : ∀ c ∈ cs, ∃ o v, G c = some (PinO c o) ∧ o.data = .cell v) (t : TabsN T G) : TabsN T (unp cs G) := fun q hq => by
  obtain ⟨ps, h1, h2, h3⟩ := t q hq
  refine ⟨ps, ?_, h2, fun pos cv hc => ?_⟩
  · rw [unp_out fun m => ?_]
    · exact h1
    · obtain ⟨o, v, z, _⟩ := d _ m
      rw [h1] at z
      cases z
  · obtain ⟨c, e1, e2⟩ := h3 pos cv hc
    refine ⟨c, e1, ?_⟩
    rw [unp_out fun m => ?_]
    · exact e2
    · obtain ⟨o, v, z, dd⟩ := d _ m
      rw [e2] at z
      exact pin_code dd (Option.some.inj z).symm
theorem tabs_rep {T : List NTab} {cs : List Addr} {G H3 : Hp} (nn : ∀ a ∈ cs, H3 a = none) (t : TabsN T H3) : TabsN T (rep cs G H3) := fun q hq => by
  obtain ⟨ps, h1, h2, h3⟩ := t q hq
  have out : ∀ {b : Addr} {o : HO}, H3 b = some o → rep cs G H3 b = some o := fun {b o} z => by
    rw [rep_out fun m => by rw [nn b m] at z; cases z]
    exact z
  exact ⟨ps, out h1, h2, fun pos cv hc => by
    obtain ⟨c, e1, e2⟩ := h3 pos cv hc
    exact ⟨c, e1, out e2⟩⟩
theorem ext_rep {cs : List Addr} {G H3 : Hp} (nn : ∀ a ∈ cs, H3 a = none) (e : ExtN (unp cs G) H3) : ExtN G (rep cs G H3) ∧ ExtN H3 (rep cs G H3) := by
  refine ⟨fun b o z nt => ?_, fun b o z nt => ?_⟩
  · by_cases m : b ∈ cs
    · rw [rep_in m]; exact z
    · rw [rep_out m]
      exact e _ _ (by rw [unp_out m]; exact z) nt
  · rw [rep_out fun m => by rw [nn b m] at z; cases z]
    exact z
/-- called with vs in a heap that has all of H, and the tables, it comes to a value as R tells -/
def CanT (P : Program) (w : World) (K : PySem.W.Frag) (mg : Str → Option Value) (base : Heap) (T : List NTab) (k : Nat) (H : Hp) (v : V) (vs : List V) (R : Hp → V → Prop) : Prop :=
  ∃ (f : Addr) (F : NF) (ps fr : List Str) (ws : List (Option V)) (sp : List (Option V) → Sp), v = .ref f ∧ CloAt H f F fr ws ∧ NOk P w K mg base CX0 k f F ps fr sp ∧
  ∀ H1, ExtN H H1 → TabsN T H1 → ∀ Q : VK, (∀ z H2, ExtN H1 H2 → TabsN T H2 → R H2 z → Q z H2) → sp ws vs (unp (cells F) H1) (fun z H2 => (∀ a ∈ cells F, H2 a = none) → Q z (rep (cells F) H1 H2)) E0
section
variable {P : Program} {w : World} {K : PySem.W.Frag} {mg : Str → Option Value} {base : Heap} {T : List NTab}
theorem canT_made {X : Cx} {σ : L2.St} {cs : List Addr} {H1 Hp : L2.Hp} {f : Addr} {F : NF} {ps fr : List Str} {js : List Nat} {k : Nat} {sp : List (Option V) → Sp} {vs : List V} {R : L2.Hp → V → Prop}
    (p : PinsP X σ cs H1 Hp) (fn : H1 f = some (FnO f F)) (co : H1 F.c = some (CodeO F.c F.qual)) (cap : Caps X F.cl fr js) (sub : ∀ q ∈ F.cl, X.env.cells.lookup q.1 = some q.2) (h2 : ∀ y c, X.env.cells.lookup y = some c → c ∈ cs)
    (Fn : NOk P w K mg base CX0 k f F ps fr sp) (mono : ∀ H H' z, ExtN H H' → R H z → R H' z)
    (hs : ∀ H2, ExtN H1 H2 → TabsN T H2 → ∀ Q : VK, (∀ z H3, ExtN H2 H3 → TabsN T H3 → R H3 z → Q z H3) → sp (js.map (slotAt σ)) vs H2 Q E0) : CanT P w K mg base T k Hp (.ref f) vs R := by
  have inc : ∀ a ∈ cells F, a ∈ cs := fun a ha => by
    obtain ⟨⟨y, c⟩, hp, rfl⟩ := List.mem_map.mp ha
    exact h2 y c (sub _ hp)
  refine ⟨f, F, ps, fr, _, sp, rfl, p.clo f F fr js cap sub fn co, Fn, fun G sG tG Q q => ?_⟩
  have dG : ∀ c ∈ cells F, ∃ o v, G c = some (PinO c o) ∧ o.data = .cell v := fun c hc => by
    obtain ⟨o, v, z, d⟩ := p.dat c (inc c hc)
    exact ⟨o, v, sG _ _ z fun ps y => (by cases y), d⟩
  refine hs (unp (cells F) G) (fun b o z nt => ?_) (tabs_unp dG tG) _ fun z H3 e3 t3 r nn => q z _ (ext_rep nn e3).1 (tabs_rep nn t3) (mono _ _ _ (ext_rep nn e3).2 r)
  rw [unp_out fun m => by rw [p.new b (inc b m)] at z; cases z]
  exact sG _ _ (p.at_ z) nt
theorem CanT.keep {k : Nat} {H H' : L2.Hp} {v : V} {vs : List V} {R : L2.Hp → V → Prop} (e : ExtN H H') (h : CanT P w K mg base T k H v vs R) : CanT P w K mg base T k H' v vs R := by
  obtain ⟨f, F, ps, fr, ws, sp, h1, h2, h3, h4⟩ := h
  exact ⟨f, F, ps, fr, ws, sp, h1, h2.keep fun b o ⟨φ, z⟩ q => e b o q fun ps y => (by rw [z] at y; cases y), h3, fun H1 s => h4 H1 (extN_trans e s)⟩
theorem callT_of {k i : Nat} {H0 H : L2.Hp} {v : V} {vs : List V} {R : L2.Hp → V → Prop} {σ : L2.St} {t : TA} {Q : VK} (c : CanT P w K mg base T k H0 v vs R) (hs : σ[i]? = some (some v)) (e : ExtN H0 H) (tb : TabsN T H)
    (ht : ∀ G : List V → L2.Hp → Prop, (∀ H1, Same H H1 → G vs H1) → t σ H G) (q : ∀ z H2, ExtN H H2 → TabsN T H2 → R H2 z → Q z H2) : tCallC P w K mg base k i t σ H Q := by
  obtain ⟨f, F, ps, fr, ws, sp, rfl, h2, h3, h4⟩ := c.keep e
  exact ⟨f, F, ps, fr, ws, sp, hs, h2.fn, h3, ht _ fun H1 s1 => ⟨h2.same s1, h4 H1 (sameN s1) (tb.ext s1) Q fun z H2 s2 t2 r => q z H2 (extN_trans (sameN s1) s2) t2 r⟩⟩
end
end PinX

/-! dicts whose keys are tuples of numbers, bools, texts, None and such tuples -/
namespace DicN
open PySem PySem.Spec PyProof.Rows L2
abbrev NK := PySem.NestedKey
mutual
/-- the value is this key -/
def KeyN (H : Hp) : NK → V → Prop
  | .none, v => v = .non
  | .num i, v => v = .int i ∨ ∃ b : Bool, v = .bl b ∧ i = (if b = true then 1 else 0)
  | .text x, v => v = .str x
  | .tup ks, v => ∃ a ys, v = .ref a ∧ H a = some (.tup ys) ∧ KeysN H ks ys
def KeysN (H : Hp) : List NK → List V → Prop
  | [], ys => ys = []
  | k :: ks, ys => ∃ y zs, ys = y :: zs ∧ KeyN H k y ∧ KeysN H ks zs
end
mutual
theorem KeyN.keep {H H' : Hp} (s : ∀ b xs, H b = some (.tup xs) → H' b = some (.tup xs)) : ∀ (k : NK) (v : V), KeyN H k v → KeyN H' k v
  | .none, _, h => h
  | .num _, _, h => h
  | .text _, _, h => h
  | .tup ks, _, ⟨a, ys, e, ha, h⟩ => ⟨a, ys, e, s _ _ ha, KeysN.keep s ks ys h⟩
theorem KeysN.keep {H H' : Hp} (s : ∀ b xs, H b = some (.tup xs) → H' b = some (.tup xs)) : ∀ (ks : List NK) (ys : List V), KeysN H ks ys → KeysN H' ks ys
  | [], _, h => h
  | k :: ks, _, ⟨y, zs, e, h1, h2⟩ => ⟨y, zs, e, KeyN.keep s k y h1, KeysN.keep s ks zs h2⟩
end
section
variable {P : Program} {w : World} {H : Hp} {h : Heap}
mutual
theorem nested_of (ok : HOk P w H h) : ∀ (k : NK) (v : V) (u : Value), KeyN H k v → RelV v u → NestedIs h k u
  | .none, _, u, e, r => by
    subst e
    cases (show u = Value.none from r)
    exact .none
  | .num i, _, u, e, r => by
    rcases e with rfl | ⟨b, rfl, e⟩
    · obtain ⟨t, rfl⟩ := (show ∃ t, u = Value.int i t from r)
      exact .int i t
    · cases (show u = Value.bool b from r)
      exact .bool e
  | .text x, _, u, e, r => by
    subst e
    obtain ⟨t, rfl⟩ := (show ∃ t, u = Value.str x t from r)
    exact .text x t
  | .tup ks, _, u, ⟨a, ys, e, ha, q⟩, r => by
    subst e
    cases (show u = Value.ref a from r)
    obtain ⟨_, its, rv, o, h1, h2, n, h3⟩ := (show ObjOk P w H h a (.tup ys) from ok a _ ha)
    exact .tup h1 h2 h3 (by simpa using nesteds_of ok ks ys its q rv)
theorem nesteds_of (ok : HOk P w H h) : ∀ (ks : List NK) (ys : List V) (us : List Value), KeysN H ks ys → Vals ys us → NestedAll h ks us
  | [], _, us, e, r => by
    subst e
    cases r
    exact .nil
  | k :: ks, _, us, ⟨y, zs, e, h1, h2⟩, r => by
    subst e
    cases r with
    | cons r rs => exact .cons (nested_of ok k y _ h1 r) (nesteds_of ok ks zs _ h2 rs)
end
end
abbrev Row := NK × Addr × Value
/-- the dict's object, row by row -/
def dN (w : World) (D : Addr) (xs : List Row) : HO := .ext fun h => ∃ (o : Obj) (es : Array DictEntry) (ep : Nat), h.get? D = some o ∧ o.ExactDict ∧ o.data = .dict es ep ∧ es.toList = xs.map fun x => ⟨x.1.hash w, .ref x.2.1, x.2.2⟩
abbrev RowOk (H : Hp) (p : NK × V) (q : Row) : Prop := p.1 = q.1 ∧ p.1.depth ≤ 8 ∧ KeyN H p.1 (.ref q.2.1) ∧ RelV p.2 q.2.2
/-- the dict at D holds these -/
def DN (w : World) (H : Hp) (D : Addr) (kvs : List (NK × V)) : Prop := (D == sysModules) = false ∧ kvs.length ≤ sizeLine ∧ ∃ xs : List Row, H D = some (dN w D xs) ∧ Paired (RowOk H) kvs xs ∧ (xs.map (·.1)).Nodup
theorem rows_val {H : Hp} {kvs : List (NK × V)} {xs : List Row} (r : Paired (RowOk H) kvs xs) (k : NK) : RelO (valV kvs k) ((atKey xs k).map (·.2)) := by
  induction r with
  | nil => trivial
  | @cons p q ps qs h t ih =>
    unfold atKey at ih ⊢
    by_cases e : p.1 = k
    · rw [valV_pos e, List.find?_cons_of_pos (by simpa using h.1.symm.trans e)]
      exact h.2.2.2
    · rw [valV_neg e, List.find?_cons_of_neg (by simpa using fun z => e (h.1.trans z))]
      exact ih
theorem rows_put {H : Hp} {kvs : List (NK × V)} {xs : List Row} {k : NK} {b : Addr} {v : V} {u : Value} (r : Paired (RowOk H) kvs xs) (hd : k.depth ≤ 8) (hk : KeyN H k (.ref b)) (rv : RelV v u) : Paired (RowOk H) (putK kvs k v) (storedH xs k b u) := by
  have e : (kvs.any fun kv => decide (kv.1 = k)) = (atKey xs k).isSome := by rw [valV_any, (rows_val r k).isSome_eq, Option.isSome_map]
  unfold putK storedH
  rw [e]
  by_cases q : (atKey xs k).isSome = true
  · rw [if_pos q, if_pos q]
    clear q e
    induction r with
    | nil => exact .nil
    | @cons p q ps qs h t ih =>
      refine .cons ?_ ih
      unfold putAt
      dsimp only
      by_cases z : p.1 = k
      · rw [if_pos z, if_pos (h.1.symm.trans z)]; exact ⟨h.1, h.2.1, h.2.2.1, rv⟩
      · rw [if_neg z, if_neg fun y => z (h.1.trans y)]; exact h
  · rw [if_neg q, if_neg q]
    exact Paired.snoc r ⟨rfl, hd, hk, rv⟩
theorem DN.keep {w : World} {H H' : Hp} {D : Addr} {kvs : List (NK × V)} (e : ∀ b φ, H b = some (.ext φ) → H' b = some (.ext φ)) (s : ∀ b xs, H b = some (.tup xs) → H' b = some (.tup xs)) (d : DN w H D kvs) : DN w H' D kvs := by
  obtain ⟨a, b, xs, c, r, n⟩ := d
  exact ⟨a, b, xs, e _ _ c, L2.Paired.mapP r fun _ _ z => ⟨z.1, z.2.1, KeyN.keep s _ _ z.2.2.1, z.2.2.2⟩, n⟩
theorem DN.same {w : World} {H H' : Hp} {D : Addr} {kvs : List (NK × V)} (s : ∀ b o, H b = some o → H' b = some o) (d : DN w H D kvs) : DN w H' D kvs := d.keep (fun b φ z => s _ _ z) fun b xs z => s _ _ z
theorem DN.at_ {w : World} {H : Hp} {D : Addr} {kvs : List (NK × V)} (d : DN w H D kvs) : ∃ φ, H D = some (.ext φ) := by
  obtain ⟨_, _, xs, c, _⟩ := d
  exact ⟨_, c⟩
section
variable {P : Program} {w : World} {H : Hp} {h : Heap} {D : Addr} {kvs : List (NK × V)}
theorem dn_of (ok : HOk P w H h) (d : DN w H D kvs) : ∃ xs, H D = some (dN w D xs) ∧ Paired (RowOk H) kvs xs ∧ (xs.map (·.1)).Nodup ∧ h.DictOfH (nestedKind P w) D xs := by
  obtain ⟨_, b, xs, c, r, n⟩ := d
  obtain ⟨o, es, ep, h1, h2, h3, h4⟩ := (ok D _ c).1
  refine ⟨xs, c, r, n, o, es, ep, h1, h2, h3, h4, ?_, n⟩
  clear h4 n c b
  induction r with
  | nil => intro x hx; cases hx
  | @cons p q ps qs z t ih =>
    intro x hx
    rcases List.mem_cons.mp hx with rfl | hx
    · exact ⟨z.1 ▸ nested_of ok _ _ _ z.2.2.1 rfl, z.1 ▸ z.2.1⟩
    · exact ih x hx
theorem dn_empty (h : Heap) (hb : sysModules < h.objs.size) : ObjOk P w H (h.push { cls := .type "dict", data := .dict #[] }) h.objs.size (dN w h.objs.size []) ∧ (h.objs.size == sysModules) = false := by
  have g : (h.push { cls := .type "dict", data := .dict #[] }).get? h.objs.size = some { cls := .type "dict", data := .dict #[] } := Heap.get?_push_size _ rfl
  exact ⟨⟨⟨_, #[], 0, g, ⟨rfl, rfl, rfl⟩, rfl, rfl⟩, ⟨_, g⟩, fun _ _ ⟨o, es, ep, a, b⟩ st => ⟨o, es, ep, st _ a, b⟩⟩, beq_eq_false_iff_ne.mpr (Ne.symm (Nat.ne_of_lt hb))⟩
end
/-- a put: the heap behind it -/
def PutN (w : World) (H : Hp) (D : Addr) (y z : V) (H' : Hp) : Prop := ∃ (kvs : List (NK × V)) (k : NK) (b : Addr), DN w H D kvs ∧ y = .ref b ∧ KeyN H k y ∧ k.depth ≤ 8 ∧ kvs.length < sizeLine ∧ (∃ φ, H' = upd H D (.ext φ)) ∧ DN w H' D (putK kvs k z)
section
variable {X : Cx} {pins : List (Addr × Obj)} {σ : L2.St} {H : Hp} {s : Shared} {D b : Addr} {kvs : List (NK × V)} {k : NK} {v : V} {r : Value} {E : Value → Shared → Prop} {A : Around}
theorem dn_new {h' : Heap} {tk : Nat} {xs : List Row} (I : Inv X pins σ H s) (d : DN X.w H D kvs) (hz : kvs.length < sizeLine) (hd : k.depth ≤ 8) (hk : KeyN H k (.ref b)) (rv : RelV v r) (hx : H D = some (dN X.w D xs)) (rr : Paired (RowOk H) kvs xs)
    (dd : h'.DictOfH (nestedKind X.prog X.w) D (storedH xs k b r)) (sb : Heap.SameBut D s.heap h') : ∃ φ, Inv X pins σ (upd H D (.ext φ)) { s with heap := h', toks := tk } ∧ DN X.w (upd H D (.ext φ)) D (putK kvs k v) := by
  obtain ⟨o, es, ep, h1, h2, h3, h4, _, n⟩ := dd
  have kt : ∀ c ys, H c = some (.tup ys) → upd H D (dN X.w D (storedH xs k b r)) c = some (.tup ys) := fun c ys z => by
    rw [upd_ne (ne_of z hx (by intro y; unfold dN at y; cases y))]
    exact z
  refine ⟨_, d_write (ob := dN X.w D (storedH xs k b r)) I (by rw [hx]; exact True.intro) sb ⟨o, h1⟩ ⟨⟨o, es, ep, h1, h2, h3, h4⟩, ⟨o, h1⟩, fun _ _ ⟨o, es, ep, a, c⟩ st => ⟨o, es, ep, st _ a, c⟩⟩, d.1, ?_, _, upd_same, L2.Paired.mapP (rows_put rr hd hk rv) fun _ _ z => ⟨z.1, z.2.1, KeyN.keep kt _ _ z.2.2.1, z.2.2.2⟩, n⟩
  have := length_putK kvs k v
  omega
theorem dn_dictSet {Q : Unit → Shared → Prop} (hu : A.units + 8 < cLine) (I : Inv X pins σ H s) (d : DN X.w H D kvs) (hz : kvs.length < sizeLine) (hd : k.depth ≤ 8) (hk : KeyN H k (.ref b)) (rv : RelV v r)
    (h : ∀ φ s', Inv X pins σ (upd H D (.ext φ)) s' → DN X.w (upd H D (.ext φ)) D (putK kvs k v) → Q () s') : wpAny (model X.prog X.w) A (dictSet D (.ref b) r) Q E s := by
  obtain ⟨xs, c, rr, n, dd⟩ := dn_of I.hok d
  have lx : xs.length ≤ sizeLine := by rw [← Paired.length rr]; exact d.2.1
  refine wpAny_dictSet_heap (hsz := lx) (knd := nestedKind X.prog X.w) hu ⟨nested_of I.hok _ _ _ hk rfl, hd⟩ dd fun h' dd' sb => ?_
  obtain ⟨φ, I', d'⟩ := dn_new (tk := _) I d hz hd hk rv c rr dd' sb
  exact h φ _ I' d'
theorem dn_setItem {Q : Unit → Shared → Prop} (hu : A.units + 9 < cLine) (I : Inv X pins σ H s) (d : DN X.w H D kvs) (hz : kvs.length < sizeLine) (hd : k.depth ≤ 8) (hk : KeyN H k (.ref b)) (rv : RelV v r)
    (h : ∀ φ s', Inv X pins σ (upd H D (.ext φ)) s' → DN X.w (upd H D (.ext φ)) D (putK kvs k v) → Q () s') : wpAny (model X.prog X.w) A (setItem (.ref D) (.ref b) r) Q E s := by
  obtain ⟨xs, c, rr, n, dd⟩ := dn_of I.hok d
  have lx : xs.length ≤ sizeLine := by rw [← Paired.length rr]; exact d.2.1
  refine wpAny_setItem_heap (hsz := lx) (knd := nestedKind X.prog X.w) (show A.in1.units + 8 < cLine by show A.units + 1 + 8 < cLine; omega) ⟨nested_of I.hok _ _ _ hk rfl, hd⟩ dd fun h' dd' sb => ?_
  obtain ⟨φ, I', d'⟩ := dn_new (tk := _) I d hz hd hk rv c rr dd' sb
  exact h φ _ I' d'
theorem dn_getItem {Q : Value → Shared → Prop} (hu : A.units + 9 < cLine) (I : Inv X pins σ H s) (d : DN X.w H D kvs) (hd : k.depth ≤ 8) (hk : KeyN H k (.ref b)) (l : valV kvs k = some v) (h : ∀ u s', Inv X pins σ H s' → RelV v u → Q u s') :
    wpAny (model X.prog X.w) A (getItem (.ref D) (.ref b)) Q E s := by
  obtain ⟨xs, c, rr, n, dd⟩ := dn_of I.hok d
  obtain ⟨u, hu', ru⟩ := RelO.some_of (v := v) (o := (atKey xs k).map (·.2)) (by rw [← l]; exact rows_val rr k)
  obtain ⟨p, hp, rfl⟩ := Option.map_eq_some_iff.mp hu'
  exact wpAny_getItem_heap (knd := nestedKind X.prog X.w) (show A.in1.units + 8 < cLine by show A.units + 1 + 8 < cLine; omega) ⟨nested_of I.hok _ _ _ hk rfl, hd⟩ dd hp (h _ _ (I.tok _) ru)
theorem dn_in {Q : Value → Shared → Prop} (hu : A.units + 9 < cLine) (I : Inv X pins σ H s) (d : DN X.w H D kvs) (hd : k.depth ≤ 8) (hk : KeyN H k (.ref b)) (h : ∀ s', Inv X pins σ H s' → Q (.bool (valV kvs k).isSome) s') :
    wpAny (model X.prog X.w) A (compareOp .In (.ref b) (.ref D)) Q E s := by
  obtain ⟨xs, c, rr, n, dd⟩ := dn_of I.hok d
  refine wpAny_in_heap (knd := nestedKind X.prog X.w) (show A.in1.units + 8 < cLine by show A.units + 1 + 8 < cLine; omega) ⟨nested_of I.hok _ _ _ hk rfl, hd⟩ d.1 dd ?_
  have e := (rows_val rr k).isSome_eq
  rw [Option.isSome_map] at e
  rw [← e]
  exact h _ (I.tok _)
theorem dn_notIn {Q : Value → Shared → Prop} (hu : A.units + 9 < cLine) (I : Inv X pins σ H s) (d : DN X.w H D kvs) (hd : k.depth ≤ 8) (hk : KeyN H k (.ref b)) (h : ∀ s', Inv X pins σ H s' → Q (.bool (!(valV kvs k).isSome)) s') :
    wpAny (model X.prog X.w) A (compareOp .NotIn (.ref b) (.ref D)) Q E s := by
  obtain ⟨xs, c, rr, n, dd⟩ := dn_of I.hok d
  refine wpAny_notIn_heap (knd := nestedKind X.prog X.w) (show A.in1.units + 8 < cLine by show A.units + 1 + 8 < cLine; omega) ⟨nested_of I.hok _ _ _ hk rfl, hd⟩ d.1 dd ?_
  have e := (rows_val rr k).isSome_eq
  rw [Option.isSome_map] at e
  rw [← e]
  exact h _ (I.tok _)
theorem dn_type (I : Inv X pins σ H s) (d : DN X.w H D kvs) : s.TypeIs (.ref D) "dict" := by
  obtain ⟨_, _, _, _, dd⟩ := dn_of I.hok d
  exact dd.typeIs
end
/-! ### readings -/
/-- d[y] -/
def tGetN (w : World) (td ty : TE) : TE := fun σ H Q => td σ H fun x H1 => ty σ H1 fun y H2 => ∃ (a b : Addr) (kvs : List (NK × V)) (k : NK) (v : V), x = .ref a ∧ y = .ref b ∧ DN w H2 a kvs ∧ KeyN H2 k y ∧ k.depth ≤ 8 ∧ valV kvs k = some v ∧ Q v H2
/-- y in d, y not in d: a tuple asked -/
def tInN (w : World) (neg : Bool) (ty td : TE) : TE := fun σ H Q => ty σ H fun y H1 => td σ H1 fun x H2 => ∃ (a b : Addr) (kvs : List (NK × V)) (k : NK), x = .ref a ∧ y = .ref b ∧ DN w H2 a kvs ∧ KeyN H2 k y ∧ k.depth ≤ 8 ∧ Q (.bl (xor neg (valV kvs k).isSome)) H2
/-- d[y] = v -/
def sPutN (w : World) (td ty tv : TE) : TS := fun D σ H => tv σ H fun v H1 => td σ H1 fun x H2 => ty σ H2 fun y H3 => ∃ (a b : Addr) (kvs : List (NK × V)) (k : NK), x = .ref a ∧ y = .ref b ∧ DN w H3 a kvs ∧ KeyN H3 k y ∧ k.depth ≤ 8 ∧ kvs.length < sizeLine ∧ ∀ φ, DN w (upd H3 a (.ext φ)) a (putK kvs k v) → D.nx σ (upd H3 a (.ext φ))
section
variable {X : Cx} {o i value : Expr} {pos pos' : Pos} {td ty tv : TE}
theorem pe_getN (hu : X.A.units + 9 < cLine) (ho : PE X o td) (hi : PE X i ty) (hs : NoSl i) : PE X (.Subscript o i pos) (tGetN X.w td ty) := by
  refine ⟨fun pins s σ H Q I h => subD_of PySem.F.slot_dict_getitem.lookup hs (thn (ho.run pins s σ H _ I h) fun u s1 ⟨x, H1, I1, rx, q1⟩ => thn (hi.run pins s1 σ H1 _ I1 q1) fun iv s2 ⟨y, H2, I2, ry, a, b, kvs, k, v, ex, ey, d, hk, hd, l, q2⟩ => ?_)⟩
  subst ex; subst ey
  cases rx; cases ry
  exact ⟨dn_type I2 d, dn_getItem hu I2 d hd hk l fun w' s3 I3 rw' => ⟨v, H2, I3, rw', q2⟩⟩
theorem pc_inN (hu : X.A.units + 9 < cLine) (hi : PE X i ty) (ho : PE X o td) : PC X .In i o (tInN X.w false ty td) := by
  refine ⟨fun pins s σ H Q I h => thn (hi.run pins s σ H _ I h) fun iv s1 ⟨y, H1, I1, ry, q1⟩ => thn (ho.run pins s1 σ H1 _ I1 q1) fun u s2 ⟨x, H2, I2, rx, a, b, kvs, k, ex, ey, d, hk, hd, q2⟩ => ?_⟩
  subst ex; subst ey
  cases rx; cases ry
  exact dn_in hu I2 d hd hk fun s3 I3 => ⟨.bl (valV kvs k).isSome, H2, I3, rfl, by simpa using q2⟩
theorem pc_notinN (hu : X.A.units + 9 < cLine) (hi : PE X i ty) (ho : PE X o td) : PC X .NotIn i o (tInN X.w true ty td) := by
  refine ⟨fun pins s σ H Q I h => thn (hi.run pins s σ H _ I h) fun iv s1 ⟨y, H1, I1, ry, q1⟩ => thn (ho.run pins s1 σ H1 _ I1 q1) fun u s2 ⟨x, H2, I2, rx, a, b, kvs, k, ex, ey, d, hk, hd, q2⟩ => ?_⟩
  subst ex; subst ey
  cases rx; cases ry
  exact dn_notIn hu I2 d hd hk fun s3 I3 => ⟨.bl (!(valV kvs k).isSome), H2, I3, rfl, by simpa using q2⟩
theorem ps_putN (hu : X.A.units + 9 < cLine) (ho : PE X o td) (hi : PE X i ty) (hv : PE X value tv) (hs : swapsWith value (some (.Subscript o i pos')) pos.line X.env = pure false) : PS X (.Assign [.Subscript o i pos'] value pos) (sPutN X.w td ty tv) := by
  refine ⟨fun pins s σ H D I h => wpAny_Assign_Subscript (thn (hv.run pins s σ H _ I h) fun r s1 ⟨v, H1, I1, rv, q1⟩ => thn (ho.run pins s1 σ H1 _ I1 q1) fun u s2 ⟨x, H2, I2, rx, q2⟩ => thn (hi.run pins s2 σ H2 _ I2 q2) fun iv s3 ⟨y, H3, I3, ry, a, b, kvs, k, ex, ey, d, hk, hd, hz, q3⟩ => ?_) hs⟩
  subst ex; subst ey
  cases rx; cases ry
  exact dn_setItem hu I3 d hz hd hk rv fun φ s4 I4 d4 => ⟨σ, _, I4, q3 φ d4⟩
end
end DicN

/-! {k: v for ..} with such keys -/
namespace DicN
open PySem PySem.Spec PyProof.Rows L2
/-- a turn's end: the put into the dict at D -/
def putsN (w : World) (D : Addr) (Nx : Hp → Prop) (y z : V) (H5 : Hp) : Prop := ∃ (kvs : List (NK × V)) (k : NK) (b : Addr), y = .ref b ∧ DN w H5 D kvs ∧ KeyN H5 k y ∧ k.depth ≤ 8 ∧ kvs.length < sizeLine ∧ ∀ φ, DN w (upd H5 D (.ext φ)) D (putK kvs k z) → Nx (upd H5 D (.ext φ))
/-- what one item comes to -/
def turnN (w : World) (D : Addr) (g : TG) (tt : TT) (tk tv : TE) (vs : List Nat) (σ : L2.St) (Nx : Hp → Prop) (x : V) (H' : Hp) : Prop := g x (wipe σ vs) H' fun σ2 H2 => wipe σ2 vs = wipe σ vs ∧ tt σ2 H2 fun b H3 => if b = true then tk σ2 H3 fun y H4 => tv σ2 H4 fun z H5 => putsN w D Nx y z H5 else Nx H3
def tDcN (w : World) (wi : TI) (g : TG) (tt : TT) (tk tv : TE) (vs : List Nat) : TE := fun σ H Q => wi σ H fun J H1 => ∀ D, H1 D = none → ∃ (m0 : Nat) (W : Nat → Nat → Hp → Prop), (∀ φ, DN w (upd H1 D (.ext φ)) D [] → W 0 m0 (upd H1 D (.ext φ))) ∧
  ∀ i m H, W i m H → (J.stop i H ∧ Q (.ref D) H) ∨ (J.go i H ∧ ∃ Nx : Hp → Prop, (∀ H', Nx H' → ∃ m', m' < m ∧ W (i + 1) m' H') ∧ ∀ x H', J.yld i H x H' → turnN w D g tt tk tv vs σ Nx x H')
section
variable {X : Cx} {kx vx tg iter : Expr} {ifs : List Expr} {scope : Scope} {own : List (Str × Nat)} {wi : TI} {g : TG} {tt : TT} {tk tv : TE}
theorem dcn_core {pins : List (Addr × Obj)} {s : Shared} {σ : L2.St} {H : Hp} {Q : VK} {pos pos' : Pos} {use : Option (Value → Sem Unit)} {Qf : Value → Shared → Prop} (calm : X.calm = true) (hu : X.A.units + 8 < cLine) (nd : X.N.Nodup) (I : Inv X pins σ H s) (walk : PI X tg iter wi) (ok : BlkOk X.N X.env.scope scope own)
    (hg : ∀ s H C cl fp, PG (X.blk s H scope (compEnvC scope cl C X.env) fp) tg g) (ht : ∀ s H C cl fp, PTs (X.blk s H scope (compEnvC scope cl C X.env) fp) ifs tt) (hk : ∀ s H C cl fp, PE (X.blk s H scope (compEnvC scope cl C X.env) fp) kx tk) (hv : ∀ s H C cl fp, PE (X.blk s H scope (compEnvC scope cl C X.env) fp) vx tv)
    (fold : ∀ x, foldedSetIterable iter X.env x = pure x) (h : tDcN X.w wi g tt tk tv (own.map (·.2)) σ H Q)
    (back : ∀ D C s' m H', Inv X pins σ H' s' → Q (.ref D) H' → s'.heap.Ns C m → FpOk X pins H' C → compPost (model X.prog X.w) X.A X.xe use Qf (.ref D) C (.ok .next) s') :
    wpAny (model X.prog X.w) X.A (comprehension (.DictComp kx vx [⟨tg, iter, ifs, 0⟩] scope pos) scope X.env pos' newDict false (eval iter X.env) use) Qf X.xe s := by
  have free : ∀ y ∈ scope.names, y.2 = .free → ∃ c, X.env.cells.lookup y.1 = some c := fun y hy e => (ok.free y hy e).elim (fun z => I.ok.has _ (.inl z)) fun z => I.ok.has _ (.inr z)
  refine wpAny_comprehension_free (use := use) rfl fold (closure_ok free) ok.kind (fun y hy e => by rw [ok.uniq y hy, e]) (thn (walk.run pins s σ H _ I h) fun _ _ z => thn z fun _ a ⟨it, fp, tn, J, Ha, e, Ia, T, sta, fa, q⟩ => ?_)
  subst e
  refine wpAny_newObj_type (newEnv_comp ?_)
  -- the new dict
  have new : Ha a.heap.objs.size = none := Ia.hok.fresh (Nat.le_refl _)
  obtain ⟨m0, W, w0, turn⟩ := q _ new
  obtain ⟨em, nsys⟩ := dn_empty (P := X.prog) (w := X.w) (H := upd Ha a.heap.objs.size (dN X.w a.heap.objs.size [])) a.heap Ia.big
  generalize hD : a.heap.objs.size = D at new w0 turn em nsys
  have w0 : W 0 m0 (upd Ha D (dN X.w D [])) := w0 _ ⟨nsys, Nat.zero_le _, [], (upd_same : upd Ha D (dN X.w D []) D = _), .nil, List.nodup_nil⟩
  have Ib0 := Ia.laid (t' := a.toks) (fun b o z => Heap.get?_push_of_some _ z) (Nat.le_of_eq hD) em
  have less : ∀ b ∈ fp, b < a.heap.objs.size := fun b hb => let ⟨_, z, _⟩ := T.obj _ _ sta b hb; Heap.lt_size z
  generalize hb : ({ a with heap := a.heap.push { cls := .type "dict", data := .dict #[] }, toks := a.toks } : Shared) = b at Ib0
  have bh : b.heap = a.heap.push { cls := .type "dict", data := .dict #[] } := by rw [← hb]
  generalize hHb : upd Ha D (dN X.w D []) = Hb at Ib0 w0
  have fb : ∀ c ∈ fp, FpOk X pins Hb c ∧ c < b.heap.objs.size := fun c hc => by
    have l := less c hc
    refine ⟨⟨?_, (fa c hc).2⟩, by rw [bh, Heap.size_push]; exact Nat.lt_succ_of_lt l⟩
    rw [← hHb, upd_ne (by rw [← hD]; exact Nat.ne_of_lt l)]
    exact (fa c hc).1
  have stb : tn 0 b.heap := T.keep _ _ _ sta fun c _ o z => by rw [bh]; exact Heap.get?_push_of_some _ z
  have Ic := block_start Ib0 ok nd fb
  show codeAny _ _ (.compStart (.DictComp kx vx [⟨tg, iter, ifs, 0⟩] scope pos) 0 (.ref it) (.ref D) (compEnvC scope (cellsFrom (b.heap.objs.size + 1) scope.names (cloFrom X.env.cells scope.names [])) b.heap.objs.size X.env)) (compPost (model X.prog X.w) X.A X.xe use Qf (.ref D) b.heap.objs.size) { b with heap := pushCells (b.heap.push { cls := .type "dict", data := .dict #[] }) scope.names }
  generalize hC : b.heap.objs.size = C at Ic fb ⊢
  have rg := hg b Hb C (cellsFrom (C + 1) scope.names (cloFrom X.env.cells scope.names [])) fp
  have rt := ht b Hb C (cellsFrom (C + 1) scope.names (cloFrom X.env.cells scope.names [])) fp
  have rk := hk b Hb C (cellsFrom (C + 1) scope.names (cloFrom X.env.cells scope.names [])) fp
  have rv := hv b Hb C (cellsFrom (C + 1) scope.names (cloFrom X.env.cells scope.names [])) fp
  have cloc : (compEnvC scope (cellsFrom (C + 1) scope.names (cloFrom X.env.cells scope.names [])) C X.env).locals = C := rfl
  generalize compEnvC scope (cellsFrom (C + 1) scope.names (cloFrom X.env.cells scope.names [])) C X.env = ce at Ic rg rt rk rv cloc ⊢
  have stc : tn 0 (pushCells (b.heap.push { cls := .type "dict", data := .dict #[] }) scope.names) := T.keep _ _ _ stb fun c _ o z => pushCells_keeps _ _ _ _ (Heap.get?_push_of_some _ z)
  generalize hc : ({ b with heap := pushCells (b.heap.push { cls := .type "dict", data := .dict #[] }) scope.names } : Shared) = c at Ic ⊢
  replace stc : tn 0 c.heap := by rw [← hc]; exact stc
  have idle : ∀ {σ' : L2.St} {H' : Hp} {s' : Shared}, Inv (X.blk b Hb scope ce fp) [] σ' H' s' → (∀ d ∈ fp, H' d = none) → ∀ d ∈ fp, FpOk (X.blk b Hb scope ce fp) [] H' d := fun J n d hd => ⟨n d hd, (J.ok.exf d hd).1, J.ok.exfs d hd, .inl hd, fun x c e => (J.ok.exf d hd).2 x c e, fun p hp => nomatch (show p ∈ ([] : List (Addr × Obj)) from hp)⟩
  have whole : codeAny (model X.prog X.w) X.A (.compLoop (.DictComp kx vx [⟨tg, iter, ifs, 0⟩] scope pos) 0 (.ref it) (.ref D) ce) (compPost (model X.prog X.w) X.A X.xe use Qf (.ref D) C) c := by
    refine compLoop_anyD (fun n s' => ∃ i H', Inv (X.blk b Hb scope ce fp) [] (wipe σ (own.map (·.2))) H' s' ∧ tn i s'.heap ∧ (∀ d ∈ fp, H' d = none) ∧ W i n H') (fun n d ⟨i, Hd, Id, std, nd', wd⟩ => ?_) m0 ⟨0, Hb, Ic, stc, fun d hd => (fb d hd).1.1, w0⟩
    rcases turn i n Hd wd with ⟨stop, fin⟩ | ⟨go, Nx, next, step⟩
    · refine thnF (T.done (X.blk b Hb scope ce fp) rfl rfl rfl calm i [] d _ Hd (fun _ _ => False) Id (idle Id nd') std stop) fun r e ⟨er, Ie⟩ => ?_
      subst er
      have If : Inv X pins σ Hd e := Ib0.call' (ch := fp) Ie.os Ie.base Ie.hok Ie.bare fun z hz => ⟨(fb z hz).1.2.2.2.1, (fb z hz).1.2.1, (fb z hz).1.2.2.2.2.1, (fb z hz).1.2.2.2.2.2⟩
      obtain ⟨mm, ns, _⟩ := id Ie.loc
      exact back D C e mm Hd If fin (by rw [← cloc]; exact ns) (Ib0.fpOk (Nat.le_of_eq hC) (by rw [← cloc]; exact Ie.free))
    · refine thnF (T.item (X.blk b Hb scope ce fp) rfl rfl rfl calm i [] d _ Hd (fun _ _ => False) Id (idle Id nd') std go) fun r e ⟨u, er, z⟩ => ?_
      subst er
      refine thnF z fun _ f ⟨x, Hf, If, rf, yf, stf, nf⟩ => ?_
      refine thnF (rg.run _ f _ Hf x u _ (If.pinned (idle If nf) (T.obj _ _ stf)) rf (step x Hf yf)) fun _ k ⟨σk, Hk, Ik, wk, qk⟩ => ?_
      refine thnF (rt.run _ k σk Hk _ Ik qk) fun yes l ⟨Hl, Il, ql⟩ => ?_
      have over : ∀ {s' : Shared} {H' : Hp}, Inv (X.blk b Hb scope ce fp) ([] ++ pinsAt fp f.heap) σk H' s' → Nx H' → ∃ m, m < n ∧ ∃ i H', Inv (X.blk b Hb scope ce fp) [] (wipe σ (own.map (·.2))) H' s' ∧ tn i s'.heap ∧ (∀ d ∈ fp, H' d = none) ∧ W i m H' := fun {s' H'} J nx => by
        obtain ⟨m', lt, w'⟩ := next H' nx
        have kept : ∀ d ∈ fp, ∀ o, f.heap.get? d = some o → s'.heap.get? d = some o ∧ H' d = none := fun d hd o z => let y := J.pin (d, o) (List.mem_append_right _ (List.mem_append_right _ (mem_pinsAt hd z))); ⟨y.1, y.2.1⟩
        refine ⟨m', lt, i + 1, H', (J.unpinned (pins := [])).weak (by rw [← wk, wipe_length]) fun j v z => ?_, T.keep _ _ _ stf fun d hd o z => (kept d hd o z).1, fun d hd => ?_, w'⟩
        · rw [← wk] at z
          exact (wipe_some z).1
        · obtain ⟨o, z, _⟩ := T.obj _ _ stf d hd
          exact (kept d hd o z).2
      cases yes with
      | false => exact over Il ql
      | true =>
        refine thnF (rk.run _ l σk Hl _ Il ql) fun _ o1 ⟨y, H1, I1, r1, q1⟩ => thnF (rv.run _ o1 σk H1 _ I1 q1) fun _ o2 ⟨z, H2, I2, r2, kvs, kk, ad, ey, dn, hkk, dep, room, nx⟩ => ?_
        subst ey
        cases r1
        exact dn_dictSet (X := X.blk b Hb scope ce fp) hu I2 dn room dep hkk r2 fun φ o3 I3 d3 => over I3 (nx φ d3)
  exact codeAny_compStart_dict whole (T.self X.A 0 _ _ _ stc whole)
theorem pe_dcN {pos : Pos} (calm : X.calm = true) (hu : X.A.units + 8 < cLine) (nd : X.N.Nodup) (walk : PI X tg iter wi) (ok : BlkOk X.N X.env.scope scope own)
    (hg : ∀ s H C cl fp, PG (X.blk s H scope (compEnvC scope cl C X.env) fp) tg g) (ht : ∀ s H C cl fp, PTs (X.blk s H scope (compEnvC scope cl C X.env) fp) ifs tt) (hk : ∀ s H C cl fp, PE (X.blk s H scope (compEnvC scope cl C X.env) fp) kx tk) (hv : ∀ s H C cl fp, PE (X.blk s H scope (compEnvC scope cl C X.env) fp) vx tv)
    (fold : ∀ x, foldedSetIterable iter X.env x = pure x := by intro _; rfl) : PE X (.DictComp kx vx [⟨tg, iter, ifs, 0⟩] scope pos) (tDcN X.w wi g tt tk tv (own.map (·.2))) := by
  refine ⟨fun pins s σ H Q I h => ?_⟩
  rw [arm_eval_DictComp]
  exact dcn_core calm hu nd I walk ok hg ht hk hv fold h fun D C s' m H' J q ns ⟨f0, f1, f2, f3, f4, f5⟩ => ⟨m, ns, fun h'' sb => ⟨.ref D, H', J.turned (t' := s'.toks) (fun b o hb e => (sb.2 b hb).trans e) f0 f1 f3 f4 f5, rfl, q⟩⟩
end
/-- over a walk of known length: Pv tells the heap -/
theorem dcn_it {w : World} {J : It} {n : Nat} {G : Hp → Prop} {Y : Nat → Hp → V → Hp → Prop} {g : TG} {tt : TT} {tk tv : TE} {vs : List Nat} {σ τ : L2.St} {H1 : Hp} {D : Addr} {Qd : Hp → Prop} (hτ : wipe σ vs = τ) (wk : Walk J n G Y) (Pv : Nat → Hp → Prop) (h0 : ∀ φ, DN w (upd H1 D (.ext φ)) D [] → Pv 0 (upd H1 D (.ext φ)))
    (hG : ∀ i H, i ≤ n → Pv i H → G H) (hs : ∀ i x H H', i < n → Pv i H → Y i H x H' → g x τ H' fun σ2 H2 => wipe σ2 vs = τ ∧ tt σ2 H2 fun b H3 => if b = true then tk σ2 H3 fun y H4 => tv σ2 H4 fun z H5 => putsN w D (Pv (i + 1)) y z H5 else Pv (i + 1) H3) (hd : ∀ H, Pv n H → Qd H) :
    ∃ (m0 : Nat) (W : Nat → Nat → Hp → Prop), (∀ φ, DN w (upd H1 D (.ext φ)) D [] → W 0 m0 (upd H1 D (.ext φ))) ∧ ∀ i m H, W i m H → (J.stop i H ∧ Qd H) ∨ (J.go i H ∧ ∃ Nx : Hp → Prop, (∀ H', Nx H' → ∃ m', m' < m ∧ W (i + 1) m' H') ∧ ∀ x H', J.yld i H x H' → turnN w D g tt tk tv vs σ Nx x H') := by
  subst hτ
  refine ⟨n, fun i m H => m = n - i ∧ i ≤ n ∧ Pv i H, fun φ d => ⟨by omega, Nat.zero_le _, h0 φ d⟩, ?_⟩
  rintro i m H ⟨rfl, hi, p⟩
  by_cases lt : i < n
  · exact .inr ⟨wk.goes i H lt (hG i H hi p), Pv (i + 1), fun H' p' => ⟨n - (i + 1), by omega, rfl, by omega, p'⟩, fun x H' y => hs i x H H' lt p (wk.yields i H x H' lt (hG i H hi p) y)⟩
  · have e : i = n := by omega
    subst e
    exact .inl ⟨wk.stops H (hG i H hi p), hd H p⟩
end DicN

namespace Kx
open PySem L2 Own PinX DicN
abbrev s_built : Stmt := top 36
structure TxtBu (K : PySem.W.Frag) (mg : Str → Option Value) (f : Addr) (d : FuncData) : Prop where
  D_built : DefT K mg "built" "built" s_built ["signs", "labels", "step", "at_end"] f d
  n_enumerate : mg "enumerate" = none
section
/-! ### built, the labels being tuples -/
def lbl (ks : List NK) : Nat → List (NK × V)
  | 0 => []
  | i + 1 => match ks[i]? with
    | some k => putK (lbl ks i) k (.int (i : Nat))
    | none => lbl ks i
theorem lbl_at {ks : List NK} (nd : ks.Nodup) {j : Nat} {k : NK} (hj : ks[j]? = some k) : ∀ i, j < i → i ≤ ks.length → valV (lbl ks i) k = some (.int (j : Nat))
  | i + 1, h, l => by
    have hi : ks[i]? = some (ks[i]'(by omega)) := List.getElem?_eq_getElem (by omega)
    show valV (match ks[i]? with
      | some k => putK (lbl ks i) k (.int (i : Nat))
      | none => lbl ks i) k = _
    rw [hi]
    dsimp only
    rw [valV_put]
    by_cases e : j = i
    · subst e
      rw [hj] at hi
      rw [if_pos (Option.some.inj hi)]
    · rw [if_neg, lbl_at nd hj i (by omega) (by omega)]
      intro z
      obtain ⟨lj, ej⟩ := List.getElem?_eq_some_iff.mp hj
      exact e ((List.getElem_inj nd).mp (ej.trans z))
theorem lbl_len (ks : List NK) : ∀ i, (lbl ks i).length ≤ i
  | 0 => Nat.le_refl _
  | i + 1 => by
    have ih := lbl_len ks i
    unfold lbl
    split
    · rename_i k _
      have := length_putK (lbl ks i) k (V.int (i : Nat))
      omega
    · omega
def rowB (sg : Str) (nx : Nat → Nat → Nat) (gv : Nat → Nat → List Str) (i : Nat) : List Way := sg.cps.toList.map fun c => ((nx i c : Nat), gv i c)
def rowsB (sg : Str) (m : Nat) (nx : Nat → Nat → Nat) (gv : Nat → Nat → List Str) : List (List Way) := (List.range m).map (rowB sg nx gv)
def endsB (m : Nat) (en : Nat → List Str) : List (List Str) := (List.range m).map en
abbrev TupK (H H' : Hp) : Prop := ∀ b xs, H b = some (.tup xs) → H' b = some (.tup xs)
theorem tupE {H H' : Hp} (e : LamX.ExtN H H') : TupK H H' := fun b xs z => e b _ z fun ps y => by cases y
theorem DNe {w : World} {H H' : Hp} {D : Addr} {kvs : List (NK × V)} (e : LamX.ExtN H H') (d : DN w H D kvs) : DN w H' D kvs := d.keep (fun b φ z => e b _ z fun ps y => by cases y) (tupE e)
theorem lstE {H H' : Hp} {b : Addr} {xs : List V} (e : LamX.ExtN H H') (z : H b = some (.lst xs)) : H' b = some (.lst xs) := e b _ z fun ps y => by cases y
theorem tabs_put {T : List NdefX.NTab} {H : Hp} {a : Addr} {xs : List V} {o : HO} (h : H a = some (.lst xs)) (t : NdefX.TabsN T H) : NdefX.TabsN T (upd H a o) := fun q hq => by
  obtain ⟨ps, h1, h2, h3⟩ := t q hq
  refine ⟨ps, (upd_ne (ne_of h1 h (by intro z; cases z))).trans h1, h2, fun pos cv hc => ?_⟩
  obtain ⟨c, e1, e2⟩ := h3 pos cv hc
  exact ⟨c, e1, (upd_ne (ne_of e2 h (by unfold LamX.CodeO; intro z; cases z))).trans e2⟩
/-- a label -/
abbrev LabAt (H : Hp) (u : V) (k : NK) : Prop := (∃ b, u = .ref b) ∧ DicN.KeyN H k u ∧ k.depth ≤ 8
theorem LabAt.keep {H H' : Hp} {u : V} {k : NK} (s : TupK H H') (h : LabAt H u k) : LabAt H' u k := ⟨h.1, DicN.KeyN.keep s _ _ h.2.1, h.2.2⟩
/-- what a step tells -/
def StepR (ks : List NK) (n : Nat) (g : List Str) (H : Hp) (z : V) : Prop := ∃ (p a b : Addr) (k : NK), z = .ref p ∧ ks[n]? = some k ∧ DicN.KeyN H k (.ref b) ∧ k.depth ≤ 8 ∧ H p = some (.tup [.ref b, .ref a]) ∧ H a = some (.tup (g.map V.str))
def WayG (H : Hp) (v : V) (w : Way) : Prop := ∃ b g, v = .ref b ∧ H b = some (.tup [.int w.1, .ref g]) ∧ H g = some (.tup (w.2.map V.str))
def RowF (rr : Addr) (H : Hp) (v : V) (r : List Way) : Prop := ∃ a vs, v = .ref a ∧ a ≠ rr ∧ H a = some (.lst vs) ∧ Paired (WayG H) vs r
theorem StepR.keep {ks : List NK} {n : Nat} {g : List Str} {H H' : Hp} {z : V} (s : TupK H H') (h : StepR ks n g H z) : StepR ks n g H' z := by
  obtain ⟨p, a, b, k, e1, e2, e3, e4, e5, e6⟩ := h
  exact ⟨p, a, b, k, e1, e2, DicN.KeyN.keep s _ _ e3, e4, s _ _ e5, s _ _ e6⟩
theorem WayG.keep {H H' : Hp} {v : V} {w : Way} (s : TupK H H') (h : WayG H v w) : WayG H' v w := by
  obtain ⟨b, g, e1, e2, e3⟩ := h
  exact ⟨b, g, e1, s _ _ e2, s _ _ e3⟩
def spBuilt (P : Program) (w : World) (K : PySem.W.Frag) (mg : Str → Option Value) (base : Heap) (T : List NdefX.NTab) (Z : CAd) : Sp := fun vs H Q _ => ∃ (sg : Str) (q : Addr) (us : List V) (ks : List NK) (sv av : V) (nx : Nat → Nat → Nat) (gv : Nat → Nat → List Str) (en : Nat → List Str),
  vs = [.str sg, .ref q, sv, av] ∧ H q = some (.lst us) ∧ Paired (LabAt H) us ks ∧ ks.Nodup ∧ 1 ≤ ks.length ∧ ks.length ≤ 16 ∧ sg.cps.size ≤ 4 ∧ sg.cps.all (· < 128) = true ∧ NdefX.TabsN T H ∧
  (∀ i u c, us[i]? = some u → c ∈ sg.cps.toList → nx i c < ks.length ∧ (gv i c).length ≤ 4 ∧ CanT P w K mg base T 5 H sv [u, .str (Froz.sing c)] (StepR ks (nx i c) (gv i c))) ∧
  (∀ i u, us[i]? = some u → (en i).length ≤ 4 ∧ CanT P w K mg base T 5 H av [u] fun H2 z => KeysT H2 z (en i)) ∧
  (kl (keysOfRows (rowsB sg ks.length nx gv) ++ (endsB ks.length en).flatten)).length ≤ 12 ∧
  ∀ m H', LamX.ExtN H H' → NdefX.TabsN T H' → MachAt Z.C H' m sg ((rowsB sg ks.length nx gv).map nrm) ((endsB ks.length en).map kl) → Q (.ref m) H'
abbrev Nbuilt : List Str := ["signs", "labels", "step", "at_end", "label", "states", "rows", "ways", "state", "sign", "to", "given"]
theorem sc_built : FnScope Nbuilt ["signs", "labels", "step", "at_end"] (defScope s_built) := ⟨rfl, rfl, rfl, by decide +kernel, rfl, by decide +kernel, by decide +kernel⟩
end
theorem passX {P : Program} {w : World} {X : Cx} {E : XK} (hE : ∀ c d H, ¬ E c d H) : Passes (L2.CX P w) X E := fun _ _ _ _ _ _ _ ⟨_, _, _, _, _, _, _, _, _, _, _, _, h⟩ => (hE _ _ _ h).elim
section
variable {P : Program} {w : World} {K : PySem.W.Frag} {mg : Str → Option Value} {base : Heap} {A : EAd} {B : MAd} {Z : CAd} {f : Addr} {d : FuncData} {T : List NdefX.NTab}
theorem init_okL {H1 : Hp} {m dx r e : Addr} {sg : Str} {rv ev : List V} {R : List (List Way)} {Es : List (List Str)} {Q : VK} {E : XK} (hm : H1 m = none) (hdx : H1 dx = none) (hr : H1 r = some (.lst rv)) (pr : Paired (RowL K H1) rv R) (he : H1 e = some (.lst ev) ∨ H1 e = some (.tup ev)) (pe : Paired (Texts K H1) ev Es)
    (asc : sg.cps.all (· < 128) = true) (z4 : sg.cps.size ≤ 4) (row : ∀ q ∈ R, q.length = sg.cps.size ∧ ∀ w ∈ q, Okw R.length w ∧ w.2.length ≤ 4) (l16 : R.length ≤ 16) (e16 : Es.length ≤ 16) (ends : ∀ ks ∈ Es, ks.length ≤ 4) (few : (kl (keysOfRows R ++ Es.flatten)).length ≤ 12)
    (q : ∀ H', Same H1 H' → MachAt Z.C H' m sg (R.map nrm) (Es.map kl) → Q .non H') : spInit K A Z [.ref m, .str sg, .ref r, .ref e] (upd (upd H1 dx (.own m)) m (.ins Z.C dx [])) Q E := by
  have s0 : Same H1 (upd (upd H1 dx (.own m)) m (.ins Z.C dx [])) := fun b o z => by
    rw [upd_ne (ne_of_none z hm), upd_ne (ne_of_none z hdx)]
    exact z
  have a : (keysOfRows R).length ≤ 16 * R.length := by
    have fb : ∀ {α : Type} (f : α → List Str) (m : Nat) {l : List α}, (∀ x ∈ l, (f x).length ≤ m) → (l.flatMap f).length ≤ m * l.length := by
      intro α f m l
      induction l with
      | nil => intro _; simp
      | cons x l ih =>
        intro h
        have := ih fun y hy => h y (List.mem_cons_of_mem _ hy)
        have := h x List.mem_cons_self
        rw [List.flatMap_cons, List.length_append, List.length_cons, Nat.mul_succ]
        omega
    refine fb _ 16 fun q hq => ?_
    have := fb (fun w : Way => w.2) 4 (l := q) fun w hw => ((row q hq).2 w hw).2
    have := (row q hq).1
    omega
  have b : Es.flatten.length ≤ 4 * Es.length := by
    clear pe few q
    induction Es with
    | nil => simp
    | cons x l ih =>
      have := ih (by simp at e16; omega) fun ks hk => ends ks (List.mem_cons_of_mem _ hk)
      have := ends x List.mem_cons_self
      rw [List.flatten_cons, List.length_append, List.length_cons]
      omega
  have bound : (keysOfRows R ++ Es.flatten).length + 1 < scanBound := by
    rw [List.length_append]
    have e : scanBound = 4096 := rfl
    omega
  refine ⟨m, r, e, dx, sg, rv, ev, R, Es, rfl, upd_same, s0 _ _ hr, L2.Paired.mapP pr fun _ _ z => z.keep s0, he.imp (fun z => s0 _ _ z) (fun z => s0 _ _ z), L2.Paired.mapP pe fun _ _ z => z.keep s0, asc, by omega, fun q hq => ⟨by rw [(row q hq).1]; exact Nat.le_refl _, by rw [(row q hq).1]; omega⟩, by omega, by omega, bound, ?_, ?_⟩
  · intro i j q w d H' hq hw nb
    exact absurd ((row q (List.mem_of_getElem? hq)).2 w (List.mem_of_getElem? hw)).1 nb
  · intro _ H' kd
    refine ⟨fun big => absurd big (by omega), fun _ ma => q H' (fun b o z => ?_) ma⟩
    exact kd.2 b o (s0 _ _ z) (ne_of_none z hm)
theorem ok_built (TM : TxtM K mg B) (TE : TxtE K mg A) (TC : TxtC K mg Z) (TB : TxtBu K mg f d) : FnOk P w K mg base CX0 7 f d ["signs", "labels", "step", "at_end"] (spBuilt P w K mg base T Z) := by
  have sc := sc_built
  have G_init : FnOk P w K mg base (L2.CX P w) 5 Z.f Z.d ["self", "signs", "rows", "ends"] (spInit K A Z) := ok_init TM TE TC
  refine TB.D_built.F.ok sc (fun vs H Q E h => ?_) (fun cdv A1 outer s H vs Q E hr h => ?_)
  · obtain ⟨_, _, _, _, _, _, _, _, _, rfl, _⟩ := h; rfl
  · obtain ⟨sg, q, us, ks, sv, av, nx, gv, en, rfl, hq, pk, nd, k1, k16, z4, asc, hT, hst, hen, few, kQ⟩ := h
    have lu : us.length = ks.length := Paired.length pk
    have hu : (A1.deeper (PyProof.Rows.envOfC "built" (defScope s_built) s.heap.objs.size f cdv)).units + 9 < cLine := by have := hr.units; omega
    have hu8 := Nat.lt_trans (Nat.lt_succ_self _) hu
    refine ⟨_, (pss_cons (ps_set (i := 5) sc.nd rfl (Or.inr rfl) (pe_dcN (own := [("state", 8), ("label", 4)]) (g := gTup K 2 (gCons (gName 8) (gCons (gName 4) gNil))) (tt := tYes) (tk := tVar 4) (tv := tVar 8) rfl hu8 sc.nd (pi_enum (by rfl) TB.n_enumerate (pa_cons (pv 1) pa_nil)) (blkOk_by (N := Nbuilt) (sc := defScope s_built) (own := [("state", 8), ("label", 4)]) (by decide +kernel)) (fun _ _ _ _ _ => (pg_tup rfl (pgs_cons (pg_name (i := 8) sc.nd rfl (Or.inl rfl)) (pgs_cons (pg_name (i := 4) sc.nd rfl (Or.inl rfl)) pgs_nil)))) (fun _ _ _ _ _ => pts_nil) (fun _ _ _ _ _ => pv 4) (fun _ _ _ _ _ => pv 8)))
      (pss_cons (ps_set (i := 6) sc.nd rfl (Or.inl rfl) (pe_lst pa_nil))
      (pss_cons (ps_for PassesOwn.never rfl (pi_list (pv 1)) (pg_name (i := 4) sc.nd rfl (Or.inr rfl))
      (pss_cons (ps_setLc (i := 7) (own := [("sign", 9)]) (g := gName 9) (tt := tYes) (te := tCallC P w K mg base 5 2 (tCons (tVar 4) (tCons (tVar 9) tNil))) rfl sc.nd rfl rfl (sw_true rfl rfl rfl (by decide +kernel)) (pi_str (pv 0)) (blkOk_by (N := Nbuilt) (sc := defScope s_built) (own := [("sign", 9)]) (by decide +kernel)) (fun _ _ _ _ _ => (pg_name (i := 9) sc.nd rfl (Or.inl rfl))) (fun _ _ _ _ _ => pts_nil) (fun _ _ _ _ _ => pe_cc (k := 5) 2 hr (by decide) (pa_cons (pv 4) (pa_cons (pv 9) pa_nil))))
      (pss_one (ps_expr (pe_bm PySem.F.plainAttrs_list PySem.F.slot_list_append PySem.F.type_list_append mt_append (pv 6) (pa_cons (pe_lc (own := [("to", 10), ("given", 11)]) (g := gTup K 2 (gCons (gName 10) (gCons (gName 11) gNil))) (tt := tYes) (te := tTup (tCons (tGetN w (tVar 5) (tVar 10)) (tCons (tVar 11) tNil))) rfl sc.nd (pi_list (pv 7)) (blkOk_by (N := Nbuilt) (sc := defScope s_built) (own := [("to", 10), ("given", 11)]) (by decide +kernel)) (fun _ _ _ _ _ => (pg_tup rfl (pgs_cons (pg_name (i := 10) sc.nd rfl (Or.inl rfl)) (pgs_cons (pg_name (i := 11) sc.nd rfl (Or.inl rfl)) pgs_nil)))) (fun _ _ _ _ _ => pts_nil) (fun _ _ _ _ _ => (pe_tup (pa_cons (pe_getN hu (pv 5) (pv 10) (fun _ _ => rfl)) (pa_cons (pv 11) pa_nil))))) pa_nil))))))
      (pss_one (ps_ret (pe_make TC.make G_init (hr.mono (by decide)) rfl TC.g TC.b .nil (passX fun _ _ _ h => h) (pa_cons (pv 0) (pa_cons (pv 6) (pa_cons (pe_lc (own := [("label", 4)]) (g := gName 4) (tt := tYes) (te := tCallC P w K mg base 5 3 (tCons (tVar 4) tNil)) rfl sc.nd (pi_list (pv 1)) (blkOk_by (N := Nbuilt) (sc := defScope s_built) (own := [("label", 4)]) (by decide +kernel)) (fun _ _ _ _ _ => (pg_name (i := 4) sc.nd rfl (Or.inl rfl))) (fun _ _ _ _ _ => pts_nil) (fun _ _ _ _ _ => pe_cc (k := 5) 3 hr (by decide) (pa_cons (pv 4) pa_nil))) pa_nil))))))))), ?_⟩
    refine ⟨_, rfl, q, _, rfl, SqL.of hq, fun D hD => ?_⟩
    refine dcn_it (τ := [some (.str sg), some (.ref q), some sv, some av, none, none, none, none, none, none, none, none]) rfl walk_enum (fun i H' => Same H H' ∧ DN w H' D (lbl ks i)) (fun φ d0 => ⟨Same.upd hD, d0⟩) (fun i H' _ z => SqL.of (z.1 _ _ hq)) ?_ ?_
    · rintro i x H1 H1' hi ⟨s1, d1⟩ ⟨t, y, z, rfl, nt, rfl, ey, ez⟩
      cases ey
      have ez' : us[i]? = some z := ez
      obtain ⟨k, hk, ⟨b, rfl⟩, kk, dk⟩ := pat pk ez'
      have kk1 : DicN.KeyN (upd H1 t (.tup [V.int (i : Nat), .ref b])) k (.ref b) := DicN.KeyN.keep (fun c xs y => Same.upd nt _ _ (s1 _ _ y)) _ _ kk
      refine ⟨t, _, rfl, SqT.of upd_same, rfl, _, _, rfl, _, _, rfl, rfl, rfl, _, rfl, _, rfl, lbl ks i, k, b, rfl, d1.same (Same.upd nt), kk1, dk, ?_, fun φ d2 => ⟨?_, ?_⟩⟩
      · have := lbl_len ks i
        rw [sizeLine_eq]; omega
      · intro c o e
        rw [upd_ne (ne_of_none e hD)]
        exact Same.upd nt _ _ (s1 _ _ e)
      · have e : lbl ks (i + 1) = putK (lbl ks i) k (.int (i : Nat)) := by
          show (match ks[i]? with
            | some k => putK (lbl ks i) k (.int (i : Nat))
            | none => lbl ks i) = _
          rw [hk]
        rw [e]
        exact d2
    · rintro H1 ⟨s1, h1⟩
      rw [lu] at h1
      refine ⟨by show 0 ≤ sizeLine; decide, fun rr hrr => ?_⟩
      have s2 : Same H (upd H1 rr (.lst [])) := fun b o z => Same.upd hrr _ _ (s1 _ _ z)
      have nrr : H rr = none := by
        cases e : H rr with
        | none => rfl
        | some o => rw [s1 _ _ e] at hrr; cases hrr
      have hD2 : DN w (upd H1 rr (.lst [])) D (lbl ks ks.length) := h1.same (Same.upd hrr)
      have hr2 : (upd H1 rr (.lst [])) rr = some (.lst []) := upd_same
      have T2 : NdefX.TabsN T (upd H1 rr (.lst [])) := hT.ext s2
      generalize upd H1 rr (.lst []) = H2 at s2 hD2 hr2 T2 ⊢
      clear h1 s1 hrr
      have nD : D ≠ rr := by
        obtain ⟨φ, z⟩ := hD2.at_
        exact ne_of z hr2 (by intro y; cases y)
      refine ⟨_, rfl, q, rfl, ⟨_, SqL.of (s2 _ _ hq)⟩, ?_⟩
      have nq : q ≠ rr := fun e => by rw [← e, hq] at nrr; cases nrr
      refine for_it walk_list (fun i σ H' => (∃ o4 o7 : Option V, σ = [some (.str sg), some (.ref q), some sv, some av, o4, some (.ref D), some (.ref rr), o7, none, none, none, none]) ∧ (∀ b o, H2 b = some o → (∀ ps, o ≠ .tbl ps) → b ≠ rr → H' b = some o) ∧ NdefX.TabsN T H' ∧ ∃ rv, H' rr = some (.lst rv) ∧ Paired (RowF rr H') rv ((rowsB sg ks.length nx gv).take i)) ⟨⟨_, _, rfl⟩, fun _ _ z _ _ => z, T2, [], hr2, .nil⟩ (fun i σ H' _ z => SqL.of (z.2.1 _ _ (s2 _ _ hq) (fun ps y => by cases y) nq)) ?_ ?_
      · rintro i x σ _ H3 hi ⟨⟨o4, o7, rfl⟩, s3, T3, rv, hr3, pr⟩ ⟨rfl, hx⟩
        rw [lu] at hi
        have sH3 : LamX.ExtN H H3 := fun b o z nt => s3 _ _ (s2 _ _ z) nt fun e => by rw [e, nrr] at z; cases z
        refine ⟨_, rfl, sg, rfl, fun W hW => ?_⟩
        refine lcs_it [some (.str sg), some (.ref q), some sv, some av, some x, some (.ref D), some (.ref rr), o7, none, none, none, none] rfl walk_str (fun j H' => LamX.ExtN H3 H' ∧ NdefX.TabsN T H' ∧ ∃ zs, H' W = some (.lst zs) ∧ Paired (fun z c => StepR ks (nx i c) (gv i c) H' z) zs (sg.cps.toList.take j)) ⟨sameN (Same.upd hW), T3.ext (Same.upd hW), [], upd_same, .nil⟩ (fun _ _ _ _ => trivial) ?_ ?_
        · rintro j y _ H4 hj ⟨s4, T4, zs, h4, p4⟩ ⟨rfl, c, hc, rfl⟩
          have hc' : sg.cps.toList[j]? = some c := by rw [Array.getElem?_toList]; exact hc
          have cm := List.mem_of_getElem? hc'
          refine ⟨rfl, ?_⟩
          dsimp only [tYes]
          rw [if_pos rfl]
          refine callT_of (hst i x c hx cm).2.2 rfl (sH3.trans s4) T4 (fun G hG => ⟨_, rfl, _, rfl, hG _ (Same.refl _)⟩) fun z H5 s5 T5 r => ⟨zs, lstE s5 h4, ?_, ?_, tabs_put (lstE s5 h4) T5, zs ++ [z], upd_same, ?_⟩
          · have := Paired.length p4
            rw [List.length_take, Array.length_toList (xs := sg.cps)] at this
            rw [sizeLine_eq]; omega
          · intro b o e nt
            rw [upd_ne (ne_of_none e hW)]
            exact s5 _ _ (s4 _ _ e nt) nt
          · have kt : TupK H5 (upd H5 W (.lst (zs ++ [z]))) := fun b xs e => by
              rw [upd_ne (ne_of e (lstE s5 h4) (by intro y; cases y))]; exact e
            rw [List.take_add_one, hc']
            exact psnoc (L2.Paired.mapP p4 fun _ _ y => y.keep fun b xs e => kt _ _ (tupE s5 _ _ e)) (r.keep kt)
        · rintro H4 ⟨s4, T4, zs, h4, p4⟩
          have e0 : sg.cps.toList.take sg.cps.size = sg.cps.toList := List.take_of_length_le (by rw [Array.length_toList]; exact Nat.le_refl _)
          rw [e0] at p4
          have lz := Paired.length p4
          rw [Array.length_toList (xs := sg.cps)] at lz
          have lrow : (rowB sg nx gv i).length = sg.cps.size := by unfold rowB; rw [List.length_map, Array.length_toList (xs := sg.cps)]
          have hr4 := lstE s4 hr3
          have hD3 : DN w H3 D (lbl ks ks.length) := hD2.keep (fun b φ z => s3 _ _ z (fun ps y => by cases y) (ne_of z hr2 (by intro y; cases y))) fun b xs z => s3 _ _ z (fun ps y => by cases y) (ne_of z hr2 (by intro y; cases y))
          have hD4 := DNe s4 hD3
          refine ⟨_, rfl, .inl ⟨rfl, _, SqL.of hr4⟩, ?_⟩
          refine ⟨_, rfl, W, rfl, ⟨_, SqL.of h4⟩, fun L hL => ?_⟩
          have nL : L ≠ rr := (ne_of_none hr4 hL).symm
          refine lcs_it [some (.str sg), some (.ref q), some sv, some av, some x, some (.ref D), some (.ref rr), some (.ref W), none, none, none, none] rfl walk_list (fun j H' => Same H4 H' ∧ ∃ us, H' L = some (.lst us) ∧ Paired (WayG H') us ((rowB sg nx gv i).take j)) ⟨Same.upd hL, [], upd_same, .nil⟩ (fun j H' _ z => SqL.of (z.1 _ _ h4)) ?_ ?_
          · rintro j z _ H5 hj ⟨s5, us', h5, p5⟩ ⟨rfl, hz⟩
            obtain ⟨c, hc, p, a, b', k', rfl, hk', kn', dp', hp, ha⟩ := pat p4 hz
            have cm := List.mem_of_getElem? hc
            refine ⟨p, _, rfl, SqT.of (s5 _ _ hp), rfl, _, _, rfl, _, _, rfl, rfl, rfl, ?_⟩
            refine ⟨_, rfl, _, rfl, D, b', lbl ks ks.length, k', _, rfl, rfl, hD4.same s5, DicN.KeyN.keep (fun b xs z => s5 _ _ z) _ _ kn', dp', lbl_at nd hk' ks.length (hst i x c hx cm).1 (Nat.le_refl _), _, rfl, by show 2 ≤ sizeLine; decide, fun T hT => ⟨us', Same.upd hT _ _ h5, ?_, ?_, us' ++ [.ref T], upd_same, ?_⟩⟩
            · have := Paired.length p5
              rw [List.length_take, lrow] at this
              rw [sizeLine_eq]; omega
            · intro b o e
              rw [upd_ne (ne_of_none e hL)]
              exact Same.upd hT _ _ (s5 _ _ e)
            · have h5' := Same.upd (o := .tup [V.int (nx i c : Nat), V.ref a]) hT _ _ h5
              have kt : TupK (upd H5 T (.tup [V.int (nx i c : Nat), V.ref a])) (upd (upd H5 T (.tup [V.int (nx i c : Nat), V.ref a])) L (.lst (us' ++ [.ref T]))) := fun b xs e => by
                rw [upd_ne (ne_of e h5' (by intro y; cases y))]; exact e
              have hcj : (rowB sg nx gv i)[j]? = some (((nx i c : Nat) : Int), gv i c) := by
                unfold rowB
                rw [List.getElem?_map, hc]
                rfl
              rw [List.take_add_one, hcj]
              exact psnoc (L2.Paired.mapP p5 fun _ _ y => y.keep fun b xs e => kt _ _ (Same.upd hT _ _ e)) ⟨T, a, rfl, kt _ _ upd_same, kt _ _ (Same.upd hT _ _ (s5 _ _ ha))⟩
          · rintro H5 ⟨s5, us', h5, p5⟩
            have lr : (rowB sg nx gv i).length = zs.length := by rw [lrow, lz]
            rw [← lr, List.take_length] at p5
            have hr5 := s5 _ _ hr4
            have lrv := Paired.length pr
            rw [List.length_take] at lrv
            refine ⟨rr, rv, _, rfl, rfl, hr5, by rw [sizeLine_eq]; omega, ⟨_, _, rfl⟩, fun b o z nt n => ?_, tabs_put hr5 (T4.ext s5), rv ++ [.ref L], upd_same, ?_⟩
            · rw [upd_ne n]
              exact s5 _ _ (s4 _ _ (s3 _ _ z nt n) nt)
            · have kt : TupK H5 (upd H5 rr (.lst (rv ++ [.ref L]))) := fun b xs e => by
                rw [upd_ne (ne_of e hr5 (by intro y; cases y))]; exact e
              have hri : (rowsB sg ks.length nx gv)[i]? = some (rowB sg nx gv i) := by
                unfold rowsB
                rw [List.getElem?_map, List.getElem?_range hi]
                rfl
              rw [List.take_add_one, hri]
              refine psnoc (L2.Paired.mapP pr fun _ _ ⟨a, vs, e1, e2, e3, e4⟩ => ⟨a, vs, e1, e2, by rw [upd_ne e2]; exact s5 _ _ (lstE s4 e3), L2.Paired.mapP e4 fun _ _ y => y.keep fun b xs e => kt _ _ (s5 _ _ (tupE s4 _ _ e))⟩) ⟨L, us', rfl, nL, by rw [upd_ne nL]; exact h5, L2.Paired.mapP p5 fun _ _ y => y.keep kt⟩
      · rintro σ H3 ⟨⟨o4, o7, rfl⟩, s3, T3, rv, hr3, pr⟩
        have lrs : (rowsB sg ks.length nx gv).length = ks.length := by unfold rowsB; rw [List.length_map, List.length_range]
        have e9 : (rowsB sg ks.length nx gv).take us.length = rowsB sg ks.length nx gv := List.take_of_length_le (by rw [lrs, lu]; exact Nat.le_refl _)
        rw [e9] at pr
        have sH3 : LamX.ExtN H H3 := fun b o z nt => s3 _ _ (s2 _ _ z) nt fun e => by rw [e, nrr] at z; cases z
        have tailL : Paired (RowL K H3) rv (rowsB sg ks.length nx gv) := L2.Paired.mapP pr fun _ _ ⟨a, vs, e1, e2, e3, e4⟩ => ⟨a, vs, e1, e3, L2.Paired.mapP e4 fun _ _ ⟨b, g, f1, f2, f3⟩ => ⟨b, .ref g, f1, f2, .tup (SqT.of f3)⟩⟩
        refine ⟨_, rfl, _, rfl, _, rfl, q, rfl, ⟨_, SqL.of (lstE sH3 hq)⟩, fun W hW => ?_⟩
        refine lcs_it [some (.str sg), some (.ref q), some sv, some av, none, some (.ref D), some (.ref rr), o7, none, none, none, none] rfl walk_list (fun j H' => LamX.ExtN H3 H' ∧ NdefX.TabsN T H' ∧ ∃ zs, H' W = some (.lst zs) ∧ Paired (KeysT H') zs ((endsB ks.length en).take j)) ⟨sameN (Same.upd hW), T3.ext (Same.upd hW), [], upd_same, .nil⟩ (fun j H' _ z => SqL.of (lstE z.1 (lstE sH3 hq))) ?_ ?_
        · rintro j x _ H4 hj ⟨s4, T4, zs, h4, p4⟩ ⟨rfl, hx⟩
          rw [lu] at hj
          refine ⟨rfl, ?_⟩
          dsimp only [tYes]
          rw [if_pos rfl]
          refine callT_of (hen j x hx).2 rfl (sH3.trans s4) T4 (fun G hG => ⟨_, rfl, hG _ (Same.refl _)⟩) fun z H5 s5 T5 r => ⟨zs, lstE s5 h4, ?_, ?_, tabs_put (lstE s5 h4) T5, zs ++ [z], upd_same, ?_⟩
          · have := Paired.length p4
            rw [List.length_take] at this
            rw [sizeLine_eq]; omega
          · intro b o e nt
            rw [upd_ne (ne_of_none e hW)]
            exact s5 _ _ (s4 _ _ e nt) nt
          · have kt : TupK H5 (upd H5 W (.lst (zs ++ [z]))) := fun b xs e => by
              rw [upd_ne (ne_of e (lstE s5 h4) (by intro y; cases y))]; exact e
            have hej : (endsB ks.length en)[j]? = some (en j) := by
              unfold endsB
              rw [List.getElem?_map, List.getElem?_range hj]
              rfl
            rw [List.take_add_one, hej]
            exact psnoc (L2.Paired.mapP p4 fun _ _ y => KeysT.keep (fun b xs e => kt _ _ (tupE s5 _ _ e)) y) (KeysT.keep kt r)
        · rintro H4 ⟨s4, T4, zs, h4, p4⟩
          have les : (endsB ks.length en).length = ks.length := by unfold endsB; rw [List.length_map, List.length_range]
          have e8 : (endsB ks.length en).take us.length = endsB ks.length en := List.take_of_length_le (by rw [les, lu]; exact Nat.le_refl _)
          rw [e8] at p4
          intro m dx hm hdx nm
          have at_ : ∀ i, i < ks.length → ∃ u, us[i]? = some u := fun i hi => ⟨_, List.getElem?_eq_getElem (by omega)⟩
          have rowk : ∀ i u, us[i]? = some u → (rowB sg nx gv i).length = sg.cps.size ∧ ∀ w ∈ rowB sg nx gv i, Okw ks.length w ∧ w.2.length ≤ 4 := fun i u hu' => by
            unfold rowB
            refine ⟨by rw [List.length_map, Array.length_toList (xs := sg.cps)], fun w hw => ?_⟩
            obtain ⟨c, hc, rfl⟩ := List.mem_map.mp hw
            obtain ⟨g1, g2, _⟩ := hst i u c hu' hc
            exact ⟨⟨Int.natCast_nonneg _, by show ((nx i c : Nat) : Int) < (ks.length : Int); omega⟩, g2⟩
          have tail4 : Paired (RowL K H4) rv (rowsB sg ks.length nx gv) := L2.Paired.mapP pr fun _ _ ⟨a, vs, e1, e2, e3, e4⟩ => ⟨a, vs, e1, lstE s4 e3, L2.Paired.mapP e4 fun _ _ ⟨b, g, f1, f2, f3⟩ => ⟨b, .ref g, f1, tupE s4 _ _ f2, .tup (SqT.of (tupE s4 _ _ f3))⟩⟩
          refine init_okL hm hdx (lstE s4 hr3) tail4 (.inl h4) (L2.Paired.mapP p4 fun _ _ ⟨a, e1, e2⟩ => e1 ▸ .tup (SqT.of e2)) asc z4 (fun r hr => ?_) (by omega) (by omega) (fun e he => ?_) few fun H5 s5 ma => ⟨rfl, ?_⟩
          · obtain ⟨i, hi, rfl⟩ := List.mem_map.mp hr
            obtain ⟨k, hk⟩ := at_ i (List.mem_range.mp hi)
            rw [lrs]
            exact rowk i k hk
          · obtain ⟨i, hi, rfl⟩ := List.mem_map.mp he
            obtain ⟨k, hk⟩ := at_ i (List.mem_range.mp hi)
            exact (hen i k hk).1
          · exact kQ m H5 ((sH3.trans s4).trans (sameN s5)) (T4.ext s5) ma
end
end Kx

namespace Kx
open PySem L2 Own
/-! ### pairs of states that texts come to, in plain lists -/
abbrev Pr := Nat × Nat
def addB (nx : Pr → Nat → Pr) (p : Pr) (ls : List Pr) (c : Nat) : List Pr := if nx p c ∈ ls then ls else ls ++ [nx p c]
def turnB (nx : Pr → Nat → Pr) (p : Pr) (ls : List Pr) (cs : List Nat) : List Pr := cs.foldl (addB nx p) ls
def bfs (nx : Pr → Nat → Pr) (cs : List Nat) : Nat → List Pr
  | 0 => [(0, 0)]
  | d + 1 => match (bfs nx cs d)[d]? with
    | some p => turnB nx p (bfs nx cs d) cs
    | none => bfs nx cs d
/-- the walk through the pairs is over at d, and was not before -/
def Over (nx : Pr → Nat → Pr) (cs : List Nat) (d : Nat) : Prop := (∀ j, j < d → j < (bfs nx cs j).length) ∧ ¬ d < (bfs nx cs d).length
theorem over_one {nx : Pr → Nat → Pr} {cs : List Nat} {d e : Nat} (a : Over nx cs d) (b : Over nx cs e) : d = e := by
  rcases Nat.lt_trichotomy d e with h | h | h
  · exact absurd (b.1 d h) a.2
  · exact h
  · exact absurd (a.1 e h) b.2
section
variable {nx : Pr → Nat → Pr} {cs : List Nat} {n1 n2 : Nat}
theorem add_pre {p : Pr} {ls : List Pr} {c i : Nat} {q : Pr} (h : ls[i]? = some q) : (addB nx p ls c)[i]? = some q := by
  unfold addB
  split
  · exact h
  · rw [List.getElem?_append_left (List.getElem?_eq_some_iff.mp h).1]
    exact h
theorem turn_pre {p : Pr} {i : Nat} {q : Pr} : ∀ {cs : List Nat} {ls : List Pr}, ls[i]? = some q → (turnB nx p ls cs)[i]? = some q
  | [], ls, h => h
  | c :: cs, ls, h => turn_pre (cs := cs) (add_pre h)
theorem turn_mem {p q : Pr} {ls cs} (h : q ∈ ls) : q ∈ turnB nx p ls cs := by
  obtain ⟨i, hi⟩ := List.getElem?_of_mem h
  exact List.mem_of_getElem? (turn_pre hi)
theorem bfs_pre {d i : Nat} {q : Pr} (h : (bfs nx cs d)[i]? = some q) : (bfs nx cs (d + 1))[i]? = some q := by
  unfold bfs
  split
  · exact turn_pre h
  · exact h
theorem bfs_first (d : Nat) : (bfs nx cs d)[0]? = some (0, 0) := by
  induction d with
  | zero => rfl
  | succ d ih => exact bfs_pre ih
theorem add_nodup {p : Pr} {ls : List Pr} {c : Nat} (nd : ls.Nodup) : (addB nx p ls c).Nodup := by
  unfold addB
  split
  · exact nd
  · rename_i m
    refine List.nodup_append.mpr ⟨nd, by simp, fun a ha b hb => ?_⟩
    rw [List.mem_singleton.mp hb]
    exact fun e => m (e ▸ ha)
theorem turn_nodup {p : Pr} : ∀ {cs : List Nat} {ls : List Pr}, ls.Nodup → (turnB nx p ls cs).Nodup
  | [], ls, h => h
  | c :: cs, ls, h => turn_nodup (cs := cs) (add_nodup h)
theorem bfs_nodup (d : Nat) : (bfs nx cs d).Nodup := by
  induction d with
  | zero => simp [bfs]
  | succ d ih =>
    unfold bfs
    split
    · exact turn_nodup ih
    · exact ih
/-- within the states -/
def In2 (n1 n2 : Nat) (p : Pr) : Prop := p.1 < n1 ∧ p.2 < n2
theorem turn_in {p : Pr} (hn : ∀ c ∈ cs, In2 n1 n2 (nx p c)) {ls : List Pr} (h : ∀ q ∈ ls, In2 n1 n2 q) : ∀ q ∈ turnB nx p ls cs, In2 n1 n2 q := by
  induction cs generalizing ls with
  | nil => exact h
  | cons c cs ih =>
    refine ih (fun d hd => hn d (List.mem_cons_of_mem _ hd)) fun q hq => ?_
    unfold addB at hq
    split at hq
    · exact h q hq
    · rcases List.mem_append.mp hq with hq | hq
      · exact h q hq
      · rw [List.mem_singleton.mp hq]
        exact hn c List.mem_cons_self
theorem bfs_in (h0 : In2 n1 n2 (0, 0)) (hn : ∀ p, In2 n1 n2 p → ∀ c ∈ cs, In2 n1 n2 (nx p c)) (d : Nat) : ∀ q ∈ bfs nx cs d, In2 n1 n2 q := by
  induction d with
  | zero => intro q hq; rw [List.mem_singleton.mp hq]; exact h0
  | succ d ih =>
    unfold bfs
    split
    · rename_i p hp
      exact turn_in (hn p (ih p (List.mem_of_getElem? hp))) ih
    · exact ih
theorem in2_few {ls : List Pr} (nd : ls.Nodup) (h : ∀ q ∈ ls, In2 n1 n2 q) : ls.length ≤ n1 * n2 := by
  have e : ((List.range n1).flatMap fun i => (List.range n2).map fun j => (i, j)).length = n1 * n2 := by
    rw [List.length_flatMap]
    have : (List.map (fun i => (List.map (fun j => (i, j)) (List.range n2)).length) (List.range n1)) = List.replicate n1 n2 := by
      refine List.ext_getElem (by simp) fun i h1 h2 => ?_
      simp
    rw [this]
    simp
  rw [← e]
  refine nd_sub_len nd fun q hq => ?_
  obtain ⟨a, b⟩ := h q hq
  exact List.mem_flatMap.mpr ⟨q.1, List.mem_range.mpr a, List.mem_map.mpr ⟨q.2, List.mem_range.mpr b, rfl⟩⟩
theorem turn_has {p : Pr} {c : Nat} : ∀ {cs : List Nat} {ls : List Pr}, c ∈ cs → nx p c ∈ turnB nx p ls cs
  | d :: cs, ls, h => by
    rcases List.mem_cons.mp h with rfl | h
    · show nx p c ∈ turnB nx p (addB nx p ls c) cs
      refine turn_mem ?_
      unfold addB
      split
      · assumption
      · exact List.mem_append_right _ List.mem_cons_self
    · exact turn_has (cs := cs) h
/-- what was done is closed -/
theorem bfs_closed {d i : Nat} {p : Pr} {c : Nat} (hi : i < d) (hp : (bfs nx cs d)[i]? = some p) (hc : c ∈ cs) (hd : ∀ j, j < d → j < (bfs nx cs j).length) : nx p c ∈ bfs nx cs d := by
  induction d with
  | zero => omega
  | succ d ih =>
    have hl := hd d (Nat.lt_succ_self _)
    have hq : (bfs nx cs d)[d]? = some (bfs nx cs d)[d] := List.getElem?_eq_getElem hl
    have e : bfs nx cs (d + 1) = turnB nx (bfs nx cs d)[d] (bfs nx cs d) cs := by
      show (match (bfs nx cs d)[d]? with
        | some p => turnB nx p (bfs nx cs d) cs
        | none => bfs nx cs d) = _
      rw [hq]
    have keep : ∀ {j : Nat} {q : Pr}, j < (bfs nx cs d).length → (bfs nx cs (d + 1))[j]? = some q → (bfs nx cs d)[j]? = some q := fun {j q} hj h => by
      have z : (bfs nx cs d)[j]? = some (bfs nx cs d)[j] := List.getElem?_eq_getElem hj
      rw [bfs_pre z] at h
      rw [z]; exact h
    rcases Nat.lt_succ_iff_lt_or_eq.mp hi with h | rfl
    · have hl' : i < (bfs nx cs d).length := by omega
      have := ih h (keep hl' hp) fun j hj => hd j (by omega)
      rw [e]
      exact turn_mem this
    · have z := keep hl hp
      rw [hq] at z
      rw [e, ← Option.some.inj z]
      exact turn_has hc
theorem over_closed {d : Nat} (o : Over nx cs d) {p : Pr} (hp : p ∈ bfs nx cs d) {c : Nat} (hc : c ∈ cs) : nx p c ∈ bfs nx cs d := by
  obtain ⟨i, hi⟩ := List.getElem?_of_mem hp
  have := (List.getElem?_eq_some_iff.mp hi).1
  have := o.2
  exact bfs_closed (by omega) hi hc o.1
end
end Kx

/-! a display {k: v} whose key is a tuple of numbers, texts and tuples -/
namespace DicN
open PySem PySem.Spec PyProof.Rows L2
def tDispN (w : World) (tk tv : TE) : TE := fun σ H Q => ∀ D, H D = none → ∀ φ, DN w (upd H D (.ext φ)) D [] → tk σ (upd H D (.ext φ)) fun x H1 => tv σ H1 fun y H2 => ∃ (k : NK) (b : Addr), x = .ref b ∧ DN w H2 D [] ∧ KeyN H2 k x ∧ k.depth ≤ 8 ∧
  ∀ φ', DN w (upd H2 D (.ext φ')) D [(k, y)] → Q (.ref D) (upd H2 D (.ext φ'))
theorem pe_dispN {X : Cx} {pos : Pos} {k v : Expr} {tk tv : TE} (hu : X.A.units + 8 < cLine) (hk : PE X k tk) (hv : PE X v tv) : PE X (.Dict [some k] [v] pos) (tDispN X.w tk tv) := by
  refine ⟨fun pins s σ H Q I h => ?_⟩
  have hn := I.hok.fresh (Nat.le_refl s.heap.objs.size)
  obtain ⟨ok, ns⟩ := dn_empty (P := X.prog) (w := X.w) (H := upd H s.heap.objs.size (dN X.w s.heap.objs.size [])) s.heap I.big
  have I1 := I.laid (a := s.heap.objs.size) (o := dN X.w s.heap.objs.size []) (h' := s.heap.push { cls := .type "dict", data := .dict #[] }) (t' := s.toks) (fun _ _ q => Heap.get?_push_of_some _ q) (Nat.le_refl _) ok
  have d1 : DN X.w (upd H s.heap.objs.size (dN X.w s.heap.objs.size [])) s.heap.objs.size [] := ⟨ns, Nat.zero_le _, [], upd_same, .nil, List.nodup_nil⟩
  have pp : PPs X pos [some k] [v] [(tk, tv)] := pps_cons hk hv pps_nil
  have l1 := pairTrees_length [some k] [v] X.env pos rfl rfl
  rw [arm_eval_Dict, zip_pairTrees [some k] [v] X.env pos rfl rfl, dictDisplay_pairs (pairTrees [some k] [v] X.env pos) (by intro e; rw [e] at l1; cases l1) (by rw [l1]; show 1 < 17; decide)]
  refine wpAny_bind (wpAny_standAt (wpAny_bind (wpAny_subDictH (knd := nestedKind X.prog X.w) (Q := fun d s' => wpAny (model X.prog X.w) X.A (pure (Value.ref d)) _ X.xe s') hu (by rw [l1]; show 1 ≤ 15; decide) ?_)))
  refine thn (pp.run pins _ σ _ (fun ps H2 => match ps with
    | [(x, y)] => ∃ (k : NK) (b : Addr), x = .ref b ∧ DN X.w H2 s.heap.objs.size [] ∧ KeyN H2 k x ∧ k.depth ≤ 8 ∧ ∀ φ', DN X.w (upd H2 s.heap.objs.size (.ext φ')) s.heap.objs.size [(k, y)] → Q (.ref s.heap.objs.size) (upd H2 s.heap.objs.size (.ext φ'))
    | _ => False) I1 (h _ hn _ d1)) ?_
  rintro ws s2 ⟨ps, H2, I2, rel, q⟩
  match ps, rel, q with
  | [(x, y)], rel, ⟨kk, b, ex, dd, hk2, hd2, q⟩ =>
    subst ex
    cases rel with
    | @cons _ u _ us r t =>
      cases t
      obtain ⟨u1, u2⟩ := u
      obtain ⟨r1, r2⟩ := r
      obtain rfl : u1 = Value.ref b := r1
      obtain ⟨xs, c, rr, _, dh⟩ := dn_of I2.hok dd
      cases rr
      refine ⟨[(kk, b, u2)], ⟨rfl, rfl, ⟨nested_of I2.hok _ _ _ hk2 rfl, hd2⟩, trivial⟩, dh, fun h' tk dd' sb => wpAny_pure ?_⟩
      obtain ⟨φ, I', d'⟩ := dn_new (tk := tk) I2 dd (by show 0 < sizeLine; decide) hd2 hk2 r2 c .nil dd' sb
      exact ⟨.ref _, _, I', rfl, q φ d'⟩
end DicN

/-! functions handed on that are called with what is made later -/
namespace PinX
open PySem PySem.Spec PyProof.Rows L2 LamX NdefX
section
variable {P : Program} {w : World} {K : PySem.W.Frag} {mg : Str → Option Value} {base : Heap} {T : List NTab}
theorem CanT.imp {k : Nat} {H : L2.Hp} {v : V} {vs : List V} {R R' : L2.Hp → V → Prop} (f : ∀ H z, R H z → R' H z) (h : CanT P w K mg base T k H v vs R) : CanT P w K mg base T k H v vs R' := by
  obtain ⟨a, F, ps, fr, ws, sp, h1, h2, h3, h4⟩ := h
  exact ⟨a, F, ps, fr, ws, sp, h1, h2, h3, fun H1 s t Q q => h4 H1 s t Q fun z H2 e2 t2 r => q z H2 e2 t2 (f _ _ r)⟩
/-- in a heap H' that came later: what tuples are there, the callee finds -/
theorem canT_late {X : Cx} {σ : L2.St} {cs : List Addr} {H1 Hp H' : L2.Hp} {f : Addr} {F : NF} {ps fr : List Str} {js : List Nat} {k : Nat} {sp : List (Option V) → Sp} {vs : List V} {R : L2.Hp → V → Prop}
    (p : PinsP X σ cs H1 Hp) (e' : ExtN Hp H') (fn : H1 f = some (FnO f F)) (co : H1 F.c = some (CodeO F.c F.qual)) (cap : Caps X F.cl fr js) (sub : ∀ q ∈ F.cl, X.env.cells.lookup q.1 = some q.2) (h2 : ∀ y c, X.env.cells.lookup y = some c → c ∈ cs)
    (Fn : NOk P w K mg base CX0 k f F ps fr sp) (mono : ∀ H H' z, ExtN H H' → R H z → R H' z)
    (hs : ∀ H2, ExtN H1 H2 → (∀ b xs, H' b = some (.tup xs) → H2 b = some (.tup xs)) → TabsN T H2 → ∀ Q : VK, (∀ z H3, ExtN H2 H3 → TabsN T H3 → R H3 z → Q z H3) → sp (js.map (slotAt σ)) vs H2 Q E0) : CanT P w K mg base T k H' (.ref f) vs R := by
  have inc : ∀ a ∈ cells F, a ∈ cs := fun a ha => by
    obtain ⟨⟨y, c⟩, hp, rfl⟩ := List.mem_map.mp ha
    exact h2 y c (sub _ hp)
  refine ⟨f, F, ps, fr, _, sp, rfl, (p.clo f F fr js cap sub fn co).keep fun b o ⟨φ, z⟩ q => e' b o q fun ps y => (by rw [z] at y; cases y), Fn, fun G sG tG Q q => ?_⟩
  have sP : ExtN Hp G := fun b o z nt => sG _ _ (e' _ _ z nt) nt
  have dG : ∀ c ∈ cells F, ∃ o v, G c = some (PinO c o) ∧ o.data = .cell v := fun c hc => by
    obtain ⟨o, v, z, d⟩ := p.dat c (inc c hc)
    exact ⟨o, v, sP _ _ z fun ps y => (by cases y), d⟩
  refine hs (unp (cells F) G) (fun b o z nt => ?_) (fun b xs z => ?_) (tabs_unp dG tG) _ fun z H3 e3 t3 r nn => q z _ (ext_rep nn e3).1 (tabs_rep nn t3) (mono _ _ _ (ext_rep nn e3).2 r)
  · rw [unp_out fun m => by rw [p.new b (inc b m)] at z; cases z]
    exact sP _ _ (p.at_ z) nt
  · have zG := sG _ _ z fun ps y => (by cases y)
    rw [unp_out fun m => ?_]
    · exact zG
    · obtain ⟨o, v, y, _⟩ := dG b m
      rw [zG] at y
      cases y
/-- what makes no functions may stand where functions may be made -/
theorem CanCall.toT {k : Nat} {H : L2.Hp} {v : V} {vs : List V} {R R' : L2.Hp → V → Prop} (f : ∀ H z, R H z → R' H z) (h : CanCall P w K mg base k H v vs R) : CanT P w K mg base T k H v vs R' := by
  obtain ⟨a, F, ps, fr, ws, sp, h1, h2, h3, h4⟩ := h
  exact ⟨a, F, ps, fr, ws, sp, h1, h2, h3, fun H1 s t Q q => h4 H1 s Q fun z H2 s2 r => q z H2 (sameN s2) (t.ext s2) (f _ _ r)⟩
/-- as canT_late, of a function that makes none -/
theorem canC_late {X : Cx} {σ : L2.St} {cs : List Addr} {H1 Hp H' : L2.Hp} {f : Addr} {F : NF} {ps fr : List Str} {js : List Nat} {k : Nat} {sp : List (Option V) → Sp} {vs : List V} {R : L2.Hp → V → Prop}
    (p : PinsP X σ cs H1 Hp) (e' : ExtN Hp H') (fn : H1 f = some (FnO f F)) (co : H1 F.c = some (CodeO F.c F.qual)) (cap : Caps X F.cl fr js) (sub : ∀ q ∈ F.cl, X.env.cells.lookup q.1 = some q.2) (h2 : ∀ y c, X.env.cells.lookup y = some c → c ∈ cs)
    (Fn : NOk P w K mg base CX0 k f F ps fr sp) (mono : ∀ H H' z, Same H H' → R H z → R H' z)
    (hs : ∀ H2, ExtN H1 H2 → (∀ b xs, H' b = some (.tup xs) → H2 b = some (.tup xs)) → ∀ Q : VK, (∀ z H3, Same H2 H3 → R H3 z → Q z H3) → sp (js.map (slotAt σ)) vs H2 Q E0) : CanCall P w K mg base k H' (.ref f) vs R := by
  have inc : ∀ a ∈ cells F, a ∈ cs := fun a ha => by
    obtain ⟨⟨y, c⟩, hp, rfl⟩ := List.mem_map.mp ha
    exact h2 y c (sub _ hp)
  refine ⟨f, F, ps, fr, _, sp, rfl, (p.clo f F fr js cap sub fn co).keep fun b o ⟨φ, z⟩ q => e' b o q fun ps y => (by rw [z] at y; cases y), Fn, fun G sG Q q => ?_⟩
  have sP : ExtN Hp G := fun b o z nt => sG _ _ (e' _ _ z nt) nt
  have dG : ∀ c ∈ cells F, ∃ o v, G c = some (PinO c o) ∧ o.data = .cell v := fun c hc => by
    obtain ⟨o, v, z, d⟩ := p.dat c (inc c hc)
    exact ⟨o, v, sP _ _ z fun ps y => (by cases y), d⟩
  refine hs (unp (cells F) G) (fun b o z nt => ?_) (fun b xs z => ?_) _ fun z H3 s3 r nn => q z _ (fun b o e => ?_) (mono _ _ _ (fun b o e => ?_) r)
  · rw [unp_out fun m => by rw [p.new b (inc b m)] at z; cases z]
    exact sP _ _ (p.at_ z) nt
  · have zG := sG _ _ z fun ps y => (by cases y)
    rw [unp_out fun m => ?_]
    · exact zG
    · obtain ⟨o, v, y, _⟩ := dG b m
      rw [zG] at y
      cases y
  · by_cases m : b ∈ cells F
    · rw [rep_in m]; exact e
    · rw [rep_out m]
      exact s3 _ _ (by rw [unp_out m]; exact e)
  · by_cases m : b ∈ cells F
    · rw [nn b m] at e; cases e
    · rw [rep_out m]; exact e
end
end PinX

namespace Kx
open PySem L2 Own PinX DicN
abbrev s_come_to : Stmt := top 37
structure TxtCo (K : PySem.W.Frag) (mg : Str → Option Value) (f : Addr) (d : FuncData) : Prop where
  D_come_to : DefT K mg "come_to" "come_to" s_come_to ["label", "signs", "step"] f d
  n_len : mg "len" = none
/-! ### labels that are pairs -/
def prK (p : Pr) : NK := .tup [.num p.1, .num p.2]
theorem prK_inj {p q : Pr} (h : prK p = prK q) : p = q := by
  unfold prK at h
  injection h with h
  injection h with h1 h2
  injection h2 with h2 _
  injection h1 with h1
  injection h2 with h2
  exact Prod.ext (Int.ofNat.inj h1) (Int.ofNat.inj h2)
def PrAt (H : Hp) (v : V) (p : Pr) : Prop := ∃ b, v = .ref b ∧ H b = some (.tup [.int (p.1 : Nat), .int (p.2 : Nat)])
theorem PrAt.keep {H H' : Hp} {v : V} {p : Pr} (s : TupK H H') (h : PrAt H v p) : PrAt H' v p := by
  obtain ⟨b, e, h⟩ := h
  exact ⟨b, e, s _ _ h⟩
theorem pr_key {H : Hp} {b : Addr} {p : Pr} (h : H b = some (.tup [.int (p.1 : Nat), .int (p.2 : Nat)])) : DicN.KeyN H (prK p) (.ref b) := by
  unfold prK
  exact ⟨b, _, rfl, h, _, _, rfl, .inl rfl, _, _, rfl, .inl rfl, rfl⟩
theorem pr_depth (p : Pr) : (prK p).depth ≤ 8 := by
  show (prK p).depth ≤ 8
  unfold prK
  simp [PySem.NestedKey.depth, PySem.NestedKey.depthAll]
def seenK (ls : List Pr) : List (NK × V) := ls.map fun p => (prK p, V.bl true)
theorem seen_val (ls : List Pr) (q : Pr) : (valV (seenK ls) (prK q)).isSome = decide (q ∈ ls) := by
  induction ls with
  | nil => rfl
  | cons p r ih =>
    unfold seenK at ih ⊢
    rw [List.map_cons]
    by_cases e : p = q
    · subst e
      rw [valV_pos rfl]
      simp
    · rw [valV_neg (fun z => e (prK_inj z)), ih]
      have e' : ¬ q = p := fun z => e z.symm
      simp [e']
theorem seen_put {ls : List Pr} {q : Pr} (h : q ∉ ls) : putK (seenK ls) (prK q) (.bl true) = seenK (ls ++ [q]) := by
  have : (seenK ls).any (fun kv => decide (kv.1 = prK q)) = false := by
    rw [List.any_eq_false]
    intro x hx
    obtain ⟨p, hp, rfl⟩ := List.mem_map.mp hx
    simp only [decide_eq_true_eq]
    exact fun z => h (prK_inj z ▸ hp)
  unfold putK
  rw [this, if_neg (by decide)]
  unfold seenK
  rw [List.map_append]
  rfl
/-- what a step tells -/
def StepP (q : Pr) (g : List Str) (H : Hp) (z : V) : Prop := ∃ zz b a, z = .ref zz ∧ H zz = some (.tup [.ref b, .ref a]) ∧ H b = some (.tup [.int (q.1 : Nat), .int (q.2 : Nat)]) ∧ H a = some (.tup (g.map V.str))
theorem StepP.keep {q : Pr} {g : List Str} {H H' : Hp} {z : V} (s : TupK H H') (h : StepP q g H z) : StepP q g H' z := by
  obtain ⟨zz, b, a, e, h1, h2, h3⟩ := h
  exact ⟨zz, b, a, e, s _ _ h1, s _ _ h2, s _ _ h3⟩
def StepC (P : Program) (w : World) (K : PySem.W.Frag) (mg : Str → Option Value) (base : Heap) (H : Hp) (sv : V) (n1 n2 : Nat) (cs : List Nat) (nx : Pr → Nat → Pr) (gv : Pr → Nat → List Str) : Prop :=
  ∀ H', LamX.ExtN H H' → ∀ (b : Addr) (p : Pr), In2 n1 n2 p → H' b = some (.tup [.int (p.1 : Nat), .int (p.2 : Nat)]) → ∀ c ∈ cs, CanCall P w K mg base 5 H' sv [.ref b, .str (Froz.sing c)] (StepP (nx p c) (gv p c))
def spCome (P : Program) (w : World) (K : PySem.W.Frag) (mg : Str → Option Value) (base : Heap) : Sp := fun vs H Q _ => ∃ (z0 : Addr) (sg : Str) (sv : V) (n1 n2 : Nat) (nx : Pr → Nat → Pr) (gv : Pr → Nat → List Str),
  vs = [.ref z0, .str sg, sv] ∧ H z0 = some (.tup [.int (0 : Nat), .int (0 : Nat)]) ∧ sg.cps.size ≤ 4 ∧ In2 n1 n2 (0, 0) ∧ n1 ≤ 16 ∧ n2 ≤ 16 ∧ (∀ p, In2 n1 n2 p → ∀ c ∈ sg.cps.toList, In2 n1 n2 (nx p c)) ∧
  StepC P w K mg base H sv n1 n2 sg.cps.toList nx gv ∧
  ∀ (Lb : Addr) (us : List V) (d : Nat) H', Same H H' → Over nx sg.cps.toList d → H' Lb = some (.lst us) → Paired (PrAt H') us (bfs nx sg.cps.toList d) → Q (.ref Lb) H'
abbrev Nco : List Str := ["label", "signs", "step", "seen", "labels", "done", "sign", "to"]
theorem sc_co : FnScope Nco ["label", "signs", "step"] (defScope s_come_to) := ⟨rfl, rfl, rfl, by decide +kernel, rfl, by decide +kernel, by decide +kernel⟩
section
variable {P : Program} {w : World} {K : PySem.W.Frag} {mg : Str → Option Value} {base : Heap} {f : Addr} {d : FuncData}
theorem ok_come (TC : TxtCo K mg f d) : FnOk P w K mg base CX0 7 f d ["label", "signs", "step"] (spCome P w K mg base) := by
  have sc := sc_co
  refine TC.D_come_to.F.ok sc (fun vs H Q E h => ?_) (fun cdv A1 outer s H vs Q E hr h => ?_)
  · obtain ⟨_, _, _, _, _, _, _, rfl, _⟩ := h; rfl
  · obtain ⟨z0, sg, sv, n1, n2, nx, gv, rfl, hz0, z4, i0, n16, m16, hin, hst, k⟩ := h
    have hu := hr.units
    have hu9 : (A1.deeper (PyProof.Rows.envOfC "come_to" (defScope s_come_to) s.heap.objs.size f cdv)).units + 9 < cLine := by omega
    have hu8 : (A1.deeper (PyProof.Rows.envOfC "come_to" (defScope s_come_to) s.heap.objs.size f cdv)).units + 8 < cLine := by omega
    refine ⟨_, (pss_cons (ps_set (i := 3) sc.nd rfl (Or.inl rfl) (pe_dispN hu8 (pv 0) pe_bl))
      (pss_cons (ps_set (i := 4) sc.nd rfl (Or.inl rfl) (pe_lst (pa_cons (pv 0) pa_nil)))
      (pss_cons (ps_set (i := 5) sc.nd rfl (Or.inl rfl) pe_int)
      (pss_cons (ps_while PassesOwn.never (pt_cmpR op_lt (pv 5) (pe_callB call_len (by rfl) TC.n_len (by decide +kernel) (pa_cons (pv 4) pa_nil)) (nomark _))
        (pss_cons (ps_for PassesOwn.never rfl (pi_str (pv 1)) (pg_name (i := 6) sc.nd rfl (Or.inl rfl))
          (pss_cons (ps_set (i := 7) sc.nd rfl (Or.inl rfl) (pe_ix ix_tup (pe_cc (k := 5) 2 hr (by decide) (pa_cons (pe_ix ix_list (pv 4) (pv 5) (fun _ _ => rfl)) (pa_cons (pv 6) pa_nil))) pe_int (fun _ _ => rfl)))
          (pss_one (ps_if (pt_cmp (pc_notinN hu9 (pv 7) (pv 3)))
            (pss_cons (ps_putN hu9 (pv 3) (pv 7) pe_bl rfl)
            (pss_one (ps_expr (pe_bm PySem.F.plainAttrs_list PySem.F.slot_list_append PySem.F.type_list_append mt_append (pv 4) (pa_cons (pv 7) pa_nil)))))
            pss_nil))))
        (pss_one (ps_aug (i := 5) sc.nd rfl (Or.inl rfl) pe_int ip_add))))
      (pss_one (ps_ret (pv 4))))))), ?_⟩
    intro D hD φ0 dn0
    refine ⟨_, rfl, prK (0, 0), z0, rfl, dn0, pr_key (p := (0, 0)) (Same.upd hD _ _ hz0), pr_depth _, fun φ1 dn1 => ?_⟩
    have s1 : Same H (upd (upd H D (.ext φ0)) D (.ext φ1)) := fun b o z => by
      rw [upd_ne (ne_of_none z hD), upd_ne (ne_of_none z hD)]; exact z
    have gD : ∃ φ, (upd (upd H D (.ext φ0)) D (.ext φ1)) D = some (.ext φ) := ⟨_, upd_same⟩
    generalize upd (upd H D (.ext φ0)) D (.ext φ1) = H1 at dn1 s1 gD ⊢
    refine ⟨_, rfl, by show 1 ≤ sizeLine; decide, fun Lb hLb => ?_⟩
    have nDL : Lb ≠ D := fun e => by obtain ⟨φ, z⟩ := gD; rw [e, z] at hLb; cases hLb
    have nL : H Lb = none := by
      cases e : H Lb with
      | none => rfl
      | some o => rw [s1 _ _ e] at hLb; cases hLb
    have few : ∀ e, (bfs nx sg.cps.toList e).length ≤ 256 := fun e => Nat.le_trans (in2_few (bfs_nodup e) (bfs_in i0 hin e)) (Nat.mul_le_mul n16 m16)
    refine ⟨fun m σ H' => ∃ (d : Nat) (o6 o7 : Option V) (us : List V), m + d = 300 ∧ σ = [some (.ref z0), some (.str sg), some sv, some (.ref D), some (.ref Lb), some (.int (d : Nat)), o6, o7] ∧ (∀ j, j < d → j < (bfs nx sg.cps.toList j).length) ∧ Same H H' ∧ DN w H' D (seenK (bfs nx sg.cps.toList d)) ∧ H' Lb = some (.lst us) ∧ Paired (PrAt H') us (bfs nx sg.cps.toList d),
      ⟨300, 0, none, none, _, rfl, rfl, fun j hj => absurd hj (Nat.not_lt_zero j), fun b o z => Same.upd hLb _ _ (s1 _ _ z), dn1.same (Same.upd hLb), upd_same, .cons ⟨z0, rfl, Same.upd hLb _ _ (s1 _ _ hz0)⟩ .nil⟩, ?_⟩
    rintro m σ H2 ⟨d, o6, o7, us, hm, rfl, hj, s2, dn2, hL2, pu2⟩
    have lu : us.length = (bfs nx sg.cps.toList d).length := Paired.length pu2
    refine ⟨_, rfl, _, rfl, .ref Lb, us.length, rfl, .inl ⟨_, SqL.of hL2, rfl⟩, _, _, rfl, rfl, _, rfl, ?_⟩
    by_cases cl : d < us.length
    · have hp : (bfs nx sg.cps.toList d)[d]? = some ((bfs nx sg.cps.toList d)[d]'(by omega)) := List.getElem?_eq_getElem (by omega)
      generalize (bfs nx sg.cps.toList d)[d]'(by omega) = p at hp
      have ip : In2 n1 n2 p := bfs_in i0 hin d p (List.mem_of_getElem? hp)
      have e1 : bfs nx sg.cps.toList (d + 1) = turnB nx p (bfs nx sg.cps.toList d) sg.cps.toList := by
        show (match (bfs nx sg.cps.toList d)[d]? with
          | some p => turnB nx p (bfs nx sg.cps.toList d) sg.cps.toList
          | none => bfs nx sg.cps.toList d) = _
        rw [hp]
      rw [decide_eq_true (by omega : ((d : Nat) : Int) < (us.length : Nat))]
      refine iteT ⟨fun σ' H' => ∃ (o6 o7 : Option V) (us' : List V), σ' = [some (.ref z0), some (.str sg), some sv, some (.ref D), some (.ref Lb), some (.int ((d + 1 : Nat) : Int)), o6, o7] ∧ Same H H' ∧ DN w H' D (seenK (bfs nx sg.cps.toList (d + 1))) ∧ H' Lb = some (.lst us') ∧ Paired (PrAt H') us' (bfs nx sg.cps.toList (d + 1)), ?_, ?_⟩
      · rintro σ' H' ⟨o6', o7', us', rfl, s', dn', hL', pu'⟩
        refine ⟨m - 1, ?_, d + 1, o6', o7', us', ?_, rfl, fun j h => ?_, s', dn', hL', pu'⟩
        · have := few d; omega
        · have := few d; omega
        · rcases Nat.lt_succ_iff_lt_or_eq.mp h with h | rfl
          · exact hj j h
          · omega
      refine ⟨_, rfl, sg, rfl, ?_⟩
      refine for_it walk_str (fun j σ H' => (∃ o6 o7 : Option V, σ = [some (.ref z0), some (.str sg), some sv, some (.ref D), some (.ref Lb), some (.int (d : Nat)), o6, o7]) ∧ Same H H' ∧ DN w H' D (seenK (turnB nx p (bfs nx sg.cps.toList d) (sg.cps.toList.take j))) ∧ ∃ us', H' Lb = some (.lst us') ∧ Paired (PrAt H') us' (turnB nx p (bfs nx sg.cps.toList d) (sg.cps.toList.take j)))
        ⟨⟨_, _, rfl⟩, s2, dn2, us, hL2, pu2⟩ (fun _ _ _ _ _ => trivial) ?_ ?_
      · rintro j x σ _ H3 hjj ⟨⟨o6', o7', rfl⟩, s3, dn3, us3, hL3, pu3⟩ ⟨rfl, c, hc, rfl⟩
        have hc' : sg.cps.toList[j]? = some c := by rw [Array.getElem?_toList]; exact hc
        have cm := List.mem_of_getElem? hc'
        have tk : sg.cps.toList.take (j + 1) = sg.cps.toList.take j ++ [c] := by rw [List.take_add_one, hc']; rfl
        have tn : turnB nx p (bfs nx sg.cps.toList d) (sg.cps.toList.take (j + 1)) = addB nx p (turnB nx p (bfs nx sg.cps.toList d) (sg.cps.toList.take j)) c := by
          rw [tk]
          unfold turnB
          rw [List.foldl_append]
          rfl
        rw [tn]
        have hp3 : (turnB nx p (bfs nx sg.cps.toList d) (sg.cps.toList.take j))[d]? = some p := turn_pre hp
        have ln : (turnB nx p (bfs nx sg.cps.toList d) (sg.cps.toList.take j)).length ≤ 256 := Nat.le_trans (in2_few (turn_nodup (bfs_nodup d)) (turn_in (fun c hc => hin p ip c (List.mem_of_mem_take hc)) (bfs_in i0 hin d))) (Nat.mul_le_mul n16 m16)
        generalize turnB nx p (bfs nx sg.cps.toList d) (sg.cps.toList.take j) = ls at dn3 pu3 hp3 ln ⊢
        have l3 : us3.length = ls.length := Paired.length pu3
        have dl : d < us3.length := by rw [l3]; exact (List.getElem?_eq_some_iff.mp hp3).1
        have hu3 : us3[d]? = some us3[d] := List.getElem?_eq_getElem dl
        obtain ⟨p', hp', b, eb, hb⟩ := pat pu3 hu3
        rw [hp3] at hp'
        obtain rfl := Option.some.inj hp'
        rw [eb] at hu3
        delta gName tSeq tAsg tOp
        dsimp only
        refine callc_of (hst H3 (sameN s3) b p ip hb c cm) rfl (fun b o z _ => z) (fun G hG => ⟨_, rfl, _, rfl, Lb, us3, _, _, rfl, rfl, SqL.of hL3, atI_nat hu3, _, rfl, hG _ (Same.refl _)⟩) fun z H4 s4 ⟨zz, bb, a, ez, h1, h2, h3⟩ => ?_
        subst ez
        refine ⟨zz, _, 0, _, rfl, rfl, SqT.of h1, atI_nat (j := 0) rfl, ?_⟩
        have dn4 := dn3.same s4
        have hL4 := s4 _ _ hL3
        have pu4 : Paired (PrAt H4) us3 ls := L2.Paired.mapP pu3 fun _ _ z => z.keep fun b xs y => s4 _ _ y
        have s04 : Same H H4 := fun b o z => s4 _ _ (s3 _ _ z)
        clear hu3 hb dn3 hL3 pu3 s3 s4 h1 h3
        refine ⟨_, rfl, _, rfl, D, bb, seenK ls, prK (nx p c), rfl, rfl, dn4, pr_key h2, pr_depth _, _, rfl, ?_⟩
        rw [seen_val]
        unfold addB
        by_cases mem : nx p c ∈ ls
        · rw [decide_eq_true mem, if_pos mem]
          exact iteF ⟨⟨_, _, rfl⟩, s04, dn4, us3, hL4, pu4⟩
        · rw [decide_eq_false mem, if_neg mem]
          refine iteT ?_
          have lk : (seenK ls).length < sizeLine := by unfold seenK; rw [List.length_map, sizeLine_eq]; omega
          refine ⟨_, rfl, _, rfl, D, bb, seenK ls, prK (nx p c), rfl, rfl, dn4, pr_key h2, pr_depth _, lk, fun φ5 dn5 => ?_⟩
          rw [seen_put mem] at dn5
          obtain ⟨φ4, g4⟩ := dn4.at_
          have kt : ∀ b xs, H4 b = some (.tup xs) → (upd H4 D (.ext φ5)) b = some (.tup xs) := fun b xs z => by
            rw [upd_ne (ne_of z g4 (by intro y; cases y))]; exact z
          have hL5 : (upd H4 D (.ext φ5)) Lb = some (.lst us3) := by rw [upd_ne nDL]; exact hL4
          have s05 : Same H (upd H4 D (.ext φ5)) := fun b o z => by rw [upd_ne (ne_of_none z hD)]; exact s04 _ _ z
          have pu5 := L2.Paired.mapP pu4 fun _ _ z => PrAt.keep kt z
          have h25 := kt _ _ h2
          generalize upd H4 D (.ext φ5) = H5 at dn5 hL5 s05 pu5 h25 ⊢
          refine ⟨_, rfl, .inl ⟨rfl, _, SqL.of hL5⟩, _, rfl, Lb, us3, _, rfl, rfl, hL5, by rw [l3, sizeLine_eq]; omega, ⟨_, _, rfl⟩, fun b o z => ?_, ?_, us3 ++ [.ref bb], upd_same, ?_⟩
          · rw [upd_ne (ne_of_none z nL)]; exact s05 _ _ z
          · exact dn5.keep (fun b φ z => by rw [upd_ne (ne_of z hL5 (by intro y; cases y))]; exact z) fun b xs z => by rw [upd_ne (ne_of z hL5 (by intro y; cases y))]; exact z
          · have k6 : ∀ b xs, H5 b = some (.tup xs) → (upd H5 Lb (.lst (us3 ++ [.ref bb]))) b = some (.tup xs) := fun b xs z => by
              rw [upd_ne (ne_of z hL5 (by intro y; cases y))]; exact z
            exact psnoc (L2.Paired.mapP pu5 fun _ _ z => z.keep k6) ⟨bb, rfl, k6 _ _ h25⟩
      · rintro σ H3 ⟨⟨o6', o7', rfl⟩, s3, dn3, us3, hL3, pu3⟩
        have e2 : sg.cps.toList.take sg.cps.size = sg.cps.toList := List.take_of_length_le (by rw [Array.length_toList]; exact Nat.le_refl _)
        rw [e2, ← e1] at dn3 pu3
        refine ⟨_, rfl, _, _, rfl, rfl, _, _, us3, rfl, s3, dn3, hL3, pu3⟩
    · rw [decide_eq_false (by omega : ¬ ((d : Nat) : Int) < (us.length : Nat))]
      refine iteF ⟨_, rfl, ?_⟩
      exact k Lb us d H2 s2 ⟨hj, by omega⟩ hL2 pu2
end
end Kx

/-! sorted(text) -/
namespace Own
open PySem PySem.Spec L2 PyProof.Rows PySem.Froz
theorem items_letters {x : Str} {acc : Array Value} (h : ItemsOf (SignAt x) acc x.cps.size) : StrsAre acc.toList (letters x) := by
  obtain ⟨hz, hv⟩ := h
  have g : ∀ v ∈ acc.toList, ∃ y t, v = .str y t := fun v m => by
    obtain ⟨j, hj⟩ := List.getElem?_of_mem m
    rw [Array.getElem?_toList] at hj
    obtain ⟨c, u, _, e⟩ := hv j v hj
    exact ⟨_, u, e⟩
  have e : acc.toList.map textOf = letters x := by
    refine List.ext_getElem? fun j => ?_
    unfold letters
    rw [List.getElem?_map, List.getElem?_map, Array.getElem?_toList, Array.getElem?_toList]
    cases h : acc[j]? with
    | none =>
      have : x.cps.size ≤ j := by
        rw [← hz]
        exact Array.getElem?_eq_none_iff.mp h
      rw [Array.getElem?_eq_none_iff.mpr this]
      rfl
    | some v =>
      obtain ⟨c, u, e1, e2⟩ := hv j v h
      rw [e1, e2]
      rfl
  rw [← e]
  exact strs_map _ g
section
variable {P : Program} {w : World} {A : Around} {E : Value → Shared → Prop} {s : Shared}
theorem sorted_text {x : Str} {t : Tok} {Q : Value → Shared → Prop} (hh : A.handled = none) (hz : x.cps.size ≤ sizeLine)
    (q : ∀ (s1 s' : Shared) (p : Addr) (out : Array Value) (c : Nat) (ys : List Str), (∀ b o, s.heap.get? b = some o → s1.heap.get? b = some o) → (∀ b o, s1.heap.get? b = some o → s'.heap.get? b = some o) → s'.gens = s.gens → s'.os = s.os → s1.heap.objs.size ≤ p →
      s'.heap.get? p = some (seqObj "list" out c) → StrsAre out.toList ys → ys.Perm (letters x) → sortedS ys = true → Q (.ref p) s') :
    wpAny (model P w) A (call (.builtin "sorted") [.str x t]) Q E s := by
  refine Calls.call_function_entry kind_sorted plain_sorted entry_sorted (args_sorted1 _) ?_
  unfold Builtin.«sorted»
  refine wpAny_bind (m := checkCount "sorted" 1 1 _) (wpAny_pure ?_)
  refine wpAny_bind (wpAny_collect_str (A := A.in1) hh x t (fun s1 acc k1 g1 _ o1 it => ?_) hz)
  have hS := items_letters it
  have len : acc.toList.length = x.cps.size := by rw [hS.length]; unfold letters; rw [List.length_map, Array.length_toList]
  refine wpAny_bind (wpAny_newList ?_ (by rw [len]; exact hz))
  have hoL : (s1.heap.push (seqObj "list" acc.toList.toArray 0)).get? s1.heap.objs.size = some (seqObj "list" acc.toList.toArray 0) := Heap.get?_push_size _ rfl
  refine wpAny_bind (wpAny_holding (wpAny_call_entry slot_list_sort ⟨_, hoL, rfl⟩ entry_list_sort
    (list_sort_treeKAny strKind_oneLt hoL hS.keysOf (fun v₁ v₂ rest e => keyKind_strs (by rw [← e]; exact hS)) (by rw [len]; exact hz) fun st a1 a2 => ⟨_, rfl, ?_⟩) (args_list_sort _)))
  obtain ⟨ys, b1, b2, b3⟩ := sorted_out_str hS a1 a2
  obtain ⟨c, hc⟩ := sortedHeap_at (vs := acc.toList) (out := (arrOf st).map (·.2)) hoL
  refine wpAny_pure ⟨_, rfl, q s1 _ s1.heap.objs.size _ c ys k1 (fun b u e1 => ?_) g1 o1 (Nat.le_refl _) hc b1 b2 b3⟩
  · have lt := Heap.lt_size e1
    exact (sortedHeap_old (h := s1.heap.push (seqObj "list" acc.toList.toArray 0)) (a := s1.heap.objs.size) (vs := acc.toList) (out := (arrOf st).map (·.2)) (b := b) (Nat.ne_of_lt lt) (by rw [size_push']; exact Nat.lt_succ_of_lt lt)).trans (Heap.get?_push_of_some _ e1)
/-- sorted(text) -/
def rSortX : List V → Hp → VK → Prop := fun vs H Q => ∃ y : Str, vs = [.str y] ∧ y.cps.size ≤ sizeLine ∧ ∀ (p : Addr) (ys : List Str), H p = none → ys.Perm (letters y) → sortedS ys = true → Q (.ref p) (upd H p (.lst (ys.map V.str)))
theorem cr_sortX {X : Cx} (hc : X.calm = true) : CallR X (.builtin "sorted") rSortX := by
  intro pins s σ H vs us Q I r h
  obtain ⟨y, rfl, hz, q⟩ := h
  obtain ⟨u, rfl, t, rfl⟩ := vals1 r
  refine sorted_text (I.ok.hd hc) hz fun s1 s' p out c ys k1 k2 g o hp hg hi pm hs => ?_
  have I1 := I.kept (h' := s1.heap) (t' := s'.toks) k1
  have lz : (ys.map V.str).length ≤ sizeLine := by rw [List.length_map, pm.length_eq]; unfold letters; rw [List.length_map, Array.length_toList]; exact hz
  have hn : H p = none := I1.hok.fresh hp
  have J := I1.call (h' := s'.heap) (g' := s'.gens) (d' := s'.drawn) (t' := s'.toks) (H' := upd H p (.lst (ys.map V.str))) (ch := []) (Un.laid k2 hp hn) (I1.hok.laid k2 hp ⟨lz, out.toList, c, vals_of_strs hi, hg⟩) (by rw [g]; exact I.bare) (fun _ z => nomatch z)
  have e : s' = { s with heap := s'.heap, gens := s'.gens, drawn := s'.drawn, toks := s'.toks } := by
    obtain ⟨_, _, _, _, _⟩ := s'
    obtain ⟨_, _, _, _, _⟩ := s
    cases o
    rfl
  rw [e]
  exact ⟨.ref p, _, J, rfl, q p ys hn pm hs⟩
end
end Own

namespace L2
open PySem PySem.Spec PyProof.Rows
/-! ### try with several clauses `except C as e` -/
abbrev Clause := Value × Nat × TS
/-- what is wished of an exception of the body, clause by clause -/
def wAsL (K : PySem.W.Frag) (D : Ends) : List Clause → WX
  | [] => fun _ _ _ _ => False
  | (c, i, ts) :: r => fun cls d σ H => (PySem.W.exmOne K cls c = some true ∧ ∃ C : Addr, cls = .ref C ∧ ∀ a, H a = none → ts (D.less i) (σ.set i (some (.ref a))) (upd H a (xob a C d))) ∨ (PySem.W.exmOne K cls c = some false ∧ wAsL K D r cls d σ H)
inductive PHs (X : Cx) : List ExceptHandler → List Clause → Prop
  | nil : PHs X [] []
  | cons {x n : Str} {c : Value} {i : Nat} {b0 : Stmt} {suite : List Stmt} {p1 p2 : Pos} {ts : TS} {hs : List ExceptHandler} {cs : List Clause} (slot : X.N[i]? = some n) (loc : X.env.kindOf n = some .local) (names : Names X x c)
      (run : ∀ (a : Addr) (pn : List (Addr × Obj)), PSs (X.suite a pn) (b0 :: suite) ts) (rest : PHs X hs cs) : PHs X (.ExceptHandler (some (.Name x p1)) (some n) (b0 :: suite) p2 :: hs) ((c, i, ts) :: cs)
section
variable {X : Cx}
theorem ref_of_wish {K : PySem.W.Frag} {D : Ends} : ∀ {cs : List Clause} {cls : Value} {d : Option Addr} {σ : St} {H : Hp}, wAsL K D cs cls d σ H → ∃ C : Addr, cls = .ref C
  | [], _, _, _, _, h => h.elim
  | (c, i, ts) :: r, _, _, _, _, h => h.elim (fun ⟨_, C, e, _⟩ => ⟨C, e⟩) fun ⟨_, h⟩ => ref_of_wish h
variable {body : List Stmt} {hs : List ExceptHandler} {cs : List Clause} {p3 : Pos} {tb : WX → TS}
theorem caughtL {pins : List (Addr × Obj)} {D : Ends} {u : Value} {s : Shared} {xe : Value → Shared → Prop} (alone : X.ex = []) (top : X.stack = X.env :: X.outer) (frame : X.env.frame = some X.env.locals) (nodup : X.N.Nodup) (ok : X.Ok)
    (cl : PHs X hs cs) (fly : XE (X.tr (X.pn ++ pins) xe) (wAsL X.K D cs) u s) :
    wpAny (model X.prog X.w) X.A (noteFrame u X.env) (fun _ s2 => wpAny (model X.prog X.w) X.A (setFlight u none) (fun _ s3 => wpAny (model X.prog X.w) X.A (handleBy u X.env hs) (SP X pins D) X.xe s3) X.xe s2) X.xe s := by
  obtain ⟨a, ground, sI, _, σ1, H1, cls, d, rfl, Jt, stays, slots, sky, free, os, gens, wish⟩ := fly
  obtain ⟨C, rfl⟩ := ref_of_wish wish
  have J : Inv X pins σ1 H1 sI := Jt.ofTry ok
  refine Sky.land Zc.steady (ok.frames.trans (congrArg some top)) frame (top ▸ sky) fun h3 f3 up3 => ?_
  obtain ⟨o3, v3, g3, z3, d3⟩ := f3.there
  have notFrame : a ∉ frs X.stack := fun hm => by
    obtain ⟨_, o, e, other⟩ := f3.2.2.1.mem (top ▸ hm)
    exact other v3 (Option.some.inj (e.symm.trans g3) ▸ d3)
  have absent : sI.heap.get? a = none := Option.eq_none_iff_forall_ne_some.mpr fun o e => by
    have z := stays a o e notFrame
    rw [f3.2.1] at z
    cases z
  obtain ⟨n0, nL, nC, nP⟩ := newcomer J alone absent
  have J3 : Inv X pins σ1 H1 { s with heap := h3 } := J.landed stays f3.1 (slots.trans up3) os gens
  have cls3 : PySem.W.Looks (model X.prog X.w) h3 (typeOf (.ref a)) (.ref C) := fun _ _ _ _ keep q => wpAny_typeOf_ref (keep _ _ g3) (z3.1.symm ▸ q)
  -- clause by clause
  induction cl with
  | nil => exact wish.elim
  | @cons x n c i b0 suite p1 p2 ts hs cs slot loc names run rest ih =>
    have clause : ∀ {Q : Value → Shared → Prop} {E : Value → Shared → Prop}, Q c { s with heap := h3 } → wpAny (model X.prog X.w) (X.A.mark (some (.ref a))) (eval (.Name x p1) X.env) Q E { s with heap := h3 } := fun {Q E} q => by
      rcases names with ⟨gl, dbg, is | ⟨no, boot, other⟩⟩
      · exact ld_glob (J3.inSuite a) gl is q dbg
      · exact ld_blt (J3.inSuite a) gl no boot q other dbg
    rcases wish with ⟨named, C', eC, w⟩ | ⟨named, w⟩
    · cases eC
      refine wpAny_handleBy_cons (codeAny_handlers_test (clause ((PySem.W.exm_one (M := model X.prog X.w) J3.kIn cls3 named).here ?_))) (fun z => nomatch z)
      refine codeAny_handlers_suite_as (HandSPX.lands_againZ f3 fun h4 f4 up4 => ?_)
      obtain ⟨o4, v4, g4, z4, d4⟩ := f4.there
      have J4 : Inv X pins σ1 H1 { s with heap := h4 } := J.landed stays f4.1 ((slots.trans up3).trans up4) os gens
      have J5 := (J4.track free n0 nL nC nP (xob_ok g4 z4 d4)).inSuite a
      refine store_ok (X := X.suite a (X.pn ++ pins)) (v := .ref a) J5 nodup slot (.inl loc) rfl (fun s5 S5 => ?_) (.inr loc)
      have leave : ∀ {σ6 : St} {H6 : Hp} {s6 : Shared} {Q : Shared → Prop}, Inv (X.suite a (X.pn ++ pins)) [] σ6 H6 s6 → (∀ s7, Inv X pins (σ6.set i none) H6 s7 → Q s7) → wpAny (model X.prog X.w) X.A (do bindName X.env n .none; unbindBehindTheSuite X.env n p2) (fun _ s7 => Q s7) X.xe s6 :=
        fun S6 q => gone_ok (S6.outSuite ok) nodup slot loc q
      refine wpAny_mono ((run a (X.pn ++ pins)).run [] s5 _ _ _ S5 (w a free)) (fun fl s6 q => ?_) fun _ _ z => z.elim
      match fl, q with
      | .next, ⟨_, _, S6, q⟩ => exact leave S6 fun _ J7 => ⟨_, _, J7, q⟩
      | .brk, ⟨_, _, S6, q⟩ => exact leave S6 fun _ J7 => ⟨_, _, J7, q⟩
      | .cont, ⟨_, _, S6, q⟩ => exact leave S6 fun _ J7 => ⟨_, _, J7, q⟩
      | .ret _, ⟨_, _, _, S6, r, q⟩ => exact leave S6 fun _ J7 => ⟨_, _, _, J7, r, q⟩
    · refine wpAny_handleBy_cons (codeAny_handlers_test (clause ((PySem.W.exm_one (M := model X.prog X.w) J3.kIn cls3 named).here ?_))) (fun z => nomatch z)
      exact ih w
theorem ps_try_asL {h0 : ExceptHandler} (alone : X.ex = []) (top : X.stack = X.env :: X.outer) (frame : X.env.frame = some X.env.locals) (nodup : X.N.Nodup) (cl : PHs X (h0 :: hs) cs)
    (try_ : ∀ (W : WX) (pn : List (Addr × Obj)) (xe : Value → Shared → Prop), Takes (X.tr pn xe) W → PSs (X.tr pn xe) body (tb W)) :
    PS X (.Try body (h0 :: hs) [] [] p3) (fun D σ H => tb (wAsL X.K D cs) D σ H) where
  run := fun pins s σ H D I h => by
    have ok := I.ok
    refine wpAny_Try_except (wpAny_mono ((try_ (wAsL X.K D cs) (X.pn ++ pins) _ fun u s' y => caughtL alone top frame nodup ok cl y).run [] s σ H D (I.toTry _) h) (fun fl s1 q => ?_) fun _ _ z => z)
    match fl, q with
    | .next, ⟨_, _, J, q⟩ => exact wpAny_execs_nil ⟨_, _, J.ofTry ok, q⟩
    | .brk, ⟨_, _, J, q⟩ => exact ⟨_, _, J.ofTry ok, q⟩
    | .cont, ⟨_, _, J, q⟩ => exact ⟨_, _, J.ofTry ok, q⟩
    | .ret _, ⟨_, _, _, J, r, q⟩ => exact ⟨_, _, _, J.ofTry ok, r, q⟩
end
/-! ### C(..) of an own class in a try: its __init__ may raise -/
def tMakeS (C : Addr) (sp : Sp) (E : St → XK) (t : TA) : TE := fun σ H Q => t σ H fun vs H1 => ∀ x dx, H1 x = none → H1 dx = none → dx ≠ x → sp (.ref x :: vs) (upd (upd H1 dx (.own x)) x (.ins C dx [])) (fun v H2 => v = .non ∧ Q (.ref x) H2) (E σ)
section
variable {X : Cx} {CX : CXT} {k : Nat} {f C : Addr} {fd : FuncData} {ps : List Str} {sp : Sp} {E : St → XK} {x : Str} {p pos : Pos} {e : Expr} {es : List Expr} {t : TA}
theorem pe_makeS (M : Mk X.K C f) (F : FnOk X.prog X.w X.K X.mg X.base CX k f fd ps sp) (hr : Room (k + 1) X.A) (hg : Gl X x) (hm : X.mg x = some (.ref C)) (hb : Binds X.K fd ps []) (hx : ∀ σ, PassesAt CX X σ (E σ))
    (ha : PA X (e :: es) t) (hdb : (x == ("__debug__" : Str)) = false := by decide) (he : starEach (e :: es) X.env = (false, eval e X.env) :: starEach es X.env := by rfl) (hpl : (backTo pos (starEach es X.env)).any (·.1) = false := by rfl) :
    PE X (.Call (.Name x p) (e :: es) [] pos) (tMakeS C sp E t) := by
  refine ⟨fun pins s σ H Q I h => wpAny_Call_Name_kw (ld_glob I hg hm (PySem.W.callWith_K (h₀ := X.base) I.ok.mod.kin M.kp (thn (ha.run pos pins s σ H _ I h) fun us s1 ⟨vs, H1, I1, r, q⟩ => ⟨I1.kIn, ?_⟩) he hpl) hdb)⟩
  -- the instance, its dict
  have w := q (s1.heap.objs.size + 1) s1.heap.objs.size (I1.hok.fresh (Nat.le_succ _)) (I1.hok.fresh (Nat.le_refl _)) (Nat.ne_of_lt (Nat.lt_succ_self _))
  have J := Inv.made (C := C) I1
  have rr : Vals (V.ref (s1.heap.objs.size + 1) :: vs) (Value.ref (s1.heap.objs.size + 1) :: us) := .cons rfl r
  have len : (Value.ref (s1.heap.objs.size + 1) :: us).length = ps.length := rr.length.symm.trans (F.len _ _ _ _ w)
  have b := hb _ (Value.ref (s1.heap.objs.size + 1) :: us) J.kIn (by rw [List.append_nil]; exact len)
  rw [List.append_nil] at b
  refine wpAny_call (make_map (f := f) I1.kIn M.makes M.init (beq_iff_eq.mp M.fn) (codeAny_mono (F.run _ X.stack _ _ _ _ _ _ (E σ) (hr.make C us []) (J.env0.make C us []) b rr w) fun y z hy => ?_))
  match y, hy with
  | .error e, hy => exact hx σ pins _ _ e z J hy
  | .ok (.ret u), hy =>
    obtain ⟨v, H3, J3, rv, ev, q3⟩ := J.after hy
    subst ev
    exact ⟨rv, ⟨V.ref (s1.heap.objs.size + 1), H3, J3, rfl, q3⟩⟩
  | .ok .next, hy => exact False.elim hy
  | .ok .brk, hy => exact False.elim hy
  | .ok .cont, hy => exact False.elim hy
end
end L2

namespace Own
open PySem PySem.Spec L2 PyProof.Rows
/-- o.m(..) of an own class, in a suite whose errors are told by the slots -/
def tMethT (C : Addr) (m : Str) (sp : Sp) (E : L2.St → XK) (ta : TE) (t : TA) : TE := fun σ H Q => ta σ H fun x H1 => ∃ a dx fs, x = .ref a ∧ H1 a = some (.ins C dx fs) ∧ fs.lookup m = none ∧ t σ H1 fun vs H2 => sp (x :: vs) H2 Q (E σ)
section
variable {X : Cx} {CX : CXT} {k : Nat} {f C : Addr} {fd : FuncData} {ps : List Str} {sp : Sp} {E : L2.St → XK} {m : Str} {pos apos : Pos} {e o : Expr} {es : List Expr} {ta : TE} {t : TA}
theorem pe_methT {pl : Sem Bool} (he : PE X o ta) (c : Cls X.K C) (hm : Meth X.K C m f) (F : FnOk X.prog X.w X.K X.mg X.base CX k f fd ps sp) (hr : Room k X.A) (hb : Binds X.K fd ps []) (hx : ∀ σ, PassesAt CX X σ (E σ)) (ha : PA X (e :: es) t)
    (hst : starEach (e :: es) X.env = (false, eval e X.env) :: starEach es X.env := by rfl) (hpl : (backTo pos (starEach es X.env)).any (·.1) = false := by rfl)
    (ht : eval (.Call (.Attribute o m apos) (e :: es) [] pos) X.env = (do let ov ← eval o X.env; standAt apos.atName; let (g, first) ← holding [ov] (getMethod ov m pl); callWith pos g first (backTo pos (starEach (e :: es) X.env)) (backToKw pos (keywordEach [] X.env))) := by rfl) :
    PE X (.Call (.Attribute o m apos) (e :: es) [] pos) (tMethT C m sp E ta t) :=
  ⟨fun pins s σ H Q I h => PySem.W.methodCall_KW (pl := pl) (thn (he.run pins s σ H _ I h) fun u s1 ⟨x, H1, I1, rx, a, dx, fs, ex, ea, l, q⟩ => by
    subst ex
    have eu : u = Value.ref a := rx
    subst eu
    exact getmeth_ok I1 ea c hm l (PySem.W.callWith_K (first := [.ref a]) (h₀ := X.base) I.ok.mod.kin hm.kp (thn (ha.run pos pins s1 σ H1 _ I1 q) fun us s2 ⟨vs, H2, I2, r, q2⟩ => ⟨I2.kIn, run_fnS (us := .ref a :: us) (vs := .ref a :: vs) F hr hb (hx σ) I2 (.cons rfl r) q2⟩) hst hpl)) ht⟩
end
end Own

namespace Own
open PySem PySem.Spec L2 PyProof.Rows
/-- x == y, where x's own class says what that is; y is another one of that class, or a text -/
def rOwn (C : Addr) (sp : Sp) (E : XK) : R2 := fun x y H Q => ∃ a dx fs, x = .ref a ∧ H a = some (.ins C dx fs) ∧ ((∃ z, y = .str z) ∨ ∃ b dy gs, y = .ref b ∧ H b = some (.ins C dy gs)) ∧ sp [x, y] H (fun v H' => ∃ b, v = .bl b ∧ Q (.bl b) H') E
theorem looks_text (M : Model) (h : Heap) (z : Str) (t : Tok) : PySem.W.Looks M h (typeOf (.str z t)) (.type "str") := fun _ _ _ _ _ q => wpAny_typeOf (typeIs_str _ _ _) q
section
variable {X : Cx} {CX : CXT} {n : Nat} {f C : Addr} {fd : FuncData} {ps : List Str} {sp : Sp} {E : XK}
theorem op_own (F : FnOk X.prog X.w X.K X.mg X.base CX n f fd ps sp) (hs : PySem.W.findIn X.K (.ref C) "__eq__" = some (some (.ref f))) (hf : PySem.W.isFn X.K (.ref f) = true) (hn : PySem.W.notFirst X.K C (.type "str") = true)
    (hb : Binds X.K fd ps []) (hx : Passes CX X E) (hr : Room n X.A) : OpR X (compareOp .Eq) (rOwn C sp E) := by
  intro pins s σ H x y v u Q I rx ry q
  obtain ⟨a, dx, fs, rfl, ha, hy, q⟩ := q
  have ev : v = .ref a := rx
  subst ev
  obtain ⟨mA, O, _⟩ := ins_get I.hok ha
  obtain ⟨od, J, _⟩ := O.look
  obtain ⟨m, hF⟩ := I.fr
  have l1 := F.len _ _ _ _ q
  have r2 : Vals [V.ref a, y] [Value.ref a, u] := .cons rx (.cons ry .nil)
  have go : wpAny (model X.prog X.w) X.A (call (.ref f) [.ref a, u]) (PySem.W.CmpBack (EP X pins σ Q)) X.xe s := by
    refine wpAny_mono (run_fn F hr hb .nil hx I r2 (by rw [List.append_nil]; exact q)) (fun w s' z => ?_) fun _ _ z => z
    obtain ⟨x', H', I', rz, b, ex, k⟩ := z
    subst ex
    have ew : w = .bool b := rz
    subst ew
    exact ⟨.bl b, H', I', rfl, k⟩
  show wpAny (model X.prog X.w) X.A (richCompare .Eq (.ref a) u) (EP X pins σ Q) X.xe s
  rcases hy with ⟨z, rfl⟩ | ⟨b, dy, gs, rfl, hb'⟩
  · obtain ⟨t, rfl⟩ := ry
    exact PySem.W.cmp_K (op := .Eq) (tb := .type "str") hr.units0 hF I.ok.mod.kin J (looks_text _ _ z t) hn hs hf go
  · have eu : u = .ref b := ry
    subst eu
    obtain ⟨mB, O', _⟩ := ins_get I.hok hb'
    obtain ⟨od', J', _⟩ := O'.look
    exact PySem.W.cmp_K (op := .Eq) (tb := .ref C) hr.units0 hF I.ok.mod.kin J J'.type (by simp [PySem.W.notFirst]) hs hf go
end
end Own

namespace Kx
open PySem L2 Own
abbrev s_Machine___eq__ : Stmt := inClass (top 30) 3
/-! ### rows as data -/
theorem eqv_map {α : Type} [DecidableEq α] (f : α → PyData) : ∀ (xs ys : List α), (∀ x ∈ xs, ∀ y ∈ ys, PyData.eqv (f x) (f y) = decide (x = y)) → PyData.eqvAll (xs.map f) (ys.map f) = decide (xs = ys)
  | [], [], _ => by rw [List.map_nil, PyData.eqvAll]; rfl
  | [], y :: ys, _ => by rw [List.map_cons, List.map_nil, PyData.eqvAll]; rfl
  | x :: xs, [], _ => by rw [List.map_cons, List.map_nil, PyData.eqvAll]; rfl
  | x :: xs, y :: ys, h => by
    rw [List.map_cons, List.map_cons, PyData.eqvAll, h x List.mem_cons_self y List.mem_cons_self, eqv_map f xs ys fun a ha b hb => h a (List.mem_cons_of_mem _ ha) b (List.mem_cons_of_mem _ hb)]
    by_cases e1 : x = y
    · by_cases e2 : xs = ys
      · subst e1 e2; simp
      · simp [e1, e2]
    · simp [e1]
theorem eqv_str (x y : Str) : PyData.eqv (.str x) (.str y) = decide (x = y) := by
  rw [PyData.eqv]
  by_cases e : x = y
  · subst e; simp
  · rw [decide_eq_false e]
    simpa using e
theorem eqv_int (x y : Int) : PyData.eqv (.int x) (.int y) = decide (x = y) := by
  rw [PyData.eqv]
  by_cases e : x = y
  · subst e; simp
  · rw [decide_eq_false e]
    simpa using e
def keysD (ks : List Str) : PyData := .tuple (ks.map .str)
def wayD (w : Way) : PyData := .tuple [.int w.1, keysD w.2]
def rowD (q : List Way) : PyData := .tuple (q.map wayD)
def rowsD (R : List (List Way)) : PyData := .tuple (R.map rowD)
def endsD (Es : List (List Str)) : PyData := .tuple (Es.map keysD)
theorem eqv_keys (a b : List Str) : PyData.eqv (keysD a) (keysD b) = decide (a = b) := by
  unfold keysD
  rw [PyData.eqv]
  exact eqv_map _ _ _ fun x _ y _ => eqv_str x y
theorem eqv_way (a b : Way) : PyData.eqv (wayD a) (wayD b) = decide (a = b) := by
  unfold wayD
  rw [PyData.eqv, PyData.eqvAll, PyData.eqvAll, PyData.eqvAll, eqv_int, eqv_keys]
  by_cases e1 : a.1 = b.1
  · by_cases e2 : a.2 = b.2
    · have e : a = b := Prod.ext e1 e2
      subst e
      simp
    · have e : a ≠ b := fun z => e2 (z ▸ rfl)
      simp [e1, e2, e]
  · have e : a ≠ b := fun z => e1 (z ▸ rfl)
    simp [e1, e]
theorem eqv_row (a b : List Way) : PyData.eqv (rowD a) (rowD b) = decide (a = b) := by
  unfold rowD
  rw [PyData.eqv]
  exact eqv_map _ _ _ fun x _ y _ => eqv_way x y
theorem eqv_rows (a b : List (List Way)) : PyData.eqv (rowsD a) (rowsD b) = decide (a = b) := by
  unfold rowsD
  rw [PyData.eqv]
  exact eqv_map _ _ _ fun x _ y _ => eqv_row x y
theorem eqv_ends (a b : List (List Str)) : PyData.eqv (endsD a) (endsD b) = decide (a = b) := by
  unfold endsD
  rw [PyData.eqv]
  exact eqv_map _ _ _ fun x _ y _ => eqv_keys x y
/-- all keys are texts that can be laid -/
def KOk (R : List (List Way)) (Es : List (List Str)) : Prop := (∀ y ∈ keysOfRows R, PyData.strOk y = true) ∧ ∀ y ∈ Es.flatten, PyData.strOk y = true
theorem sh_keys {ks : List Str} (h : ∀ y ∈ ks, PyData.strOk y = true) : Sh 1 (keysD ks) := Sh.tup fun x hx => by
  obtain ⟨y, hy, rfl⟩ := List.mem_map.mp hx
  exact Sh.str (h y hy)
theorem Sh.up {n : Nat} {d : PyData} (h : Sh n d) : Sh (n + 1) d := ⟨h.1, Nat.le_succ_of_le h.2⟩
theorem sh_way {w : Way} (h : ∀ y ∈ w.2, PyData.strOk y = true) : Sh 2 (wayD w) := Sh.tup fun x hx => by
  simp only [List.mem_cons, List.not_mem_nil, or_false] at hx
  rcases hx with rfl | rfl
  · exact Sh.int _
  · exact sh_keys h
theorem sh_rows {R : List (List Way)} (h : ∀ y ∈ keysOfRows R, PyData.strOk y = true) : Sh 4 (rowsD R) := Sh.tup fun x hx => by
  obtain ⟨q, hq, rfl⟩ := List.mem_map.mp hx
  refine Sh.tup fun x hx => ?_
  obtain ⟨w, hw, rfl⟩ := List.mem_map.mp hx
  exact sh_way fun y hy => h y (List.mem_flatMap.mpr ⟨q, hq, List.mem_flatMap.mpr ⟨w, hw, hy⟩⟩)
theorem sh_ends {Es : List (List Str)} (h : ∀ y ∈ Es.flatten, PyData.strOk y = true) : Sh 2 (endsD Es) := Sh.tup fun x hx => by
  obtain ⟨q, hq, rfl⟩ := List.mem_map.mp hx
  exact sh_keys fun y hy => h y (List.mem_flatten.mpr ⟨q, hq, hy⟩)
theorem dp_strs (K : PySem.W.Frag) (H : Hp) : ∀ ks : List Str, DpAll K H (ks.map V.str) (ks.map PyData.str)
  | [] => .nil
  | k :: ks => .cons (.str k) (dp_strs K H ks)
theorem dp_map {α : Type} {K : PySem.W.Frag} {H : Hp} {F : V → α → Prop} {f : α → PyData} (h : ∀ v a, F v a → Dp K H v (f a)) : ∀ {vs : List V} {as : List α}, Paired F vs as → DpAll K H vs (as.map f)
  | _, _, .nil => .nil
  | _, _, .cons r t => .cons (h _ _ r) (dp_map h t)
theorem dp_keys {K : PySem.W.Frag} {H : Hp} {v : V} {ks : List Str} (h : KeysT H v ks) : Dp K H v (keysD ks) := by
  obtain ⟨a, rfl, h⟩ := h
  exact .tup (SqT.of h) (dp_strs K H ks)
theorem dp_way {K : PySem.W.Frag} {H : Hp} {v : V} {w : Way} (h : WayT H v w) : Dp K H v (wayD w) := by
  obtain ⟨a, kv, rfl, h, k⟩ := h
  exact .tup (SqT.of h) (.cons (.int _) (.cons (dp_keys k) .nil))
theorem dp_row {K : PySem.W.Frag} {H : Hp} {v : V} {q : List Way} (h : RowT H v q) : Dp K H v (rowD q) := by
  obtain ⟨a, vs, rfl, h, k⟩ := h
  exact .tup (SqT.of h) (dp_map (fun _ _ z => dp_way z) k)
section
variable {P : Program} {w : World} {K : PySem.W.Frag} {mg : Str → Option Value} {base : Heap} {A : EAd} {B : MAd} {Z : CAd} {S : SAd}
structure TxtQ (K : PySem.W.Frag) (mg : Str → Option Value) (Z : CAd) (f : Addr) (d : FuncData) : Prop where
  s : PySem.W.findIn K (.ref Z.C) "__eq__" = some (some (.ref f))
  i : PySem.W.isFn K (.ref f) = true
  n : PySem.W.notFirst K Z.C (.type "str") = true
  F : Fun K "__eq__" "Machine.__eq__" s_Machine___eq__ f d
  b : Binds K d ["self", "other"] []
  ha : PySem.W.findIn K (.ref Z.C) "__class__" = some (some (.builtin "object.__class__"))
  hn : PySem.W.specialIn K (.builtin "object.__class__") "__get__" = some (some (.builtin "getset_descriptor.__get__"))
  ht : PySem.W.takesIn K (.builtin "object.__class__") = some true
  hm : PySem.W.mroIn K Z.C (.type "object") = some true
  k0 : PySem.W.kitOne K (.type "str") (.ref Z.C) = some false
/-- self == other -/
def spMEq (Z : CAd) : Sp := fun vs H Q _ => ∃ (a : Addr) (sg : Str) (R : List (List Way)) (Es : List (List Str)), MachAt Z.C H a sg R Es ∧ KOk R Es ∧
  ((∃ z, vs = [.ref a, .str z] ∧ ∀ H', Same H H' → Q (.bl false) H') ∨
    ∃ (b : Addr) (sg' : Str) (R' : List (List Way)) (Es' : List (List Str)), vs = [.ref a, .ref b] ∧ MachAt Z.C H b sg' R' Es' ∧ KOk R' Es' ∧ ∀ H', Same H H' → Q (.bl (decide (sg = sg' ∧ R = R' ∧ Es = Es'))) H')
theorem sc_eq : FnScope ["self", "other"] ["self", "other"] (defScope s_Machine___eq__) := ⟨rfl, rfl, rfl, by decide +kernel, rfl, by decide +kernel, by decide +kernel⟩
theorem ok_eq (T : TxtM K mg B) (TC : TxtC K mg Z) {f : Addr} {d : FuncData} (TQ : TxtQ K mg Z f d) : FnOk P w K mg base CX0 1 f d ["self", "other"] (spMEq Z) := by
  have sc := sc_eq
  refine TQ.F.ok sc (fun vs H Q E h => ?_) (fun cdv A1 outer s H vs Q E hr h => ?_)
  · obtain ⟨_, _, _, _, _, _, h⟩ := h
    rcases h with ⟨_, rfl, _⟩ | ⟨_, _, _, _, rfl, _⟩
    · rfl
    · rfl
  · obtain ⟨a, sg, R, Es, hm, ok, h⟩ := h
    have hm' := hm
    obtain ⟨dx, r, e, k, w5, rv, ev, wv, hm0, hr0, pr, he0, pe, hk0, hw0, pw⟩ := hm'
    obtain ⟨y, ey⟩ : ∃ y, vs = [.ref a, y] := by
      rcases h with ⟨z, rfl, _⟩ | ⟨b, _, _, _, rfl, _⟩
      · exact ⟨_, rfl⟩
      · exact ⟨_, rfl⟩
    refine ⟨_, pss_one (ps_ret (pe_and (pe_callB call_isi (by rfl) T.n_isinstance (by decide +kernel) (pa_cons (pv 1) (pa_cons (pe_glob (v := .ref Z.C) rfl TC.g rfl) pa_nil)))
      (pe_and (pe_cmpR op_eq (pe_fld (pv 0) rfl) (pe_fld (pv 1) rfl) (nomark _))
      (pe_and (pe_cmpR (op_eqD hr.units) (pe_fld (pv 0) rfl) (pe_fld (pv 1) rfl) (nomark _))
      (pe_one (pe_cmpR (op_eqD hr.units) (pe_fld (pv 0) rfl) (pe_fld (pv 1) rfl) (nomark _))))))), ?_⟩
    rcases h with ⟨z, rfl, q⟩ | ⟨b, sg', R', Es', rfl, hb, ok', q⟩
    · refine ⟨_, rfl, _, _, _, _, false, rfl, ClsV.own _, .base (.str z), TQ.k0, false, rfl, ?_⟩
      exact q H (Same.refl _)
    · have hb' := hb
      obtain ⟨dx', r', e', k', w5', rv', ev', wv', hm0', hr0', pr', he0', pe', hk0', hw0', pw'⟩ := hb'
      refine ⟨_, rfl, _, _, _, _, true, rfl, ClsV.own _, .base (.ins hm0' TC.cl TQ.ha TQ.hn TQ.ht TQ.hm), ?_, true, rfl, ?_⟩
      · unfold PySem.W.kitOne
        rw [if_pos (by simp)]
      rw [if_pos rfl]
      refine ⟨_, rfl, a, Z.C, dx, _, _, rfl, hm0, TC.cl, TC.a1, rfl, _, rfl, b, Z.C, dx', _, _, rfl, hm0', TC.cl, TC.a1, rfl, rfl, _, rfl, ?_⟩
      have q := q H (Same.refl _)
      by_cases c1 : sg = sg'
      · have v1 : V.str sg = V.str sg' := congrArg V.str c1
        refine ifT v1 ?_
        refine ⟨_, rfl, a, Z.C, dx, _, _, rfl, hm0, TC.cl, TC.a2, rfl, _, rfl, b, Z.C, dx', _, _, rfl, hm0', TC.cl, TC.a2, rfl, rowsD R, rowsD R', .tup (SqT.of hr0) (dp_map (fun _ _ z => dp_row z) pr), .tup (SqT.of hr0') (dp_map (fun _ _ z => dp_row z) pr'), (sh_rows ok.1).ok (by decide), (sh_rows ok'.1).ok (by decide), _, rfl, ?_⟩
        rw [eqv_rows]
        by_cases c2 : R = R'
        · refine ifT c2 ?_
          refine ⟨_, rfl, a, Z.C, dx, _, _, rfl, hm0, TC.cl, TC.a3, rfl, _, rfl, b, Z.C, dx', _, _, rfl, hm0', TC.cl, TC.a3, rfl, endsD Es, endsD Es', .tup (SqT.of he0) (dp_map (fun _ _ z => dp_keys z) pe), .tup (SqT.of he0') (dp_map (fun _ _ z => dp_keys z) pe'), (sh_ends ok.2).ok (by decide), (sh_ends ok'.2).ok (by decide), ?_⟩
          rw [eqv_ends]
          have e : decide (sg = sg' ∧ R = R' ∧ Es = Es') = decide (Es = Es') := by simp [c1, c2]
          rw [e] at q
          exact q
        · refine ifF c2 ?_
          rw [decide_eq_false fun z => c2 z.2.1] at q
          exact q
      · have v1 : ¬ V.str sg = V.str sg' := fun z => c1 (by injection z)
        refine ifF v1 ?_
        rw [decide_eq_false fun z => c1 z.1] at q
        exact q
end
end Kx

namespace Kx
open PySem L2 Own
/-- rows of lists, as the law draws them -/
def KeyE (H : Hp) (v : V) (ks : List Str) : Prop := ∃ a, v = .ref a ∧ H a = some (.lst (ks.map V.str))
def WayE (H : Hp) (v : V) (w : Way) : Prop := ∃ a kv, v = .ref a ∧ H a = some (.tup [.int w.1, .ref kv]) ∧ H kv = some (.lst (w.2.map V.str))
def RowE (H : Hp) (v : V) (r : List Way) : Prop := ∃ a vs, v = .ref a ∧ H a = some (.lst vs) ∧ Paired (WayE H) vs r
theorem KeyE.keep {H H' : Hp} (s : Same H H') {v : V} {ks : List Str} (h : KeyE H v ks) : KeyE H' v ks := by
  obtain ⟨a, e, h⟩ := h
  exact ⟨a, e, s _ _ h⟩
theorem WayE.keep {H H' : Hp} (s : Same H H') {v : V} {r : Way} (h : WayE H v r) : WayE H' v r := by
  obtain ⟨a, kv, e, h, k⟩ := h
  exact ⟨a, kv, e, s _ _ h, s _ _ k⟩
theorem RowE.keep {H H' : Hp} (s : Same H H') {v : V} {r : List Way} (h : RowE H v r) : RowE H' v r := by
  obtain ⟨a, vs, e, h, k⟩ := h
  exact ⟨a, vs, e, s _ _ h, L2.Paired.mapP k fun _ _ z => z.keep s⟩
theorem toRow {K : PySem.W.Frag} {H : Hp} {v : V} {r : List Way} (h : RowE H v r) : RowL K H v r := by
  obtain ⟨a, vs, e, h, k⟩ := h
  exact ⟨a, vs, e, h, L2.Paired.mapP k fun _ _ ⟨b, kv, e1, e2, e3⟩ => ⟨b, .ref kv, e1, e2, .list (SqL.of e3)⟩⟩
theorem toTexts {K : PySem.W.Frag} {H : Hp} {v : V} {ks : List Str} (h : KeyE H v ks) : Texts K H v ks := by
  obtain ⟨a, rfl, h⟩ := h
  exact .list (SqL.of h)
/-- list(x), by values -/
def rListOf (K : PySem.W.Frag) : List V → Hp → VK → Prop := fun xs H Q => ∃ p ys, xs = [V.ref p] ∧ (SqL K H p ys ∨ SqT K H p ys) ∧ ∀ l, H l = none → Q (.ref l) (upd H l (.lst ys))
end Kx

namespace Own
open PySem PySem.Spec L2 PyProof.Rows PySem.Froz
/-- the place of a sign in a text -/
theorem occ_sign (x : Str) (c j : Nat) (hj : x.cps[j]? = some c) (hn : ∀ k, k < j → x.cps[k]? ≠ some c) : ∃ r, Builtin.Str.occurrences x (sing c) 0 x.length 1 = j :: r := by
  have here : ∀ i, StrLaws.At x (sing c) x.length i ↔ x.cps.toList[i]? = some c := fun i => StrLaws.subAt_one x c i
  rcases StrLaws.occ_head x (sing c) 1 (Nat.le_refl _) with ⟨_, h⟩ | ⟨i, r, e, ha, hk⟩
  · exact absurd ((here j).mpr (by rw [Array.getElem?_toList]; exact hj)) (h j)
  · have ia := (here i).mp ha
    rw [Array.getElem?_toList] at ia
    rcases Nat.lt_trichotomy i j with z | z | z
    · exact absurd ia (hn i z)
    · subst z
      exact ⟨r, e⟩
    · exact absurd ((here j).mpr (by rw [Array.getElem?_toList]; exact hj)) (hk j z)
def rSignAt : V → List V → Hp → VK → Prop := fun x xs H Q => ∃ (a : Str) (c j : Nat), x = .str a ∧ xs = [.str (sing c)] ∧ a.cps[j]? = some c ∧ (∀ k, k < j → a.cps[k]? ≠ some c) ∧ Q (.int j) H
theorem mt_signAt {X : Cx} : MtR X "str.index" rSignAt := by
  intro pins s σ H x xs v us Q I rx rs h
  obtain ⟨a, c, j, rfl, rfl, hj, hn, h⟩ := h
  obtain ⟨t, rfl⟩ := rx
  obtain ⟨u, rfl, t2, rfl⟩ := vals1 rs
  obtain ⟨r, e⟩ := occ_sign a c j hj hn
  exact PySem.SC.index e ⟨.int j, H, I.tok _, ⟨_, rfl⟩, h⟩
end Own

namespace Kx
open PySem L2 Own
abbrev s__law_read : Stmt := top 45
structure TxtR (K : PySem.W.Frag) (mg : Str → Option Value) (f : Addr) (d : FuncData) : Prop where
  D__law_read : DefT K mg "_law_read" "_law_read" s__law_read ["signs", "tables", "text"] f d
  n_list : mg "list" = none
  n_set : mg "set" = none
  n_sorted : mg "sorted" = none
  n_tuple : mg "tuple" = none
/-- tables that can be read -/
structure Rd2 (sg : Str) (R : List (List Way)) (Es : List (List Str)) : Prop where
  F : Full sg R Es
  two : (∀ q ∈ R, ∀ w ∈ q, w.2.length ≤ 2) ∧ ∀ ks ∈ Es, ks.length ≤ 2
theorem Rd2.run {sg : Str} {R : List (List Way)} {Es : List (List Str)} (F : Rd2 sg R Es) (s : Nat) : ∀ cs : List Nat, (runW sg R s cs).2.length ≤ 2 * cs.length := by
  suffices h : ∀ (cs : List Nat) (p : Nat × List Str), (cs.foldl (acc1 sg R) p).2.length ≤ p.2.length + 2 * cs.length from fun cs => by
    have := h cs (s, [])
    unfold runW
    simpa using this
  intro cs
  induction cs with
  | nil => intro p; simp
  | cons c cs ih =>
    intro p
    have := ih (acc1 sg R p c)
    have l : (acc1 sg R p c).2.length ≤ p.2.length + 2 := by
      unfold acc1
      cases e : stepW sg R p.1 c with
      | none => exact Nat.le_add_right _ _
      | some w =>
        unfold stepW at e
        obtain ⟨j, _, e⟩ := Option.bind_eq_some_iff.mp e
        obtain ⟨q, hq, e⟩ := Option.bind_eq_some_iff.mp e
        have := F.two.1 q (List.mem_of_getElem? hq) w (List.mem_of_getElem? e)
        show (p.2 ++ w.2).length ≤ _
        rw [List.length_append]
        omega
    rw [List.foldl_cons, List.length_cons]
    omega
section
variable {P : Program} {w : World} {K : PySem.W.Frag} {mg : Str → Option Value} {base : Heap} {f : Addr} {d : FuncData}
def spRead : Sp := fun vs H Q _ => ∃ (t r e : Addr) (y sg : Str) (rv ev : List V) (R : List (List Way)) (Es : List (List Str)), vs = [.str sg, .ref t, .str y] ∧ H t = some (.tup [.ref r, .ref e]) ∧ H r = some (.lst rv) ∧ Paired (RowE H) rv R ∧ H e = some (.lst ev) ∧ Paired (KeyE H) ev Es ∧
  Rd2 sg R Es ∧ y.cps.size ≤ 1000 ∧ (∀ c ∈ y.cps.toList, c ∈ sg.cps.toList) ∧ ∀ (p k : Addr) H', Same H H' → H' p = some (.tup [.int (runW sg R 0 y.cps.toList).1, .ref k]) → H' k = some (.tup ((keysW sg R Es y.cps.toList).map V.str)) → Q (.ref p) H'
theorem sc_read : FnScope ["signs", "tables", "text", "rows", "ends", "state", "given", "sign", "keys"] ["signs", "tables", "text"] (defScope s__law_read) := ⟨rfl, rfl, rfl, by decide +kernel, rfl, by decide +kernel, by decide +kernel⟩
theorem ok_read (T : TxtR K mg f d) : FnOk P w K mg base CX0 1 f d ["signs", "tables", "text"] spRead := by
  have sc := sc_read
  refine T.D__law_read.F.ok sc (fun vs H Q E h => ?_) (fun cdv A1 outer s H vs Q E hr h => ?_)
  · obtain ⟨_, _, _, _, _, _, _, _, _, rfl, _⟩ := h; rfl
  · obtain ⟨t, r, e, y, sg, rv, ev, R, Es, rfl, ht, hrv, pR, hev, pE, F, yl, inn, k⟩ := h
    refine ⟨_, (pss_cons (ps_asg (pv 1) (pg_tup rfl (pgs_cons (pg_name (i := 3) sc.nd rfl (Or.inl rfl)) (pgs_cons (pg_name (i := 4) sc.nd rfl (Or.inl rfl)) pgs_nil))))
      (pss_cons (ps_par (i := 5) (j := 6) rfl sc.nd rfl rfl (by decide) rfl rfl (pa_cons pe_int (pa_cons (pe_lst pa_nil) pa_nil)) rfl)
      (pss_cons (ps_for PassesOwn.never rfl (pi_str (pv 2)) (pg_name (i := 7) sc.nd rfl (Or.inl rfl))
        (pss_cons (ps_asg (pe_ix ix_list (pe_ix ix_list (pv 3) (pv 5) (fun _ _ => rfl)) (pe_bm PySem.F.plainAttrs_str PySem.F.slot_str_index PySem.F.type_str_index mt_signAt (pv 0) (pa_cons (pv 7) pa_nil)) (fun _ _ => rfl)) (pg_tup rfl (pgs_cons (pg_name (i := 5) sc.nd rfl (Or.inl rfl)) (pgs_cons (pg_name (i := 8) sc.nd rfl (Or.inl rfl)) pgs_nil))))
        (pss_one (ps_set (i := 6) sc.nd rfl (Or.inl rfl) (pe_op op_cat (pv 6) (pe_callTy call_list_of (by rfl) T.n_list (by decide +kernel) (pa_cons (pv 8) pa_nil)))))))
      (pss_one (ps_ret (pe_tup (pa_cons (pv 5) (pa_cons (pe_tupleOf rfl T.n_tuple (pe_callB (cr_sortT rfl) (by rfl) T.n_sorted (by decide +kernel) (pa_cons (pe_callTy (cr_setT rfl) (by rfl) T.n_set (by decide +kernel) (pa_cons (pe_op op_cat (pv 6) (pe_callTy call_list_of (by rfl) T.n_list (by decide +kernel) (pa_cons (pe_ix ix_list (pv 4) (pv 5) (fun _ _ => rfl)) pa_nil))) pa_nil)) pa_nil))) pa_nil)))))))), ?_⟩
    refine ⟨_, rfl, t, _, rfl, SqT.of ht, rfl, _, _, rfl, _, _, rfl, rfl, ?_⟩
    have rl : rv.length = R.length := Paired.length pR
    have el : ev.length = Es.length := Paired.length pE
    refine ⟨by decide, fun g0 hg0 => ⟨_, _, rfl, ?_⟩⟩
    refine ⟨_, rfl, y, rfl, ?_⟩
    refine for_it walk_str (fun i σ H' => (∃ g x7 x8, σ = [some (.str sg), some (.ref t), some (.str y), some (.ref r), some (.ref e), some (.int (runW sg R 0 (y.cps.toList.take i)).1), some (.ref g), x7, x8] ∧ H' g = some (.lst ((runW sg R 0 (y.cps.toList.take i)).2.map V.str))) ∧ Same H H')
      ⟨⟨g0, _, _, rfl, upd_same⟩, Same.upd hg0⟩ (fun _ _ _ _ _ => trivial) ?_ ?_
    · rintro i x σ _ H1 hi ⟨⟨g, x7, x8, rfl, hg⟩, s1⟩ ⟨rfl, c, hc, rfl⟩
      have hct : y.cps.toList[i]? = some c := by rw [Array.getElem?_toList]; exact hc
      have cm := inn c (List.mem_of_getElem? hct)
      obtain ⟨j, hj⟩ := List.getElem?_of_mem cm
      rw [Array.getElem?_toList] at hj
      obtain ⟨run1, _⟩ := F.F.run F.F.pos (y.cps.toList.take i)
      have run2 := F.run 0 (y.cps.toList.take i)
      obtain ⟨q, wy, hq, hw, hstep, okw⟩ := F.F.way run1 hj
      have hrun2 : runW sg R 0 (y.cps.toList.take (i + 1)) = (wy.1.toNat, (runW sg R 0 (y.cps.toList.take i)).2 ++ wy.2) := by
        rw [List.take_add_one, hct]
        show runW sg R 0 (y.cps.toList.take i ++ [c]) = _
        rw [runW_snoc]
        unfold acc1
        rw [hstep]
      generalize runW sg R 0 (y.cps.toList.take i) = rn at hrun2 run1 run2 hg hstep hq ⊢
      have w2 := F.two.1 q (List.mem_of_getElem? hq) wy (List.mem_of_getElem? hw)
      have hx : rv[rn.1]? = some (rv[rn.1]'(by omega)) := List.getElem?_eq_getElem (by omega)
      obtain ⟨q', hq', a, vs, ea, ha, pq⟩ := pat pR hx
      rw [hq] at hq'
      cases hq'
      rw [ea] at hx
      have lq : vs.length = q.length := Paired.length pq
      have hj2 : j < q.length := (List.getElem?_eq_some_iff.mp hw).1
      have hy : vs[j]? = some (vs[j]'(by omega)) := List.getElem?_eq_getElem (by omega)
      obtain ⟨w', hw', b, kv, eb, hb, hkv⟩ := pat pq hy
      rw [hw] at hw'
      cases hw'
      rw [eb] at hy
      have hfirst : ∀ k, k < j → sg.cps[k]? ≠ some c := fun k hk hc' => by
        obtain ⟨h1, e1⟩ := Array.getElem?_eq_some_iff.mp hc'
        obtain ⟨h2, e2⟩ := Array.getElem?_eq_some_iff.mp hj
        have nd := List.pairwise_iff_getElem.mp F.F.nd k j (by simpa using h1) (by simpa using h2) hk
        simp only [Array.getElem_toList] at nd
        exact nd (e1.trans e2.symm)
      refine ⟨_, rfl, _, rfl, r, rv, (rn.1 : Nat), _, rfl, rfl, SqL.of (s1 _ _ hrv), atI_nat hx, _, rfl, ?_⟩
      refine ⟨rfl, _, rfl, sg, c, j, rfl, rfl, hj, hfirst, a, vs, (j : Nat), _, rfl, rfl, SqL.of (s1 _ _ ha), atI_nat hy, b, _, rfl, SqT.of (s1 _ _ hb), rfl, _, _, rfl, _, _, rfl, rfl, ?_⟩
      have hnn : 0 ≤ wy.1 := okw.1
      have e0 : (((runW sg R 0 (y.cps.toList.take (i + 1))).1 : Nat) : Int) = wy.1 := by
        rw [hrun2]
        exact Int.toNat_of_nonneg hnn
      rw [List.length_take] at run2
      refine ⟨_, rfl, _, rfl, kv, _, rfl, .inl (SqL.of (s1 _ _ hkv)), fun l hl1 => ⟨g, l, _, _, rfl, rfl, Same.upd hl1 _ _ hg, upd_same, ?_, fun p3 hp3 => ?_⟩⟩
      · rw [List.length_map, List.length_map, sizeLine_eq]
        omega
      · refine ⟨⟨p3, some (.str (Froz.sing c)), some (.ref kv), by rw [e0]; rfl, ?_⟩, fun b o z => Same.upd hp3 _ _ (Same.upd hl1 _ _ (s1 _ _ z))⟩
        rw [upd_same, hrun2, ← List.map_append]
    · rintro σ H1 ⟨⟨g, x7, x8, rfl, hg⟩, s1⟩
      have eT : y.cps.toList.take y.cps.size = y.cps.toList := List.take_of_length_le (by simp)
      rw [eT] at hg ⊢
      obtain ⟨run1, _⟩ := F.F.run F.F.pos y.cps.toList
      have run2 := F.run 0 y.cps.toList
      have ly : y.cps.toList.length = y.cps.size := Array.length_toList
      have ee := F.F.ends
      have hx : ev[(runW sg R 0 y.cps.toList).1]? = some (ev[(runW sg R 0 y.cps.toList).1]'(by omega)) := List.getElem?_eq_getElem (by omega)
      obtain ⟨ks, hks, a, ea, ha⟩ := pat pE hx
      rw [ea] at hx
      clear ea
      have k2 := F.two.2 ks (List.mem_of_getElem? hks)
      have ek : Es.getD (runW sg R 0 y.cps.toList).1 [] = ks := by rw [List.getD_eq_getElem?_getD, hks]; rfl
      have eC : keysW sg R Es y.cps.toList = kl ((runW sg R 0 y.cps.toList).2 ++ ks) := by unfold keysW; rw [ek]
      generalize runW sg R 0 y.cps.toList = rn at run1 run2 hg hx eC k ⊢
      refine ⟨_, rfl, _, rfl, _, rfl, _, rfl, e, ev, (rn.1 : Nat), _, rfl, rfl, SqL.of (s1 _ _ hev), atI_nat hx, a, _, rfl, .inl (SqL.of (s1 _ _ ha)), fun l hl1 => ⟨g, l, _, _, rfl, rfl, Same.upd hl1 _ _ hg, upd_same, ?_, fun p3 hp3 => ?_⟩⟩
      · rw [List.length_map, List.length_map, sizeLine_eq]
        omega
      have h3 : (upd (upd H1 l (.lst (ks.map V.str))) p3 (.lst (rn.2.map V.str ++ ks.map V.str))) p3 = some (.lst ((rn.2 ++ ks).map V.str)) := by
        rw [upd_same, ← List.map_append]
      have s3 : Same H (upd (upd H1 l (.lst (ks.map V.str))) p3 (.lst (rn.2.map V.str ++ ks.map V.str))) := fun b o z => Same.upd hp3 _ _ (Same.upd hl1 _ _ (s1 _ _ z))
      generalize upd (upd H1 l (.lst (ks.map V.str))) p3 (.lst (rn.2.map V.str ++ ks.map V.str)) = H3 at h3 s3 ⊢
      refine ⟨.ref p3, _, rfl, .list (SqL.of h3), by rw [List.length_append]; have e : scanBound = 4096 := rfl; omega, fun p4 l4 hp4 nd4 hm4 hl4 => ?_⟩
      refine ⟨p4, l4, rfl, upd_same, by rw [List.length_append] at hl4; have e : scanBound = 4096 := rfl; omega, fun p5 ys hp5 pm5 hs5 => ?_⟩
      refine .inl ⟨p5, _, rfl, SqL.of upd_same, fun p6 hp6 => ?_⟩
      rw [kl_of pm5 hs5 nd4 hm4] at *
      refine ⟨by show 2 ≤ sizeLine; decide, fun p7 hp7 => ?_⟩
      refine k p7 p6 _ (fun b o z => Same.upd hp7 _ _ (Same.upd hp6 _ _ (Same.upd hp5 _ _ (Same.upd hp4 _ _ (s3 _ _ z))))) upd_same ?_
      rw [eC]
      exact Same.upd hp7 _ _ upd_same
end
end Kx

namespace Kx
open PySem L2 Own
abbrev s__law_text : Stmt := top 47
structure TxtTx (K : PySem.W.Frag) (mg : Str → Option Value) (f1 f2 f3 f : Addr) (d1 d2 d3 d : FuncData) : Prop where
  pen : TxtP K mg f1 f2 f3 d1 d2 d3
  D__law_text : DefT K mg "_law_text" "_law_text" s__law_text ["pen", "signs", "most"] f d
  n_range : mg "range" = none
section
variable {P : Program} {w : World} {K : PySem.W.Frag} {mg : Str → Option Value} {base : Heap} {f1 f2 f3 f : Addr} {d1 d2 d3 d : FuncData}
/-- items[..] of a text -/
def spPickS : Sp := fun vs H Q _ => ∃ (p c : Addr) (z : Str) (n : Nat), vs = [.ref p, .str z] ∧ PenAt H p c n ∧ n ≤ 1000000 ∧ 0 < z.cps.size ∧ z.cps.size ≤ 1000000 ∧
  ∀ (x i : Nat) H', z.cps[i]? = some x → PenAt H' p c (n + 1) → SameBut p H H' → Q (.str (Froz.sing x)) H'
theorem ok_pickS (T : TxtP K mg f1 f2 f3 d1 d2 d3) : FnOk P w K mg base CX0 2 f3 d3 ["pen", "items"] spPickS := by
  have sc := sc_pick
  have G_draw : FnOk P w K mg base CX0 1 f2 d2 ["pen", "many"] spDraw := ok_draw T
  refine T.D__law_pick.F.ok sc (fun vs H Q E h => ?_) (fun cdv A outer s H vs Q E hr h => ?_)
  · obtain ⟨_, _, _, _, rfl, _⟩ := h; rfl
  · obtain ⟨p, c, z, n, rfl, hp, hn, z0, z1, k⟩ := h
    refine ⟨_, (pss_one (ps_ret (pe_ix ix_str (pv 1) (pe_call G_draw (hr.mono (by decide)) rfl T.D__law_draw.g T.D__law_draw.F.kp T.D__law_draw.b .nil pass0 (pa_cons (pv 0) (pa_cons (pe_callB call_len (by rfl) T.n_len (by decide +kernel) (pa_cons (pv 1) pa_nil)) pa_nil))) (fun _ _ => rfl)))), ?_⟩
    have zl : z.length = z.cps.size := rfl
    refine ⟨_, rfl, _, rfl, _, rfl, .str z, z.length, rfl, ⟨by rw [sizeLine_eq]; omega, rfl⟩, p, c, _, n, rfl, hp, hn, by omega, by omega, fun r H' r0 r1 hp' sb => ?_⟩
    obtain ⟨r, rfl⟩ := Int.eq_ofNat_of_zero_le r0
    have hl : r < z.cps.toList.length := by rw [Array.length_toList]; omega
    have hx : z.cps.toList[r]? = some z.cps.toList[r] := List.getElem?_eq_getElem hl
    refine ⟨z, _, _, rfl, rfl, by rw [sizeLine_eq]; omega, atI_nat hx, k _ r H' ?_ hp' sb⟩
    rw [← Array.getElem?_toList]
    exact hx
theorem join_sings (cs : List Nat) : (Txt.join "" (cs.map Froz.sing)).cps.toList = cs := by
  have h : ∀ cs : List Nat, TL.joinL [] ((cs.map Froz.sing).map TL.tl) = cs := by
    intro cs
    induction cs with
    | nil => rfl
    | cons a r ih =>
      cases r with
      | nil => rfl
      | cons b r =>
        show [a] ++ ([] ++ TL.joinL [] ((((b :: r).map Froz.sing)).map TL.tl)) = _
        rw [ih]
        rfl
  have e := TL.tl_join "" (cs.map Froz.sing)
  rw [← TL.join_eq] at e
  exact e.trans (h cs)
/-- a text of up to so many signs -/
def spText : Sp := fun vs H Q _ => ∃ (p c : Addr) (z : Str) (most n : Nat), vs = [.ref p, .str z, .int most] ∧ PenAt H p c n ∧ most ≤ 1000 ∧ n + most + 1 ≤ 1000000 ∧ 0 < z.cps.size ∧ z.cps.size ≤ 1000 ∧
  ∀ (y : Str) H', y.cps.size ≤ most → (∀ c ∈ y.cps.toList, c ∈ z.cps.toList) → PenAt H' p c (n + most + 1) → SameBut p H H' → Q (.str y) H'
abbrev Ntext : List Str := ["pen", "signs", "most", "k"]
theorem sc_text : FnScope Ntext ["pen", "signs", "most"] (defScope s__law_text) := ⟨rfl, rfl, rfl, by decide +kernel, rfl, by decide +kernel, by decide +kernel⟩
theorem ok_text (T : TxtTx K mg f1 f2 f3 f d1 d2 d3 d) : FnOk P w K mg base CX0 3 f d ["pen", "signs", "most"] spText := by
  have sc := sc_text
  have G_draw : FnOk P w K mg base CX0 1 f2 d2 ["pen", "many"] spDraw := ok_draw T.pen
  have G_pick : FnOk P w K mg base CX0 2 f3 d3 ["pen", "items"] spPickS := ok_pickS T.pen
  refine T.D__law_text.F.ok sc (fun vs H Q E h => ?_) (fun cdv A1 outer s H vs Q E hr h => ?_)
  · obtain ⟨_, _, _, _, _, rfl, _⟩ := h; rfl
  · obtain ⟨p, c, z, most, n, rfl, hp, hm, hn, z0, z1, k⟩ := h
    refine ⟨_, (pss_one (ps_ret (pe_join pe_str (pe_lc (own := [("k", 3)]) (g := gName 3) (tt := tYes) (te := tCall spPickS [] E0 (tCons (tVar 0) (tCons (tVar 1) tNil))) rfl sc.nd (pi_range1 rfl T.n_range (pa_cons (pe_call G_draw (hr.mono (by decide)) rfl T.pen.D__law_draw.g T.pen.D__law_draw.F.kp T.pen.D__law_draw.b .nil pass0 (pa_cons (pv 0) (pa_cons (pe_op op_add (pv 2) pe_int) pa_nil))) pa_nil)) (blkOk_by (N := Ntext) (sc := defScope s__law_text) (own := [("k", 3)]) (by decide +kernel)) (fun _ _ _ _ _ => (pg_name (i := 3) sc.nd rfl (Or.inl rfl))) (fun _ _ _ _ _ => pts_nil)
      (fun _ _ _ _ _ => pe_call G_pick (hr.mono (by decide)) rfl T.pen.D__law_pick.g T.pen.D__law_pick.F.kp T.pen.D__law_pick.b .nil pass0 (pa_cons (pv 0) (pa_cons (pv 1) pa_nil))))))), ?_⟩
    refine ⟨⟨_, rfl⟩, _, rfl, _, rfl, _, _, rfl, rfl, p, c, _, n, rfl, hp, by omega, by omega, by omega, fun r H1 r0 r1 hp1 sb1 => ?_⟩
    obtain ⟨r, rfl⟩ := Int.eq_ofNat_of_zero_le r0
    refine ⟨_, rfl, by omega, by omega, fun D hD => ?_⟩
    rw [Int.toNat_natCast]
    have npD : D ≠ p ∧ D ≠ c := hp1.apart hD
    refine lcs_it [some (.ref p), some (.str z), some (.int (most : Nat)), none] rfl walk_range (fun i H' => PenAt H' p c (n + 1 + i) ∧ SameBut p H H' ∧ ∃ cs : List Nat, H' D = some (.lst ((cs.map Froz.sing).map V.str)) ∧ cs.length = i ∧ ∀ x ∈ cs, x ∈ z.cps.toList)
      ⟨hp1.keep (Same.upd hD), sb1.trans (.new hD), [], upd_same, rfl, fun _ z => nomatch z⟩ (fun _ _ _ _ => trivial) ?_ ?_
    · rintro i x _ H2 hi ⟨hp2, sb2, cs, hcs, lc, mc⟩ ⟨rfl, ex⟩
      refine ⟨rfl, _, rfl, _, rfl, p, c, z, n + 1 + i, rfl, hp2, by omega, z0, by omega, fun c1 j H3 hc1 hp3 sb3 => ?_⟩
      have h3 : H3 D = some (.lst ((cs.map Froz.sing).map V.str)) := sb3 _ _ hcs (hp2.ne hcs)
      refine ⟨_, h3, by rw [List.length_map, List.length_map, lc, sizeLine_eq]; omega, hp3.put npD.1 npD.2, fun b o e nb => ?_, cs ++ [c1], by rw [upd_same, List.map_append, List.map_append]; rfl, by rw [List.length_append, lc]; rfl, fun x hx => ?_⟩
      · have hH : H D = none := none_back sb1 hp1 hD
        rw [upd_ne (ne_of_none e hH)]
        exact sb3 b o (sb2 b o e nb) nb
      · rcases List.mem_append.mp hx with hx | hx
        · exact mc x hx
        · rw [List.mem_singleton.mp hx]
          exact List.mem_of_getElem? (by rw [Array.getElem?_toList]; exact hc1)
    rintro H2 ⟨hp2, sb2, cs, hcs, lc, mc⟩
    have zl : ∀ cs : List Nat, ((cs.map Froz.sing).map (·.length)).sum = cs.length := fun cs => by
      induction cs with
      | nil => rfl
      | cons a r ih =>
        rw [List.map_cons, List.map_cons, List.sum_cons, ih, List.length_cons]
        show 1 + r.length = r.length + 1
        omega
    refine ⟨"", D, cs.map Froz.sing, rfl, rfl, .inl (SqL.of hcs), ?_, ?_⟩
    · rw [zl, lc, List.length_map, lc]
      show r + r * 0 ≤ _
      omega
    · have e := join_sings cs
      refine k _ H2 ?_ (fun x hx => mc x (by rw [e] at hx; exact hx)) (hp2.mono (by omega)) sb2
      rw [← Array.length_toList, e, lc]
      omega
end
end Kx

namespace Kx
open PySem L2 Own
theorem sing_tl (c : Nat) : TL.tl (Froz.sing c) = [c] := rfl
theorem app_len (t : Str) (c : Nat) : (t ++ Froz.sing c).length = t.length + 1 := by
  rw [TL.len_tl, TL.tl_append, List.length_append, ← TL.len_tl]
  rfl
abbrev s__law_texts : Stmt := top 46
structure TxtXs (K : PySem.W.Frag) (mg : Str → Option Value) (f : Addr) (d : FuncData) : Prop where
  D__law_texts : DefT K mg "_law_texts" "_law_texts" s__law_texts ["signs", "most"] f d
  n_range : mg "range" = none
section
variable {P : Program} {w : World} {K : PySem.W.Frag} {mg : Str → Option Value} {base : Heap} {f : Addr} {d : FuncData}
/-! ### the texts of the law -/
def spTxs : Sp := fun vs H Q _ => ∃ (sg : Str) (m : Nat), vs = [.str sg, .int m] ∧ sg.cps.size ≤ 4 ∧ m ≤ 5 ∧ (sg.cps.size ≤ 2 ∨ m ≤ 3) ∧ ∀ q (ts : List Str) H', Same H H' → H' q = some (.lst (ts.map V.str)) → ts.length ≤ 1001 → (∀ t ∈ ts, t.length ≤ 5 ∧ ∀ c ∈ TL.tl t, c ∈ sg.cps.toList) → Q (.ref q) H'
abbrev Ntxs : List Str := ["signs", "most", "found", "latest", "turn", "longer", "text", "sign"]
theorem sc_txs : FnScope Ntxs ["signs", "most"] (defScope s__law_texts) := ⟨rfl, rfl, rfl, by decide +kernel, rfl, by decide +kernel, by decide +kernel⟩
theorem ok_txs (T : TxtXs K mg f d) : FnOk P w K mg base CX0 1 f d ["signs", "most"] spTxs := by
  have sc := sc_txs
  refine T.D__law_texts.F.ok sc (fun vs H Q E h => ?_) (fun cdv A1 outer s H vs Q E hr h => ?_)
  · obtain ⟨_, _, rfl, _⟩ := h; rfl
  · obtain ⟨sg, m, rfl, z4, m4, few, k⟩ := h
    refine ⟨_, (pss_cons (ps_par (i := 2) (j := 3) rfl sc.nd rfl rfl (by decide) rfl rfl (pa_cons (pe_lst (pa_cons pe_str pa_nil)) (pa_cons (pe_lst (pa_cons pe_str pa_nil)) pa_nil)) rfl)
      (pss_cons (ps_for PassesOwn.never rfl (pi_range1 rfl T.n_range (pa_cons (pv 1) pa_nil)) (pg_name (i := 4) sc.nd rfl (Or.inl rfl))
      (pss_cons (ps_set (i := 5) sc.nd rfl (Or.inl rfl) (pe_lst pa_nil))
      (pss_cons (ps_for PassesOwn.never rfl (pi_list (pv 3)) (pg_name (i := 6) sc.nd rfl (Or.inr rfl)) (pss_one (ps_set (i := 5) sc.nd rfl (Or.inl rfl) (pe_op op_cat (pv 5) (pe_lc (own := [("sign", 7)]) (g := gName 7) (tt := tYes) (te := tOp rCatS (tVar 6) (tVar 7)) rfl sc.nd (pi_str (pv 0)) (blkOk_by (N := Ntxs) (sc := defScope s__law_texts) (own := [("sign", 7)]) (by decide +kernel)) (fun _ _ _ _ _ => (pg_name (i := 7) sc.nd rfl (Or.inl rfl))) (fun _ _ _ _ _ => pts_nil) (fun _ _ _ _ _ => pe_op op_add_str (pv 6) (pv 7)))))))
      (pss_one (ps_par (i := 2) (j := 3) rfl sc.nd rfl rfl (by decide) rfl rfl (pa_cons (pe_op op_cat (pv 2) (pv 5)) (pa_cons (pv 5) pa_nil)) rfl)))))
      (pss_one (ps_ret (pv 2))))), ?_⟩
    refine ⟨by show 1 ≤ sizeLine; decide, fun q0 hq0 => ⟨by show 1 ≤ sizeLine; decide, fun q1 hq1 => ?_⟩⟩
    refine ⟨_, _, rfl, _, rfl, _, rfl, by omega, by omega, ?_⟩
    rw [Int.toNat_natCast]
    have one : ([V.str ""] : List V) = [("" : Str)].map V.str := rfl
    refine for_range (lo := 0) (n := m) (fun i σ H' => ∃ (a b : Addr) (ts us : List Str) (o4 o5 o6 : Option V), σ = [some (.str sg), some (.int m), some (.ref a), some (.ref b), o4, o5, o6, none] ∧ Same H H' ∧ H' a = some (.lst (ts.map V.str)) ∧ H' b = some (.lst (us.map V.str)) ∧ ts.length ≤ 1 + 200 * i ∧ us.length = sg.cps.size ^ i ∧
      (∀ t ∈ ts, t.length ≤ i ∧ ∀ c ∈ TL.tl t, c ∈ sg.cps.toList) ∧ ∀ t ∈ us, t.length ≤ i ∧ ∀ c ∈ TL.tl t, c ∈ sg.cps.toList)
      ⟨q0, q1, [""], [""], none, none, none, rfl, (Same.upd hq0).trans (Same.upd hq1), Same.upd hq1 _ _ upd_same, upd_same, by decide, rfl, fun t ht => by rw [List.mem_singleton.mp ht]; exact ⟨Nat.le_refl _, fun c hc => nomatch hc⟩, fun t ht => by rw [List.mem_singleton.mp ht]; exact ⟨Nat.le_refl _, fun c hc => nomatch hc⟩⟩ ?_ ?_
    · rintro i σ H1 hi ⟨a, b, ts, us, o4, o5, o6, rfl, s1, ha, hb, lt, lu, gt, gu⟩
      refine ⟨by show 0 ≤ sizeLine; decide, fun L hL => ?_⟩
      refine ⟨_, rfl, b, rfl, ⟨_, SqL.of (Same.upd hL _ _ hb)⟩, ?_⟩
      have u64 : us.length ≤ 64 := by
        have h1 : i ≤ 4 := by omega
        rw [lu]
        rcases few with h2 | h2
        · exact Nat.le_trans (Nat.pow_le_pow_left h2 i) (Nat.le_trans (Nat.pow_le_pow_right (by decide) h1) (by decide))
        · exact Nat.le_trans (Nat.pow_le_pow_left z4 i) (Nat.le_trans (Nat.pow_le_pow_right (n := 4) (j := 2) (by decide) (by omega)) (by decide))
      refine for_it walk_list (fun j σ H' => ∃ (l : Addr) (vs : List Str) (o6 : Option V), σ = [some (.str sg), some (.int m), some (.ref a), some (.ref b), some (.int (0 + (i : Nat))), some (.ref l), o6, none] ∧ Same H1 H' ∧ H' l = some (.lst (vs.map V.str)) ∧ vs.length = j * sg.cps.size ∧ ∀ t ∈ vs, t.length ≤ i + 1 ∧ ∀ c ∈ TL.tl t, c ∈ sg.cps.toList)
        ⟨L, [], _, rfl, Same.upd hL, upd_same, by simp, fun t ht => nomatch ht⟩ (fun j σ H' _ z => by obtain ⟨_, _, _, _, s2, _⟩ := z; exact SqL.of (s2 _ _ hb)) ?_ ?_
      · rintro j x σ _ H2 hj ⟨l, vs, o6, rfl, s2, hl, lv, gv⟩ ⟨rfl, hx⟩
        rw [List.length_map] at hj
        rw [List.getElem?_map] at hx
        obtain ⟨t, ht, rfl⟩ := Option.map_eq_some_iff.mp hx
        have tg := gu t (List.mem_of_getElem? ht)
        refine ⟨_, rfl, _, rfl, sg, rfl, fun D hD => ?_⟩
        refine lcs_it [some (.str sg), some (.int m), some (.ref a), some (.ref b), some (.int (0 + (i : Nat))), some (.ref l), some (.str t), none] rfl walk_str (fun p H' => Same H2 H' ∧ H' D = some (.lst (((sg.cps.toList.take p).map fun c => t ++ Froz.sing c).map V.str))) ⟨Same.upd hD, upd_same⟩ (fun _ _ _ _ => trivial) ?_ ?_
        · rintro p x _ H3 hp ⟨s3, h3⟩ ⟨rfl, c, hc, rfl⟩
          have hc' : sg.cps.toList[p]? = some c := by rw [Array.getElem?_toList]; exact hc
          refine ⟨rfl, _, rfl, _, rfl, t, _, rfl, rfl, by rw [sizeLine_eq]; show t.length + 1 ≤ _; omega, _, h3, ?_, ?_, ?_⟩
          · rw [List.length_map, List.length_map, List.length_take, sizeLine_eq]; omega
          · intro b o z
            rw [upd_ne (ne_of_none z hD)]; exact s3 _ _ z
          · rw [upd_same, List.take_add_one, hc', Option.toList_some, List.map_append, List.map_append]
            rfl
        · rintro H3 ⟨s3, h3⟩
          have e0 : sg.cps.toList.take sg.cps.size = sg.cps.toList := List.take_of_length_le (by rw [Array.length_toList (xs := sg.cps)]; exact Nat.le_refl _)
          rw [e0] at h3
          have jm : j * sg.cps.size ≤ 64 * 4 := Nat.mul_le_mul (by omega) z4
          refine ⟨l, D, _, _, rfl, rfl, s3 _ _ hl, h3, ?_, fun X hX => ?_⟩
          · rw [List.length_map, List.length_map, List.length_map, Array.length_toList (xs := sg.cps), sizeLine_eq]; omega
          refine ⟨X, vs ++ sg.cps.toList.map fun c => t ++ Froz.sing c, _, rfl, (s2.trans s3).trans (Same.upd hX), by rw [upd_same, List.map_append], ?_, fun u hu => ?_⟩
          · rw [List.length_append, List.length_map, Array.length_toList (xs := sg.cps), lv, Nat.succ_mul]
          · rcases List.mem_append.mp hu with hu | hu
            · exact gv u hu
            · obtain ⟨c, hc, rfl⟩ := List.mem_map.mp hu
              refine ⟨by rw [app_len]; omega, fun d hd => ?_⟩
              rw [TL.tl_append, sing_tl] at hd
              rcases List.mem_append.mp hd with hd | hd
              · exact tg.2 d hd
              · rw [List.mem_singleton.mp hd]; exact hc
      · rintro σ H2 ⟨l, vs, o6, rfl, s2, hl, lv, gv⟩
        rw [List.length_map] at lv
        have jm : us.length * sg.cps.size ≤ 64 * 3 ∨ us.length * sg.cps.size ≤ 200 := by
          rcases few with h2 | h2
          · exact .inl (Nat.le_trans (Nat.mul_le_mul u64 h2) (by decide))
          · right
            have h3 : us.length ≤ 16 := by
              rw [lu]
              exact Nat.le_trans (Nat.pow_le_pow_left z4 i) (Nat.le_trans (Nat.pow_le_pow_right (n := 4) (j := 2) (by decide) (by omega)) (by decide))
            exact Nat.le_trans (Nat.mul_le_mul h3 z4) (by decide)
        refine ⟨_, rfl, _, rfl, a, l, _, _, rfl, rfl, s2 _ _ ha, hl, ?_, fun X hX => ?_⟩
        · rw [List.length_map, List.length_map, sizeLine_eq]; omega
        refine ⟨_, rfl, _, _, rfl, X, l, ts ++ vs, vs, _, _, _, rfl, (s1.trans s2).trans (Same.upd hX), by rw [upd_same, List.map_append], Same.upd hX _ _ hl, ?_, ?_, fun t ht => ?_, gv⟩
        · rw [List.length_append]; omega
        · rw [lv, lu, Nat.pow_succ]
        · rcases List.mem_append.mp ht with ht | ht
          · exact ⟨by have := (gt t ht).1; omega, (gt t ht).2⟩
          · exact gv t ht
    · rintro σ H1 ⟨a, b, ts, us, o4, o5, o6, rfl, s1, ha, hb, lt, lu, gt, gu⟩
      exact ⟨_, rfl, k a ts H1 s1 ha (by omega) fun t ht => ⟨by have := (gt t ht).1; omega, (gt t ht).2⟩⟩
end
end Kx

namespace Kx
open PySem L2 Own
abbrev s_same_signs : Stmt := top 10
structure TxtSm (K : PySem.W.Frag) (mg : Str → Option Value) (f : Addr) (d : FuncData) : Prop where
  D_same_signs : DefT K mg "same_signs" "same_signs" s_same_signs ["one", "other"] f d
  n_sorted : mg "sorted" = none
theorem letters_perm {a b : Str} : (letters a).Perm (letters b) ↔ a.cps.toList.Perm b.cps.toList := by
  unfold letters
  constructor
  · intro h
    have e : ∀ l : List Nat, (l.map Froz.sing).map (fun s : Str => s.cps.toList.headD 0) = l := fun l => by
      rw [List.map_map]
      exact (List.map_congr_left (g := id) fun x _ => rfl).trans (List.map_id l)
    have := h.map fun s : Str => s.cps.toList.headD 0
    rw [e, e] at this
    exact this
  · exact fun h => h.map _
theorem eqv_list (a b : List Str) : PyData.eqv (.list (a.map PyData.str)) (.list (b.map PyData.str)) = decide (a = b) := by
  rw [PyData.eqv]
  exact eqv_map _ _ _ fun x _ y _ => eqv_str x y
theorem low_ok : ∀ c : Nat, c < 128 → PyData.strOk (Froz.sing c) = true := by decide +kernel
theorem ok_low {z : Str} (h : ∀ c ∈ TL.tl z, c < 128) : PyData.strOk z = true := by
  unfold PyData.strOk
  rw [← Array.all_toList, List.all_eq_true]
  intro c hc
  have h1 := low_ok c (h c hc)
  unfold PyData.strOk at h1
  rw [← Array.all_toList, List.all_eq_true] at h1
  exact h1 c List.mem_cons_self
section
variable {P : Program} {w : World} {K : PySem.W.Frag} {mg : Str → Option Value} {base : Heap} {f : Addr} {d : FuncData}
def spSame : Sp := fun vs H Q _ => ∃ a b : Str, vs = [.str a, .str b] ∧ a.cps.size ≤ 1000 ∧ b.cps.size ≤ 1000 ∧ (∀ c ∈ a.cps.toList, c < 128) ∧ (∀ c ∈ b.cps.toList, c < 128) ∧ ∀ H', Same H H' → Q (.bl (decide (a.cps.toList.Perm b.cps.toList))) H'
theorem sc_same : FnScope ["one", "other"] ["one", "other"] (defScope s_same_signs) := ⟨rfl, rfl, rfl, by decide +kernel, rfl, by decide +kernel, by decide +kernel⟩
theorem ok_same (T : TxtSm K mg f d) : FnOk P w K mg base CX0 1 f d ["one", "other"] spSame := by
  have sc := sc_same
  refine T.D_same_signs.F.ok sc (fun vs H Q E h => ?_) (fun cdv A1 outer s H vs Q E hr h => ?_)
  · obtain ⟨_, _, rfl, _⟩ := h; rfl
  · obtain ⟨a, b, rfl, la, lb, lowa, lowb, k⟩ := h
    refine ⟨_, (pss_one (ps_ret (pe_cmpR (op_eqD hr.units) (pe_callB (cr_sortX rfl) (by rfl) T.n_sorted (by decide +kernel) (pa_cons (pv 0) pa_nil)) (pe_callB (cr_sortX rfl) (by rfl) T.n_sorted (by decide +kernel) (pa_cons (pv 1) pa_nil)) (nomark _)))), ?_⟩
    refine ⟨_, rfl, a, rfl, by rw [sizeLine_eq]; omega, fun p xs hp px sx => ?_⟩
    refine ⟨_, rfl, b, rfl, by rw [sizeLine_eq]; omega, fun q ys hq py sy => ?_⟩
    have hx : (upd (upd H p (.lst (xs.map V.str))) q (.lst (ys.map V.str))) p = some (.lst (xs.map V.str)) := Same.upd hq _ _ upd_same
    have ok : ∀ {z : Str} {l : List Str}, l.Perm (letters z) → (∀ c ∈ z.cps.toList, c < 128) → Sh 1 (.list (l.map PyData.str)) := fun {z l} pm low => Sh.list (n := 0) fun x hx => by
      obtain ⟨y, hy, rfl⟩ := List.mem_map.mp hx
      obtain ⟨c, hc, rfl⟩ := List.mem_map.mp (pm.mem_iff.mp hy)
      refine Sh.str (ok_low fun e he => ?_)
      rw [List.mem_singleton.mp (show e ∈ [c] from he)]
      exact low c hc
    refine ⟨.list (xs.map PyData.str), .list (ys.map PyData.str), .lst (SqL.of hx) (dp_strs _ _ _), .lst (SqL.of upd_same) (dp_strs _ _ _), (ok px lowa).ok (by decide), (ok py lowb).ok (by decide), ?_⟩
    rw [eqv_list]
    have e : decide (xs = ys) = decide (a.cps.toList.Perm b.cps.toList) := by
      rw [decide_eq_decide, ← letters_perm]
      constructor
      · rintro rfl
        exact px.symm.trans py
      · intro h
        exact same_sorted xs ys (px.trans (h.trans py.symm)) (pair_sorted sx) (pair_sorted sy)
    rw [e]
    exact k _ fun b o z => Same.upd hq _ _ (Same.upd hp _ _ z)
end
end Kx

namespace Kx
open PySem L2 Own PinX DicN
abbrev s_beside : Stmt := top 35
def inDef (st : Stmt) (j : Nat) : Stmt := (defBody st).getD j (.Pass ⟨0, 0, 0, 0⟩)
abbrev s_be_step : Stmt := inDef s_beside 2
abbrev s_be_end : Stmt := inDef s_beside 3
def nxW (sg : Str) (R : List (List Way)) (i c : Nat) : Nat := (runW sg R i [c]).1
def gvW (sg : Str) (R : List (List Way)) (i c : Nat) : List Str := kl (runW sg R i [c]).2
def nx2 (sg1 sg2 : Str) (R1 R2 : List (List Way)) (p : Pr) (c : Nat) : Pr := (nxW sg1 R1 p.1 c, nxW sg2 R2 p.2 c)
def gv2 (sg1 sg2 : Str) (R1 R2 : List (List Way)) (p : Pr) (c : Nat) : List Str := gvW sg1 R1 p.1 c ++ gvW sg2 R2 p.2 c
theorem cat_keys {K : PySem.W.Frag} {H : Hp} {a b : Addr} {xs ys : List Str} {Q : VK} (ha : H a = some (.tup (xs.map V.str))) (hb : H b = some (.tup (ys.map V.str))) (l : xs.length + ys.length ≤ 100000)
    (k : ∀ c H', Same H H' → H' c = some (.tup ((xs ++ ys).map V.str)) → Q (.ref c) H') : rCatA K (.ref a) (.ref b) H Q := by
  refine ⟨a, b, _, _, rfl, rfl, SqT.of ha, SqT.of hb, by rw [List.length_map, List.length_map, sizeLine_eq]; omega, fun e => k b H (Same.refl _) ?_, fun _ e => k a H (Same.refl _) ?_, fun _ _ p hp => k p _ (Same.upd hp) (by rw [upd_same, List.map_append])⟩
  · rw [List.map_eq_nil_iff.mp e]; exact hb
  · rw [List.map_eq_nil_iff.mp e, List.append_nil]; exact ha
/-- a machine stands still where instances, tuples and dicts do -/
theorem MachAt.keepI {C : Addr} {H H' : Hp} {m : Addr} {sg : Str} {R : List (List Way)} {Es : List (List Str)} (kI : ∀ b C dx fs, H b = some (.ins C dx fs) → H' b = some (.ins C dx fs)) (kt : ∀ b xs, H b = some (.tup xs) → H' b = some (.tup xs)) (kd : ∀ b kvs, H b = some (.dK kvs) → H' b = some (.dK kvs)) (h : MachAt C H m sg R Es) : MachAt C H' m sg R Es := by
  obtain ⟨dx, r, e, k0, w, rv, ev, wv, hm0, hr0, pr, he0, pe, hk0, hw0, pw⟩ := h
  exact ⟨dx, r, e, k0, w, rv, ev, wv, kI _ _ _ _ hm0, kt _ _ hr0, L2.Paired.mapP pr fun _ _ z => z.keep kt, kt _ _ he0, L2.Paired.mapP pe fun _ _ z => z.keep kt, kt _ _ hk0, kt _ _ hw0, L2.Paired.mapP pw fun _ _ ⟨a, b, vs, e1, e2, e3, e4⟩ => ⟨a, b, vs, e1, e2, kt _ _ e3, kd _ _ e4⟩⟩
theorem MachAt.keepE {C : Addr} {H H' : Hp} {m : Addr} {sg : Str} {R : List (List Way)} {Es : List (List Str)} (e : LamX.ExtN H H') (h : MachAt C H m sg R Es) : MachAt C H' m sg R Es :=
  h.keepI (fun b C dx fs z => e _ _ z fun ps y => by cases y) (fun b xs z => e _ _ z fun ps y => by cases y) fun b kvs z => e _ _ z fun ps y => by cases y
section
variable {P : Program} {w : World} {K : PySem.W.Frag} {mg : Str → Option Value} {base : Heap} {A : EAd} {B : MAd} {Z : CAd} {S : SAd}
def spBeStep (Z : CAd) : List (Option V) → Sp := fun ws vs H Q _ => ∃ (m1 m2 b : Addr) (sg1 sg2 : Str) (R1 R2 : List (List Way)) (E1 E2 : List (List Str)) (p : Pr) (c : Nat), ws = [some (.ref m1), some (.ref m2)] ∧ vs = [.ref b, .str (Froz.sing c)] ∧
  H b = some (.tup [.int (p.1 : Nat), .int (p.2 : Nat)]) ∧ MachAt Z.C H m1 sg1 R1 E1 ∧ Full sg1 R1 E1 ∧ MachAt Z.C H m2 sg2 R2 E2 ∧ Full sg2 R2 E2 ∧ In2 R1.length R2.length p ∧ c ∈ sg1.cps.toList ∧ c ∈ sg2.cps.toList ∧
  ∀ z H', Same H H' → StepP (nx2 sg1 sg2 R1 R2 p c) (gv2 sg1 sg2 R1 R2 p c) H' z → Q z H'
abbrev Nbs : List Str := ["pair", "sign", "one", "other", "to", "given", "other_to", "other_given"]
theorem nsc_be_step : NdefX.NScope Nbs ["pair", "sign"] ["one", "other"] (C8.fnScope s_be_step) := NdefX.nscope_by (by decide +kernel)
theorem passX0 {P : Program} {w : World} {X : Cx} {E : XK} (hE : ∀ c d H, ¬ E c d H) : Passes (L2.CX P w) X E := fun _ _ _ _ _ _ _ ⟨_, _, _, _, _, _, _, _, _, _, _, _, h⟩ => (hE _ _ _ h).elim
theorem nok_be_step (TM : TxtM K mg B) (TE : TxtE K mg A) (TC : TxtC K mg Z) (TS : TxtS K mg A Z S) (f c' : Addr) (q : Str) (cl : List (Str × Addr)) : NdefX.NOk P w K mg base CX0 5 f (NdefX.NF.of s_be_step "step" q cl c') ["pair", "sign"] ["one", "other"] (spBeStep Z) := by
  have G_walk : FnOk P w K mg base (L2.CX P w) 4 S.fw S.dw ["self", "state", "text"] (spWalk Z S) := ok_walk TM TE TC TS
  refine NdefX.nok_of (k := 4) (N := Nbs) nsc_be_step (fun _ _ _ us hl => match us, hl with | [_, _], _ => rfl) (fun ws vs H Q E h => ?_) (fun A outer s H vs ws Q E hr hf hc hl h => ?_)
  · obtain ⟨_, _, _, _, _, _, _, _, _, _, _, _, rfl, _⟩ := h; rfl
  · obtain ⟨m1, m2, b, sg1, sg2, R1, R2, E1, E2, p, c, rfl, rfl, hb, ma1, f1, ma2, f2, ⟨i1, i2⟩, c1, c2, k⟩ := h
    refine ⟨_, (pss_cons (ps_asg (pe_meth (pv 2) TC.cl TS.M_walk G_walk hr TS.b_walk .nil (passX0 fun _ _ _ h => h) (pa_cons (pe_ix ix_tup (pv 0) pe_int (fun _ _ => rfl)) (pa_cons (pv 1) pa_nil))) (pg_tup rfl (pgs_cons (pg_name (i := 4) nsc_be_step.nd rfl (Or.inl rfl)) (pgs_cons (pg_name (i := 5) nsc_be_step.nd rfl (Or.inl rfl)) pgs_nil))))
      (pss_cons (ps_asg (pe_meth (pv 3) TC.cl TS.M_walk G_walk hr TS.b_walk .nil (passX0 fun _ _ _ h => h) (pa_cons (pe_ix ix_tup (pv 0) pe_int (fun _ _ => rfl)) (pa_cons (pv 1) pa_nil))) (pg_tup rfl (pgs_cons (pg_name (i := 6) nsc_be_step.nd rfl (Or.inl rfl)) (pgs_cons (pg_name (i := 7) nsc_be_step.nd rfl (Or.inl rfl)) pgs_nil))))
      (pss_one (ps_ret (pe_tup (pa_cons (pe_tup (pa_cons (pv 4) (pa_cons (pv 6) pa_nil))) (pa_cons (pe_op op_catA (pv 5) (pv 7)) pa_nil))))))), ?_⟩
    obtain ⟨dx1, _, _, _, _, _, _, _, hm1, _⟩ := id ma1
    obtain ⟨dx2, _, _, _, _, _, _, _, hm2, _⟩ := id ma2
    have inn : ∀ {sg : Str}, c ∈ sg.cps.toList → ∀ x ∈ (Froz.sing c).cps.toList, x ∈ sg.cps.toList := fun {sg} h x hx => by
      rw [List.mem_singleton.mp (show x ∈ [c] from hx)]; exact h
    have out : ∀ {sg : Str} {Qx : Prop}, c ∈ sg.cps.toList → ∀ (i x : Nat), (Froz.sing c).cps[i]? = some x → x ∉ sg.cps.toList → Qx := fun {sg Qx} h i x h1 h2 => absurd (inn h x (by
      have : (Froz.sing c).cps.toList[i]? = some x := by rw [Array.getElem?_toList]; exact h1
      exact List.mem_of_getElem? this)) h2
    refine ⟨_, rfl, m1, dx1, _, rfl, hm1, rfl, _, rfl, b, _, 0, _, rfl, rfl, SqT.of hb, atI_nat (j := 0) rfl, _, rfl, m1, p.1, Froz.sing c, sg1, R1, E1, rfl, ma1, f1, i1, fun _ t1 k1 H1 s1 h1 h2 => ?_, fun i x _ _ g1 g2 => out c1 i x g1 g2⟩
    refine ⟨t1, _, rfl, SqT.of h1, rfl, _, _, rfl, _, _, rfl, rfl, ?_⟩
    refine ⟨_, rfl, m2, dx2, _, rfl, s1 _ _ hm2, rfl, _, rfl, b, _, 1, _, rfl, rfl, SqT.of (s1 _ _ hb), atI_nat (j := 1) rfl, _, rfl, m2, p.2, Froz.sing c, sg2, R2, E2, rfl, ma2.keepE (sameN s1), f2, i2, fun _ t2 k2 H2 s2 g1 g2 => ?_, fun i x _ _ g1 g2 => out c2 i x g1 g2⟩
    refine ⟨t2, _, rfl, SqT.of g1, rfl, _, _, rfl, _, _, rfl, rfl, ?_⟩
    refine ⟨_, rfl, _, rfl, by show 2 ≤ sizeLine; decide, fun t3 ht3 => ⟨_, rfl, _, rfl, ?_⟩⟩
    have l1 : (kl (runW sg1 R1 p.1 [c]).2).length ≤ 4096 := by
      have h := f1.size
      have e : scanBound = 4096 := rfl
      have : (kl (runW sg1 R1 p.1 [c]).2).length ≤ (keysOfRows R1).length := nd_sub_len (kl_nodup _) fun y hy => (f1.run i1 [c]).2 y (kl_mem.mp hy)
      rw [List.length_append] at h
      omega
    have l2 : (kl (runW sg2 R2 p.2 [c]).2).length ≤ 4096 := by
      have h := f2.size
      have e : scanBound = 4096 := rfl
      have : (kl (runW sg2 R2 p.2 [c]).2).length ≤ (keysOfRows R2).length := nd_sub_len (kl_nodup _) fun y hy => (f2.run i2 [c]).2 y (kl_mem.mp hy)
      rw [List.length_append] at h
      omega
    refine cat_keys (Same.upd ht3 _ _ (s2 _ _ h2)) (Same.upd ht3 _ _ g2) (by show (kl (runW sg1 R1 p.1 [c]).2).length + (kl (runW sg2 R2 p.2 [c]).2).length ≤ _; omega) fun a H4 s4 h4 => ?_
    refine ⟨by show 2 ≤ sizeLine; decide, fun t5 ht5 => ?_⟩
    refine k _ _ (fun b o z => Same.upd ht5 _ _ (s4 _ _ (Same.upd ht3 _ _ (s2 _ _ (s1 _ _ z))))) ⟨t5, t3, a, rfl, upd_same, Same.upd ht5 _ _ (s4 _ _ upd_same), Same.upd ht5 _ _ h4⟩
def spBeEnd (Z : CAd) : List (Option V) → Sp := fun ws vs H Q _ => ∃ (m1 m2 b : Addr) (sg1 sg2 : Str) (R1 R2 : List (List Way)) (E1 E2 : List (List Str)) (p : Pr), ws = [some (.ref m1), some (.ref m2)] ∧ vs = [.ref b] ∧
  H b = some (.tup [.int (p.1 : Nat), .int (p.2 : Nat)]) ∧ MachAt Z.C H m1 sg1 R1 E1 ∧ Full sg1 R1 E1 ∧ MachAt Z.C H m2 sg2 R2 E2 ∧ Full sg2 R2 E2 ∧ In2 R1.length R2.length p ∧
  ∀ z H', Same H H' → KeysT H' z (E1.getD p.1 [] ++ E2.getD p.2 []) → Q z H'
theorem nsc_be_end : NdefX.NScope ["pair", "one", "other"] ["pair"] ["one", "other"] (C8.fnScope s_be_end) := NdefX.nscope_by (by decide +kernel)
theorem nok_be_end (TC : TxtC K mg Z) (f c' : Addr) (q : Str) (cl : List (Str × Addr)) : NdefX.NOk P w K mg base CX0 5 f (NdefX.NF.of s_be_end "at_end" q cl c') ["pair"] ["one", "other"] (spBeEnd Z) := by
  refine NdefX.nok_of (k := 4) (N := ["pair", "one", "other"]) nsc_be_end (fun _ _ _ us hl => match us, hl with | [_], _ => rfl) (fun ws vs H Q E h => ?_) (fun A outer s H vs ws Q E hr hf hc hl h => ?_)
  · obtain ⟨_, _, _, _, _, _, _, _, _, _, _, rfl, _⟩ := h; rfl
  · obtain ⟨m1, m2, b, sg1, sg2, R1, R2, E1, E2, p, rfl, rfl, hb, ma1, f1, ma2, f2, ⟨i1, i2⟩, k⟩ := h
    refine ⟨_, (pss_one (ps_ret (pe_op op_catA (pe_ix ix_tup (pe_fld (pv 1) rfl) (pe_ix ix_tup (pv 0) pe_int (fun _ _ => rfl)) (fun _ _ => rfl)) (pe_ix ix_tup (pe_fld (pv 2) rfl) (pe_ix ix_tup (pv 0) pe_int (fun _ _ => rfl)) (fun _ _ => rfl))))), ?_⟩
    obtain ⟨dx1, _, ea1, _, _, _, ev1, _, hm1, _, _, he1, pe1, _⟩ := ma1
    obtain ⟨dx2, _, ea2, _, _, _, ev2, _, hm2, _, _, he2, pe2, _⟩ := ma2
    have el : ∀ {sg : Str} {R : List (List Way)} {Es : List (List Str)} {ev : List V} {i : Nat}, Full sg R Es → i < R.length → Paired (KeysT H) ev Es → ∃ a, ev[i]? = some (.ref a) ∧ H a = some (.tup ((Es.getD i []).map V.str)) ∧ (Es.getD i []).length ≤ 4096 := fun {sg R Es ev i} F hi pe => by
      have hl : ev.length = Es.length := Paired.length pe
      have hev : ev[i]? = some (ev[i]'(by rw [hl, F.ends]; exact hi)) := List.getElem?_eq_getElem _
      obtain ⟨ks, hks, a, e, ha⟩ := pat pe hev
      refine ⟨a, by rw [hev, e], by rw [List.getD_eq_getElem?_getD, hks]; exact ha, ?_⟩
      rw [List.getD_eq_getElem?_getD, hks]
      have h := F.size
      have e : scanBound = 4096 := rfl
      rw [List.length_append] at h
      have := flat_le id hks
      rw [List.flatMap_id, List.flatMap_id] at this
      have : (id ks).length = ks.length := rfl
      show ks.length ≤ _
      omega
    obtain ⟨a1, x1, y1, z1⟩ := el f1 i1 pe1
    obtain ⟨a2, x2, y2, z2⟩ := el f2 i2 pe2
    refine ⟨_, rfl, m1, Z.C, dx1, _, _, rfl, hm1, TC.cl, TC.a3, rfl, _, rfl, b, _, 0, _, rfl, rfl, SqT.of hb, atI_nat (j := 0) rfl, ea1, ev1, _, _, rfl, rfl, SqT.of he1, atI_nat x1, ?_⟩
    refine ⟨_, rfl, m2, Z.C, dx2, _, _, rfl, hm2, TC.cl, TC.a3, rfl, _, rfl, b, _, 1, _, rfl, rfl, SqT.of hb, atI_nat (j := 1) rfl, ea2, ev2, _, _, rfl, rfl, SqT.of he2, atI_nat x2, ?_⟩
    exact cat_keys y1 y2 (by omega) fun a H4 s4 h4 => k _ _ s4 ⟨a, rfl, h4⟩
end
end Kx

namespace Kx
open PySem L2 Own PinX DicN
abbrev nmBe (l : Nat) (_ : Nat) : Str := if l = (match s_be_step with | .FunctionDef (pos := p) .. => p.line | _ => 0) then "beside.<locals>.step" else "beside.<locals>.at_end"
structure TxtBe (K : PySem.W.Frag) (mg : Str → Option Value) (base : Heap) (T : List NdefX.NTab) (A : EAd) (U : Addr) (f : Addr) (d : FuncData) (c Pt : Addr) : Prop where
  g : mg "beside" = some (.ref f)
  F : FunC K "beside" "beside" s_beside f d c
  b : Binds K d ["one", "other"] []
  tb : LamX.TabB base mg c Pt
  mem : (Pt, nmBe) ∈ T
  one : ∀ p ∈ T, p.1 = Pt → p.2 = nmBe
  E_Unlike : ErrC K mg "Unlike" U A.M
  X_Unlike : PySem.W.excIn K U [.type "ValueError", .type "Exception", .type "BaseException", .type "object"] "ValueError.__new__" = true
  n_len : mg "len" = none
  g_MOST_KEYS : ∃ t, mg "MOST_KEYS" = some (.int 12 t)
  g_MOST_STATES : ∃ t, mg "MOST_STATES" = some (.int 16 t)
def keysA (R : List (List Way)) (Es : List (List Str)) : List Str := kl (keysOfRows R ++ Es.flatten)
/-- a machine with few states and few keys on each way -/
structure Few (sg : Str) (R : List (List Way)) (Es : List (List Str)) : Prop where
  F : Full sg R Es
  z4 : sg.cps.size ≤ 4
  low : ∀ c ∈ sg.cps.toList, c < 128
  l16 : R.length ≤ 16
  two : (∀ q ∈ R, ∀ w ∈ q, w.2.length ≤ 2) ∧ ∀ ks ∈ Es, ks.length ≤ 2
  k12 : (keysA R Es).length ≤ 12
abbrev nxB (s1 s2 : Str) (R1 R2 : List (List Way)) : Pr → Nat → Pr := nx2 s1 s2 R1 R2
def labB (nx : Pr → Nat → Pr) (cs : List Nat) (d i : Nat) : Pr := (bfs nx cs d).getD i (0, 0)
def rowsBe (s1 s2 : Str) (R1 R2 : List (List Way)) (d : Nat) : List (List Way) := rowsB s1 (bfs (nxB s1 s2 R1 R2) s1.cps.toList d).length (fun i c => (bfs (nxB s1 s2 R1 R2) s1.cps.toList d).idxOf (nx2 s1 s2 R1 R2 (labB (nxB s1 s2 R1 R2) s1.cps.toList d i) c)) fun i c => gv2 s1 s2 R1 R2 (labB (nxB s1 s2 R1 R2) s1.cps.toList d i) c
def endsBe (s1 s2 : Str) (R1 R2 : List (List Way)) (E1 E2 : List (List Str)) (d : Nat) : List (List Str) := endsB (bfs (nxB s1 s2 R1 R2) s1.cps.toList d).length fun i => E1.getD (labB (nxB s1 s2 R1 R2) s1.cps.toList d i).1 [] ++ E2.getD (labB (nxB s1 s2 R1 R2) s1.cps.toList d i).2 []
def spBeside (A : EAd) (Z : CAd) (U : Addr) (T : List NdefX.NTab) : Sp := fun vs H Q E => ∃ (m1 m2 : Addr) (s1 s2 : Str) (R1 R2 : List (List Way)) (E1 E2 : List (List Str)), vs = [.ref m1, .ref m2] ∧ MachAt Z.C H m1 s1 R1 E1 ∧ MachAt Z.C H m2 s2 R2 E2 ∧ Few s1 R1 E1 ∧ Few s2 R2 E2 ∧ NdefX.TabsN T H ∧
  (¬ s1.cps.toList.Perm s2.cps.toList → ∀ H', Same H H' → E (.ref U) none H') ∧
  (s1.cps.toList.Perm s2.cps.toList → 12 < (kl (keysA R1 E1 ++ keysA R2 E2)).length → ∀ d H', H d = none → Same H H' → H' d = some (.xd [("what", .str "keys")]) → E (.ref A.c2) (some d) H') ∧
  (s1.cps.toList.Perm s2.cps.toList → (kl (keysA R1 E1 ++ keysA R2 E2)).length ≤ 12 → ∀ n, Over (nxB s1 s2 R1 R2) s1.cps.toList n →
    (16 < (bfs (nxB s1 s2 R1 R2) s1.cps.toList n).length → ∀ d H', LamX.ExtN H H' → NdefX.TabsN T H' → H' d = some (.xd [("what", .str "states")]) → E (.ref A.c2) (some d) H') ∧
    ((bfs (nxB s1 s2 R1 R2) s1.cps.toList n).length ≤ 16 → ∀ m H', LamX.ExtN H H' → NdefX.TabsN T H' → MachAt Z.C H' m s1 ((rowsBe s1 s2 R1 R2 n).map nrm) ((endsBe s1 s2 R1 R2 E1 E2 n).map kl) → Q (.ref m) H'))
abbrev Nbe : List Str := ["one", "other", "step", "at_end", "pairs"]
theorem sc_beside : FnScope Nbe ["one", "other"] (defScope s_beside) := ⟨rfl, rfl, rfl, by decide +kernel, rfl, by decide +kernel, by decide +kernel⟩
section
variable {s1 s2 : Str} {R1 R2 : List (List Way)} {E1 E2 : List (List Str)}
theorem gv_two {sg : Str} {R : List (List Way)} {Es : List (List Str)} (W : Few sg R Es) {i c : Nat} (hi : i < R.length) (hc : c ∈ sg.cps.toList) : (gvW sg R i c).length ≤ 2 := by
  obtain ⟨j, hj⟩ := List.getElem?_of_mem hc
  rw [Array.getElem?_toList] at hj
  obtain ⟨q, w, hq, hw, st, _⟩ := W.F.way hi hj
  have e : runW sg R i [c] = (w.1.toNat, [] ++ w.2) := by
    show acc1 sg R (i, []) c = _
    unfold acc1
    rw [st]
  unfold gvW
  rw [e]
  exact Nat.le_trans (kl_len _) (W.two.1 q (List.mem_of_getElem? hq) w (List.mem_of_getElem? hw))
theorem gv_four (w1 : Few s1 R1 E1) (w2 : Few s2 R2 E2) {p : Pr} {c : Nat} (ip : In2 R1.length R2.length p) (h1 : c ∈ s1.cps.toList) (h2 : c ∈ s2.cps.toList) : (gv2 s1 s2 R1 R2 p c).length ≤ 4 := by
  have a := gv_two w1 ip.1 h1
  have b := gv_two w2 ip.2 h2
  unfold gv2
  rw [List.length_append]
  omega
theorem end_two {sg : Str} {R : List (List Way)} {Es : List (List Str)} (W : Few sg R Es) (i : Nat) : (Es.getD i []).length ≤ 2 ∧ ∀ y ∈ Es.getD i [], y ∈ Es.flatten := by
  rw [List.getD_eq_getElem?_getD]
  cases e : Es[i]? with
  | none => exact ⟨Nat.zero_le _, fun y hy => nomatch hy⟩
  | some ks => exact ⟨W.two.2 ks (List.mem_of_getElem? e), fun y hy => List.mem_flatten.mpr ⟨ks, List.mem_of_getElem? e, hy⟩⟩
theorem end_four (w1 : Few s1 R1 E1) (w2 : Few s2 R2 E2) {i j : Nat} : (E1.getD i [] ++ E2.getD j []).length ≤ 4 := by
  have a := (end_two w1 i).1
  have b := (end_two w2 j).1
  rw [List.length_append]
  omega
theorem beside_keys (w1 : Few s1 R1 E1) (w2 : Few s2 R2 E2) (pm : s1.cps.toList.Perm s2.cps.toList) {n : Nat} (bin : ∀ q ∈ bfs (nxB s1 s2 R1 R2) s1.cps.toList n, In2 R1.length R2.length q) :
    ∀ y ∈ keysOfRows (rowsBe s1 s2 R1 R2 n) ++ (endsBe s1 s2 R1 R2 E1 E2 n).flatten, y ∈ keysA R1 E1 ++ keysA R2 E2 := fun y hy => by
  have lab : ∀ i ∈ List.range (bfs (nxB s1 s2 R1 R2) s1.cps.toList n).length, In2 R1.length R2.length (labB (nxB s1 s2 R1 R2) s1.cps.toList n i) := fun i hi => by
    have hi := List.mem_range.mp hi
    unfold labB
    rw [List.getD_eq_getElem?_getD, List.getElem?_eq_getElem hi]
    exact bin _ (List.getElem_mem hi)
  rcases List.mem_append.mp hy with hy | hy
  · obtain ⟨q, hq, hy⟩ := List.mem_flatMap.mp hy
    obtain ⟨i, hi, rfl⟩ := List.mem_map.mp hq
    obtain ⟨u, hu, hy⟩ := List.mem_flatMap.mp hy
    obtain ⟨c, hc, rfl⟩ := List.mem_map.mp hu
    obtain ⟨i1, i2⟩ := lab i hi
    rcases List.mem_append.mp (show y ∈ gvW s1 R1 _ c ++ gvW s2 R2 _ c from hy) with h | h
    · exact List.mem_append_left _ (kl_mem.mpr (List.mem_append_left _ ((w1.F.run i1 [c]).2 y (kl_mem.mp h))))
    · exact List.mem_append_right _ (kl_mem.mpr (List.mem_append_left _ ((w2.F.run i2 [c]).2 y (kl_mem.mp h))))
  · obtain ⟨ks, hks, hy⟩ := List.mem_flatten.mp hy
    obtain ⟨i, hi, rfl⟩ := List.mem_map.mp hks
    rcases List.mem_append.mp hy with h | h
    · exact List.mem_append_left _ (kl_mem.mpr (List.mem_append_right _ ((end_two w1 _).2 y h)))
    · exact List.mem_append_right _ (kl_mem.mpr (List.mem_append_right _ ((end_two w2 _).2 y h)))
theorem pmap {α β γ : Type} {F : α → γ → Prop} {g : β → γ} : ∀ {l : List α} {m : List β}, Paired (fun x y => F x (g y)) l m → Paired F l (m.map g)
  | _, _, .nil => .nil
  | _, _, .cons a t => .cons a (pmap t)
end
section
variable {P : Program} {w : World} {K : PySem.W.Frag} {mg : Str → Option Value} {base : Heap} {A : EAd} {B : MAd} {Z : CAd} {S : SAd} {U : Addr} {T : List NdefX.NTab} {fs fb fc f : Addr} {ds db dc d : FuncData} {c Pt : Addr}
theorem ok_beside (TM : TxtM K mg B) (TE : TxtE K mg A) (TC : TxtC K mg Z) (TS : TxtS K mg A Z S) (TSm : TxtSm K mg fs ds) (TBu : TxtBu K mg fb db) (TCo : TxtCo K mg fc dc) (TT : TxtBe K mg base T A U f d c Pt) : FnOk P w K mg base (L2.CX P w) 8 f d ["one", "other"] (spBeside A Z U T) := by
  have sc := sc_beside
  have G_same : FnOk P w K mg base CX0 1 fs ds ["one", "other"] spSame := ok_same TSm
  have G_key_list : FnOk P w K mg base CX0 1 B.f2 B.d2 ["given"] (spKl K) := ok_key_list TM
  have G_built : FnOk P w K mg base CX0 7 fb db ["signs", "labels", "step", "at_end"] (spBuilt P w K mg base T Z) := ok_built TM TE TC TBu
  have G_come : FnOk P w K mg base CX0 7 fc dc ["label", "signs", "step"] (spCome P w K mg base) := ok_come TCo
  obtain ⟨t1, g1⟩ := TT.g_MOST_KEYS
  obtain ⟨t2, g2⟩ := TT.g_MOST_STATES
  refine TT.F.okX sc (fun vs H Q E h => ?_) (fun A1 outer s H vs Q E hr h => ?_)
  · obtain ⟨_, _, _, _, _, _, _, _, rfl, _⟩ := h; rfl
  · obtain ⟨m1, m2, s1, s2, R1, R2, E1, E2, rfl, ma1, ma2, w1, w2, hT, badU, badK, rest⟩ := h
    refine ⟨_, (pss_cons (ps_if (pt_not (pt_val (pe_call G_same (hr.mono (by decide)) rfl TSm.D_same_signs.g TSm.D_same_signs.F.kp TSm.D_same_signs.b .nil pass0 (pa_cons (pe_fld (pv 0) rfl) (pa_cons (pe_fld (pv 1) rfl) pa_nil)))))
        (pss_one (ps_raise rfl (takes_of rfl rfl rfl rfl) (pmk_own0 PySem.F.excBase_ValueError TT.X_Unlike TT.E_Unlike.g TT.E_Unlike.oex.kC TT.E_Unlike.raises rfl))) pss_nil)
      (pss_cons (ps_if (pt_cmpR op_gt (pe_callB call_len (by rfl) TT.n_len (by decide +kernel) (pa_cons (pe_call G_key_list (hr.mono (by decide)) rfl TM.D_key_list.g TM.D_key_list.F.kp TM.D_key_list.b .nil pass0 (pa_cons (pe_op op_catA (pe_fld (pv 0) rfl) (pe_fld (pv 1) rfl)) pa_nil)) pa_nil)) (pe_glob (v := .int 12) rfl g1 ⟨_, rfl⟩) (nomark _))
        (pss_one (ps_raise rfl (takes_of rfl rfl rfl rfl) (pmk_oex TE.E_TooMany.oex TE.I_TooMany.iC TE.I_TooMany.tI (ok_TooMany TE) (hr.mono (by decide)) TE.I_TooMany.b .nil pass0 rfl TE.E_TooMany.g (pa_cons pe_str pa_nil)))) pss_nil)
      (pss_cons (NdefX.ps_ndefMS (st := s_be_step) (i := 2) rfl TT.tb rfl TT.mem (by rfl) TT.one (NdefX.ndef_free (fr := ["one", "other"]) (show NdefX.ndefB (defScope s_beside) (C8.fnScope s_be_step) ["one", "other"] = true by decide +kernel)) rfl rfl rfl sc.nd rfl (Or.inl rfl) (Or.inl rfl))
      (pss_cons (NdefX.ps_ndefMS (st := s_be_end) (i := 3) rfl TT.tb rfl TT.mem (by rfl) TT.one (NdefX.ndef_free (fr := ["one", "other"]) (show NdefX.ndefB (defScope s_beside) (C8.fnScope s_be_end) ["one", "other"] = true by decide +kernel)) rfl rfl rfl sc.nd rfl (Or.inl rfl) (Or.inl rfl))
      (pss_cons (ps_set (i := 4) sc.nd rfl (Or.inl rfl) (pe_callP G_come (hr.mono (by decide)) rfl TCo.D_come_to.g TCo.D_come_to.F.kp TCo.D_come_to.b
        (fun c hc => by obtain ⟨y, hy⟩ := cells_at (cl := _) (by show (["other", "one"] : List Str).Nodup; decide +kernel) c hc; exact ⟨y, rfl, hy⟩) cells_in
        (pa_cons (pe_tup (pa_cons pe_int (pa_cons pe_int pa_nil))) (pa_cons (pe_fld (pv 0) rfl) (pa_cons (pv 2) pa_nil)))))
      (pss_cons (ps_if (pt_cmpR op_gt (pe_callB call_len (by rfl) TT.n_len (by decide +kernel) (pa_cons (pv 4) pa_nil)) (pe_glob (v := .int 16) rfl g2 ⟨_, rfl⟩) (nomark _))
        (pss_one (ps_raise rfl (takes_of rfl rfl rfl rfl) (pmk_oex TE.E_TooMany.oex TE.I_TooMany.iC TE.I_TooMany.tI (ok_TooMany TE) (hr.mono (by decide)) TE.I_TooMany.b .nil pass0 rfl TE.E_TooMany.g (pa_cons pe_str pa_nil)))) pss_nil)
      (pss_one (ps_ret (pe_callP G_built (hr.mono (by decide)) rfl TBu.D_built.g TBu.D_built.F.kp TBu.D_built.b
        (fun c hc => by obtain ⟨y, hy⟩ := cells_at (cl := _) (by show (["other", "one"] : List Str).Nodup; decide +kernel) c hc; exact ⟨y, rfl, hy⟩) cells_in
        (pa_cons (pe_fld (pv 0) rfl) (pa_cons (pv 4) (pa_cons (pv 2) (pa_cons (pv 3) pa_nil))))))))))))), ?_⟩
    obtain ⟨dx1, r1, e1, k1, wy1, rv1, ev1, wv1, hm1, hr1, pr1, he1, pe1, hk1, hw1, pw1⟩ := id ma1
    obtain ⟨dx2, r2, e2, k2, wy2, rv2, ev2, wv2, hm2, hr2, pr2, he2, pe2, hk2, hw2, pw2⟩ := id ma2
    have z1 := w1.z4
    have z2 := w2.z4
    have back0 : ∀ {H' : Hp} {a : Addr}, Same H H' → H' a = none → H a = none := fun {H' a} s h => by
      cases e : H a with
      | none => rfl
      | some o => rw [s _ _ e] at h; cases h
    -- the signs
    refine ⟨_, rfl, m1, Z.C, dx1, _, _, rfl, hm1, TC.cl, TC.a1, rfl, _, rfl, m2, Z.C, dx2, _, _, rfl, hm2, TC.cl, TC.a1, rfl, s1, s2, rfl, by omega, by omega, w1.low, w2.low, fun H1 sm1 => ⟨_, rfl, ?_⟩⟩
    rcases Decidable.em (¬ s1.cps.toList.Perm s2.cps.toList) with np | np
    · exact ifTn np (badU np H1 sm1)
    have pm := Decidable.not_not.mp np
    refine ifFn pm ?_
    clear badU
    replace badK := badK pm
    replace rest := rest pm
    -- the keys
    have sb1 : (keysA R1 E1 ++ keysA R2 E2).length ≤ 32 := by
      have := w1.k12
      have := w2.k12
      rw [List.length_append]
      omega
    refine ⟨_, rfl, m1, Z.C, dx1, _, _, rfl, sm1 _ _ hm1, TC.cl, TC.a4, rfl, _, rfl, m2, Z.C, dx2, _, _, rfl, sm1 _ _ hm2, TC.cl, TC.a4, rfl, ?_⟩
    refine cat_keys (xs := keysA R1 E1) (ys := keysA R2 E2) (sm1 _ _ hk1) (sm1 _ _ hk2) (by rw [List.length_append] at sb1; omega) fun a2 H2 sm2 ha2 => ?_
    refine ⟨.ref a2, _, rfl, .tup (SqT.of ha2), by have e : scanBound = 4096 := rfl; omega, fun q3 H3 hq3 sm3 h3 => ?_⟩
    refine ⟨.ref q3, (kl (keysA R1 E1 ++ keysA R2 E2)).length, rfl, .inr ⟨_, SqT.of h3, by rw [List.length_map]⟩, _, _, rfl, rfl, _, rfl, ?_⟩
    have s03 : Same H H3 := fun b o z => sm3 _ _ (sm2 _ _ (sm1 _ _ z))
    clear sm1 sm2 sm3 ha2 h3 hq3
    by_cases c12 : (12 : Int) < ((kl (keysA R1 E1 ++ keysA R2 E2)).length : Nat)
    · refine ifT c12 ?_
      refine rsE rfl (by show 1 ≤ 1000; decide) (fun u hu => ?_) fun d H4 hd s4 h4 => badK (by omega) d H4 (back0 s03 hd) (s03.trans s4) h4
      rw [List.mem_singleton.mp hu]
      exact .inr ⟨_, rfl⟩
    refine ifF c12 ?_
    replace rest := rest (by omega)
    clear badK
    have m13 := ma1.keepE (sameN s03)
    have m23 := ma2.keepE (sameN s03)
    -- the two functions
    refine ⟨hT.ext s03, fun f4 c4 H4 e4 m4 T4 f4n f4a c4a => ?_⟩
    refine ⟨T4, fun f5 c5 H5 e5 m5 T5 f5n f5a c5a => ?_⟩
    have f4b := e5 _ _ f4a fun ps => NdefX.fnO_ne ps
    have c4b := e5 _ _ c4a fun ps y => by unfold LamX.CodeO at y; cases y
    have m15 := (m13.keepE e4).keepE e5
    have m25 := (m23.keepE e4).keepE e5
    have e05 : LamX.ExtN H H5 := (sameN s03).trans (e4.trans e5)
    clear m13 m23 hr1 hr2 pr1 pr2 he1 he2 pe1 pe2 hk1 hk2 hw1 hw2 pw1 pw2 f4a c4a e4 e5 s03
    refine ⟨by show 2 ≤ sizeLine; decide, fun z0 hz0 => ?_⟩
    have sz : Same H5 (upd H5 z0 (.tup [.int (0 : Nat), .int (0 : Nat)])) := Same.upd hz0
    have hz6 : (upd H5 z0 (.tup [.int (0 : Nat), .int (0 : Nat)])) z0 = some (.tup [.int (0 : Nat), .int (0 : Nat)]) := upd_same
    have f4c := sz _ _ f4b
    have c4c := sz _ _ c4b
    have f5c := sz _ _ f5a
    have c5c := sz _ _ c5a
    have m16 := m15.keepE (sameN sz)
    have m26 := m25.keepE (sameN sz)
    have e06 : LamX.ExtN H (upd H5 z0 (.tup [.int (0 : Nat), .int (0 : Nat)])) := e05.trans (sameN sz)
    have T6 := T5.ext sz
    obtain ⟨dx6, _, _, _, _, _, _, _, hm6, _⟩ := id m16
    refine ⟨_, rfl, m1, Z.C, dx6, _, _, rfl, hm6, TC.cl, TC.a1, rfl, _, rfl, fun Hp pp => ?_⟩
    have hz6' := pp.at_ hz6
    revert f4c c4c f5c c5c m16 m26 e06 T6 pp
    generalize upd H5 z0 (.tup [.int (0 : Nat), .int (0 : Nat)]) = H6
    intro f4c c4c f5c c5c m16 m26 e06 T6 pp
    have K4 := caps_own (X := cxOf (L2.CX P w) P w K mg base Nbe "beside" (defScope s_beside) f (.ref c) A1 outer s H E) (nsc := C8.fnScope s_be_step) (sc := defScope s_beside) (fr := ["one", "other"]) (js := [0, 1]) (L := s.heap.objs.size + 1) rfl rfl (by decide +kernel) (by decide +kernel) rfl
    have K5 := caps_own (X := cxOf (L2.CX P w) P w K mg base Nbe "beside" (defScope s_beside) f (.ref c) A1 outer s H E) (nsc := C8.fnScope s_be_end) (sc := defScope s_beside) (fr := ["one", "other"]) (js := [0, 1]) (L := s.heap.objs.size + 1) rfl rfl (by decide +kernel) (by decide +kernel) rfl
    have hin : ∀ p, In2 R1.length R2.length p → ∀ c ∈ s1.cps.toList, In2 R1.length R2.length (nx2 s1 s2 R1 R2 p c) := fun p ip c _ => ⟨(w1.F.run ip.1 [c]).1, (w2.F.run ip.2 [c]).1⟩
    have i0 : In2 R1.length R2.length (0, 0) := ⟨w1.F.pos, w2.F.pos⟩
    refine ⟨z0, s1, .ref f4, R1.length, R2.length, nxB s1 s2 R1 R2, gv2 s1 s2 R1 R2, rfl, hz6', z1, i0, w1.l16, w2.l16, hin, fun H' eH b p ip hb c hc => ?_, fun Lb us n H7 s7 ov hL pu => ⟨pp.kept s7, ?_⟩⟩
    · exact canC_late pp eH f4c c4c K4.1 K4.2 cells_in (nok_be_step TM TE TC TS f4 c4 _ _) (fun _ _ _ s' r => r.keep fun b xs z => s' _ _ z) fun G eG tG Q' q' => ⟨m1, m2, b, s1, s2, R1, R2, E1, E2, p, c, rfl, rfl, tG _ _ hb, m16.keepE eG, w1.F, m26.keepE eG, w2.F, ip, hc, pm.mem_iff.mp hc, fun z G2 s st => q' z G2 s st⟩
    have back := pp.back s7
    have hL8 := pp.got s7 hL fun c u y => by cases y
    have pu8 := L2.Paired.mapP pu fun v p ⟨b, e, hb⟩ => (⟨b, e, pp.got s7 hb fun c u y => by cases y⟩ : PrAt _ v p)
    obtain ⟨r1, r2⟩ := rest n ov
    have f4d := back _ _ f4c
    have c4d := back _ _ c4c
    have f5d := back _ _ f5c
    have c5d := back _ _ c5c
    have m18 := m16.keepE (sameN back)
    have m28 := m26.keepE (sameN back)
    have e08 := e06.trans (sameN back)
    have T8 := T6.ext back
    revert hL8 pu8 f4d c4d f5d c5d m18 m28 e08 T8
    generalize unp _ H7 = H8
    intro hL8 pu8 f4d c4d f5d c5d m18 m28 e08 T8
    clear rest back pu hL s7 pp hz6' hz6 sz hz0 f4b c4b f5a c5a m15 m25 e05 T4 T5 f4n f5n m4 m5 m16 m26 e06 T6 hm6
    have lu : us.length = (bfs (nxB s1 s2 R1 R2) s1.cps.toList n).length := Paired.length pu8
    refine ⟨_, rfl, .ref Lb, us.length, rfl, .inl ⟨_, SqL.of hL8, rfl⟩, _, _, rfl, rfl, _, rfl, ?_⟩
    by_cases c16 : (16 : Int) < ((us.length : Nat) : Int)
    · refine ifT c16 ?_
      refine rsE rfl (by show 1 ≤ 1000; decide) (fun u hu => ?_) fun d H9 hd s9 h9 => r1 (by omega) d H9 (e08.trans (sameN s9)) (T8.ext s9) h9
      rw [List.mem_singleton.mp hu]
      exact .inr ⟨_, rfl⟩
    refine ifF c16 ?_
    obtain ⟨dx8, _, _, _, _, _, _, _, hm8, _⟩ := id m18
    refine ⟨_, rfl, m1, Z.C, dx8, _, _, rfl, hm8, TC.cl, TC.a1, rfl, _, rfl, _, rfl, _, rfl, fun Hq qq => ?_⟩
    have nd := bfs_nodup (nx := nxB s1 s2 R1 R2) (cs := s1.cps.toList) n
    have bin := bfs_in i0 hin n
    have clo := fun {p : Pr} hp {c : Nat} hc => over_closed (p := p) ov hp (c := c) hc
    have fst : 0 < (bfs (nxB s1 s2 R1 R2) s1.cps.toList n).length := (List.getElem?_eq_some_iff.mp (bfs_first n)).1
    have at_ : ∀ i u, us[i]? = some u → ∃ p b, (bfs (nxB s1 s2 R1 R2) s1.cps.toList n)[i]? = some p ∧ p ∈ bfs (nxB s1 s2 R1 R2) s1.cps.toList n ∧ u = V.ref b ∧ H8 b = some (.tup [.int (p.1 : Nat), .int (p.2 : Nat)]) ∧ labB (nxB s1 s2 R1 R2) s1.cps.toList n i = p := fun i u hu => by
      obtain ⟨p, hp, b, e, hb⟩ := pat pu8 hu
      exact ⟨p, b, hp, List.mem_of_getElem? hp, e, hb, by unfold labB; rw [List.getD_eq_getElem?_getD, hp]; rfl⟩
    have lk : ((bfs (nxB s1 s2 R1 R2) s1.cps.toList n).map prK).length = (bfs (nxB s1 s2 R1 R2) s1.cps.toList n).length := List.length_map ..
    refine ⟨s1, Lb, us, (bfs (nxB s1 s2 R1 R2) s1.cps.toList n).map prK, .ref f4, .ref f5, fun i c => (bfs (nxB s1 s2 R1 R2) s1.cps.toList n).idxOf (nx2 s1 s2 R1 R2 (labB (nxB s1 s2 R1 R2) s1.cps.toList n i) c), fun i c => gv2 s1 s2 R1 R2 (labB (nxB s1 s2 R1 R2) s1.cps.toList n i) c, fun i => E1.getD (labB (nxB s1 s2 R1 R2) s1.cps.toList n i).1 [] ++ E2.getD (labB (nxB s1 s2 R1 R2) s1.cps.toList n i).2 [], rfl, qq.at_ hL8, ?_, ?_, by rw [lk]; omega, by rw [lk]; omega, z1, ?_, T8.ext fun b o z => qq.at_ z, fun i u c hu hc => ?_, fun i u hu => ?_, ?_, fun m H9 e9 T9 ma => ?_⟩
    · exact pmap (L2.Paired.mapP pu8 fun v p ⟨b, e, hb⟩ => (⟨⟨b, e⟩, by rw [e]; exact pr_key (qq.at_ hb), pr_depth p⟩ : LabAt Hq v (prK p)))
    · rw [List.nodup_iff_pairwise_ne, List.pairwise_map]
      exact List.Pairwise.imp (fun h e => h (prK_inj e)) (List.nodup_iff_pairwise_ne.mp nd)
    · rw [← Array.all_toList, List.all_eq_true]
      exact fun x hx => decide_eq_true (w1.low x hx)
    · obtain ⟨p, b, hp, pmem, rfl, hb, eD⟩ := at_ i u hu
      have ni := clo pmem hc
      dsimp only
      rw [eD]
      refine ⟨by rw [lk]; exact List.idxOf_lt_length_of_mem ni, gv_four w1 w2 (bin p pmem) hc (pm.mem_iff.mp hc), ?_⟩
      refine (canC_late qq (fun b o z _ => z) f4d c4d K4.1 K4.2 cells_in (nok_be_step TM TE TC TS f4 c4 _ _) (fun _ _ _ s' r => r.keep fun b xs z => s' _ _ z) fun G eG tG Q' q' => ⟨m1, m2, b, s1, s2, R1, R2, E1, E2, p, c, rfl, rfl, tG _ _ (qq.at_ hb), m18.keepE eG, w1.F, m28.keepE eG, w2.F, bin p pmem, hc, pm.mem_iff.mp hc, fun z G2 s st => q' z G2 s st⟩ : CanCall P w K mg base 5 Hq _ _ (StepP (nx2 s1 s2 R1 R2 p c) (gv2 s1 s2 R1 R2 p c))).toT fun G z ⟨zz, bb, a, e, h1, h2, h3⟩ => ⟨zz, a, bb, prK (nx2 s1 s2 R1 R2 p c), e, ?_, pr_key h2, pr_depth _, h1, h3⟩
      rw [List.getElem?_map, List.getElem?_eq_getElem (List.idxOf_lt_length_of_mem ni), List.getElem_idxOf]
      rfl
    · obtain ⟨p, b, hp, pmem, rfl, hb, eD⟩ := at_ i u hu
      dsimp only
      rw [eD]
      refine ⟨end_four w1 w2, ?_⟩
      exact (canC_late qq (fun b o z _ => z) f5d c5d K5.1 K5.2 cells_in (nok_be_end TC f5 c5 _ _) (fun _ _ _ s' r => KeysT.keep (fun b xs z => s' _ _ z) r) fun G eG tG Q' q' => ⟨m1, m2, b, s1, s2, R1, R2, E1, E2, p, rfl, rfl, tG _ _ (qq.at_ hb), m18.keepE eG, w1.F, m28.keepE eG, w2.F, bin p pmem, fun z G2 s st => q' z G2 s st⟩ : CanCall P w K mg base 5 Hq _ _ fun G z => KeysT G z (E1.getD p.1 [] ++ E2.getD p.2 [])).toT fun G z r => r
    · rw [lk]
      refine Nat.le_trans (kl_sub (beside_keys w1 w2 pm bin)) (by omega)
    · rw [lk] at ma
      refine ⟨qq.keptN e9, r2 (by omega) m _ (e08.trans (qq.backN e9)) (qq.tabs e9 T9) ?_⟩
      exact ma.keepI (fun b C dx fs z => qq.gotN e9 z fun c u y => by cases y) (fun b ys z => qq.gotN e9 z fun c u y => by cases y) fun b kvs z => qq.gotN e9 z fun c u y => by cases y
end
end Kx

namespace Kx
open PySem L2 Own PinX DicN
abbrev s_folded : Stmt := top 34
structure TxtFo (K : PySem.W.Frag) (mg : Str → Option Value) (f : Addr) (d : FuncData) : Prop where
  D_folded : DefT K mg "folded" "folded" s_folded ["machine", "signs", "words"] f d
  n_len : mg "len" = none
  n_range : mg "range" = none
/-- the rows of a machine that reads a word for a sign -/
def rowsF (sg : Str) (R : List (List Way)) (ts : Str) (wd : Nat → Str) : List (List Way) := (List.range R.length).map fun i => ts.cps.toList.map fun c => (((runW sg R i (wd c).cps.toList).1 : Int), kl (runW sg R i (wd c).cps.toList).2)
def spFold (Z : CAd) : Sp := fun vs H Q _ => ∃ (m dw : Addr) (sg ts : Str) (R : List (List Way)) (Es : List (List Str)) (kvs : List (Key × V)) (wd : Nat → Str), vs = [.ref m, .str ts, .ref dw] ∧ MachAt Z.C H m sg R Es ∧ Few sg R Es ∧ ts.cps.size ≤ 4 ∧ ts.cps.all (· < 128) = true ∧
  H dw = some (.dK kvs) ∧ (∀ c ∈ ts.cps.toList, valV kvs (lk c) = some (.str (wd c)) ∧ (∀ x ∈ (wd c).cps.toList, x ∈ sg.cps.toList) ∧ ∀ i, i < R.length → (kl (runW sg R i (wd c).cps.toList).2).length ≤ 4) ∧
  (kl (keysOfRows (rowsF sg R ts wd) ++ Es.flatten)).length ≤ 12 ∧
  ∀ m' H', Same H H' → H m' = none → MachAt Z.C H' m' ts ((rowsF sg R ts wd).map nrm) (Es.map kl) → Q (.ref m') H'
abbrev Nfo : List Str := ["machine", "signs", "words", "rows", "state", "sign"]
theorem sc_folded : FnScope Nfo ["machine", "signs", "words"] (defScope s_folded) := ⟨rfl, rfl, rfl, by decide +kernel, rfl, by decide +kernel, by decide +kernel⟩
section
variable {P : Program} {w : World} {K : PySem.W.Frag} {mg : Str → Option Value} {base : Heap} {A : EAd} {B : MAd} {Z : CAd} {S : SAd} {f : Addr} {d : FuncData}
theorem ok_folded (TM : TxtM K mg B) (TE : TxtE K mg A) (TC : TxtC K mg Z) (TS : TxtS K mg A Z S) (T : TxtFo K mg f d) : FnOk P w K mg base CX0 7 f d ["machine", "signs", "words"] (spFold Z) := by
  have sc := sc_folded
  have G_init : FnOk P w K mg base (L2.CX P w) 5 Z.f Z.d ["self", "signs", "rows", "ends"] (spInit K A Z) := ok_init TM TE TC
  have G_walk : FnOk P w K mg base (L2.CX P w) 4 S.fw S.dw ["self", "state", "text"] (spWalk Z S) := ok_walk TM TE TC TS
  refine T.D_folded.F.ok sc (fun vs H Q E h => ?_) (fun cdv A1 outer s H vs Q E hr h => ?_)
  · obtain ⟨_, _, _, _, _, _, _, _, rfl, _⟩ := h; rfl
  · obtain ⟨m, dw, sg, ts, R, Es, kvs, wd, rfl, ma, W, z4, asc, hdw, hwd, few, kQ⟩ := h
    have hu := hu_of hr
    refine ⟨_, (pss_cons (ps_setLc (i := 3) (own := [("state", 4)]) (g := gName 4) (tt := tYes) (te := tLc (iStr (tVar 1)) (gName 5) tYes (tMeth Z.C "walk" (spWalk Z S) [] E0 (tVar 0) (tCons (tVar 4) (tCons (tDGet (tVar 2) (tVar 5)) tNil))) [5]) rfl sc.nd rfl rfl (sw_true rfl rfl rfl (by decide +kernel)) (pi_range1 rfl T.n_range (pa_cons (pe_callB call_len (by rfl) T.n_len (by decide +kernel) (pa_cons (pe_fld (pv 0) rfl) pa_nil)) pa_nil)) (blkOk_by (N := Nfo) (sc := defScope s_folded) (own := [("state", 4)]) (by decide +kernel)) (fun _ _ _ _ _ => (pg_name (i := 4) sc.nd rfl (Or.inr rfl))) (fun _ _ _ _ _ => pts_nil)
        (fun _ _ _ _ _ => pe_lc (own := [("sign", 5)]) (tt := tYes) rfl sc.nd (pi_str (pv 1)) (blkOk_by (own := [("sign", 5)]) (by rfl)) (fun _ _ _ _ _ => pg_name (i := 5) sc.nd rfl (Or.inl rfl)) (fun _ _ _ _ _ => pts_nil)
          (fun _ _ _ _ _ => pe_meth (pv 0) TC.cl TS.M_walk G_walk (hr.mono (by decide)) TS.b_walk .nil (passX0 fun _ _ _ h => h) (pa_cons (pv 4) (pa_cons (pe_dget hu (pv 2) (pv 5) (fun _ _ => rfl)) pa_nil)))))
      (pss_one (ps_ret (pe_make TC.make G_init (hr.mono (by decide)) rfl TC.g TC.b .nil (passX0 fun _ _ _ h => h) (pa_cons (pv 1) (pa_cons (pv 3) (pa_cons (pe_fld (pv 0) rfl) pa_nil))))))), ?_⟩
    obtain ⟨dx, r0, e0, k0, wy0, rv, ev, wv, hm, hr0, pr0, he0, pe0, hk0, hw0, pw0⟩ := id ma
    have lrv : rv.length = R.length := Paired.length pr0
    have l16 := W.l16
    have lF : (rowsF sg R ts wd).length = R.length := by unfold rowsF; rw [List.length_map, List.length_range]
    have lrow : ∀ i, (ts.cps.toList.map fun c => (((runW sg R i (wd c).cps.toList).1 : Int), kl (runW sg R i (wd c).cps.toList).2)).length = ts.cps.size := fun i => by rw [List.length_map, Array.length_toList (xs := ts.cps)]
    refine ⟨_, rfl, m, Z.C, dx, _, _, rfl, hm, TC.cl, TC.a2, rfl, .ref r0, R.length, rfl, .inr ⟨_, SqT.of hr0, lrv.symm⟩, ((R.length : Nat) : Int), rfl, by omega, by omega, fun D hD => ?_⟩
    rw [Int.toNat_natCast]
    refine lc_range (lo := 0) (n := R.length) (fun i H' => Same H H' ∧ ∃ us, H' D = some (.lst us) ∧ us.length = i ∧ Paired (RowF D H') us ((rowsF sg R ts wd).take i)) ⟨Same.upd hD, [], upd_same, rfl, .nil⟩ ?_ ?_
    · rintro i H1 hi ⟨s1, us, hus, lus, pus⟩
      refine ⟨rfl, ?_⟩
      dsimp only [tYes]
      rw [if_pos rfl]
      refine ⟨_, rfl, ts, rfl, fun L hL => ?_⟩
      have nLD : L ≠ D := (ne_of_none hus hL).symm
      refine lcs_it [some (.ref m), some (.str ts), some (.ref dw), none, some (.int (0 + (i : Nat))), none] rfl walk_str (fun j H' => Same H1 H' ∧ ∃ ys, H' L = some (.lst ys) ∧ ys.length = j ∧ Paired (WayG H') ys ((ts.cps.toList.map fun c => (((runW sg R i (wd c).cps.toList).1 : Int), kl (runW sg R i (wd c).cps.toList).2)).take j))
        ⟨Same.upd hL, [], upd_same, rfl, .nil⟩ (fun _ _ _ _ => trivial) ?_ ?_
      · rintro j x _ H2 hj ⟨s2, ys, hys, lys, pys⟩ ⟨rfl, c, hc, rfl⟩
        have hc' : ts.cps.toList[j]? = some c := by rw [Array.getElem?_toList]; exact hc
        have cm := List.mem_of_getElem? hc'
        obtain ⟨w1, w2, w3⟩ := hwd c cm
        have s12 : Same H H2 := fun b o z => s2 _ _ (s1 _ _ z)
        have dg : DGet H2 dw (.str (Froz.sing c)) (some (.str (wd c))) := by
          have := DGet.k (k := lk c) (s12 _ _ hdw)
          rw [w1] at this
          exact this
        refine ⟨rfl, ?_⟩
        dsimp only [tYes]
        rw [if_pos rfl]
        refine ⟨_, rfl, m, dx, _, rfl, s12 _ _ hm, rfl, _, rfl, _, rfl, _, rfl, dw, _, rfl, dg, m, i, wd c, sg, R, Es, by rw [Int.zero_add]; rfl, ma.keepE (sameN s12), W.F, hi, fun _ t1 g1 H3 s3 h1 h2 => ?_, fun k x _ _ a1 a2 => absurd (w2 x (by
          have h : (wd c).cps.toList[k]? = some x := by rw [Array.getElem?_toList]; exact a1
          exact List.mem_of_getElem? h)) a2⟩
        have hys3 := s3 _ _ hys
        refine ⟨ys, hys3, by rw [lys, sizeLine_eq]; omega, fun b o z => ?_, ys ++ [.ref t1], upd_same, by rw [List.length_append, lys]; rfl, ?_⟩
        · rw [upd_ne (ne_of_none z hL)]
          exact s3 _ _ (s2 _ _ z)
        · have kt : ∀ b xs, H3 b = some (.tup xs) → (upd H3 L (.lst (ys ++ [.ref t1]))) b = some (.tup xs) := fun b xs z => by
            rw [upd_ne (ne_of z hys3 (by intro y; cases y))]; exact z
          have hcj : (ts.cps.toList.map fun c => (((runW sg R i (wd c).cps.toList).1 : Int), kl (runW sg R i (wd c).cps.toList).2))[j]? = some (((runW sg R i (wd c).cps.toList).1 : Int), kl (runW sg R i (wd c).cps.toList).2) := by rw [List.getElem?_map, hc']; rfl
          rw [List.take_add_one, hcj]
          exact psnoc (L2.Paired.mapP pys fun _ _ y => y.keep fun b xs z => kt _ _ (s3 _ _ z)) ⟨t1, g1, rfl, kt _ _ h1, kt _ _ h2⟩
      · rintro H2 ⟨s2, ys, hys, lys, pys⟩
        rw [List.take_of_length_le (by rw [lrow]; exact Nat.le_refl _)] at pys
        have hus2 := s2 _ _ hus
        refine ⟨us, hus2, by rw [lus, sizeLine_eq]; omega, fun b o z => ?_, us ++ [.ref L], upd_same, by rw [List.length_append, lus]; rfl, ?_⟩
        · rw [upd_ne (ne_of_none z hD)]
          exact s2 _ _ (s1 _ _ z)
        · have hri : (rowsF sg R ts wd)[i]? = some (ts.cps.toList.map fun c => (((runW sg R i (wd c).cps.toList).1 : Int), kl (runW sg R i (wd c).cps.toList).2)) := by
            unfold rowsF
            rw [List.getElem?_map, List.getElem?_range hi]
            rfl
          rw [List.take_add_one, hri]
          have kt : ∀ b xs, H2 b = some (.tup xs) → (upd H2 D (.lst (us ++ [.ref L]))) b = some (.tup xs) := fun b xs z => by
            rw [upd_ne (ne_of z hus2 (by intro y; cases y))]; exact z
          refine psnoc (L2.Paired.mapP pus fun _ _ ⟨a, vs, e1, n1, e2, e3⟩ => ⟨a, vs, e1, n1, by rw [upd_ne n1]; exact s2 _ _ e2, L2.Paired.mapP e3 fun _ _ y => y.keep fun b xs z => kt _ _ (s2 _ _ z)⟩) ⟨L, ys, rfl, nLD, by rw [upd_ne nLD]; exact hys, L2.Paired.mapP pys fun _ _ y => y.keep kt⟩
    · rintro H1 ⟨s1, us, hus, lus, pus⟩
      rw [List.take_of_length_le (by rw [lF]; exact Nat.le_refl _)] at pus
      refine ⟨_, rfl, _, rfl, _, rfl, m, Z.C, dx, _, _, rfl, s1 _ _ hm, TC.cl, TC.a3, rfl, fun m' dx' hm' hdx' nm' => ?_⟩
      have rowk : ∀ q ∈ rowsF sg R ts wd, q.length = ts.cps.size ∧ ∀ u ∈ q, Okw (rowsF sg R ts wd).length u ∧ u.2.length ≤ 4 := fun q hq => by
        obtain ⟨i, hi, rfl⟩ := List.mem_map.mp hq
        have hi := List.mem_range.mp hi
        refine ⟨lrow i, fun u hu => ?_⟩
        obtain ⟨c, hc, rfl⟩ := List.mem_map.mp hu
        rw [lF]
        exact ⟨⟨Int.natCast_nonneg _, by show ((runW sg R i (wd c).cps.toList).1 : Int) < (R.length : Int); have := (W.F.run hi (wd c).cps.toList).1; omega⟩, (hwd c hc).2.2 i hi⟩
      refine init_okL hm' hdx' hus (L2.Paired.mapP pus fun _ _ ⟨a, vs, e1, _, e2, e3⟩ => ⟨a, vs, e1, e2, L2.Paired.mapP e3 fun _ _ ⟨b, g, f1, f2, f3⟩ => ⟨b, .ref g, f1, f2, .tup (SqT.of f3)⟩⟩) (.inr (s1 _ _ he0)) (L2.Paired.mapP pe0 fun _ _ ⟨a, e1, e2⟩ => e1 ▸ .tup (SqT.of (s1 _ _ e2))) asc z4 rowk (by rw [lF]; exact l16) (by rw [W.F.ends]; exact l16) (fun ks hks => by have := W.two.2 ks hks; omega) few fun H2 s2 ma2 => ⟨rfl, ?_⟩
      refine kQ m' H2 (fun b o z => s2 _ _ (s1 _ _ z)) ?_ ma2
      cases e : H m' with
      | none => rfl
      | some o => rw [s1 _ _ e] at hm'; cases hm'
end
end Kx

namespace Kx
open PySem L2 Own PinX DicN
/-! ### reading in parts -/
theorem acc_from {sg : Str} {R : List (List Way)} {i c : Nat} {ks : List Str} : acc1 sg R (i, ks) c = ((acc1 sg R (i, []) c).1, ks ++ (acc1 sg R (i, []) c).2) := by
  unfold acc1
  cases stepW sg R i c with
  | none => simp
  | some w => simp
theorem fold_from {sg : Str} {R : List (List Way)} : ∀ (cs : List Nat) (i : Nat) (ks : List Str), cs.foldl (acc1 sg R) (i, ks) = ((runW sg R i cs).1, ks ++ (runW sg R i cs).2) := by
  intro cs
  induction cs with
  | nil => intro i ks; show (i, ks) = (i, ks ++ []); rw [List.append_nil]
  | cons c cs ih =>
    intro i ks
    show cs.foldl (acc1 sg R) (acc1 sg R (i, ks) c) = ((cs.foldl (acc1 sg R) (acc1 sg R (i, []) c)).1, ks ++ (cs.foldl (acc1 sg R) (acc1 sg R (i, []) c)).2)
    rw [acc_from]
    obtain ⟨j, ls⟩ := acc1 sg R (i, []) c
    show cs.foldl (acc1 sg R) (j, ks ++ ls) = _
    rw [ih, ih]
    show _ = (_, ks ++ (ls ++ _))
    rw [List.append_assoc]
theorem run_app {sg : Str} {R : List (List Way)} (i : Nat) (cs ds : List Nat) : runW sg R i (cs ++ ds) = ((runW sg R (runW sg R i cs).1 ds).1, (runW sg R i cs).2 ++ (runW sg R (runW sg R i cs).1 ds).2) := by
  show (cs ++ ds).foldl (acc1 sg R) (i, []) = _
  rw [List.foldl_append]
  show ds.foldl (acc1 sg R) (runW sg R i cs) = _
  obtain ⟨j, ks⟩ := runW sg R i cs
  exact fold_from ds j ks
theorem run_one {sg : Str} {R : List (List Way)} {i c : Nat} {u : Way} (h : stepW sg R i c = some u) : runW sg R i [c] = (u.1.toNat, u.2) := by
  show acc1 sg R (i, []) c = _
  unfold acc1
  rw [h]
  rfl
theorem snoc_rec {p : List Nat → Prop} (h0 : p []) (hs : ∀ l c, p l → p (l ++ [c])) : ∀ l, p l := by
  intro l
  suffices h : ∀ m : List Nat, p m.reverse by have := h l.reverse; rwa [List.reverse_reverse] at this
  intro m
  induction m with
  | nil => exact h0
  | cons a m ih => rw [List.reverse_cons]; exact hs _ a ih
/-- where a letter leads, in tables that are given by letter and state -/
theorem step_tab {ts : Str} {n i c : Nat} {f : Nat → Nat → Way} (nd : ts.cps.toList.Nodup) (hi : i < n) (hc : c ∈ ts.cps.toList) : stepW ts (((List.range n).map fun i => ts.cps.toList.map (f i)).map nrm) i c = some ((f i c).1, kl (f i c).2) := by
  have hl := List.idxOf_lt_length_of_mem hc
  have hx : ts.cps.toList.idxOf? c = some (ts.cps.toList.idxOf c) := by
    rw [List.idxOf?_eq_some_iff]
    refine ⟨hl, by rw [List.getElem_idxOf], fun j hj => ?_⟩
    have := List.not_of_lt_findIdx (p := fun x => x == c) (xs := ts.cps.toList) (by unfold List.idxOf at hj; exact hj)
    simpa using this
  unfold stepW
  rw [hx]
  show ((((List.range n).map fun i => ts.cps.toList.map (f i)).map nrm)[i]?).bind (fun q => q[ts.cps.toList.idxOf c]?) = _
  rw [List.getElem?_map, List.getElem?_map, List.getElem?_range hi]
  show (nrm (ts.cps.toList.map (f i)))[ts.cps.toList.idxOf c]? = _
  unfold nrm
  rw [List.getElem?_map, List.getElem?_map, List.getElem?_eq_getElem hl, List.getElem_idxOf]
  rfl
section
variable {sg ts : Str} {R : List (List Way)} {Es : List (List Str)} {wd : Nat → Str}
/-- the text that a folded machine reads -/
def foldT (wd : Nat → Str) (cs : List Nat) : List Nat := cs.flatMap fun c => (wd c).cps.toList
theorem runF (F : Full sg R Es) (nd : ts.cps.toList.Nodup) : ∀ cs : List Nat, (∀ c ∈ cs, c ∈ ts.cps.toList) → (runW ts ((rowsF sg R ts wd).map nrm) 0 cs).1 = (runW sg R 0 (foldT wd cs)).1 ∧ ∀ y, y ∈ (runW ts ((rowsF sg R ts wd).map nrm) 0 cs).2 ↔ y ∈ (runW sg R 0 (foldT wd cs)).2 := by
  refine snoc_rec (fun _ => ⟨rfl, fun y => Iff.rfl⟩) fun cs c ih hc => ?_
  obtain ⟨h1, h2⟩ := ih fun x hx => hc x (List.mem_append_left _ hx)
  have cm : c ∈ ts.cps.toList := hc c (by simp)
  have e : foldT wd (cs ++ [c]) = foldT wd cs ++ (wd c).cps.toList := by unfold foldT; rw [List.flatMap_append]; simp
  have hl := (F.run F.pos (foldT wd cs)).1
  have st := step_tab (n := R.length) (f := fun i c => (((runW sg R i (wd c).cps.toList).1 : Int), kl (runW sg R i (wd c).cps.toList).2)) nd hl cm
  rw [run_app, e, run_app, h1, run_one (show stepW ts ((rowsF sg R ts wd).map nrm) (runW sg R 0 (foldT wd cs)).1 c = _ from st)]
  refine ⟨Int.toNat_natCast _, fun y => ?_⟩
  show y ∈ (runW ts ((rowsF sg R ts wd).map nrm) 0 cs).2 ++ kl (kl (runW sg R (runW sg R 0 (foldT wd cs)).1 (wd c).cps.toList).2) ↔ _
  rw [List.mem_append, List.mem_append, h2 y, kl_mem, kl_mem]
theorem keysF (F : Full sg R Es) (nd : ts.cps.toList.Nodup) {cs : List Nat} (hc : ∀ c ∈ cs, c ∈ ts.cps.toList) : keysW ts ((rowsF sg R ts wd).map nrm) (Es.map kl) cs = keysW sg R Es (foldT wd cs) := by
  obtain ⟨h1, h2⟩ := runF (wd := wd) F nd cs hc
  unfold keysW
  refine kl_congr fun y => ?_
  rw [List.mem_append, List.mem_append, h2 y, h1]
  refine or_congr Iff.rfl ?_
  rw [List.getD_eq_getElem?_getD, List.getD_eq_getElem?_getD, List.getElem?_map]
  cases Es[(runW sg R 0 (foldT wd cs)).1]? with
  | none => exact Iff.rfl
  | some ks => exact kl_mem
end
section
variable {s1 s2 : Str} {R1 R2 : List (List Way)} {E1 E2 : List (List Str)} {n : Nat}
theorem runB (w1 : Few s1 R1 E1) (w2 : Few s2 R2 E2) (ov : Over (nxB s1 s2 R1 R2) s1.cps.toList n) : ∀ cs : List Nat, (∀ c ∈ cs, c ∈ s1.cps.toList) →
    ((runW s1 R1 0 cs).1, (runW s2 R2 0 cs).1) ∈ bfs (nxB s1 s2 R1 R2) s1.cps.toList n ∧ (runW s1 ((rowsBe s1 s2 R1 R2 n).map nrm) 0 cs).1 = (bfs (nxB s1 s2 R1 R2) s1.cps.toList n).idxOf ((runW s1 R1 0 cs).1, (runW s2 R2 0 cs).1) ∧
      ∀ y, y ∈ (runW s1 ((rowsBe s1 s2 R1 R2 n).map nrm) 0 cs).2 ↔ y ∈ (runW s1 R1 0 cs).2 ∨ y ∈ (runW s2 R2 0 cs).2 := by
  refine snoc_rec (fun _ => ⟨List.mem_of_getElem? (bfs_first n), ?_, fun y => by show y ∈ [] ↔ y ∈ [] ∨ y ∈ []; simp⟩) fun cs c ih hc => ?_
  · show 0 = List.idxOf (0, 0) _
    have h := bfs_first (nx := nxB s1 s2 R1 R2) (cs := s1.cps.toList) n
    cases e : bfs (nxB s1 s2 R1 R2) s1.cps.toList n with
    | nil => rw [e] at h; cases h
    | cons a r =>
      rw [e] at h
      obtain rfl : a = (0, 0) := Option.some.inj h
      simp
  obtain ⟨h0, h1, h2⟩ := ih fun x hx => hc x (List.mem_append_left _ hx)
  have cm : c ∈ s1.cps.toList := hc c (by simp)
  have hi := List.idxOf_lt_length_of_mem h0
  have eL : labB (nxB s1 s2 R1 R2) s1.cps.toList n ((bfs (nxB s1 s2 R1 R2) s1.cps.toList n).idxOf ((runW s1 R1 0 cs).1, (runW s2 R2 0 cs).1)) = ((runW s1 R1 0 cs).1, (runW s2 R2 0 cs).1) := by
    unfold labB
    rw [List.getD_eq_getElem?_getD, List.getElem?_eq_getElem hi, List.getElem_idxOf]
    rfl
  have st := step_tab (n := (bfs (nxB s1 s2 R1 R2) s1.cps.toList n).length) (f := fun i c => ((((bfs (nxB s1 s2 R1 R2) s1.cps.toList n).idxOf (nx2 s1 s2 R1 R2 (labB (nxB s1 s2 R1 R2) s1.cps.toList n i) c) : Nat) : Int), gv2 s1 s2 R1 R2 (labB (nxB s1 s2 R1 R2) s1.cps.toList n i) c)) w1.F.nd hi cm
  rw [eL] at st
  have st' : stepW s1 ((rowsBe s1 s2 R1 R2 n).map nrm) ((bfs (nxB s1 s2 R1 R2) s1.cps.toList n).idxOf ((runW s1 R1 0 cs).1, (runW s2 R2 0 cs).1)) c = _ := st
  have nxt := over_closed ov h0 cm
  rw [run_app, run_app, run_app, h1, run_one st']
  refine ⟨nxt, Int.toNat_natCast _, fun y => ?_⟩
  show y ∈ (runW s1 ((rowsBe s1 s2 R1 R2 n).map nrm) 0 cs).2 ++ kl (gvW s1 R1 (runW s1 R1 0 cs).1 c ++ gvW s2 R2 (runW s2 R2 0 cs).1 c) ↔ _
  unfold gvW
  rw [List.mem_append, h2 y, kl_mem, List.mem_append, kl_mem, kl_mem, List.mem_append, List.mem_append]
  constructor
  · rintro ((h | h) | (h | h))
    · exact .inl (.inl h)
    · exact .inr (.inl h)
    · exact .inl (.inr h)
    · exact .inr (.inr h)
  · rintro ((h | h) | (h | h))
    · exact .inl (.inl h)
    · exact .inr (.inl h)
    · exact .inl (.inr h)
    · exact .inr (.inr h)
theorem keysB (w1 : Few s1 R1 E1) (w2 : Few s2 R2 E2) (ov : Over (nxB s1 s2 R1 R2) s1.cps.toList n) {cs : List Nat} (hc : ∀ c ∈ cs, c ∈ s1.cps.toList) :
    keysW s1 ((rowsBe s1 s2 R1 R2 n).map nrm) ((endsBe s1 s2 R1 R2 E1 E2 n).map kl) cs = kl (keysW s1 R1 E1 cs ++ keysW s2 R2 E2 cs) := by
  obtain ⟨h0, h1, h2⟩ := runB w1 w2 ov cs hc
  have hi := List.idxOf_lt_length_of_mem h0
  refine Eq.trans ?_ (kl_kl _)
  refine (kl_kl _).symm.trans (kl_congr fun y => ?_)
  unfold keysW
  rw [kl_mem, kl_mem, List.mem_append, List.mem_append, kl_mem, kl_mem, List.mem_append, List.mem_append, h2 y, h1]
  have eE : y ∈ ((endsBe s1 s2 R1 R2 E1 E2 n).map kl).getD ((bfs (nxB s1 s2 R1 R2) s1.cps.toList n).idxOf ((runW s1 R1 0 cs).1, (runW s2 R2 0 cs).1)) [] ↔ y ∈ E1.getD (runW s1 R1 0 cs).1 [] ∨ y ∈ E2.getD (runW s2 R2 0 cs).1 [] := by
    unfold endsBe endsB
    rw [List.getD_eq_getElem?_getD, List.getElem?_map, List.getElem?_map, List.getElem?_range hi]
    have eL : labB (nxB s1 s2 R1 R2) s1.cps.toList n ((bfs (nxB s1 s2 R1 R2) s1.cps.toList n).idxOf ((runW s1 R1 0 cs).1, (runW s2 R2 0 cs).1)) = ((runW s1 R1 0 cs).1, (runW s2 R2 0 cs).1) := by
      unfold labB
      rw [List.getD_eq_getElem?_getD, List.getElem?_eq_getElem hi, List.getElem_idxOf]
      rfl
    show y ∈ kl (E1.getD _ [] ++ E2.getD _ []) ↔ _
    rw [eL, kl_mem, List.mem_append]
  rw [eE]
  constructor
  · rintro ((h | h) | (h | h))
    · exact .inl (.inl h)
    · exact .inr (.inl h)
    · exact .inl (.inr h)
    · exact .inr (.inr h)
  · rintro ((h | h) | (h | h))
    · exact .inl (.inl h)
    · exact .inr (.inl h)
    · exact .inl (.inr h)
    · exact .inr (.inr h)
end
end Kx

namespace Kx
open PySem L2 Own PinX DicN
theorem tabs_small {R : List (List Way)} {Es : List (List Str)} (row : ∀ q ∈ R, q.length ≤ 4 ∧ ∀ w ∈ q, w.2.length ≤ 4) (l16 : R.length ≤ 16) (e16 : Es.length ≤ 16) (ends : ∀ ks ∈ Es, ks.length ≤ 4) : (keysOfRows R ++ Es.flatten).length + 1 < scanBound := by
  have fb : ∀ {α : Type} (f : α → List Str) (m : Nat) {l : List α}, (∀ x ∈ l, (f x).length ≤ m) → (l.flatMap f).length ≤ m * l.length := by
    intro α f m l
    induction l with
    | nil => intro _; simp
    | cons x l ih =>
      intro h
      have := ih fun y hy => h y (List.mem_cons_of_mem _ hy)
      have := h x List.mem_cons_self
      rw [List.flatMap_cons, List.length_append, List.length_cons, Nat.mul_succ]
      omega
  have a : (keysOfRows R).length ≤ 16 * R.length := fb _ 16 fun q hq => by
    have := fb (fun w : Way => w.2) 4 (l := q) fun w hw => (row q hq).2 w hw
    have := (row q hq).1
    omega
  have b : (Es.flatMap id).length ≤ 4 * Es.length := fb _ 4 ends
  rw [List.flatMap_id] at b
  rw [List.length_append]
  have e : scanBound = 4096 := rfl
  omega
/-! ### what stands still while only the pen and tables change -/
def Still (p : Addr) (H H' : Hp) : Prop := ∀ b o, H b = some o → b ≠ p → (∀ ps, o ≠ .tbl ps) → H' b = some o
theorem Still.refl (p : Addr) (H : Hp) : Still p H H := fun _ _ e _ _ => e
theorem Still.trans {p : Addr} {H H1 H2 : Hp} (a : Still p H H1) (b : Still p H1 H2) : Still p H H2 := fun c o e n t => b c o (a c o e n t) n t
theorem still_but {p : Addr} {H H' : Hp} (s : SameBut p H H') : Still p H H' := fun b o e n _ => s b o e n
theorem still_same {p : Addr} {H H' : Hp} (s : Same H H') : Still p H H' := fun b o e _ _ => s b o e
theorem still_ext {p : Addr} {H H' : Hp} (s : LamX.ExtN H H') : Still p H H' := fun b o e _ t => s b o e t
section
variable {H H' : Hp} {p c : Addr} {n : Nat}
theorem PenAt.neT (h : PenAt H p c n) {b : Addr} {xs : List V} (e : H b = Option.some (.tup xs)) : b ≠ p := by
  obtain ⟨ns, a, l, h1, _⟩ := h
  exact ne_of e h1 (by intro z; cases z)
theorem Still.tup (s : Still p H H') (hp : PenAt H p c n) {b : Addr} {xs : List V} (e : H b = some (.tup xs)) : H' b = some (.tup xs) := s _ _ e (hp.neT e) fun ps z => by cases z
theorem Still.lst (s : Still p H H') (hp : PenAt H p c n) {b : Addr} {xs : List V} (e : H b = some (.lst xs)) : H' b = some (.lst xs) := s _ _ e (hp.ne e) fun ps z => by cases z
theorem kvUp_other {sg : Str} {vs : List V} {y : Str} (h : ∀ c, (Sum.inr y : Key) ≠ lk c) : ∀ i, valV (kvUp sg vs i) (Sum.inr y) = none
  | 0 => rfl
  | i + 1 => by
    have ih := kvUp_other h (sg := sg) (vs := vs) i
    unfold kvUp
    split
    · rw [valV_put, if_neg (h _), ih]
    · exact ih
theorem cells_not (c : Nat) : kCells ≠ lk c := fun e => by
  have h1 : ("cells" : Str) = Froz.sing c := Sum.inr.inj e
  have h2 : (5 : Nat) = 1 := congrArg (fun z : Str => z.cps.size) h1
  cases h2
theorem MachAt.still {C m : Addr} {sg : Str} {R : List (List Way)} {Es : List (List Str)} (hp : PenAt H p c n) (s : Still p H H') (h : MachAt C H m sg R Es) : MachAt C H' m sg R Es := by
  obtain ⟨dx, r, e, k0, w, rv, ev, wv, hm0, hr0, pr, he0, pe, hk0, hw0, pw⟩ := h
  have kt : ∀ b xs, H b = some (.tup xs) → H' b = some (.tup xs) := fun b xs z => s.tup hp z
  have np : m ≠ p := by
    obtain ⟨ns, a, l, h1, _⟩ := hp
    exact ne_of hm0 h1 (by intro y; cases y)
  refine ⟨dx, r, e, k0, w, rv, ev, wv, s _ _ hm0 np (fun ps z => (nomatch z)), kt _ _ hr0, L2.Paired.mapP pr fun _ _ z => z.keep kt, kt _ _ he0, L2.Paired.mapP pe fun _ _ z => z.keep kt, kt _ _ hk0, kt _ _ hw0, L2.Paired.mapP pw fun _ _ ⟨a, b, vs, e1, e2, e3, e4⟩ => ⟨a, b, vs, e1, e2, kt _ _ e3, s _ _ e4 (fun z => ?_) fun ps z => (nomatch z)⟩⟩
  subst z
  obtain ⟨ns, x, l, h1, _⟩ := hp
  rw [h1] at e4
  injection e4 with e4
  injection e4 with e4
  have h2 := pen_cells c x l
  rw [e4, kvUp_other cells_not] at h2
  cases h2
theorem rowE_still (hp : PenAt H p c n) (s : Still p H H') {v : V} {q : List Way} (h : RowE H v q) : RowE H' v q := by
  obtain ⟨a, vs, e1, e2, e3⟩ := h
  exact ⟨a, vs, e1, s.lst hp e2, L2.Paired.mapP e3 fun _ _ ⟨b, kv, f1, f2, f3⟩ => ⟨b, kv, f1, s.tup hp f2, s.lst hp f3⟩⟩
theorem keyE_still (hp : PenAt H p c n) (s : Still p H H') {v : V} {ks : List Str} (h : KeyE H v ks) : KeyE H' v ks := by
  obtain ⟨a, e1, e2⟩ := h
  exact ⟨a, e1, s.lst hp e2⟩
theorem pen_ext (e : LamX.ExtN H H') (h : PenAt H p c n) : PenAt H' p c n := by
  obtain ⟨ns, a, l, h1, h2, h3⟩ := h
  exact ⟨ns, a, l, e _ _ h1 (fun ps z => by cases z), e _ _ h2 (fun ps z => by cases z), h3⟩
theorem tabs_pen {N : List NdefX.NTab} (hp : PenAt H p c n) (s : SameBut p H H') (t : NdefX.TabsN N H) : NdefX.TabsN N H' := fun q hq => by
  obtain ⟨ps, h1, h2, h3⟩ := t q hq
  obtain ⟨ns, a, l, g1, g2, g3⟩ := hp
  refine ⟨ps, s _ _ h1 (ne_of h1 g1 (by intro z; cases z)), h2, fun pos cv hc => ?_⟩
  obtain ⟨c, e1, e2⟩ := h3 pos cv hc
  exact ⟨c, e1, s _ _ e2 (ne_of e2 g1 (by unfold LamX.CodeO; intro z; cases z))⟩
end
theorem nrm_same {q : List Way} (h : ∀ w ∈ q, kl w.2 = w.2) : nrm q = q := by
  unfold nrm
  conv => rhs; rw [← List.map_id q]
  exact List.map_congr_left fun w hw => by
    unfold nw
    rw [h w hw]
    rfl
theorem map_same {α : Type} {f : α → α} {l : List α} (h : ∀ x ∈ l, f x = x) : l.map f = l := by
  conv => rhs; rw [← List.map_id l]
  exact List.map_congr_left h
theorem keysW_in {sg : Str} {R : List (List Way)} {Es : List (List Str)} (F : Full sg R Es) (cs : List Nat) : ∀ y ∈ keysW sg R Es cs, y ∈ keysOfRows R ++ Es.flatten := fun y hy => by
  unfold keysW at hy
  rcases List.mem_append.mp (kl_mem.mp hy) with h | h
  · exact List.mem_append_left _ ((F.run F.pos cs).2 y h)
  · refine List.mem_append_right _ (List.mem_flatten.mpr ?_)
    rw [List.getD_eq_getElem?_getD] at h
    cases e : Es[(runW sg R 0 cs).1]? with
    | none =>
      rw [e] at h
      cases h
    | some ks =>
      rw [e] at h
      exact ⟨ks, List.mem_of_getElem? e, h⟩

/-- tables of few states and few keys can be read -/
theorem full_of {sg : Str} {R : List (List Way)} {Es : List (List Str)} (nd : sg.cps.toList.Nodup) (z4 : sg.cps.size ≤ 4) (row : ∀ q ∈ R, q.length = sg.cps.size ∧ ∀ w ∈ q, Okw R.length w ∧ w.2.length ≤ 4) (l16 : R.length ≤ 16) (pos : 0 < R.length) (ee : Es.length = R.length) (en : ∀ ks ∈ Es, ks.length ≤ 4) : Full sg R Es :=
  ⟨nd, fun q hq => ⟨(row q hq).1, fun w hw => ((row q hq).2 w hw).1⟩, ee, pos, tabs_small (fun q hq => ⟨by rw [(row q hq).1]; exact z4, fun w hw => ((row q hq).2 w hw).2⟩) l16 (by rw [ee]; exact l16) en⟩
theorem full_nrm {sg : Str} {R : List (List Way)} {Es : List (List Str)} (nd : sg.cps.toList.Nodup) (z4 : sg.cps.size ≤ 4) (row : ∀ q ∈ R, q.length = sg.cps.size ∧ ∀ w ∈ q, Okw R.length w ∧ w.2.length ≤ 4) (l16 : R.length ≤ 16) (pos : 0 < R.length) (ee : Es.length = R.length) (en : ∀ ks ∈ Es, ks.length ≤ 4) : Full sg (R.map nrm) (Es.map kl) := by
  refine full_of nd z4 (fun q hq => ?_) (by rw [List.length_map]; exact l16) (by rw [List.length_map]; exact pos) (by rw [List.length_map, List.length_map]; exact ee) fun ks hks => ?_
  · obtain ⟨q0, h0, rfl⟩ := List.mem_map.mp hq
    refine ⟨by unfold nrm; rw [List.length_map]; exact (row q0 h0).1, fun w hw => ?_⟩
    obtain ⟨w0, hw0, rfl⟩ := List.mem_map.mp hw
    rw [List.length_map]
    exact ⟨((row q0 h0).2 w0 hw0).1, Nat.le_trans (kl_len _) ((row q0 h0).2 w0 hw0).2⟩
  · obtain ⟨k0, h0, rfl⟩ := List.mem_map.mp hks
    exact Nat.le_trans (kl_len _) (en k0 h0)
/-! ### a dict of drawn pairs -/
def kvZ (zs : List (Nat × Str)) : List (Key × V) := zs.map fun z => (lk z.1, V.str z.2)
def findZ : List (Nat × Str) → Nat → Option Str
  | [], _ => none
  | z :: r, c => if z.1 = c then some z.2 else findZ r c
theorem findZ_cons (z : Nat × Str) (r : List (Nat × Str)) (c : Nat) : findZ (z :: r) c = if z.1 = c then some z.2 else findZ r c := rfl
theorem findZ_none {c : Nat} : ∀ {zs : List (Nat × Str)}, c ∉ zs.map (·.1) → findZ zs c = none
  | [], _ => rfl
  | z :: r, h => by
    rw [List.map_cons, List.mem_cons, not_or] at h
    unfold findZ
    rw [if_neg (fun e => h.1 e.symm), findZ_none h.2]
theorem findZ_mem {c : Nat} : ∀ {zs : List (Nat × Str)}, c ∈ zs.map (·.1) → ∃ z ∈ zs, z.1 = c ∧ findZ zs c = some z.2
  | z :: r, h => by
    unfold findZ
    by_cases e : z.1 = c
    · rw [if_pos e]
      exact ⟨z, List.mem_cons_self, e, rfl⟩
    · rw [if_neg e]
      rw [List.map_cons] at h
      obtain ⟨u, hu, e1, e2⟩ := findZ_mem ((List.mem_cons.mp h).resolve_left fun z => e z.symm)
      exact ⟨u, List.mem_cons_of_mem _ hu, e1, e2⟩
theorem merge_val {c : Nat} : ∀ (zs : List (Nat × Str)) (acc : List (Key × V)), (zs.map (·.1)).Nodup → valV (mergeK acc (kvZ zs)) (lk c) = match findZ zs c with
    | some y => some (.str y)
    | none => valV acc (lk c)
  | [], acc, _ => rfl
  | z :: r, acc, nd => by
    rw [List.map_cons] at nd
    obtain ⟨n1, n2⟩ := List.nodup_cons.mp nd
    have ih := merge_val (c := c) r (putK acc (lk z.1) (.str z.2)) n2
    show valV (mergeK (putK acc (lk z.1) (.str z.2)) (kvZ r)) (lk c) = _
    rw [ih, findZ_cons]
    by_cases e : z.1 = c
    · subst e
      rw [findZ_none n1, if_pos rfl]
      show valV (putK acc (lk z.1) (.str z.2)) (lk z.1) = _
      rw [valV_put, if_pos rfl]
    · rw [if_neg e]
      cases findZ r c with
      | some y => rfl
      | none =>
        show valV (putK acc (lk z.1) (.str z.2)) (lk c) = valV acc (lk c)
        rw [valV_put, if_neg (fun h => e (sing_inj h).symm)]
end Kx

namespace Kx
open PySem L2 Own PinX DicN
abbrev s__law_some : Stmt := top 48
abbrev s__law_isf : Stmt := top 49
structure SoAd where
  fx : Addr
  dx : FuncData
  fX : Addr
  dX : FuncData
structure TxtSo (K : PySem.W.Frag) (mg : Str → Option Value) (L : LAd) (D : SoAd) (f : Addr) (d : FuncData) : Prop where
  Xs : TxtXs K mg D.fX D.dX
  Tx : TxtTx K mg L.p1 L.p2 L.p3 D.fx L.q1 L.q2 L.q3 D.dx
  D__law_some_texts : DefT K mg "_law_some_texts" "_law_some_texts" s__law_some ["pen", "signs"] f d
  n_range : mg "range" = none
  n_len : mg "len" = none
theorem ite_lit {dd : Bool} {a b : Int} {σ : L2.St} {H : Hp} {Q : VK} (h : ∀ z : Int, (dd = true ∧ z = a) ∨ (dd = false ∧ z = b) → Q (.int z) H) : if dd = true then tC (.int a) σ H Q else tC (.int b) σ H Q := by
  cases dd with
  | true => rw [if_pos rfl]; exact h a (.inl ⟨rfl, rfl⟩)
  | false => rw [if_neg (by decide)]; exact h b (.inr ⟨rfl, rfl⟩)
theorem join_flat (ys : List Str) : (Txt.join "" ys).cps.toList = ys.flatMap fun y => y.cps.toList := by
  have h : ∀ ys : List Str, TL.joinL [] (ys.map TL.tl) = ys.flatMap fun y => y.cps.toList := by
    intro ys
    induction ys with
    | nil => rfl
    | cons a r ih =>
      cases r with
      | nil => simp [TL.joinL]
      | cons b r =>
        show TL.tl a ++ ([] ++ TL.joinL [] ((b :: r).map TL.tl)) = _
        rw [ih, List.nil_append, List.flatMap_cons]
        rfl
  have e := TL.tl_join "" ys
  rw [← TL.join_eq] at e
  exact e.trans (h ys)
def W3 : List Str := ["x", "y", "z"]
section
variable {P : Program} {w : World} {K : PySem.W.Frag} {mg : Str → Option Value} {base : Heap} {A : EAd} {B : MAd} {Z : CAd} {S : SAd} {L : LAd} {D : SoAd} {f : Addr} {d : FuncData}
/-! ### the texts -/
def spSome : Sp := fun vs H Q _ => ∃ (p c : Addr) (sg : Str) (n : Nat), vs = [.ref p, .str sg] ∧ PenAt H p c n ∧ n + 130 ≤ 1000000 ∧ 1 ≤ sg.cps.size ∧ sg.cps.size ≤ 4 ∧
  ∀ (X : Addr) (ts : List Str) H', H' X = some (.lst (ts.map V.str)) → (∀ t ∈ ts, t.length ≤ 30 ∧ ∀ c ∈ t.cps.toList, c ∈ sg.cps.toList) → ts.length ≤ 2000 → PenAt H' p c (n + 130) → SameBut p H H' → Q (.ref X) H'
abbrev Nso : List Str := ["pen", "signs", "k"]
theorem sc_some : FnScope Nso ["pen", "signs"] (defScope s__law_some) := ⟨rfl, rfl, rfl, by decide +kernel, rfl, by decide +kernel, by decide +kernel⟩
theorem ok_some (T : TxtSo K mg L D f d) : FnOk P w K mg base CX0 4 f d ["pen", "signs"] spSome := by
  have sc := sc_some
  have G_text : FnOk P w K mg base CX0 3 D.fx D.dx ["pen", "signs", "most"] spText := ok_text T.Tx
  have G_txs : FnOk P w K mg base CX0 1 D.fX D.dX ["signs", "most"] spTxs := ok_txs T.Xs
  refine T.D__law_some_texts.F.ok sc (fun vs H Q E h => ?_) (fun cdv A1 outer s H vs Q E hr h => ?_)
  · obtain ⟨_, _, _, _, rfl, _⟩ := h; rfl
  · obtain ⟨p, c, sg, n, rfl, pen0, hn, z1, z4, kQ⟩ := h
    refine ⟨_, (pss_one (ps_ret (pe_op op_cat (pe_call G_txs (hr.mono (by decide)) rfl T.Xs.D__law_texts.g T.Xs.D__law_texts.F.kp T.Xs.D__law_texts.b .nil pass0 (pa_cons (pv 1) (pa_cons (pe_ifExp (pt_cmpR op_lt (pe_callB call_len (by rfl) T.n_len (by decide +kernel) (pa_cons (pv 1) pa_nil)) pe_int (nomark _)) pe_int pe_int) pa_nil))) (pe_lc (own := [("k", 2)]) (g := gName 2) (tt := tYes) (te := tCall spText [] E0 (tCons (tVar 0) (tCons (tVar 1) (tCons (tC (.int 20)) tNil)))) rfl sc.nd (pi_range1 rfl T.n_range (pa_cons pe_int pa_nil)) (blkOk_by (N := Nso) (sc := defScope s__law_some) (own := [("k", 2)]) (by decide +kernel)) (fun _ _ _ _ _ => (pg_name (i := 2) sc.nd rfl (Or.inl rfl))) (fun _ _ _ _ _ => pts_nil) (fun _ _ _ _ _ => (pe_call G_text (hr.mono (by decide)) rfl T.Tx.D__law_text.g T.Tx.D__law_text.F.kp T.Tx.D__law_text.b .nil pass0 (pa_cons (pv 0) (pa_cons (pv 1) (pa_cons pe_int pa_nil))))))))), ?_⟩
    refine ⟨_, rfl, _, rfl, .str sg, sg.cps.size, rfl, ⟨by show sg.cps.size ≤ _; rw [sizeLine_eq]; omega, rfl⟩, _, _, rfl, rfl, _, rfl, ?_⟩
    refine ite_lit fun z hz => ?_
    obtain ⟨mt, rfl, m5, few⟩ : ∃ mt : Nat, z = (mt : Int) ∧ mt ≤ 5 ∧ (sg.cps.size ≤ 2 ∨ mt ≤ 3) := by
      rcases hz with ⟨h, rfl⟩ | ⟨_, rfl⟩
      · exact ⟨4, rfl, by decide, .inl (by have := of_decide_eq_true h; omega)⟩
      · exact ⟨2, rfl, by decide, .inr (by decide)⟩
    refine ⟨sg, mt, rfl, z4, m5, few, fun qt ts Hf sf hqt lt gt => ?_⟩
    have penf := pen0.keep sf
    refine ⟨6, rfl, by decide, by decide, fun Dd hD => ?_⟩
    have apD := penf.apart hD
    refine lc_range (lo := 0) (n := 6) (fun j H' => PenAt H' p c (n + 21 * j) ∧ SameBut p Hf H' ∧ ∃ us : List Str, H' Dd = some (.lst (us.map V.str)) ∧ us.length = j ∧ ∀ t ∈ us, t.length ≤ 30 ∧ ∀ c ∈ TL.tl t, c ∈ sg.cps.toList)
      ⟨penf.keep (Same.upd hD), .new hD, [], upd_same, rfl, fun t ht => (nomatch ht)⟩ ?_ ?_
    · rintro j H' hj ⟨penj, sbj, us, hus, lus, gus⟩
      refine ⟨rfl, _, rfl, _, rfl, p, c, sg, 20, _, rfl, penj, by decide, by omega, z1, by omega, fun y Hy ly gy peny sby => ⟨us.map V.str, sby _ _ hus apD.1, by rw [List.length_map, lus, sizeLine_eq]; omega, (peny.put apD.1 apD.2).mono (by omega), fun b o z nb => ?_, us ++ [y], by rw [upd_same, List.map_append]; rfl, by rw [List.length_append, lus]; rfl, fun t ht => ?_⟩⟩
      · rw [upd_ne (ne_of_none z hD)]
        exact sby _ _ (sbj _ _ z nb) nb
      · rcases List.mem_append.mp ht with ht | ht
        · exact gus t ht
        · rw [List.mem_singleton.mp ht]
          exact ⟨by show y.cps.size ≤ 30; omega, gy⟩
    rintro Hg ⟨peng, sbg, us, hus, lus, gus⟩
    have hqg := sbg _ _ hqt (penf.ne hqt)
    refine ⟨qt, Dd, _, _, rfl, rfl, hqg, hus, by rw [List.length_map, List.length_map, sizeLine_eq]; omega, fun X hX => ?_⟩
    refine kQ X (ts ++ us) _ (by rw [upd_same, List.map_append]) (fun t ht => ?_) (by rw [List.length_append]; omega) ((peng.keep (Same.upd hX)).mono (by omega)) fun b o z nb => Same.upd hX _ _ (sbg _ _ (sf _ _ z) nb)
    rcases List.mem_append.mp ht with ht | ht
    · exact ⟨by have := (gt t ht).1; omega, (gt t ht).2⟩
    · exact gus t ht
/-! ### folded -/
structure TxtIf (K : PySem.W.Frag) (mg : Str → Option Value) (A : EAd) (B : MAd) (Z : CAd) (S : SAd) (L : LAd) (D : SoAd) (fo fr ff f : Addr) (do_ dr df d : FuncData) : Prop where
  M : TxtM K mg B
  E : TxtE K mg A
  C : TxtC K mg Z
  S : TxtS K mg A Z S
  So : TxtSo K mg L D fo do_
  Tx : TxtTx K mg L.p1 L.p2 L.p3 D.fx L.q1 L.q2 L.q3 D.dx
  R : TxtR K mg fr dr
  Fo : TxtFo K mg ff df
  L : TxtL K mg L
  D__law_is_folded : DefT K mg "_law_is_folded" "_law_is_folded" s__law_isf ["pen"] f d
  n_dict : mg "dict" = none
def spIsF : Sp := fun vs H Q _ => ∃ (p c : Addr) (n : Nat), vs = [.ref p] ∧ PenAt H p c n ∧ n + 900 ≤ 1000000 ∧ ∀ H', PenAt H' p c (n + 900) → SameBut p H H' → Q (.bl true) H'
abbrev Nif : List Str := ["pen", "inner", "signs", "tables", "words", "made", "text", "sign"]
theorem sc_isf : FnScope Nif ["pen"] (defScope s__law_isf) := ⟨rfl, rfl, rfl, by decide +kernel, rfl, by decide +kernel, by decide +kernel⟩
theorem ok_isf {fo fr ff f : Addr} {do_ dr df d : FuncData} (T : TxtIf K mg A B Z S L D fo fr ff f do_ dr df d) : FnOk P w K mg base CX0 9 f d ["pen"] spIsF := by
  have sc := sc_isf
  have G_draw : FnOk P w K mg base CX0 1 L.p2 L.q2 ["pen", "many"] spDraw := ok_draw T.L.pen
  have G_signs : FnOk P w K mg base CX0 2 L.f1 L.d1 ["pen", "many"] spSigns := ok_signs T.L
  have G_tables : FnOk P w K mg base CX0 4 L.f3 L.d3 ["pen", "signs", "most", "words"] spTables := ok_tables T.L
  have G_text : FnOk P w K mg base CX0 3 D.fx D.dx ["pen", "signs", "most"] spText := ok_text T.Tx
  have G_read : FnOk P w K mg base CX0 1 fr dr ["signs", "tables", "text"] spRead := ok_read T.R
  have G_init : FnOk P w K mg base (L2.CX P w) 5 Z.f Z.d ["self", "signs", "rows", "ends"] (spInit K A Z) := ok_init T.M T.E T.C
  have G_fold : FnOk P w K mg base CX0 7 ff df ["machine", "signs", "words"] (spFold Z) := ok_folded T.M T.E T.C T.S T.Fo
  have G_some : FnOk P w K mg base CX0 4 fo do_ ["pen", "signs"] spSome := ok_some T.So
  have G_keys : FnOk P w K mg base (L2.CX P w) 5 S.fk S.dk ["self", "text"] (spAsk Z S ansKeys) := ok_keys_of T.M T.E T.C T.S
  refine T.D__law_is_folded.F.ok sc (fun vs H Q E h => ?_) (fun cdv A1 outer s H vs Q E hr h => ?_)
  · obtain ⟨_, _, _, rfl, _⟩ := h; rfl
  · obtain ⟨p, c, n, rfl, pen0, hn, kQ⟩ := h
    have hu := hu_of hr
    refine ⟨_, (pss_cons (ps_asg (pe_tup (pa_cons (pe_call G_signs (hr.mono (by decide)) rfl T.L.D__law_signs.g T.L.D__law_signs.F.kp T.L.D__law_signs.b .nil pass0 (pa_cons (pv 0) (pa_cons (pe_op op_add pe_int (pe_call G_draw (hr.mono (by decide)) rfl T.L.pen.D__law_draw.g T.L.pen.D__law_draw.F.kp T.L.pen.D__law_draw.b .nil pass0 (pa_cons (pv 0) (pa_cons pe_int pa_nil)))) pa_nil))) (pa_cons (pe_call G_signs (hr.mono (by decide)) rfl T.L.D__law_signs.g T.L.D__law_signs.F.kp T.L.D__law_signs.b .nil pass0 (pa_cons (pv 0) (pa_cons (pe_op op_add pe_int (pe_call G_draw (hr.mono (by decide)) rfl T.L.pen.D__law_draw.g T.L.pen.D__law_draw.F.kp T.L.pen.D__law_draw.b .nil pass0 (pa_cons (pv 0) (pa_cons pe_int pa_nil)))) pa_nil))) pa_nil))) (pg_tup rfl (pgs_cons (pg_name (i := 1) sc.nd rfl (Or.inr rfl)) (pgs_cons (pg_name (i := 2) sc.nd rfl (Or.inl rfl)) pgs_nil))))
      (pss_cons (ps_set (i := 3) sc.nd rfl (Or.inl rfl) (pe_call G_tables (hr.mono (by decide)) rfl T.L.D__law_tables.g T.L.D__law_tables.F.kp T.L.D__law_tables.b .nil pass0 (pa_cons (pv 0) (pa_cons (pv 1) (pa_cons pe_int (pa_cons (pe_lst (pa_cons pe_str (pa_cons pe_str (pa_cons pe_str pa_nil)))) pa_nil))))))
      (pss_cons (ps_set (i := 4) sc.nd rfl (Or.inr rfl) (pe_callTy (call_dictP rfl) (by rfl) T.n_dict (by decide +kernel) (pa_cons (pe_lc (own := [("sign", 7)]) (g := gName 7) (tt := tYes) (te := tTup (tCons (tVar 7) (tCons (tCall spText [] E0 (tCons (tVar 0) (tCons (tVar 1) (tCons (tC (.int 3)) tNil)))) tNil))) rfl sc.nd (pi_str (pv 2)) (blkOk_by (N := Nif) (sc := defScope s__law_isf) (own := [("sign", 7)]) (by decide +kernel)) (fun _ _ _ _ _ => (pg_name (i := 7) sc.nd rfl (Or.inl rfl))) (fun _ _ _ _ _ => pts_nil) (fun _ _ _ _ _ => (pe_tup (pa_cons (pv 7) (pa_cons (pe_call G_text (hr.mono (by decide)) rfl T.Tx.D__law_text.g T.Tx.D__law_text.F.kp T.Tx.D__law_text.b .nil pass0 (pa_cons (pv 0) (pa_cons (pv 1) (pa_cons pe_int pa_nil)))) pa_nil))))) pa_nil)))
      (pss_cons (ps_set (i := 5) sc.nd rfl (Or.inl rfl) (pe_call G_fold (hr.mono (by decide)) rfl T.Fo.D_folded.g T.Fo.D_folded.F.kp T.Fo.D_folded.b .nil pass0 (pa_cons (pe_make T.C.make G_init (hr.mono (by decide)) rfl T.C.g T.C.b .nil (passX0 fun _ _ _ h => h) (pa_cons (pv 1) (pa_cons (pe_ix ix_tup (pv 3) pe_int (fun _ _ => rfl)) (pa_cons (pe_ix ix_tup (pv 3) pe_int (fun _ _ => rfl)) pa_nil)))) (pa_cons (pv 2) (pa_cons (pv 4) pa_nil)))))
      (pss_cons (ps_if (pt_cmpR op_ne (pe_fld (pv 5) rfl) (pv 2) (nomark _)) (pss_one (ps_ret pe_bl)) pss_nil)
      (pss_cons (ps_for PassesOwn.never rfl (pi_list (pe_call G_some (hr.mono (by decide)) rfl T.So.D__law_some_texts.g T.So.D__law_some_texts.F.kp T.So.D__law_some_texts.b .nil pass0 (pa_cons (pv 0) (pa_cons (pv 2) pa_nil)))) (pg_name (i := 6) sc.nd rfl (Or.inl rfl)) (pss_one (ps_if (pt_cmpR (op_neD hr.units) (pe_meth (pv 5) T.C.cl T.S.M_keys_of G_keys (hr.mono (by decide)) T.S.b_keys_of .nil (passX0 fun _ _ _ h => h) (pa_cons (pv 6) pa_nil)) (pe_ix ix_tup (pe_call G_read (hr.mono (by decide)) rfl T.R.D__law_read.g T.R.D__law_read.F.kp T.R.D__law_read.b .nil pass0 (pa_cons (pv 1) (pa_cons (pv 3) (pa_cons (pe_join pe_str (pe_lc (own := [("sign", 7)]) (g := gName 7) (tt := tYes) (te := tDGet (tVar 4) (tVar 7)) rfl sc.nd (pi_str (pv 6)) (blkOk_by (N := Nif) (sc := defScope s__law_isf) (own := [("sign", 7)]) (by decide +kernel)) (fun _ _ _ _ _ => (pg_name (i := 7) sc.nd rfl (Or.inl rfl))) (fun _ _ _ _ _ => pts_nil) (fun _ _ _ _ _ => pe_dget hu (pv 4) (pv 7) (fun _ _ => rfl)))) pa_nil)))) pe_int (fun _ _ => rfl)) (nomark _)) (pss_one (ps_ret pe_bl)) pss_nil)))
      (pss_one (ps_ret pe_bl)))))))), ?_⟩
    refine ⟨_, rfl, _, rfl, p, c, 4, n, rfl, pen0, by omega, by decide, by decide, fun r H1 r0 r1 pen1 sb1 => ?_⟩
    obtain ⟨r, rfl⟩ := Int.eq_ofNat_of_zero_le r0
    refine ⟨_, _, rfl, rfl, p, c, 1 + r, n + 1, by rw [Int.natCast_add]; rfl, pen1, by omega, by omega, fun sg H2 zs nd al pen2 sb2 => ?_⟩
    refine ⟨_, rfl, _, rfl, p, c, 4, _, rfl, pen2, by omega, by decide, by decide, fun r' H3 r0' r1' pen3 sb3 => ?_⟩
    obtain ⟨r', rfl⟩ := Int.eq_ofNat_of_zero_le r0'
    refine ⟨_, _, rfl, rfl, p, c, 1 + r', _, by rw [Int.natCast_add]; rfl, pen3, by omega, by omega, fun ts H4 zs' nd' al' pen4 sb4 => ?_⟩
    refine ⟨by show 2 ≤ sizeLine; decide, fun t5 ht5 => ?_⟩
    refine ⟨t5, _, rfl, SqT.of upd_same, rfl, _, _, rfl, _, _, rfl, rfl, ?_⟩
    have pen5 : PenAt (upd H4 t5 (.tup [.str sg, .str ts])) p c (n + 20) := (pen4.keep (Same.upd ht5)).mono (by omega)
    have sb5 : SameBut p H (upd H4 t5 (.tup [.str sg, .str ts])) := (((sb1.trans sb2).trans sb3).trans sb4).trans (.new ht5)
    generalize upd H4 t5 (.tup [.str sg, .str ts]) = H5 at pen5 sb5 ⊢
    clear pen1 pen2 pen3 pen4 sb1 sb2 sb3 sb4 ht5
    have z4 : sg.cps.size ≤ 4 := by omega
    have z1 : 1 ≤ sg.cps.size := by omega
    have y4 : ts.cps.size ≤ 4 := by omega
    have y1 : 1 ≤ ts.cps.size := by omega
    have lowA : ∀ c ∈ alpha, c < 128 := by decide +kernel
    have asc : ∀ {q : Str}, (∀ c ∈ q.cps.toList, c ∈ alpha) → q.cps.all (· < 128) = true := fun {q} h => by
      rw [← Array.all_toList, List.all_eq_true]
      exact fun x hx => decide_eq_true (lowA x (h x hx))
    -- tables
    refine ⟨_, rfl, _, rfl, by show 3 ≤ sizeLine; decide, fun q5 hq5 => ?_⟩
    have hq : (upd H5 q5 (.lst [V.str "x", V.str "y", V.str "z"])) q5 = some (.lst [V.str "x", V.str "y", V.str "z"]) := upd_same
    have pen6 := pen5.keep (Same.upd (o := .lst [V.str "x", V.str "y", V.str "z"]) hq5)
    have sb6 : SameBut p H (upd H5 q5 (.lst [V.str "x", V.str "y", V.str "z"])) := sb5.trans (.new hq5)
    generalize upd H5 q5 (.lst [V.str "x", V.str "y", V.str "z"]) = H6 at hq pen6 sb6 ⊢
    have hq : H6 q5 = some (.lst (W3.map V.str)) := hq
    refine ⟨p, c, q5, sg, 16, _, W3, rfl, pen6, by omega, z4, by decide, by decide, hq, by decide, by decide, fun t r e rv ev R Es many Hs m0 m16 ht hrv pR hev pE lR lE gR gE nt nr ne penS sbS => ?_⟩
    have pR0 : Paired (RowE Hs) rv R := L2.Paired.mapP pR fun _ _ ⟨a, vs, e1, e2, _, k⟩ => ⟨a, vs, e1, e2, L2.Paired.mapP k fun _ _ ⟨b, kv, e3, e4, e5, _⟩ => ⟨b, kv, e3, e4, e5⟩⟩
    have pE0 : Paired (KeyE Hs) ev Es := L2.Paired.mapP pE fun _ _ ⟨a, e1, e2, _⟩ => ⟨a, e1, e2⟩
    have hR : ∀ q ∈ R, q.length = sg.cps.size ∧ ∀ w ∈ q, Okw R.length w ∧ w.2.length ≤ 2 ∧ kl w.2 = w.2 ∧ ∀ y ∈ w.2, y ∈ W3 := fun q hq => ⟨(gR q hq).1, fun w hw => by
      obtain ⟨h1, h2, h3, h4, h5⟩ := (gR q hq).2 w hw
      exact ⟨⟨h1, by rw [lR]; exact h2⟩, h4, h5, h3⟩⟩
    have hE : ∀ ks ∈ Es, ks.length ≤ 2 ∧ kl ks = ks ∧ ∀ y ∈ ks, y ∈ W3 := fun ks hks => by
      obtain ⟨h3, h4, h5⟩ := gE ks hks
      exact ⟨h4, h5, h3⟩
    have l16 : R.length ≤ 16 := by omega
    have e16 : Es.length ≤ 16 := by omega
    have nR : R.map nrm = R := map_same fun q hq => nrm_same fun w hw => ((hR q hq).2 w hw).2.2.1
    have nE : Es.map kl = Es := map_same fun ks hks => (hE ks hks).2.1
    have inW : ∀ y ∈ keysOfRows R ++ Es.flatten, y ∈ W3 := fun y hy => by
      rcases List.mem_append.mp hy with hy | hy
      · obtain ⟨q, hq, hy⟩ := List.mem_flatMap.mp hy
        obtain ⟨w, hw, hy⟩ := List.mem_flatMap.mp hy
        exact ((hR q hq).2 w hw).2.2.2 y hy
      · obtain ⟨ks, hks, hy⟩ := List.mem_flatten.mp hy
        exact (hE ks hks).2.2 y hy
    have few3 : ∀ X : List Str, (∀ y ∈ X, y ∈ W3) → (kl X).length ≤ 3 := fun X hX => nd_sub_len (m := W3) (kl_nodup _) fun y hy => hX y (kl_mem.mp hy)
    have at0 : atI ([.ref r, .ref e] : List V) 0 = some (.ref r) := atI_nat (j := 0) rfl
    have at1 : atI ([.ref r, .ref e] : List V) 1 = some (.ref e) := atI_nat (j := 1) rfl
    have row4 : ∀ q ∈ R, q.length = sg.cps.size ∧ ∀ w ∈ q, Okw R.length w ∧ w.2.length ≤ 4 := fun q hq => ⟨(hR q hq).1, fun w hw => ⟨((hR q hq).2 w hw).1, by have := ((hR q hq).2 w hw).2.1; omega⟩⟩
    have end4 : ∀ ks ∈ Es, ks.length ≤ 4 := fun ks hks => by have := (hE ks hks).1; omega
    have F : Full sg R Es := full_of nd z4 row4 l16 (by omega) (by omega) end4
    have W : Few sg R Es := ⟨F, z4, fun c hc => lowA c (al c hc), l16, ⟨fun q hq w hw => ((hR q hq).2 w hw).2.1, fun ks hks => (hE ks hks).1⟩, by have := few3 _ inW; unfold keysA; omega⟩
    have sbH : SameBut p H Hs := sb6.trans sbS
    have ascS := asc al
    have ascT := asc al'
    clear pR pE gR gE nt nr ne sbS pen6 sb6 pen5 sb5 hq hq5 al al' asc
    -- words
    refine ⟨_, rfl, ts, rfl, fun Dl hDl => ?_⟩
    have ap := penS.apart hDl
    refine lcs_it [some (.ref p), some (.str sg), some (.str ts), some (.ref t), none, none, none, none] rfl walk_str (fun j H' => PenAt H' p c (n + 430 + 4 * j) ∧ SameBut p Hs H' ∧ ∃ (as : List Addr) (zs : List (Nat × Str)), H' Dl = some (.lst (as.map V.ref)) ∧ as.length = j ∧ zs.map (·.1) = ts.cps.toList.take j ∧ Paired (fun a (z : Nat × Str) => H' a = some (.tup [.str (Froz.sing z.1), .str z.2])) as zs ∧ ∀ z ∈ zs, z.2.cps.size ≤ 3 ∧ ∀ x ∈ z.2.cps.toList, x ∈ sg.cps.toList)
      ⟨(penS.keep (Same.upd hDl)).mono (by omega), .new hDl, [], [], upd_same, rfl, rfl, .nil, fun z hz => (nomatch hz)⟩ (fun _ _ _ _ => trivial) ?_ ?_
    · rintro j x _ H' hj ⟨penj, sbj, as, zs, has, las, ezs, paz, gzs⟩ ⟨rfl, cc, hc, rfl⟩
      have hc' : ts.cps.toList[j]? = some cc := by rw [Array.getElem?_toList]; exact hc
      refine ⟨rfl, _, rfl, _, rfl, _, rfl, p, c, sg, 3, _, rfl, penj, by decide, by omega, z1, by omega, fun y Hy ly gy peny sby => ⟨by show 2 ≤ sizeLine; decide, fun a ha => ?_⟩⟩
      have hasy := sby _ _ has ap.1
      have apa := peny.apart ha
      have nDa : Dl ≠ a := ne_of_none hasy ha
      have has2 : (upd Hy a (.tup [.str (Froz.sing cc), .str y])) Dl = some (.lst (as.map V.ref)) := by rw [upd_ne nDa]; exact hasy
      refine ⟨_, has2, by rw [List.length_map, las, sizeLine_eq]; omega, (((peny.put apa.1 apa.2)).put ap.1 ap.2).mono (by omega), fun b o z nb => ?_, as ++ [a], zs ++ [(cc, y)], by rw [upd_same, List.map_append]; rfl, by rw [List.length_append, las]; rfl, by rw [List.map_append, ezs, List.take_add_one, hc']; rfl, ?_, fun z hz => ?_⟩
      · rw [upd_ne (ne_of_none z hDl), upd_ne (ne_of_none (sby _ _ (sbj _ _ z nb) nb) ha)]
        exact sby _ _ (sbj _ _ z nb) nb
      · have kt : ∀ b xs, H' b = some (.tup xs) → (upd (upd Hy a (.tup [.str (Froz.sing cc), .str y])) Dl (.lst (as.map V.ref ++ [V.ref a]))) b = some (.tup xs) := fun b xs z => by
          have zy := sby _ _ z (penj.neT z)
          rw [upd_ne (ne_of zy hasy (by intro q; cases q)), upd_ne (ne_of_none zy ha)]
          exact zy
        exact psnoc (L2.Paired.mapP paz fun _ _ q => kt _ _ q) (by rw [upd_ne nDa.symm, upd_same]; rfl)
      · rcases List.mem_append.mp hz with hz | hz
        · exact gzs z hz
        · rw [List.mem_singleton.mp hz]
          exact ⟨ly, gy⟩
    rintro Hl ⟨penl, sbl, as, zs, has, las, ezs, paz, gzs⟩
    rw [List.take_of_length_le (by rw [Array.length_toList]; exact Nat.le_refl _)] at ezs
    refine ⟨Dl, as, kvZ zs, rfl, SqL.of has, ?_, fun dw hdw => ?_⟩
    · exact pmap (L2.Paired.mapP paz fun a z q => SqT.of q)
    have mv := fun c => merge_val (c := c) zs [] (by rw [ezs]; exact nd')
    have pend := penl.keep (Same.upd (o := .dK (mergeK [] (kvZ zs))) hdw)
    have apd := penl.apart hdw
    have sbd : SameBut p Hs (upd Hl dw (.dK (mergeK [] (kvZ zs)))) := sbl.trans (.new hdw)
    have hd : (upd Hl dw (.dK (mergeK [] (kvZ zs)))) dw = some (.dK (mergeK [] (kvZ zs))) := upd_same
    generalize upd Hl dw (.dK (mergeK [] (kvZ zs))) = Hd at pend sbd hd ⊢
    clear penl sbl has las paz hdw ap
    have st := still_but sbd
    have htd := st.tup penS ht
    have hrd := st.lst penS hrv
    have hed := st.lst penS hev
    have pRd : Paired (RowE Hd) rv R := L2.Paired.mapP pR0 fun _ _ z => rowE_still penS st z
    have pEd : Paired (KeyE Hd) ev Es := L2.Paired.mapP pE0 fun _ _ z => keyE_still penS st z
    -- the folded machine
    refine ⟨_, rfl, _, rfl, t, _, 0, _, rfl, rfl, SqT.of htd, at0, _, rfl, t, _, 1, _, rfl, rfl, SqT.of htd, at1, fun m dx hm hdx nm => ?_⟩
    refine init_okL hm hdx hrd (L2.Paired.mapP pRd fun _ _ z => toRow z) (.inl hed) (L2.Paired.mapP pEd fun _ _ z => toTexts z) ascS z4 row4 l16 e16 end4 (by have := few3 _ inW; omega) fun H7 s7 ma => ⟨rfl, ?_⟩
    rw [nR, nE] at ma
    have wdv : ∀ c ∈ ts.cps.toList, ∃ z ∈ zs, findZ zs c = some z.2 := fun c hc => by
      obtain ⟨z, hz, _, e⟩ := findZ_mem (zs := zs) (c := c) (by rw [ezs]; exact hc)
      exact ⟨z, hz, e⟩
    have wok : ∀ c ∈ ts.cps.toList, valV (mergeK [] (kvZ zs)) (lk c) = some (.str ((findZ zs c).getD "")) ∧ (∀ x ∈ ((findZ zs c).getD "").cps.toList, x ∈ sg.cps.toList) ∧ ((findZ zs c).getD "").cps.size ≤ 3 := fun c hc => by
      obtain ⟨z, hz, e⟩ := wdv c hc
      rw [mv c, e]
      exact ⟨rfl, (gzs z hz).2, (gzs z hz).1⟩
    have kin : ∀ i, i < R.length → ∀ cs : List Nat, ∀ y ∈ (runW sg R i cs).2, y ∈ W3 := fun i hi cs y hy => inW y (List.mem_append_left _ ((F.run hi cs).2 y hy))
    have fewF : (kl (keysOfRows (rowsF sg R ts fun c => (findZ zs c).getD "") ++ Es.flatten)).length ≤ 3 := few3 _ fun y hy => by
      rcases List.mem_append.mp hy with hy | hy
      · obtain ⟨q, hq, hy⟩ := List.mem_flatMap.mp hy
        obtain ⟨i, hi, rfl⟩ := List.mem_map.mp hq
        obtain ⟨u, hu, hy⟩ := List.mem_flatMap.mp hy
        obtain ⟨c, hc, rfl⟩ := List.mem_map.mp hu
        exact kin i (List.mem_range.mp hi) _ y (kl_mem.mp hy)
      · exact inW y (List.mem_append_right _ hy)
    refine ⟨_, rfl, _, rfl, m, dw, sg, ts, R, Es, _, fun c => (findZ zs c).getD "", rfl, ma, W, y4, ascT, s7 _ _ hd, fun c hc => ⟨(wok c hc).1, (wok c hc).2.1, fun i hi => Nat.le_trans (few3 _ (kin i hi _)) (by decide)⟩, by omega, fun m1 H8 s8 nm1 ma1 => ?_⟩
    have pen8 : PenAt H8 p c (n + 500) := ((pend.keep s7).keep s8).mono (by omega)
    have s78 : Same Hd H8 := fun b o z => s8 _ _ (s7 _ _ z)
    have sb8 : SameBut p H H8 := fun b o z nb => s78 _ _ (sbd _ _ (sbH _ _ z nb) nb)
    have ht8 := s78 _ _ htd
    have hr8 := s78 _ _ hrd
    have he8 := s78 _ _ hed
    have hd8 := s78 _ _ hd
    have pR8 : Paired (RowE H8) rv R := L2.Paired.mapP pRd fun _ _ z => z.keep s78
    have pE8 : Paired (KeyE H8) ev Es := L2.Paired.mapP pEd fun _ _ z => z.keep s78
    have ma8 : MachAt Z.C H8 m1 ts ((rowsF sg R ts fun c => (findZ zs c).getD "").map nrm) (Es.map kl) := ma1
    clear pend sbd s7 s8 s78 ma ma1 htd hrd hed hd pRd pEd st penS ht hrv hev pR0 pE0 sbH hm hdx nm nm1
    have rowk : ∀ q ∈ rowsF sg R ts fun c => (findZ zs c).getD "", q.length = ts.cps.size ∧ ∀ u ∈ q, Okw (rowsF sg R ts fun c => (findZ zs c).getD "").length u ∧ u.2.length ≤ 4 := fun q hq => by
      obtain ⟨i, hi, rfl⟩ := List.mem_map.mp hq
      have hi := List.mem_range.mp hi
      refine ⟨by rw [List.length_map, Array.length_toList (xs := ts.cps)], fun u hu => ?_⟩
      obtain ⟨c, hc, rfl⟩ := List.mem_map.mp hu
      have lF : (rowsF sg R ts fun c => (findZ zs c).getD "").length = R.length := by unfold rowsF; rw [List.length_map, List.length_range]
      rw [lF]
      exact ⟨⟨Int.natCast_nonneg _, by show ((runW sg R i ((findZ zs c).getD "").cps.toList).1 : Int) < (R.length : Int); have := (F.run hi ((findZ zs c).getD "").cps.toList).1; omega⟩, Nat.le_trans (few3 _ (kin i hi _)) (by decide)⟩
    have lF : (rowsF sg R ts fun c => (findZ zs c).getD "").length = R.length := by unfold rowsF; rw [List.length_map, List.length_range]
    have fuF : Full ts ((rowsF sg R ts fun c => (findZ zs c).getD "").map nrm) (Es.map kl) := full_nrm nd' y4 rowk (by rw [lF]; exact l16) (by rw [lF]; omega) (by rw [lF]; omega) end4
    obtain ⟨dx1, _, _, _, _, _, _, _, hm1, _⟩ := id ma8
    -- the signs
    refine ⟨_, rfl, m1, Z.C, dx1, _, _, rfl, hm1, T.C.cl, T.C.a1, rfl, _, rfl, rfl, _, rfl, ifFn rfl ?_⟩
    -- the texts
    refine ⟨_, rfl, _, rfl, p, c, ts, _, rfl, pen8, by omega, y1, y4, fun X txs HX hX gX lX penX sbX => ?_⟩
    have stX := still_but sbX
    have maX := ma8.still pen8 stX
    have htX := stX.tup pen8 ht8
    have hrX := stX.lst pen8 hr8
    have heX := stX.lst pen8 he8
    have hdX := sbX _ _ hd8 apd.1
    have pRX : Paired (RowE HX) rv R := L2.Paired.mapP pR8 fun _ _ z => rowE_still pen8 stX z
    have pEX : Paired (KeyE HX) ev Es := L2.Paired.mapP pE8 fun _ _ z => keyE_still pen8 stX z
    have sbA : SameBut p H HX := sb8.trans sbX
    clear pen8 ht8 hr8 he8 hd8 pR8 pE8 ma8 stX sbX sb8 hm1
    refine ⟨X, rfl, ⟨_, SqL.of hX⟩, ?_⟩
    refine for_it walk_list (fun j σ H' => (∃ o6 : Option V, σ = [some (.ref p), some (.str sg), some (.str ts), some (.ref t), some (.ref dw), some (.ref m1), o6, none]) ∧ Same HX H') ⟨⟨_, rfl⟩, Same.refl _⟩ (fun j σ H' _ z => SqL.of (z.2 _ _ hX)) ?_ ?_
    · rintro j x σ _ Hj hj ⟨⟨o6, rfl⟩, sj⟩ ⟨rfl, hx⟩
      rw [List.getElem?_map] at hx
      obtain ⟨tx, htx, rfl⟩ := Option.map_eq_some_iff.mp hx
      obtain ⟨tl, tg⟩ := gX tx (List.mem_of_getElem? htx)
      have maj := maX.keepE (sameN sj)
      obtain ⟨dxj, _, _, _, _, _, _, _, hmj, _⟩ := id maj
      refine ⟨_, rfl, m1, dxj, _, rfl, hmj, rfl, _, rfl, m1, tx, ts, _, _, rfl, maj, fuF, fun _ v H9 s9 an => ?_, fun k c _ _ h1 h2 => absurd (tg c (by
        have h : tx.cps.toList[k]? = some c := by rw [Array.getElem?_toList]; exact h1
        exact List.mem_of_getElem? h)) h2⟩
      obtain ⟨b, rfl, hb⟩ := an
      rw [keysF F nd' tg] at hb
      have s09 : Same HX H9 := fun b o z => s9 _ _ (sj _ _ z)
      -- the joined text
      refine ⟨_, rfl, _, rfl, ⟨_, rfl⟩, _, rfl, tx, rfl, fun Dj hDj => ?_⟩
      refine lcs_it [some (.ref p), some (.str sg), some (.str ts), some (.ref t), some (.ref dw), some (.ref m1), some (.str tx), none] rfl walk_str (fun j H' => Same H9 H' ∧ H' Dj = some (.lst (((tx.cps.toList.take j).map fun c => (findZ zs c).getD "").map V.str))) ⟨Same.upd hDj, upd_same⟩ (fun _ _ _ _ => trivial) ?_ ?_
      · rintro j x _ H10 hj ⟨s10, h10⟩ ⟨rfl, cc, hc, rfl⟩
        have hc' : tx.cps.toList[j]? = some cc := by rw [Array.getElem?_toList]; exact hc
        have dg : DGet H10 dw (.str (Froz.sing cc)) (some (.str ((findZ zs cc).getD ""))) := by
          have := DGet.k (k := lk cc) (s10 _ _ (s09 _ _ hdX))
          rw [(wok cc (tg cc (List.mem_of_getElem? hc'))).1] at this
          exact this
        refine ⟨rfl, _, rfl, _, rfl, dw, _, rfl, dg, _, h10, by rw [List.length_map, List.length_map, List.length_take, sizeLine_eq]; have := tl; have e : tx.cps.toList.length = tx.length := Array.length_toList; omega, fun b o z => ?_, ?_⟩
        · rw [upd_ne (ne_of_none z hDj)]
          exact s10 _ _ z
        · rw [upd_same, List.take_add_one, hc', Option.toList_some, List.map_append, List.map_append]
          rfl
      rintro H10 ⟨s10, h10⟩
      rw [List.take_of_length_le (by rw [Array.length_toList]; exact Nat.le_refl _)] at h10
      have e90 : (Txt.join "" (tx.cps.toList.map fun c => (findZ zs c).getD "")).cps.toList = foldT (fun c => (findZ zs c).getD "") tx.cps.toList := by
        rw [join_flat, List.flatMap_map]
        rfl
      have sum : ∀ l : List Nat, (∀ c ∈ l, c ∈ ts.cps.toList) → ((l.map fun c => (findZ zs c).getD "").map (·.length)).sum ≤ 3 * l.length := fun l => by
        induction l with
        | nil => intro _; simp
        | cons a r ih =>
          intro h
          have := ih fun x hx => h x (List.mem_cons_of_mem _ hx)
          have h3 := (wok a (h a List.mem_cons_self)).2.2
          have h3' : ((findZ zs a).getD "").length ≤ 3 := h3
          rw [List.map_cons, List.map_cons, List.sum_cons, List.length_cons]
          omega
      have lt30 : tx.cps.toList.length ≤ 30 := by have e : tx.cps.toList.length = tx.length := Array.length_toList; omega
      have s3 := sum _ tg
      refine ⟨"", Dj, _, rfl, rfl, .inl (SqL.of h10), ?_, ?_⟩
      · rw [List.length_map]
        have e0 : tx.cps.toList.length * ("" : Str).length = 0 := Nat.mul_zero _
        rw [e0]
        omega
      have s010 : Same HX H10 := fun b o z => s10 _ _ (s09 _ _ z)
      have jl : (Txt.join "" (tx.cps.toList.map fun c => (findZ zs c).getD "")).cps.size ≤ 1000 := by
        rw [← Array.length_toList, e90]
        unfold foldT
        rw [List.length_flatMap]
        have : ((tx.cps.toList.map fun c => ((findZ zs c).getD "").cps.toList.length)) = ((tx.cps.toList.map fun c => (findZ zs c).getD "").map (·.length)) := by
          rw [List.map_map]
          exact List.map_congr_left fun c _ => Array.length_toList
        rw [this]
        omega
      have jin : ∀ x ∈ (Txt.join "" (tx.cps.toList.map fun c => (findZ zs c).getD "")).cps.toList, x ∈ sg.cps.toList := fun x hx => by
        rw [e90] at hx
        obtain ⟨c, hc, hx⟩ := List.mem_flatMap.mp hx
        exact (wok c (tg c hc)).2.1 x hx
      refine ⟨t, r, e, _, sg, rv, ev, R, Es, rfl, s010 _ _ htX, s010 _ _ hrX, L2.Paired.mapP pRX fun _ _ z => z.keep s010, s010 _ _ heX, L2.Paired.mapP pEX fun _ _ z => z.keep s010, ⟨F, W.two⟩, jl, jin, fun pt kt H11 s11 h111 h112 => ?_⟩
      rw [e90] at h112
      refine ⟨pt, _, 1, _, rfl, rfl, SqT.of h111, atI_nat (j := 1) rfl, ?_⟩
      have ok3 : ∀ y ∈ W3, PyData.strOk y = true := by decide +kernel
      have okS : Sh 1 (.tuple ((keysW sg R Es (foldT (fun c => (findZ zs c).getD "") tx.cps.toList)).map PyData.str)) := Sh.tup (n := 0) fun y hy => by
        obtain ⟨u, hu, rfl⟩ := List.mem_map.mp hy
        exact Sh.str (ok3 u (inW u (keysW_in F _ u hu)))
      refine ⟨.tuple ((keysW sg R Es (foldT (fun c => (findZ zs c).getD "") tx.cps.toList)).map PyData.str), .tuple ((keysW sg R Es (foldT (fun c => (findZ zs c).getD "") tx.cps.toList)).map PyData.str), .tup (SqT.of (s11 _ _ (s10 _ _ hb))) (dp_strs _ _ _), .tup (SqT.of h112) (dp_strs _ _ _), okS.ok (by decide), okS.ok (by decide), _, rfl, ?_⟩
      rw [okS.refl]
      exact iteF ⟨⟨_, rfl⟩, fun b o z => s11 _ _ (s010 _ _ z)⟩
    · rintro σ Hj ⟨⟨o6, rfl⟩, sj⟩
      exact kQ _ ((penX.keep sj).mono (by omega)) fun b o z nb => sj _ _ (sbA _ _ z nb)
end
end Kx

namespace Kx
open PySem L2 Own PinX DicN
abbrev s__law_beside : Stmt := top 50
abbrev s__law_pairs : Stmt := top 51
structure TxtLb (K : PySem.W.Frag) (mg : Str → Option Value) (A : EAd) (U : Addr) (f : Addr) (d : FuncData) : Prop where
  D__law_beside : DefT K mg "_law_beside" "_law_beside" s__law_beside ["one", "other"] f d
  e22 : PySem.W.exmOne K (.ref A.c2) (.ref A.c2) = some true
  eUU : PySem.W.exmOne K (.ref U) (.ref U) = some true
  e2U : PySem.W.exmOne K (.ref A.c2) (.ref U) = some false
structure TxtLp (K : PySem.W.Frag) (mg : Str → Option Value) (f : Addr) (d : FuncData) : Prop where
  D__law_pairs : DefT K mg "_law_pairs" "_law_pairs" s__law_pairs ["signs", "one", "mates", "other"] f d
  n_len : mg "len" = none
/-- what comes of two machines -/
def BeR (Z : CAd) (s1 s2 : Str) (R1 R2 : List (List Way)) (E1 E2 : List (List Str)) (H : Hp) (v : V) : Prop :=
  (¬ s1.cps.toList.Perm s2.cps.toList ∧ v = .str "unlike") ∨ (s1.cps.toList.Perm s2.cps.toList ∧ 12 < (kl (keysA R1 E1 ++ keysA R2 E2)).length ∧ v = .str "keys") ∨
  (s1.cps.toList.Perm s2.cps.toList ∧ (kl (keysA R1 E1 ++ keysA R2 E2)).length ≤ 12 ∧ ∃ n, Over (nxB s1 s2 R1 R2) s1.cps.toList n ∧
    ((16 < (bfs (nxB s1 s2 R1 R2) s1.cps.toList n).length ∧ v = .str "states") ∨ ((bfs (nxB s1 s2 R1 R2) s1.cps.toList n).length ≤ 16 ∧ ∃ m, v = .ref m ∧ MachAt Z.C H m s1 ((rowsBe s1 s2 R1 R2 n).map nrm) ((endsBe s1 s2 R1 R2 E1 E2 n).map kl))))
section
variable {P : Program} {w : World} {K : PySem.W.Frag} {mg : Str → Option Value} {base : Heap} {A : EAd} {B : MAd} {Z : CAd} {S : SAd} {U : Addr} {T : List NdefX.NTab} {fs fb fc fe f : Addr} {ds db dc de d : FuncData} {c Pt : Addr}
def spLBe (Z : CAd) (T : List NdefX.NTab) : Sp := fun vs H Q _ => ∃ (m1 m2 : Addr) (s1 s2 : Str) (R1 R2 : List (List Way)) (E1 E2 : List (List Str)), vs = [.ref m1, .ref m2] ∧ MachAt Z.C H m1 s1 R1 E1 ∧ MachAt Z.C H m2 s2 R2 E2 ∧ Few s1 R1 E1 ∧ Few s2 R2 E2 ∧ NdefX.TabsN T H ∧
  ∀ v H', LamX.ExtN H H' → NdefX.TabsN T H' → BeR Z s1 s2 R1 R2 E1 E2 H' v → Q v H'
theorem sc_lbe : FnScope ["one", "other", "made", "e"] ["one", "other"] (defScope s__law_beside) := ⟨rfl, rfl, rfl, by decide +kernel, rfl, by decide +kernel, by decide +kernel⟩
theorem ok_lbe (TM : TxtM K mg B) (TE : TxtE K mg A) (TC : TxtC K mg Z) (TS : TxtS K mg A Z S) (TSm : TxtSm K mg fs ds) (TBu : TxtBu K mg fb db) (TCo : TxtCo K mg fc dc) (TT : TxtBe K mg base T A U fe de c Pt) (TL : TxtLb K mg A U f d) : FnOk P w K mg base CX0 9 f d ["one", "other"] (spLBe Z T) := by
  have sc := sc_lbe
  have G_be : FnOk P w K mg base (L2.CX P w) 8 fe de ["one", "other"] (spBeside A Z U T) := ok_beside TM TE TC TS TSm TBu TCo TT
  refine TL.D__law_beside.F.ok sc (fun vs H Q E h => ?_) (fun cdv A1 outer s H vs Q E hr h => ?_)
  · obtain ⟨_, _, _, _, _, _, _, _, rfl, _⟩ := h; rfl
  · obtain ⟨m1, m2, s1, s2, R1, R2, E1, E2, rfl, ma1, ma2, w1, w2, hT, k⟩ := h
    refine ⟨_, (pss_cons (ps_try_asL (tb := fun W => tAsg (tCallS (spBeside A Z U T) (WE W) (tCons (tVar 0) (tCons (tVar 1) tNil))) (gName 2))
      (cs := [(.ref U, 3, tRet (tC (.str "unlike"))), (.ref A.c2, 3, tRet (tXfT K "what" (tVar 3)))]) rfl rfl rfl sc.nd
      (.cons rfl rfl ⟨rfl, by decide, .inl TT.E_Unlike.g⟩ (fun a pn => (pss_one (ps_ret pe_str))) (.cons rfl rfl ⟨rfl, by decide, .inl TE.E_TooMany.g⟩ (fun a pn => (pss_one (ps_ret (pe_xfT (pv 3))))) .nil))
      (fun W pn xe tk => (pss_one (ps_set (i := 2) sc.nd rfl (Or.inl rfl) (pe_callS G_be (hr.mono (by decide)) rfl TT.g TT.F.kp TT.b (fun σ => passAt tk σ) (pa_cons (pv 0) (pa_cons (pv 1) pa_nil)))))))
      (pss_one (ps_ret (pv 2)))), ?_⟩
    have err : ∀ (x : Str), (∀ H', BeR Z s1 s2 R1 R2 E1 E2 H' (.str x)) → ∀ (d1 : Addr) (H1 : Hp), LamX.ExtN H H1 → NdefX.TabsN T H1 → ∀ a, H1 a = none → Q (.str x) (upd H1 a (xob a A.c2 (some d1))) := fun x br d1 H1 e1 T1 a ha =>
      k (.str x) _ (e1.trans (sameN (Same.upd ha))) (T1.ext (Same.upd ha)) (br _)
    refine ⟨_, rfl, _, rfl, m1, m2, s1, s2, R1, R2, E1, E2, rfl, ma1, ma2, w1, w2, hT, fun np H1 e1 => ?_, fun pm big d1 H1 nd1 e1 h1 => ?_, fun pm le n ov => ⟨fun big d1 H1 e1 T1 h1 => ?_, fun small m H1 e1 T1 ma => ?_⟩⟩
    · refine .inl ⟨TL.eUU, U, rfl, fun a ha => ?_⟩
      exact k (.str "unlike") _ ((sameN e1).trans (sameN (Same.upd ha))) ((hT.ext e1).ext (Same.upd ha)) (.inl ⟨np, rfl⟩)
    · refine .inr ⟨TL.e2U, .inl ⟨TL.e22, A.c2, rfl, fun a ha => ?_⟩⟩
      have nda : d1 ≠ a := ne_of_none h1 ha
      have hd1 : (upd H1 a (xob a A.c2 (some d1))) d1 = some (.xd [("what", .str "keys")]) := by rw [upd_ne nda]; exact h1
      exact ⟨_, rfl, a, A.c2, d1, _, _, rfl, TE.E_TooMany.xf, TE.N_what, upd_same, hd1, rfl, err "keys" (fun _ => .inr (.inl ⟨pm, big, rfl⟩)) d1 H1 (sameN e1) (hT.ext e1) a ha⟩
    · refine .inr ⟨TL.e2U, .inl ⟨TL.e22, A.c2, rfl, fun a ha => ?_⟩⟩
      have nda : d1 ≠ a := ne_of_none h1 ha
      have hd1 : (upd H1 a (xob a A.c2 (some d1))) d1 = some (.xd [("what", .str "states")]) := by rw [upd_ne nda]; exact h1
      exact ⟨_, rfl, a, A.c2, d1, _, _, rfl, TE.E_TooMany.xf, TE.N_what, upd_same, hd1, rfl, err "states" (fun _ => .inr (.inr ⟨pm, le, n, ov, .inl ⟨big, rfl⟩⟩)) d1 H1 e1 T1 a ha⟩
    · exact ⟨_, rfl, k (.ref m) H1 e1 T1 (.inr (.inr ⟨pm, le, n, ov, .inr ⟨small, m, rfl, ma⟩⟩))⟩
end
end Kx

namespace Kx
open PySem L2 Own PinX DicN
theorem way_list {H : Hp} {sg : Str} {R : List (List Way)} {Es : List (List Str)} {rv : List V} (F : Full sg R Es) (pR : Paired (RowE H) rv R) {i c : Nat} (hi : i < R.length) (hc : c ∈ sg.cps.toList) :
    ∃ (a : Addr) (vs : List V) (j : Nat) (b : Addr) (kv : V), rv[i]? = some (.ref a) ∧ H a = some (.lst vs) ∧ sg.cps[j]? = some c ∧ (∀ k, k < j → sg.cps[k]? ≠ some c) ∧ vs[j]? = some (.ref b) ∧ H b = some (.tup [.int (nxW sg R i c : Nat), kv]) := by
  obtain ⟨j, hj⟩ := List.getElem?_of_mem hc
  rw [Array.getElem?_toList] at hj
  obtain ⟨q, wy, hq, hw, hstep, okw⟩ := F.way hi hj
  have lr : rv.length = R.length := Paired.length pR
  have hx : rv[i]? = some (rv[i]'(by omega)) := List.getElem?_eq_getElem (by omega)
  obtain ⟨q', hq', a, vs, ea, ha, pq⟩ := pat pR hx
  rw [hq] at hq'
  cases hq'
  rw [ea] at hx
  have lq : vs.length = q.length := Paired.length pq
  have hj2 : j < q.length := (List.getElem?_eq_some_iff.mp hw).1
  have hy : vs[j]? = some (vs[j]'(by omega)) := List.getElem?_eq_getElem (by omega)
  obtain ⟨w', hw', b, kv, eb, hb, hkv⟩ := pat pq hy
  rw [hw] at hw'
  cases hw'
  rw [eb] at hy
  have e : nxW sg R i c = wy.1.toNat := by unfold nxW; rw [run_one hstep]
  refine ⟨a, vs, j, b, .ref kv, hx, ha, hj, fun k hk hc' => ?_, hy, by rw [e, Int.toNat_of_nonneg okw.1]; exact hb⟩
  obtain ⟨h1, e1⟩ := Array.getElem?_eq_some_iff.mp hc'
  obtain ⟨h2, e2⟩ := Array.getElem?_eq_some_iff.mp hj
  have nd := List.pairwise_iff_getElem.mp F.nd k j (by simpa using h1) (by simpa using h2) hk
  simp only [Array.getElem_toList] at nd
  exact nd (e1.trans e2.symm)
def prD (p : Pr) : PyData := .tuple [.int (p.1 : Nat), .int (p.2 : Nat)]
theorem dp_pr {K : PySem.W.Frag} {H : Hp} {b : Addr} {p : Pr} (h : H b = some (.tup [.int (p.1 : Nat), .int (p.2 : Nat)])) : Dp K H (.ref b) (prD p) := .tup (SqT.of h) (.cons (.int _) (.cons (.int _) .nil))
theorem dp_prs {K : PySem.W.Frag} {H : Hp} : ∀ {us : List V} {ls : List Pr}, Paired (PrAt H) us ls → DpAll K H us (ls.map prD)
  | _, _, .nil => .nil
  | _, _, .cons ⟨b, e, h⟩ t => by rw [e]; exact .cons (dp_pr h) (dp_prs t)
theorem sh_pr (p : Pr) : Sh 1 (prD p) := Sh.tup (n := 0) fun x hx => by
  simp only [List.mem_cons, List.not_mem_nil, or_false] at hx
  rcases hx with rfl | rfl
  · exact Sh.int _
  · exact Sh.int _
theorem any_pr (ls : List Pr) (q : Pr) : ((ls.map prD).any fun z => PyData.eqv z (prD q)) = decide (q ∈ ls) := by
  induction ls with
  | nil => rfl
  | cons p r ih =>
    rw [List.map_cons, List.any_cons, ih]
    have e : PyData.eqv (prD p) (prD q) = decide (p = q) := by
      unfold prD
      rw [PyData.eqv, PyData.eqvAll, PyData.eqvAll, PyData.eqvAll, PyData.eqv, PyData.eqv]
      obtain ⟨a, b⟩ := p
      obtain ⟨c, d⟩ := q
      by_cases h1 : a = c <;> by_cases h2 : b = d <;> simp [h1, h2, Int.natCast_inj]
    rw [e]
    by_cases h : p = q
    · simp [h]
    · have h' : ¬ q = p := fun z => h z.symm
      simp [h, h']
section
variable {P : Program} {w : World} {K : PySem.W.Frag} {mg : Str → Option Value} {base : Heap} {f : Addr} {d : FuncData}
def spPairs : Sp := fun vs H Q _ => ∃ (s1 s2 : Str) (t1 t2 r1 r2 : Addr) (x1 x2 : V) (rv1 rv2 : List V) (R1 R2 : List (List Way)) (E1 E2 : List (List Str)), vs = [.str s1, .ref t1, .str s2, .ref t2] ∧ H t1 = some (.tup [.ref r1, x1]) ∧ H t2 = some (.tup [.ref r2, x2]) ∧ H r1 = some (.lst rv1) ∧ H r2 = some (.lst rv2) ∧
  Paired (RowE H) rv1 R1 ∧ Paired (RowE H) rv2 R2 ∧ Few s1 R1 E1 ∧ Few s2 R2 E2 ∧ (∀ c ∈ s1.cps.toList, c ∈ s2.cps.toList) ∧ ∀ n H', Over (nxB s1 s2 R1 R2) s1.cps.toList n → Same H H' → Q (.int ((bfs (nxB s1 s2 R1 R2) s1.cps.toList n).length : Nat)) H'
abbrev Npa : List Str := ["signs", "one", "mates", "other", "pairs", "at", "sign", "goal"]
theorem sc_pairs : FnScope Npa ["signs", "one", "mates", "other"] (defScope s__law_pairs) := ⟨rfl, rfl, rfl, by decide +kernel, rfl, by decide +kernel, by decide +kernel⟩
theorem ok_pairs (T : TxtLp K mg f d) : FnOk P w K mg base CX0 1 f d ["signs", "one", "mates", "other"] spPairs := by
  have sc := sc_pairs
  refine T.D__law_pairs.F.ok sc (fun vs H Q E h => ?_) (fun cdv A1 outer s H vs Q E hr h => ?_)
  · obtain ⟨_, _, _, _, _, _, _, _, _, _, _, _, _, _, rfl, _⟩ := h; rfl
  · obtain ⟨s1, s2, t1, t2, r1, r2, x1, x2, rv1, rv2, R1, R2, E1, E2, rfl, ht1, ht2, hr1, hr2, pR1, pR2, w1, w2, inn, k⟩ := h
    have hu65 : (A1.deeper (PyProof.Rows.envOfC "_law_pairs" (defScope s__law_pairs) s.heap.objs.size f cdv)).units + 65 < cLine := by have := hr.un; omega
    refine ⟨_, (pss_cons (ps_par (i := 4) (j := 5) rfl sc.nd rfl rfl (by decide) rfl rfl (pa_cons (pe_lst (pa_cons (pe_tup (pa_cons pe_int (pa_cons pe_int pa_nil))) pa_nil)) (pa_cons pe_int pa_nil)) rfl)
      (pss_cons (ps_while PassesOwn.never (pt_cmpR op_lt (pv 5) (pe_callB call_len (by rfl) T.n_len (by decide +kernel) (pa_cons (pv 4) pa_nil)) (nomark _))
        (pss_cons (ps_for PassesOwn.never rfl (pi_str (pv 0)) (pg_name (i := 6) sc.nd rfl (Or.inl rfl))
          (pss_cons (ps_set (i := 7) sc.nd rfl (Or.inl rfl) (pe_tup (pa_cons (pe_ix ix_tup (pe_ix ix_list (pe_ix ix_list (pe_ix ix_tup (pv 1) pe_int (fun _ _ => rfl)) (pe_ix ix_tup (pe_ix ix_list (pv 4) (pv 5) (fun _ _ => rfl)) pe_int (fun _ _ => rfl)) (fun _ _ => rfl)) (pe_bm PySem.F.plainAttrs_str PySem.F.slot_str_index PySem.F.type_str_index mt_signAt (pv 0) (pa_cons (pv 6) pa_nil)) (fun _ _ => rfl)) pe_int (fun _ _ => rfl))
            (pa_cons (pe_ix ix_tup (pe_ix ix_list (pe_ix ix_list (pe_ix ix_tup (pv 3) pe_int (fun _ _ => rfl)) (pe_ix ix_tup (pe_ix ix_list (pv 4) (pv 5) (fun _ _ => rfl)) pe_int (fun _ _ => rfl)) (fun _ _ => rfl)) (pe_bm PySem.F.plainAttrs_str PySem.F.slot_str_index PySem.F.type_str_index mt_signAt (pv 2) (pa_cons (pv 6) pa_nil)) (fun _ _ => rfl)) pe_int (fun _ _ => rfl)) pa_nil))))
          (pss_one (ps_if (pt_cmpR (op_notInD hu65) (pv 7) (pv 4) (by rfl))
            (pss_one (ps_expr (pe_bm PySem.F.plainAttrs_list PySem.F.slot_list_append PySem.F.type_list_append mt_append (pv 4) (pa_cons (pv 7) pa_nil))))
            pss_nil))))
        (pss_one (ps_set (i := 5) sc.nd rfl (Or.inl rfl) (pe_op op_add (pv 5) pe_int)))))
      (pss_one (ps_ret (pe_callB call_len (by rfl) T.n_len (by decide +kernel) (pa_cons (pv 4) pa_nil)))))), ?_⟩
    refine ⟨by show 2 ≤ sizeLine; decide, fun z0 hz0 => ⟨by show 1 ≤ sizeLine; decide, fun Lb hLb => ?_⟩⟩
    refine ⟨_, _, rfl, ?_⟩
    have s0 : Same H (upd (upd H z0 (.tup [.int 0, .int 0])) Lb (.lst [.ref z0])) := (Same.upd hz0).trans (Same.upd hLb)
    have hz : (upd (upd H z0 (.tup [.int 0, .int 0])) Lb (.lst [.ref z0])) z0 = some (.tup [.int (0 : Nat), .int (0 : Nat)]) := Same.upd hLb _ _ upd_same
    have hL0 : (upd (upd H z0 (.tup [.int 0, .int 0])) Lb (.lst [.ref z0])) Lb = some (.lst [.ref z0]) := upd_same
    have nL : H Lb = none := by
      cases e : H Lb with
      | none => rfl
      | some o => rw [Same.upd hz0 _ _ e] at hLb; cases hLb
    generalize upd (upd H z0 (.tup [.int 0, .int 0])) Lb (.lst [.ref z0]) = H1 at s0 hz hL0 ⊢
    have i0 : In2 R1.length R2.length (0, 0) := ⟨w1.F.pos, w2.F.pos⟩
    have hin : ∀ p, In2 R1.length R2.length p → ∀ c ∈ s1.cps.toList, In2 R1.length R2.length (nxB s1 s2 R1 R2 p c) := fun p ip c _ => ⟨(w1.F.run ip.1 [c]).1, (w2.F.run ip.2 [c]).1⟩
    have few : ∀ e, (bfs (nxB s1 s2 R1 R2) s1.cps.toList e).length ≤ 256 := fun e => Nat.le_trans (in2_few (bfs_nodup e) (bfs_in i0 hin e)) (Nat.mul_le_mul w1.l16 w2.l16)
    refine ⟨fun m σ H' => ∃ (d : Nat) (o6 o7 : Option V) (us : List V), m + d = 300 ∧ σ = [some (.str s1), some (.ref t1), some (.str s2), some (.ref t2), some (.ref Lb), some (.int (d : Nat)), o6, o7] ∧ (∀ j, j < d → j < (bfs (nxB s1 s2 R1 R2) s1.cps.toList j).length) ∧ Same H H' ∧ H' Lb = some (.lst us) ∧ Paired (PrAt H') us (bfs (nxB s1 s2 R1 R2) s1.cps.toList d),
      ⟨300, 0, none, none, _, rfl, rfl, fun j hj => absurd hj (Nat.not_lt_zero j), s0, hL0, .cons ⟨z0, rfl, hz⟩ .nil⟩, ?_⟩
    rintro m σ H2 ⟨d, o6, o7, us, hm, rfl, hj, s2', hL2, pu2⟩
    have lu : us.length = (bfs (nxB s1 s2 R1 R2) s1.cps.toList d).length := Paired.length pu2
    refine ⟨_, rfl, _, rfl, .ref Lb, us.length, rfl, .inl ⟨_, SqL.of hL2, rfl⟩, _, _, rfl, rfl, _, rfl, ?_⟩
    by_cases cl : d < us.length
    · have hp : (bfs (nxB s1 s2 R1 R2) s1.cps.toList d)[d]? = some ((bfs (nxB s1 s2 R1 R2) s1.cps.toList d)[d]'(by omega)) := List.getElem?_eq_getElem (by omega)
      generalize (bfs (nxB s1 s2 R1 R2) s1.cps.toList d)[d]'(by omega) = p at hp
      have ip : In2 R1.length R2.length p := bfs_in i0 hin d p (List.mem_of_getElem? hp)
      have e1 : bfs (nxB s1 s2 R1 R2) s1.cps.toList (d + 1) = turnB (nxB s1 s2 R1 R2) p (bfs (nxB s1 s2 R1 R2) s1.cps.toList d) s1.cps.toList := by
        show (match (bfs (nxB s1 s2 R1 R2) s1.cps.toList d)[d]? with
          | some p => turnB (nxB s1 s2 R1 R2) p (bfs (nxB s1 s2 R1 R2) s1.cps.toList d) s1.cps.toList
          | none => bfs (nxB s1 s2 R1 R2) s1.cps.toList d) = _
        rw [hp]
      rw [decide_eq_true (by omega : ((d : Nat) : Int) < (us.length : Nat))]
      refine iteT ⟨fun σ' H' => ∃ (o6 o7 : Option V) (us' : List V), σ' = [some (.str s1), some (.ref t1), some (.str s2), some (.ref t2), some (.ref Lb), some (.int ((d + 1 : Nat) : Int)), o6, o7] ∧ Same H H' ∧ H' Lb = some (.lst us') ∧ Paired (PrAt H') us' (bfs (nxB s1 s2 R1 R2) s1.cps.toList (d + 1)), ?_, ?_⟩
      · rintro σ' H' ⟨o6', o7', us', rfl, s', hL', pu'⟩
        refine ⟨m - 1, ?_, d + 1, o6', o7', us', ?_, rfl, fun j h => ?_, s', hL', pu'⟩
        · have := few d; omega
        · have := few d; omega
        · rcases Nat.lt_succ_iff_lt_or_eq.mp h with h | rfl
          · exact hj j h
          · omega
      refine ⟨_, rfl, s1, rfl, ?_⟩
      refine for_it walk_str (fun j σ H' => (∃ o6 o7 : Option V, σ = [some (.str s1), some (.ref t1), some (.str s2), some (.ref t2), some (.ref Lb), some (.int (d : Nat)), o6, o7]) ∧ Same H H' ∧ ∃ us', H' Lb = some (.lst us') ∧ Paired (PrAt H') us' (turnB (nxB s1 s2 R1 R2) p (bfs (nxB s1 s2 R1 R2) s1.cps.toList d) (s1.cps.toList.take j)))
        ⟨⟨_, _, rfl⟩, s2', us, hL2, pu2⟩ (fun _ _ _ _ _ => trivial) ?_ ?_
      · rintro j x σ _ H3 hjj ⟨⟨o6', o7', rfl⟩, s3, us3, hL3, pu3⟩ ⟨rfl, c, hc, rfl⟩
        have hc' : s1.cps.toList[j]? = some c := by rw [Array.getElem?_toList]; exact hc
        have cm := List.mem_of_getElem? hc'
        have tk : s1.cps.toList.take (j + 1) = s1.cps.toList.take j ++ [c] := by rw [List.take_add_one, hc']; rfl
        have tn : turnB (nxB s1 s2 R1 R2) p (bfs (nxB s1 s2 R1 R2) s1.cps.toList d) (s1.cps.toList.take (j + 1)) = addB (nxB s1 s2 R1 R2) p (turnB (nxB s1 s2 R1 R2) p (bfs (nxB s1 s2 R1 R2) s1.cps.toList d) (s1.cps.toList.take j)) c := by
          rw [tk]
          unfold turnB
          rw [List.foldl_append]
          rfl
        rw [tn]
        have hp3 : (turnB (nxB s1 s2 R1 R2) p (bfs (nxB s1 s2 R1 R2) s1.cps.toList d) (s1.cps.toList.take j))[d]? = some p := turn_pre hp
        have ln : (turnB (nxB s1 s2 R1 R2) p (bfs (nxB s1 s2 R1 R2) s1.cps.toList d) (s1.cps.toList.take j)).length ≤ 256 := Nat.le_trans (in2_few (turn_nodup (bfs_nodup d)) (turn_in (fun c hc => hin p ip c (List.mem_of_mem_take hc)) (bfs_in i0 hin d))) (Nat.mul_le_mul w1.l16 w2.l16)
        generalize turnB (nxB s1 s2 R1 R2) p (bfs (nxB s1 s2 R1 R2) s1.cps.toList d) (s1.cps.toList.take j) = ls at pu3 hp3 ln ⊢
        have l3 : us3.length = ls.length := Paired.length pu3
        have dl : d < us3.length := by rw [l3]; exact (List.getElem?_eq_some_iff.mp hp3).1
        have hu3 : us3[d]? = some us3[d] := List.getElem?_eq_getElem dl
        obtain ⟨p', hp', b, eb, hb⟩ := pat pu3 hu3
        rw [hp3] at hp'
        obtain rfl := Option.some.inj hp'
        rw [eb] at hu3
        obtain ⟨a1, vs1, j1, b1, kv1, g11, g12, g13, g14, g15, g16⟩ := way_list w1.F pR1 ip.1 cm
        obtain ⟨a2, vs2, j2, b2, kv2, g21, g22, g23, g24, g25, g26⟩ := way_list w2.F pR2 ip.2 (inn c cm)
        refine ⟨_, rfl, t1, _, 0, _, rfl, rfl, SqT.of (s3 _ _ ht1), atI_nat (j := 0) rfl, _, rfl, _, rfl, Lb, us3, (d : Nat), _, rfl, rfl, SqL.of hL3, atI_nat hu3, b, _, 0, _, rfl, rfl, SqT.of hb, atI_nat (j := 0) rfl, r1, rv1, (p.1 : Nat), _, rfl, rfl, SqL.of (s3 _ _ hr1), atI_nat g11, _, rfl, rfl, _, rfl, s1, c, j1, rfl, rfl, g13, g14, a1, vs1, (j1 : Nat), _, rfl, rfl, SqL.of (s3 _ _ g12), atI_nat g15, b1, _, 0, _, rfl, rfl, SqT.of (s3 _ _ g16), atI_nat (j := 0) rfl, ?_⟩
        refine ⟨_, rfl, t2, _, 0, _, rfl, rfl, SqT.of (s3 _ _ ht2), atI_nat (j := 0) rfl, _, rfl, _, rfl, Lb, us3, (d : Nat), _, rfl, rfl, SqL.of hL3, atI_nat hu3, b, _, 1, _, rfl, rfl, SqT.of hb, atI_nat (j := 1) rfl, r2, rv2, (p.2 : Nat), _, rfl, rfl, SqL.of (s3 _ _ hr2), atI_nat g21, _, rfl, rfl, _, rfl, s2, c, j2, rfl, rfl, g23, g24, a2, vs2, (j2 : Nat), _, rfl, rfl, SqL.of (s3 _ _ g22), atI_nat g25, b2, _, 0, _, rfl, rfl, SqT.of (s3 _ _ g26), atI_nat (j := 0) rfl, ?_⟩
        refine ⟨by show 2 ≤ sizeLine; decide, fun bb hbb => ?_⟩
        have hb4 : (upd H3 bb (.tup [.int (nxW s1 R1 p.1 c : Nat), .int (nxW s2 R2 p.2 c : Nat)])) bb = some (.tup [.int ((nxB s1 s2 R1 R2 p c).1 : Nat), .int ((nxB s1 s2 R1 R2 p c).2 : Nat)]) := upd_same
        have s34 : Same H3 (upd H3 bb (.tup [.int (nxW s1 R1 p.1 c : Nat), .int (nxW s2 R2 p.2 c : Nat)])) := Same.upd hbb
        generalize upd H3 bb (.tup [.int (nxW s1 R1 p.1 c : Nat), .int (nxW s2 R2 p.2 c : Nat)]) = H4 at hb4 s34 ⊢
        have hL4 := s34 _ _ hL3
        have pu4 : Paired (PrAt H4) us3 ls := L2.Paired.mapP pu3 fun _ _ z => z.keep fun b xs y => s34 _ _ y
        have s04 : Same H H4 := fun b o z => s34 _ _ (s3 _ _ z)
        refine ⟨_, rfl, _, rfl, prD (nxB s1 s2 R1 R2 p c), ls.map prD, dp_pr hb4, .lst (SqL.of hL4) (dp_prs pu4), (sh_pr _).ok (by decide), (Sh.list (n := 1) fun x hx => by
          obtain ⟨q, _, rfl⟩ := List.mem_map.mp hx
          exact sh_pr q).ok (by decide), _, rfl, ?_⟩
        rw [any_pr]
        unfold addB
        by_cases mem : nxB s1 s2 R1 R2 p c ∈ ls
        · rw [if_pos mem]
          exact ifFn mem ⟨⟨_, _, rfl⟩, s04, us3, hL4, pu4⟩
        · rw [if_neg mem]
          refine ifTn mem ⟨_, rfl, .inl ⟨rfl, _, SqL.of hL4⟩, _, rfl, Lb, us3, _, rfl, rfl, hL4, by rw [l3, sizeLine_eq]; omega, ⟨_, _, rfl⟩, fun b o z => ?_, us3 ++ [.ref bb], upd_same, ?_⟩
          · rw [upd_ne (ne_of_none z nL)]; exact s04 _ _ z
          · have k6 : ∀ b xs, H4 b = some (.tup xs) → (upd H4 Lb (.lst (us3 ++ [.ref bb]))) b = some (.tup xs) := fun b xs z => by
              rw [upd_ne (ne_of z hL4 (by intro y; cases y))]; exact z
            exact psnoc (L2.Paired.mapP pu4 fun _ _ z => z.keep k6) ⟨bb, rfl, k6 _ _ hb4⟩
      · rintro σ H3 ⟨⟨o6', o7', rfl⟩, s3, us3, hL3, pu3⟩
        have e2 : s1.cps.toList.take s1.cps.size = s1.cps.toList := List.take_of_length_le (by rw [Array.length_toList]; exact Nat.le_refl _)
        rw [e2, ← e1] at pu3
        refine ⟨_, rfl, _, _, rfl, rfl, _, _, us3, rfl, s3, hL3, pu3⟩
    · rw [decide_eq_false (by omega : ¬ ((d : Nat) : Int) < (us.length : Nat))]
      refine iteF ⟨_, rfl, .ref Lb, us.length, rfl, .inl ⟨_, SqL.of hL2, rfl⟩, ?_⟩
      rw [lu]
      exact k d H2 ⟨hj, by omega⟩ s2'
end
end Kx

/-! list(text) -/
namespace Own
open PySem PySem.Spec L2 PyProof.Rows PySem.Froz
def rListX : List V → Hp → VK → Prop := fun vs H Q => ∃ y : Str, vs = [.str y] ∧ y.cps.size ≤ sizeLine ∧ ∀ p : Addr, H p = none → Q (.ref p) (upd H p (.lst ((letters y).map V.str)))
theorem cr_listX {X : Cx} (hc : X.calm = true) : CallR X (.type "list") rListX := by
  intro pins s σ H vs us Q I r h
  obtain ⟨y, rfl, hz, q⟩ := h
  obtain ⟨u, rfl, t, rfl⟩ := vals1 r
  refine call_list_str (I.ok.hd hc) y t (fun h' tk acc c k g it => ?_) hz
  have lz : ((letters y).map V.str).length ≤ sizeLine := by rw [List.length_map]; unfold letters; rw [List.length_map, Array.length_toList]; exact hz
  exact ⟨.ref s.heap.objs.size, _, I.laid (t' := tk) k (Nat.le_refl _) (show ObjOk X.prog X.w _ h' _ (.lst _) from ⟨lz, acc.toList, c, vals_of_strs (items_letters it), by simpa using g⟩), rfl, q _ (I.hok.fresh (Nat.le_refl _))⟩
end Own

namespace Kx
open PySem L2 Own PinX DicN
abbrev s__law_isb : Stmt := top 52
structure BAd where
  fs : Addr
  ds : FuncData
  fb : Addr
  db : FuncData
  fc : Addr
  dc : FuncData
  fe : Addr
  de : FuncData
  ce : Addr
  Pe : Addr
  fl : Addr
  dl : FuncData
  fp : Addr
  dp : FuncData
  fo : Addr
  do_ : FuncData
  fr : Addr
  dr : FuncData
structure TxtIb (K : PySem.W.Frag) (mg : Str → Option Value) (base : Heap) (N : List NdefX.NTab) (A : EAd) (B : MAd) (Z : CAd) (S : SAd) (U : Addr) (L : LAd) (D : SoAd) (G : BAd) (f : Addr) (d : FuncData) : Prop where
  M : TxtM K mg B
  E : TxtE K mg A
  C : TxtC K mg Z
  S : TxtS K mg A Z S
  Sm : TxtSm K mg G.fs G.ds
  Bu : TxtBu K mg G.fb G.db
  Co : TxtCo K mg G.fc G.dc
  Be : TxtBe K mg base N A U G.fe G.de G.ce G.Pe
  Lb : TxtLb K mg A U G.fl G.dl
  Lp : TxtLp K mg G.fp G.dp
  So : TxtSo K mg L D G.fo G.do_
  R : TxtR K mg G.fr G.dr
  L : TxtL K mg L
  D__law_is_beside : DefT K mg "_law_is_beside" "_law_is_beside" s__law_isb ["pen"] f d
  n_list : mg "list" = none
  n_len : mg "len" = none
  n_range : mg "range" = none
  n_str : mg "str" = none
  n_set : mg "set" = none
  n_sorted : mg "sorted" = none
  n_tuple : mg "tuple" = none
  n_isinstance : mg "isinstance" = none
  ha : PySem.W.findIn K (.ref Z.C) "__class__" = some (some (.builtin "object.__class__"))
  hn : PySem.W.specialIn K (.builtin "object.__class__") "__get__" = some (some (.builtin "getset_descriptor.__get__"))
  ht : PySem.W.takesIn K (.builtin "object.__class__") = some true
  hm : PySem.W.mroIn K Z.C (.type "object") = some true
def spIsB (N : List NdefX.NTab) : Sp := fun vs H Q _ => ∃ (p c : Addr) (n : Nat), vs = [.ref p] ∧ PenAt H p c n ∧ n + 1500 ≤ 1000000 ∧ NdefX.TabsN N H ∧ ∀ H', PenAt H' p c (n + 1500) → NdefX.TabsN N H' → Q (.bl true) H'
abbrev Nib : List Str := ["pen", "signs", "left", "mates", "words", "one", "other", "single", "second", "made", "text", "both", "letters", "strange", "k", "letter", "sign"]
theorem sc_isb : FnScope Nib ["pen"] (defScope s__law_isb) := ⟨rfl, rfl, rfl, by decide +kernel, rfl, by decide +kernel, by decide +kernel⟩
theorem tabs_ok {sg : Str} {R : List (List Way)} {Es : List (List Str)} {many : Nat} {ws : List Str} (nd : sg.cps.toList.Nodup) (z4 : sg.cps.size ≤ 4) (low : ∀ c ∈ sg.cps.toList, c < 128) (m0 : 0 < many) (m16 : many ≤ 16) (lR : R.length = many) (lE : Es.length = many)
    (gR : ∀ row ∈ R, row.length = sg.cps.size ∧ ∀ w ∈ row, GoodW many ws w) (gE : ∀ ks ∈ Es, KeyOk ws ks) (w12 : ws.length ≤ 12) :
    Few sg R Es ∧ R.map nrm = R ∧ Es.map kl = Es ∧ (∀ q ∈ R, q.length = sg.cps.size ∧ ∀ w ∈ q, Okw R.length w ∧ w.2.length ≤ 4) ∧ (∀ ks ∈ Es, ks.length ≤ 4) ∧ (∀ y ∈ keysOfRows R ++ Es.flatten, y ∈ ws) ∧ (keysA R Es).length ≤ 12 := by
  have hR : ∀ q ∈ R, q.length = sg.cps.size ∧ ∀ w ∈ q, Okw R.length w ∧ w.2.length ≤ 2 ∧ kl w.2 = w.2 ∧ ∀ y ∈ w.2, y ∈ ws := fun q hq => ⟨(gR q hq).1, fun w hw => by
    obtain ⟨h1, h2, h3, h4, h5⟩ := (gR q hq).2 w hw
    exact ⟨⟨h1, by rw [lR]; exact h2⟩, h4, h5, h3⟩⟩
  have hE : ∀ ks ∈ Es, ks.length ≤ 2 ∧ kl ks = ks ∧ ∀ y ∈ ks, y ∈ ws := fun ks hks => by
    obtain ⟨h3, h4, h5⟩ := gE ks hks
    exact ⟨h4, h5, h3⟩
  have inW : ∀ y ∈ keysOfRows R ++ Es.flatten, y ∈ ws := fun y hy => by
    rcases List.mem_append.mp hy with hy | hy
    · obtain ⟨q, hq, hy⟩ := List.mem_flatMap.mp hy
      obtain ⟨w, hw, hy⟩ := List.mem_flatMap.mp hy
      exact ((hR q hq).2 w hw).2.2.2 y hy
    · obtain ⟨ks, hks, hy⟩ := List.mem_flatten.mp hy
      exact (hE ks hks).2.2 y hy
  have row4 : ∀ q ∈ R, q.length = sg.cps.size ∧ ∀ w ∈ q, Okw R.length w ∧ w.2.length ≤ 4 := fun q hq => ⟨(hR q hq).1, fun w hw => ⟨((hR q hq).2 w hw).1, by have := ((hR q hq).2 w hw).2.1; omega⟩⟩
  have end4 : ∀ ks ∈ Es, ks.length ≤ 4 := fun ks hks => by have := (hE ks hks).1; omega
  have k12 : (keysA R Es).length ≤ 12 := Nat.le_trans (nd_sub_len (m := ws) (kl_nodup _) fun y hy => inW y (kl_mem.mp hy)) w12
  exact ⟨⟨full_of nd z4 row4 (by omega) (by omega) (by omega) end4, z4, low, by omega, ⟨fun q hq w hw => ((hR q hq).2 w hw).2.1, fun ks hks => (hE ks hks).1⟩, k12⟩, map_same fun q hq => nrm_same fun w hw => ((hR q hq).2 w hw).2.2.1, map_same fun ks hks => (hE ks hks).2.1, row4, end4, inW, k12⟩
def txL (m : List Nat) : Str := ⟨m.toArray⟩
theorem txL_list (m : List Nat) : (txL m).cps.toList = m := rfl
theorem cut_map9 {α β : Type} (g : α → β) : ∀ (xs : List α) (i : Nat), (xs.map g).eraseIdx i = (xs.eraseIdx i).map g
  | [], _ => rfl
  | _ :: _, 0 => rfl
  | a :: r, i + 1 => congrArg (g a :: ·) (cut_map9 g r i)
theorem cut_perm9 {α : Type} {x : α} : ∀ {xs : List α} {i : Nat}, xs[i]? = some x → (x :: xs.eraseIdx i).Perm xs
  | [], i, h => by cases i <;> cases h
  | a :: r, 0, h => by
    have e : a = x := Option.some.inj h
    subst e
    exact .refl _
  | a :: r, i + 1, h => by
    have ih := cut_perm9 (xs := r) (i := i) h
    exact (List.Perm.swap a x _).trans (ih.cons a)
theorem ixAt9 {n j : Nat} (hj : j < n) : ixN n (j : Int) = some j := by
  have h : (j : Int) < n := Int.ofNat_lt.mpr hj
  simp only [ixN, Int.natCast_nonneg, if_true, h, Int.toNat_natCast]
theorem str_tl9 {x y : Str} (h : TL.tl x = TL.tl y) : x = y := by
  have e : x.cps = y.cps := Array.toList_inj.mp h
  cases x; cases y
  exact congrArg Str.mk e
theorem txL_snoc (m : List Nat) (x : Nat) : txL m ++ Froz.sing x = txL (m ++ [x]) := by
  refine str_tl9 ?_
  rw [TL.tl_append]
  rfl
def wordN (j : Nat) : Str := "k" ++ Str.ofString (toString ((j : Nat) : Int))
def wordsN (k : Nat) : List Str := (List.range k).map wordN
theorem word_len : ∀ j, j < 14 → (wordN j).length ≤ 100 := by decide +kernel
theorem words_len (k : Nat) : (wordsN k).length = k := by unfold wordsN; rw [List.length_map, List.length_range]
theorem words_snoc (k : Nat) : wordsN (k + 1) = wordsN k ++ [wordN k] := by unfold wordsN; rw [List.range_succ, List.map_append]; rfl
theorem words_ok : ∀ y ∈ wordsN 14, PyData.strOk y = true := by decide +kernel
theorem words_sub {k : Nat} (h : k ≤ 14) : ∀ y ∈ wordsN k, y ∈ wordsN 14 := fun y hy => by
  unfold wordsN at hy ⊢
  obtain ⟨j, hj, e⟩ := List.mem_map.mp hy
  exact List.mem_map.mpr ⟨j, List.mem_range.mpr (by have := List.mem_range.mp hj; omega), e⟩
theorem pick4 {i : Nat} {v : V} (h : ([V.int 4, V.int 4, V.int 4, V.int 14] : List V)[i]? = some v) : ∃ k : Nat, v = V.int (k : Int) ∧ (k = 4 ∨ k = 14) := by
  match i, h with
  | 0, h => exact ⟨4, (Option.some.inj h).symm, .inl rfl⟩
  | 1, h => exact ⟨4, (Option.some.inj h).symm, .inl rfl⟩
  | 2, h => exact ⟨4, (Option.some.inj h).symm, .inl rfl⟩
  | 3, h => exact ⟨14, (Option.some.inj h).symm, .inr rfl⟩
  | i + 4, h => cases h
theorem full_be {s1 s2 : Str} {R1 R2 : List (List Way)} {E1 E2 : List (List Str)} {n : Nat} (w1 : Few s1 R1 E1) (w2 : Few s2 R2 E2) (pm : s1.cps.toList.Perm s2.cps.toList) (ov : Over (nxB s1 s2 R1 R2) s1.cps.toList n) (l16 : (bfs (nxB s1 s2 R1 R2) s1.cps.toList n).length ≤ 16) : Full s1 ((rowsBe s1 s2 R1 R2 n).map nrm) ((endsBe s1 s2 R1 R2 E1 E2 n).map kl) := by
  have hin : ∀ p, In2 R1.length R2.length p → ∀ c ∈ s1.cps.toList, In2 R1.length R2.length (nxB s1 s2 R1 R2 p c) := fun p hp c _ => ⟨(w1.F.run hp.1 [c]).1, (w2.F.run hp.2 [c]).1⟩
  have bin := bfs_in (n1 := R1.length) (n2 := R2.length) ⟨w1.F.pos, w2.F.pos⟩ hin n
  have fst : 0 < (bfs (nxB s1 s2 R1 R2) s1.cps.toList n).length := (List.getElem?_eq_some_iff.mp (bfs_first n)).1
  have lab : ∀ i, i < (bfs (nxB s1 s2 R1 R2) s1.cps.toList n).length → labB (nxB s1 s2 R1 R2) s1.cps.toList n i ∈ bfs (nxB s1 s2 R1 R2) s1.cps.toList n := fun i hi => by
    unfold labB
    rw [List.getD_eq_getElem?_getD, List.getElem?_eq_getElem hi]
    exact List.getElem_mem hi
  have lR : (rowsBe s1 s2 R1 R2 n).length = (bfs (nxB s1 s2 R1 R2) s1.cps.toList n).length := by unfold rowsBe rowsB; rw [List.length_map, List.length_range]
  have lE : (endsBe s1 s2 R1 R2 E1 E2 n).length = (bfs (nxB s1 s2 R1 R2) s1.cps.toList n).length := by unfold endsBe endsB; rw [List.length_map, List.length_range]
  refine full_nrm w1.F.nd w1.z4 (fun q hq => ?_) (by rw [lR]; exact l16) (by rw [lR]; exact fst) (by rw [lR, lE]) fun ks hks => ?_
  · obtain ⟨i, hi, rfl⟩ := List.mem_map.mp hq
    have hi := List.mem_range.mp hi
    refine ⟨by unfold rowB; rw [List.length_map]; exact Array.length_toList, fun u hu => ?_⟩
    obtain ⟨c, hc, rfl⟩ := List.mem_map.mp hu
    have ml := lab i hi
    rw [lR]
    refine ⟨⟨Int.natCast_nonneg _, ?_⟩, gv_four w1 w2 (bin _ ml) hc (pm.mem_iff.mp hc)⟩
    exact Int.ofNat_lt.mpr (List.idxOf_lt_length_of_mem (over_closed ov ml hc))
  · obtain ⟨i, hi, rfl⟩ := List.mem_map.mp hks
    exact end_four w1 w2
theorem one_left9 {sg : Str} (z4 : sg.cps.size ≤ 4) : (("abcde" : Str).cps.toList.filter fun c => !decide (c ∈ sg.cps.toList)) ≠ [] := fun h => by
  have all : ∀ c ∈ ("abcde" : Str).cps.toList, c ∈ sg.cps.toList := fun c hc => by
    have := List.filter_eq_nil_iff.mp h c hc
    simpa using this
  have := nd_sub_len (show ("abcde" : Str).cps.toList.Nodup by decide +kernel) all
  have e : ("abcde" : Str).cps.toList.length = 5 := rfl
  rw [e, Array.length_toList] at this
  omega
theorem cut1_tl9 (x : Str) : TL.tl (cutS x (some 1) none) = (TL.tl x).drop 1 := by
  have e1 : HT.sIx x.length 0 (some 1) = min 1 x.length := HT.sIx_nat ..
  show ((x.cps.toList.drop (HT.sIx x.length 0 (some 1))).take (HT.sIx x.length x.length none - HT.sIx x.length 0 (some 1))).toArray.toList = _
  rw [HT.sIx_none, e1]
  show (x.cps.toList.drop (min 1 x.length)).take (x.length - min 1 x.length) = x.cps.toList.drop 1
  have l : x.cps.toList.length = x.length := Array.length_toList
  rw [List.take_of_length_le (by rw [List.length_drop]; omega)]
  by_cases h : 1 ≤ x.length
  · rw [Nat.min_eq_left h]
  · rw [List.drop_of_length_le (i := 1) (by omega), List.drop_of_length_le (by omega)]
theorem cut_to {xs : List Str} (k : Nat) : cutV (xs.map V.str) none (some (k : Int)) = (xs.take k).map V.str := by
  unfold cutV
  rw [HT.sIx_none, HT.sIx_nat, List.drop_zero, Nat.sub_zero, List.map_take]
  by_cases h : k ≤ (xs.map V.str).length
  · rw [Nat.min_eq_left h]
  · rw [Nat.min_eq_right (by omega), List.take_of_length_le (Nat.le_refl _), List.take_of_length_le (by omega)]
theorem cut_off {xs : List Str} (k : Nat) (h : k ≤ xs.length) : cutV (xs.map V.str) (some (k : Int)) none = (xs.drop k).map V.str := by
  unfold cutV
  rw [HT.sIx_none, HT.sIx_nat, List.map_drop, Nat.min_eq_left (by rw [List.length_map]; exact h), List.take_of_length_le]
  rw [List.length_drop]
  exact Nat.le_refl _
section
variable {P : Program} {w : World} {K : PySem.W.Frag} {mg : Str → Option Value} {base : Heap} {N : List NdefX.NTab} {A : EAd} {B : MAd} {Z : CAd} {S : SAd} {U : Addr} {L : LAd} {D : SoAd} {G : BAd} {f : Addr} {d : FuncData}
theorem ok_isb (T : TxtIb K mg base N A B Z S U L D G f d) : FnOk P w K mg base CX0 10 f d ["pen"] (spIsB N) := by
  have sc := sc_isb
  have G_draw : FnOk P w K mg base CX0 1 L.p2 L.q2 ["pen", "many"] spDraw := ok_draw T.L.pen
  have G_pick : FnOk P w K mg base CX0 2 L.p3 L.q3 ["pen", "items"] spPick := ok_pick T.L.pen
  have G_signs : FnOk P w K mg base CX0 2 L.f1 L.d1 ["pen", "many"] spSigns := ok_signs T.L
  have G_tables : FnOk P w K mg base CX0 4 L.f3 L.d3 ["pen", "signs", "most", "words"] spTables := ok_tables T.L
  have G_init : FnOk P w K mg base (L2.CX P w) 5 Z.f Z.d ["self", "signs", "rows", "ends"] (spInit K A Z) := ok_init T.M T.E T.C
  have G_lbe : FnOk P w K mg base CX0 9 G.fl G.dl ["one", "other"] (spLBe Z N) := ok_lbe T.M T.E T.C T.S T.Sm T.Bu T.Co T.Be T.Lb
  have G_pairs : FnOk P w K mg base CX0 1 G.fp G.dp ["signs", "one", "mates", "other"] spPairs := ok_pairs T.Lp
  have G_some : FnOk P w K mg base CX0 4 G.fo G.do_ ["pen", "signs"] spSome := ok_some T.So
  have G_read : FnOk P w K mg base CX0 1 G.fr G.dr ["signs", "tables", "text"] spRead := ok_read T.R
  have G_keys : FnOk P w K mg base (L2.CX P w) 5 S.fk S.dk ["self", "text"] (spAsk Z S ansKeys) := ok_keys_of T.M T.E T.C T.S
  refine T.D__law_is_beside.F.ok sc (fun vs H Q E h => ?_) (fun cdv A1 outer s H vs Q E hr h => ?_)
  · obtain ⟨_, _, _, rfl, _⟩ := h; rfl
  · obtain ⟨p, c, n, rfl, pen0, hn, hT, kQ⟩ := h
    have hu := hu_of hr
    refine ⟨_, (pss_cons (ps_asg (pe_tup (pa_cons (pe_call G_signs (hr.mono (by decide)) rfl T.L.D__law_signs.g T.L.D__law_signs.F.kp T.L.D__law_signs.b .nil pass0 (pa_cons (pv 0) (pa_cons (pe_op op_add pe_int (pe_call G_draw (hr.mono (by decide)) rfl T.L.pen.D__law_draw.g T.L.pen.D__law_draw.F.kp T.L.pen.D__law_draw.b .nil pass0 (pa_cons (pv 0) (pa_cons pe_int pa_nil)))) pa_nil))) (pa_cons (pe_lst pa_nil) (pa_cons pe_str pa_nil)))) (pg_tup rfl (pgs_cons (pg_name (i := 1) sc.nd rfl (Or.inr rfl)) (pgs_cons (pg_name (i := 2) sc.nd rfl (Or.inl rfl)) (pgs_cons (pg_name (i := 3) sc.nd rfl (Or.inl rfl)) pgs_nil)))))
      (pss_cons (ps_set (i := 2) sc.nd rfl (Or.inl rfl) (pe_callTy (cr_listX rfl) (by rfl) T.n_list (by decide +kernel) (pa_cons (pv 1) pa_nil)))
      (pss_cons (ps_while PassesOwn.never (pt_cmpR (op_neD hr.units) (pv 2) (pe_lst pa_nil) (nomark _)) (pss_one (ps_set (i := 3) sc.nd rfl (Or.inl rfl) (pe_op op_add_str (pv 3) (pe_bm PySem.F.plainAttrs_list PySem.F.slot_list_pop PySem.F.type_list_pop mt_popAt (pv 2) (pa_cons (pe_call G_draw (hr.mono (by decide)) rfl T.L.pen.D__law_draw.g T.L.pen.D__law_draw.F.kp T.L.pen.D__law_draw.b .nil pass0 (pa_cons (pv 0) (pa_cons (pe_callB call_len (by rfl) T.n_len (by decide +kernel) (pa_cons (pv 2) pa_nil)) pa_nil))) pa_nil))))))
      (pss_cons (ps_setLc (i := 4) (own := [("k", 14)]) (g := gName 14) (tt := tYes) (te := tOp rCatS (tC (.str "k")) (tCB (fun xs H Q => ∃ i, xs = [V.int i] ∧ i.natAbs.log2 < 1920 ∧ Q (V.str (toString i)) H) (tCons (tVar 14) tNil))) rfl sc.nd rfl rfl (sw_true rfl rfl rfl (by decide +kernel)) (pi_range1 rfl T.n_range (pa_cons (pe_call G_pick (hr.mono (by decide)) rfl T.L.pen.D__law_pick.g T.L.pen.D__law_pick.F.kp T.L.pen.D__law_pick.b .nil pass0 (pa_cons (pv 0) (pa_cons (pe_lst (pa_cons pe_int (pa_cons pe_int (pa_cons pe_int (pa_cons pe_int pa_nil))))) pa_nil))) pa_nil)) (blkOk_by (N := Nib) (sc := defScope s__law_isb) (own := [("k", 14)]) (by decide +kernel)) (fun _ _ _ _ _ => (pg_name (i := 14) sc.nd rfl (Or.inl rfl))) (fun _ _ _ _ _ => pts_nil) (fun _ _ _ _ _ => (pe_op op_add_str pe_str (pe_callTy call_str_int (by rfl) T.n_str (by decide +kernel) (pa_cons (pv 14) pa_nil)))))
      (pss_cons (ps_set (i := 5) sc.nd rfl (Or.inl rfl) (pe_call G_tables (hr.mono (by decide)) rfl T.L.D__law_tables.g T.L.D__law_tables.F.kp T.L.D__law_tables.b .nil pass0 (pa_cons (pv 0) (pa_cons (pv 1) (pa_cons pe_int (pa_cons (pe_slice sl_list (pv 4) po_none (po_some (pe_op op_add (pe_op op_fdivN (pe_callB call_len (by rfl) T.n_len (by decide +kernel) (pa_cons (pv 4) pa_nil)) pe_int) pe_int))) pa_nil))))))
      (pss_cons (ps_set (i := 6) sc.nd rfl (Or.inl rfl) (pe_call G_tables (hr.mono (by decide)) rfl T.L.D__law_tables.g T.L.D__law_tables.F.kp T.L.D__law_tables.b .nil pass0 (pa_cons (pv 0) (pa_cons (pv 3) (pa_cons pe_int (pa_cons (pe_slice sl_list (pv 4) (po_some (pe_op op_sub (pe_op op_fdivN (pe_callB call_len (by rfl) T.n_len (by decide +kernel) (pa_cons (pv 4) pa_nil)) pe_int) pe_int)) po_none) pa_nil))))))
      (pss_cons (ps_par (i := 7) (j := 8) rfl sc.nd rfl rfl (by decide) rfl rfl (pa_cons (pe_make T.C.make G_init (hr.mono (by decide)) rfl T.C.g T.C.b .nil (passX0 fun _ _ _ h => h) (pa_cons (pv 1) (pa_cons (pe_ix ix_tup (pv 5) pe_int (fun _ _ => rfl)) (pa_cons (pe_ix ix_tup (pv 5) pe_int (fun _ _ => rfl)) pa_nil)))) (pa_cons (pe_make T.C.make G_init (hr.mono (by decide)) rfl T.C.g T.C.b .nil (passX0 fun _ _ _ h => h) (pa_cons (pv 3) (pa_cons (pe_ix ix_tup (pv 6) pe_int (fun _ _ => rfl)) (pa_cons (pe_ix ix_tup (pv 6) pe_int (fun _ _ => rfl)) pa_nil)))) pa_nil)) rfl)
      (pss_cons (ps_set (i := 9) sc.nd rfl (Or.inl rfl) (pe_call G_lbe (hr.mono (by decide)) rfl T.Lb.D__law_beside.g T.Lb.D__law_beside.F.kp T.Lb.D__law_beside.b .nil pass0 (pa_cons (pv 7) (pa_cons (pv 8) pa_nil))))
      (pss_cons (ps_if (pt_cmpR op_gt (pe_callB cr_lenT (by rfl) T.n_len (by decide +kernel) (pa_cons (pe_callTy (cr_setT rfl) (by rfl) T.n_set (by decide +kernel) (pa_cons (pe_op op_catA (pe_fld (pv 7) rfl) (pe_fld (pv 8) rfl)) pa_nil)) pa_nil)) pe_int (nomark _)) (pss_one (ps_ret (pe_cmpR op_eq (pv 9) pe_str (nomark _)))) pss_nil)
      (pss_cons (ps_if (pt_cmpR op_gt (pe_call G_pairs (hr.mono (by decide)) rfl T.Lp.D__law_pairs.g T.Lp.D__law_pairs.F.kp T.Lp.D__law_pairs.b .nil pass0 (pa_cons (pv 1) (pa_cons (pv 5) (pa_cons (pv 3) (pa_cons (pv 6) pa_nil))))) pe_int (nomark _)) (pss_one (ps_ret (pe_cmpR op_eq (pv 9) pe_str (nomark _)))) pss_nil)
      (pss_cons (ps_if (PW.pt (pw_or (pt_not (pt_val (pe_callB call_isi (by rfl) T.n_isinstance (by decide +kernel) (pa_cons (pv 9) (pa_cons (pe_glob (v := .ref Z.C) rfl T.C.g rfl) pa_nil))))) (pw_or1 (pt_cmpR op_ne (pe_fld (pv 9) rfl) (pv 1) (nomark _))))) (pss_one (ps_ret pe_bl)) pss_nil)
      (pss_cons (ps_for PassesOwn.never rfl (pi_list (pe_call G_some (hr.mono (by decide)) rfl T.So.D__law_some_texts.g T.So.D__law_some_texts.F.kp T.So.D__law_some_texts.b .nil pass0 (pa_cons (pv 0) (pa_cons (pv 1) pa_nil)))) (pg_name (i := 10) sc.nd rfl (Or.inl rfl)) (pss_cons (ps_set (i := 11) sc.nd rfl (Or.inl rfl) (pe_op op_catA (pe_ix ix_tup (pe_call G_read (hr.mono (by decide)) rfl T.R.D__law_read.g T.R.D__law_read.F.kp T.R.D__law_read.b .nil pass0 (pa_cons (pv 1) (pa_cons (pv 5) (pa_cons (pv 10) pa_nil)))) pe_int (fun _ _ => rfl)) (pe_ix ix_tup (pe_call G_read (hr.mono (by decide)) rfl T.R.D__law_read.g T.R.D__law_read.F.kp T.R.D__law_read.b .nil pass0 (pa_cons (pv 3) (pa_cons (pv 6) (pa_cons (pv 10) pa_nil)))) pe_int (fun _ _ => rfl))))
      (pss_one (ps_if (pt_cmpR (op_neD hr.units) (pe_meth (pv 9) T.C.cl T.S.M_keys_of G_keys (hr.mono (by decide)) T.S.b_keys_of .nil (passX0 fun _ _ _ h => h) (pa_cons (pv 10) pa_nil)) (pe_tupleOf rfl T.n_tuple (pe_callB (cr_sortT rfl) (by rfl) T.n_sorted (by decide +kernel) (pa_cons (pe_callTy (cr_setT rfl) (by rfl) T.n_set (by decide +kernel) (pa_cons (pv 11) pa_nil)) pa_nil))) (nomark _)) (pss_one (ps_ret pe_bl)) pss_nil))))
      (pss_cons (ps_set (i := 12) sc.nd rfl (Or.inl rfl) (pe_op op_add_str (pe_slice sl_str (pv 1) (po_some pe_int) po_none) (pe_ix ix_list (pe_lc (own := [("letter", 15)]) (g := gName 15)  (te := tVar 15) rfl sc.nd (pi_str pe_str) (blkOk_by (N := Nib) (sc := defScope s__law_isb) (own := [("letter", 15)]) (by decide +kernel)) (fun _ _ _ _ _ => (pg_name (i := 15) sc.nd rfl (Or.inl rfl))) (fun _ _ _ _ _ => pts_one (pt_cmpR op_notIn_sign (pv 15) (pv 1) (by rfl))) (fun _ _ _ _ _ => pv 15)) pe_int (fun _ _ => rfl))))
      (pss_cons (ps_set (i := 13) sc.nd rfl (Or.inl rfl) (pe_make T.C.make G_init (hr.mono (by decide)) rfl T.C.g T.C.b .nil (passX0 fun _ _ _ h => h) (pa_cons (pv 12) (pa_cons (pe_lst (pa_cons (pe_lc (own := [("sign", 16)]) (g := gName 16) (tt := tYes) (te := tTup (tCons (tC (.int 0)) (tCons (tLst tNil) tNil))) rfl sc.nd (pi_str (pv 12)) (blkOk_by (N := Nib) (sc := defScope s__law_isb) (own := [("sign", 16)]) (by decide +kernel)) (fun _ _ _ _ _ => (pg_name (i := 16) sc.nd rfl (Or.inl rfl))) (fun _ _ _ _ _ => pts_nil) (fun _ _ _ _ _ => (pe_tup (pa_cons pe_int (pa_cons (pe_lst pa_nil) pa_nil))))) pa_nil)) (pa_cons (pe_lst (pa_cons (pe_lst pa_nil) pa_nil)) pa_nil)))))
      (pss_one (ps_ret (pe_and (pe_cmpR op_eq (pe_call G_lbe (hr.mono (by decide)) rfl T.Lb.D__law_beside.g T.Lb.D__law_beside.F.kp T.Lb.D__law_beside.b .nil pass0 (pa_cons (pv 7) (pa_cons (pv 13) pa_nil))) pe_str (nomark _)) (pe_one (pe_cmpR op_eq (pe_call G_lbe (hr.mono (by decide)) rfl T.Lb.D__law_beside.g T.Lb.D__law_beside.F.kp T.Lb.D__law_beside.b .nil pass0 (pa_cons (pv 13) (pa_cons (pv 8) pa_nil))) pe_str (nomark _)))))))))))))))))))), ?_⟩
    refine ⟨_, rfl, _, rfl, p, c, 4, n, rfl, pen0, by omega, by decide, by decide, fun r H1 r0 r1 pen1 sb1 => ?_⟩
    obtain ⟨r, rfl⟩ := Int.eq_ofNat_of_zero_le r0
    refine ⟨_, _, rfl, rfl, p, c, 1 + r, n + 1, by rw [Int.natCast_add]; rfl, pen1, by omega, by omega, fun sg H2 zs nd al pen2 sb2 => ?_⟩
    refine ⟨by show 0 ≤ sizeLine; decide, fun l0 hl0 => ⟨by show 3 ≤ sizeLine; decide, fun t0 ht0 => ?_⟩⟩
    refine ⟨t0, _, rfl, SqT.of upd_same, rfl, _, _, rfl, _, _, rfl, _, _, rfl, rfl, ?_⟩
    have pen3 : PenAt (upd (upd H2 l0 (.lst [])) t0 (.tup [.str sg, .ref l0, .str ""])) p c (n + 10) := ((pen2.keep (Same.upd hl0)).keep (Same.upd ht0)).mono (by omega)
    have sb3 : SameBut p H (upd (upd H2 l0 (.lst [])) t0 (.tup [.str sg, .ref l0, .str ""])) := ((sb1.trans sb2).trans (.new hl0)).trans (.new ht0)
    generalize upd (upd H2 l0 (.lst [])) t0 (.tup [.str sg, .ref l0, .str ""]) = H3 at pen3 sb3 ⊢
    clear pen1 pen2 sb1 sb2 hl0 ht0
    have z4 : sg.cps.size ≤ 4 := by omega
    have z1 : 1 ≤ sg.cps.size := by omega
    have lowA : ∀ c ∈ alpha, c < 128 := by decide +kernel
    have low : ∀ c ∈ sg.cps.toList, c < 128 := fun c hc => lowA c (al c hc)
    have ascL : ∀ {q : Str}, (∀ c ∈ q.cps.toList, c < 128) → q.cps.all (· < 128) = true := fun {q} h => by
      rw [← Array.all_toList, List.all_eq_true]
      exact fun x hx => decide_eq_true (h x hx)
    -- mates
    refine ⟨_, rfl, sg, rfl, by rw [sizeLine_eq]; omega, fun l5 hl5 => ?_⟩
    have hl5' : H l5 = none := none_back sb3 pen3 hl5
    have ap5 := pen3.apart hl5
    refine ⟨fun m σ H' => ∃ xs ms : List Nat, σ = [some (.ref p), some (.str sg), some (.ref l5), some (.str (txL ms)), none, none, none, none, none, none, none, none, none, none, none, none, none] ∧ H' l5 = some (.lst ((xs.map Froz.sing).map V.str)) ∧ xs.length = m ∧ (ms ++ xs).Perm sg.cps.toList ∧ PenAt H' p c (n + 10 + ms.length) ∧ SameBut p H H',
      ⟨_, sg.cps.toList, [], rfl, upd_same, rfl, .refl _, pen3.keep (Same.upd hl5), sb3.trans (.new hl5)⟩, ?_⟩
    rintro m σ H4 ⟨xs, ms, rfl, hxs, lxs, pm, pen4, sb4⟩
    have lsum : ms.length + xs.length = sg.cps.size := by
      have := pm.length_eq
      rw [List.length_append, Array.length_toList] at this
      exact this
    have inx : ∀ x ∈ xs, x ∈ sg.cps.toList := fun x hx => pm.mem_iff.mp (List.mem_append_right _ hx)
    refine ⟨_, rfl, by decide, fun e0 he0 => ?_⟩
    refine ⟨.list ((xs.map Froz.sing).map PyData.str), .list (([] : List Str).map PyData.str), .lst (SqL.of (Same.upd he0 _ _ hxs)) (dp_strs _ _ _), .lst (SqL.of upd_same) .nil, (Sh.list (n := 0) fun x hx => ?_).ok (by decide), (Sh.list (n := 0) fun x hx => by cases hx).ok (by decide), _, rfl, ?_⟩
    · obtain ⟨y, hy, rfl⟩ := List.mem_map.mp hx
      obtain ⟨z, hz, rfl⟩ := List.mem_map.mp hy
      exact Sh.str (low_ok z (low z (inx z hz)))
    rw [eqv_list]
    have pen5 := pen4.keep (Same.upd (o := .lst []) he0)
    have sb5 := sb4.trans (.new (o := .lst []) he0)
    have hx5 := Same.upd (o := .lst []) he0 _ _ hxs
    generalize upd H4 e0 (.lst []) = H5 at pen5 sb5 hx5 ⊢
    clear pen4 sb4 hxs he0
    by_cases cx : xs = []
    case neg =>
      have lp : 0 < xs.length := List.length_pos_iff.mpr cx
      rw [decide_eq_false (fun h => cx (List.map_eq_nil_iff.mp h))]
      refine ⟨fun σ H' => ∃ ys ms' : List Nat, σ = [some (.ref p), some (.str sg), some (.ref l5), some (.str (txL ms')), none, none, none, none, none, none, none, none, none, none, none, none, none] ∧ H' l5 = some (.lst ((ys.map Froz.sing).map V.str)) ∧ ys.length + 1 = xs.length ∧ (ms' ++ ys).Perm sg.cps.toList ∧ PenAt H' p c (n + 10 + ms'.length) ∧ SameBut p H H',
        fun σ' H' ⟨ys, ms', z1, z2, z3, z4, z5⟩ => ⟨ys.length, by omega, ys, ms', z1, z2, rfl, z4, z5⟩, ?_⟩
      refine ⟨_, rfl, _, rfl, .inl ⟨rfl, _, SqL.of hx5⟩, _, rfl, _, rfl, .ref l5, xs.length, rfl, .inl ⟨_, SqL.of hx5, by rw [List.length_map, List.length_map]⟩, p, c, _, _, rfl, pen5, by omega, by omega, by omega, fun r8 H8 r80 r81 pen8 sb8 => ?_⟩
      obtain ⟨r8, rfl⟩ := Int.eq_ofNat_of_zero_le r80
      have hx8 := sb8 _ _ hx5 (pen5.ne hx5)
      have rl8 : r8 < xs.length := by omega
      have hv : xs[r8]? = some xs[r8] := List.getElem?_eq_getElem rl8
      have hv2 : ((xs.map Froz.sing).map V.str)[r8]? = some (V.str (Froz.sing xs[r8])) := by rw [List.getElem?_map, List.getElem?_map, hv]; rfl
      have hsq : seqIndex? (r8 : Int) ((xs.map Froz.sing).map V.str).length = some r8 := (ixN_seq (ixAt9 (by rw [List.length_map, List.length_map]; exact rl8))).1
      generalize xs[r8] = x8 at hv hv2
      refine ⟨l5, _, _, r8, _, rfl, rfl, hx8, by omega, by omega, hsq, hv2, ?_⟩
      refine ⟨txL ms, Froz.sing x8, rfl, rfl, by rw [sizeLine_eq]; show ms.length + 1 ≤ _; omega, xs.eraseIdx r8, ms ++ [x8], by rw [txL_snoc]; rfl, ?_, by rw [List.length_eraseIdx, if_pos rl8]; omega, ?_, ?_, fun b o z nb => ?_⟩
      · rw [upd_same, cut_map9, cut_map9]
      · refine List.Perm.trans ?_ pm
        rw [List.append_assoc]
        refine List.Perm.append_left ms ?_
        exact cut_perm9 hv
      · rw [List.length_append]
        exact (pen8.put ap5.1 ap5.2).mono (by show n + 10 + ms.length + 1 ≤ n + 10 + (ms.length + 1); omega)
      · rw [upd_ne (ne_of_none z hl5')]
        exact sb8 _ _ (sb5 _ _ z nb) nb
    rw [decide_eq_true (by rw [cx]; rfl : xs.map Froz.sing = [])]
    refine ⟨_, rfl, ?_⟩
    subst cx
    rw [List.append_nil] at pm
    generalize hmt : txL ms = mt
    have mtl : mt.cps.toList = ms := by rw [← hmt]; rfl
    have pmt : sg.cps.toList.Perm mt.cps.toList := by rw [mtl]; exact pm.symm
    have pen6 : PenAt H5 p c (n + 20) := pen5.mono (by omega)
    clear pen3 sb3 hl5 ap5 pen5 hx5
    -- words
    refine ⟨by show 4 ≤ sizeLine; decide, fun l6 hl6 => ?_⟩
    refine ⟨p, c, l6, _, n + 20, rfl, pen6.keep (Same.upd hl6), by omega, upd_same, by decide, by decide, fun v i H7 hv pen7 sb7 => ?_⟩
    obtain ⟨nw, rfl, k14⟩ := pick4 hv
    have k4 : 4 ≤ nw := by rcases k14 with rfl | rfl <;> decide
    have k14' : nw ≤ 14 := by rcases k14 with rfl | rfl <;> decide
    have sbA : SameBut p H H7 := (sb5.trans (.new hl6)).trans sb7
    clear sb5 hl6 hv sb7 pen6
    refine ⟨nw, rfl, by omega, by omega, fun Dw hDw => ?_⟩
    have apW := pen7.apart hDw
    refine lc_range (lo := 0) (n := nw) (fun j H' => PenAt H' p c (n + 21) ∧ SameBut p H7 H' ∧ H' Dw = some (.lst ((wordsN j).map V.str)))
      ⟨pen7.keep (Same.upd hDw), .new hDw, upd_same⟩ ?_ ?_
    · rintro j H' hj ⟨penj, sbj, hwj⟩
      have lg : j.log2 < 1920 := Nat.lt_of_le_of_lt (Nat.log2_le_self j) (by omega)
      refine ⟨rfl, _, rfl, _, rfl, by rw [Int.zero_add, Int.natAbs_natCast]; exact lg, "k", _, rfl, rfl, ?_, ?_⟩
      · rw [Int.zero_add, sizeLine_eq]
        have h1 := word_len j (by omega)
        have h2 : (wordN j).length = (Str.ofString "k").length + (Str.ofString (toString (j : Int))).length := by
          unfold wordN
          exact Array.size_append
        omega
      rw [Int.zero_add]
      refine ⟨_, hwj, by rw [List.length_map, words_len, sizeLine_eq]; omega, penj.put apW.1 apW.2, fun b o z nb => ?_, by rw [upd_same, words_snoc, List.map_append]; rfl⟩
      rw [upd_ne (ne_of_none z hDw)]
      exact sbj _ _ z nb
    rintro Hw ⟨penw, sbw, hww⟩
    have sbB : SameBut p H Hw := sbA.trans sbw
    clear sbA sbw pen7 hDw apW
    -- one
    have lW := words_len nw
    refine ⟨_, rfl, _, rfl, _, rfl, _, rfl, .ref Dw, nw, rfl, .inl ⟨_, SqL.of hww, by rw [List.length_map, lW]⟩, ?_⟩
    have fd1 : ((nw : Nat) : Int).fdiv 2 + 1 = ((nw / 2 + 1 : Nat) : Int) := by rcases k14 with rfl | rfl <;> rfl
    have fd2 : ((nw : Nat) : Int).fdiv 2 - 1 = ((nw / 2 - 1 : Nat) : Int) := by rcases k14 with rfl | rfl <;> rfl
    refine ⟨_, _, rfl, rfl, ⟨by decide, by decide⟩, _, _, rfl, rfl, _, rfl, Dw, _, rfl, SqL.of hww, fun lA hlA => ?_⟩
    rw [fd1, cut_to]
    have pen8 := penw.keep (Same.upd (o := .lst (((wordsN nw).take (nw / 2 + 1)).map V.str)) hlA)
    refine ⟨p, c, lA, sg, 6, _, (wordsN nw).take (nw / 2 + 1), rfl, pen8, by omega, z4, by decide, by decide, upd_same, by rw [List.length_take, lW]; omega, by rw [List.length_take, lW]; omega, fun t1 r1 e1 rv1 ev1 R1 E1 m1 H8 m10 m16 ht1 hr1 pR1 he1 pE1 lR1 lE1 gR1 gE1 nt1 nr1 ne1 pen9 sb9 => ?_⟩
    have sbC : SameBut p Hw H8 := (SameBut.new hlA).trans sb9
    have hww8 := sbC _ _ hww (penw.ne hww)
    clear nt1 nr1 ne1 pen8 hlA sb9
    -- other
    refine ⟨_, rfl, _, rfl, _, rfl, _, rfl, .ref Dw, nw, rfl, .inl ⟨_, SqL.of hww8, by rw [List.length_map, lW]⟩, ?_⟩
    refine ⟨_, _, rfl, rfl, ⟨by decide, by decide⟩, _, _, rfl, rfl, _, rfl, Dw, _, rfl, SqL.of hww8, fun lB hlB => ?_⟩
    rw [fd2, cut_off _ (by rw [lW]; omega)]
    have penA := pen9.keep (Same.upd (o := .lst (((wordsN nw).drop (nw / 2 - 1)).map V.str)) hlB)
    have mtz : mt.cps.size = sg.cps.size := by rw [← Array.length_toList, ← Array.length_toList, pmt.length_eq]
    refine ⟨p, c, lB, mt, 6, _, (wordsN nw).drop (nw / 2 - 1), rfl, penA, by omega, by omega, by decide, by decide, upd_same, by rw [List.length_drop, lW]; omega, by rw [List.length_drop, lW]; omega, fun t2 r2 e2 rv2 ev2 R2 E2 m2 H9 m20 m26 ht2 hr2 pR2 he2 pE2 lR2 lE2 gR2 gE2 nt2 nr2 ne2 penB sbD => ?_⟩
    have sbE : SameBut p H8 H9 := (SameBut.new hlB).trans sbD
    have stB := still_but sbE
    have ht1' := stB.tup pen9 ht1
    have hr1' := stB.lst pen9 hr1
    have he1' := stB.lst pen9 he1
    have pR1' : Paired (RowE H9) rv1 R1 := L2.Paired.mapP pR1 fun _ _ ⟨a, vs, e1, e2, _, k⟩ => rowE_still pen9 stB ⟨a, vs, e1, e2, L2.Paired.mapP k fun _ _ ⟨b, kv, e3, e4, e5, _⟩ => ⟨b, kv, e3, e4, e5⟩⟩
    have pE1' : Paired (KeyE H9) ev1 E1 := L2.Paired.mapP pE1 fun _ _ ⟨a, e1, e2, _⟩ => keyE_still pen9 stB ⟨a, e1, e2⟩
    have pR2' : Paired (RowE H9) rv2 R2 := L2.Paired.mapP pR2 fun _ _ ⟨a, vs, e1, e2, _, k⟩ => ⟨a, vs, e1, e2, L2.Paired.mapP k fun _ _ ⟨b, kv, e3, e4, e5, _⟩ => ⟨b, kv, e3, e4, e5⟩⟩
    have pE2' : Paired (KeyE H9) ev2 E2 := L2.Paired.mapP pE2 fun _ _ ⟨a, e1, e2, _⟩ => ⟨a, e1, e2⟩
    have sbF : SameBut p H H9 := (sbB.trans sbC).trans sbE
    have lA12 : ((wordsN nw).take (nw / 2 + 1)).length ≤ 12 := by rw [List.length_take, lW]; omega
    have lB12 : ((wordsN nw).drop (nw / 2 - 1)).length ≤ 12 := by rw [List.length_drop, lW]; omega
    have ndM : mt.cps.toList.Nodup := pmt.nodup_iff.mp nd
    have lowM : ∀ c ∈ mt.cps.toList, c < 128 := fun c hc => low c (pmt.mem_iff.mpr hc)
    obtain ⟨W1, n1, k1, row1, end1, in1, kA1⟩ := tabs_ok (many := m1) nd z4 low (by omega) (by omega) lR1 lE1 gR1 gE1 lA12
    obtain ⟨W2, n2, k2, row2, end2, in2, kA2⟩ := tabs_ok (many := m2) ndM (by omega) lowM (by omega) (by omega) lR2 lE2 gR2 gE2 lB12
    have wok : ∀ y ∈ wordsN nw, PyData.strOk y = true := fun y hy => words_ok y (words_sub k14' y hy)
    have inW1 : ∀ y ∈ keysOfRows R1 ++ E1.flatten, y ∈ wordsN nw := fun y hy => List.mem_of_mem_take (in1 y hy)
    have inW2 : ∀ y ∈ keysOfRows R2 ++ E2.flatten, y ∈ wordsN nw := fun y hy => List.mem_of_mem_drop (in2 y hy)
    have hwwB := sbE _ _ hww8 (pen9.ne hww8)
    clear pR1 pE1 pR2 pE2 nt2 nr2 ne2 gR1 gR2 gE1 gE2 ht1 hr1 he1 pen9 penA sbE sbD stB hlB hww hww8 sbB sbC penw
    -- the two machines
    have at1 : ∀ {r e : Addr}, atI ([.ref r, .ref e] : List V) 0 = some (.ref r) := fun {_ _} => atI_nat (j := 0) rfl
    have at2 : ∀ {r e : Addr}, atI ([.ref r, .ref e] : List V) 1 = some (.ref e) := fun {_ _} => atI_nat (j := 1) rfl
    have T9 := tabs_pen pen0 sbF hT
    refine ⟨_, rfl, _, rfl, t1, _, 0, _, rfl, rfl, SqT.of ht1', at1, _, rfl, t1, _, 1, _, rfl, rfl, SqT.of ht1', at2, fun a1 dx1 hm1 hdx1 nm1 => ?_⟩
    refine init_okL hm1 hdx1 hr1' (L2.Paired.mapP pR1' fun _ _ z => toRow z) (.inl he1') (L2.Paired.mapP pE1' fun _ _ z => toTexts z) (ascL low) z4 row1 (by omega) (by omega) end1 kA1 fun H10 s10 ma1 => ⟨rfl, ?_⟩
    rw [n1, k1] at ma1
    have pR2t : Paired (RowE H10) rv2 R2 := L2.Paired.mapP pR2' fun _ _ z => z.keep s10
    have pE2t : Paired (KeyE H10) ev2 E2 := L2.Paired.mapP pE2' fun _ _ z => z.keep s10
    refine ⟨_, rfl, _, rfl, t2, _, 0, _, rfl, rfl, SqT.of (s10 _ _ ht2), at1, _, rfl, t2, _, 1, _, rfl, rfl, SqT.of (s10 _ _ ht2), at2, fun a2 dx2 hm2 hdx2 nm2 => ?_⟩
    refine init_okL hm2 hdx2 (s10 _ _ hr2) (L2.Paired.mapP pR2t fun _ _ z => toRow z) (.inl (s10 _ _ he2)) (L2.Paired.mapP pE2t fun _ _ z => toTexts z) (ascL lowM) (by omega) row2 (by omega) (by omega) end2 kA2 fun H11 s11 ma2 => ⟨rfl, ?_⟩
    rw [n2, k2] at ma2
    have s911 : Same H9 H11 := fun b o z => s11 _ _ (s10 _ _ z)
    have ma1c := ma1.keepE (sameN s11)
    have T11 := tabs_pen penB (fun b o z _ => s911 b o z) T9
    refine ⟨_, _, rfl, _, rfl, _, rfl, a1, a2, sg, mt, R1, R2, E1, E2, rfl, ma1c, ma2, W1, W2, T11, fun vM H12 x12 T12 be => ?_⟩
    have e912 : LamX.ExtN H9 H12 := fun b o z n => x12 _ _ (s911 _ _ z) n
    have ma1d := ma1c.keepE x12
    have ma2d := ma2.keepE x12
    have pen12 : PenAt H12 p c (n + 1300) := (pen_ext e912 penB).mono (by omega)
    have st12 := still_ext (p := p) e912
    have ht1 := st12.tup penB ht1'
    have hr1 := st12.lst penB hr1'
    have he1 := st12.lst penB he1'
    have ht2' := st12.tup penB ht2
    have hr2' := st12.lst penB hr2
    have he2' := st12.lst penB he2
    have pR1 : Paired (RowE H12) rv1 R1 := L2.Paired.mapP pR1' fun _ _ z => rowE_still penB st12 z
    have pE1 : Paired (KeyE H12) ev1 E1 := L2.Paired.mapP pE1' fun _ _ z => keyE_still penB st12 z
    have pR2 : Paired (RowE H12) rv2 R2 := L2.Paired.mapP pR2' fun _ _ z => rowE_still penB st12 z
    have pE2 : Paired (KeyE H12) ev2 E2 := L2.Paired.mapP pE2' fun _ _ z => keyE_still penB st12 z
    clear ht1' hr1' he1' ht2 hr2 he2 pR1' pE1' pR2' pE2' pR2t pE2t st12 penB ma1 ma1c ma2 s10 s11 T9 T11 hm1 hdx1 hm2 hdx2 nm1 nm2
    -- too many keys
    obtain ⟨dy1, i1, i2, k01, i3, i4, i5, i6, hy1, _, _, _, _, hk1, _⟩ := id ma1d
    obtain ⟨dy2, j1, j2, k02, j3, j4, j5, j6, hy2, _, _, _, _, hk2, _⟩ := id ma2d
    refine ⟨_, rfl, _, Z.C, dy1, _, _, rfl, hy1, T.C.cl, T.C.a4, rfl, _, rfl, _, Z.C, dy2, _, _, rfl, hy2, T.C.cl, T.C.a4, rfl, ?_⟩
    refine cat_keys hk1 hk2 (by have := W1.k12; have := W2.k12; unfold keysA at *; omega) fun qk H13 s13 hqk => ?_
    have km : ∀ y, y ∈ keysA R1 E1 ++ keysA R2 E2 → y ∈ wordsN nw := fun y hy => by
      rcases List.mem_append.mp hy with hy | hy
      · exact inW1 y (kl_mem.mp hy)
      · exact inW2 y (kl_mem.mp hy)
    have kl2 : (keysA R1 E1 ++ keysA R2 E2).length + 1 < scanBound := by
      have := W1.k12; have := W2.k12
      have e : scanBound = 4096 := rfl
      rw [List.length_append]; omega
    refine ⟨_, keysA R1 E1 ++ keysA R2 E2, rfl, .tup (SqT.of hqk), kl2, fun sa la hsa nda mema lela => ?_⟩
    refine ⟨sa, la, rfl, upd_same, by omega, _, _, rfl, rfl, _, rfl, ?_⟩
    have lak : la.length = (kl (keysA R1 E1 ++ keysA R2 E2)).length := ((List.perm_ext_iff_of_nodup nda (kl_nodup _)).mpr fun y => by rw [mema, kl_mem]).length_eq
    have perm : sg.cps.toList.Perm mt.cps.toList := pmt
    have s14 : Same H12 (upd H13 sa (SetT P w sa la)) := fun b o z => Same.upd hsa _ _ (s13 _ _ z)
    by_cases c12 : 12 < la.length
    · refine ifT (by omega) ?_
      rcases be with ⟨np, _⟩ | ⟨_, _, rfl⟩ | ⟨_, k12, _⟩
      · exact absurd perm np
      · refine ⟨_, rfl, rfl, ?_⟩
        show Q (V.bl (decide (V.str "keys" = V.str "keys"))) _
        rw [show decide (V.str "keys" = V.str "keys") = true from decide_eq_true rfl]
        exact kQ _ (((pen12.keep s14).mono (by omega) : PenAt _ p c (n + 1500))) (tabs_pen pen12 (fun b o z _ => s14 b o z) T12)
      · omega
    refine ifF (by omega) ?_
    obtain ⟨nn, ov, bm⟩ : ∃ n, Over (nxB sg mt R1 R2) sg.cps.toList n ∧ ((16 < (bfs (nxB sg mt R1 R2) sg.cps.toList n).length ∧ vM = .str "states") ∨ ((bfs (nxB sg mt R1 R2) sg.cps.toList n).length ≤ 16 ∧ ∃ m, vM = .ref m ∧ MachAt Z.C H12 m sg ((rowsBe sg mt R1 R2 n).map nrm) ((endsBe sg mt R1 R2 E1 E2 n).map kl))) := by
      rcases be with ⟨np, _⟩ | ⟨_, k12, _⟩ | ⟨_, _, n, ov, h⟩
      · exact absurd perm np
      · omega
      · exact ⟨n, ov, h⟩
    have pR1s : Paired (RowE (upd H13 sa (SetT P w sa la))) rv1 R1 := L2.Paired.mapP pR1 fun _ _ z => z.keep s14
    have pR2s : Paired (RowE (upd H13 sa (SetT P w sa la))) rv2 R2 := L2.Paired.mapP pR2 fun _ _ z => z.keep s14
    refine ⟨_, rfl, _, rfl, _, rfl, _, rfl, ?_⟩
    refine ⟨sg, mt, t1, t2, r1, r2, _, _, rv1, rv2, R1, R2, E1, E2, rfl, s14 _ _ ht1, s14 _ _ ht2', s14 _ _ hr1, s14 _ _ hr2', pR1s, pR2s, W1, W2, fun c hc => pmt.mem_iff.mp hc, fun n' H15 ov' s15 => ?_⟩
    obtain rfl := over_one ov ov'
    have s015 : Same H12 H15 := fun b o z => s15 _ _ (s14 _ _ z)
    refine ⟨_, _, rfl, rfl, _, rfl, ?_⟩
    by_cases c16 : 16 < (bfs (nxB sg mt R1 R2) sg.cps.toList nn).length
    · refine ifT (by omega) ?_
      rcases bm with ⟨_, rfl⟩ | ⟨h, _⟩
      · refine ⟨_, rfl, rfl, ?_⟩
        show Q (V.bl (decide (V.str "states" = V.str "states"))) _
        rw [show decide (V.str "states" = V.str "states") = true from decide_eq_true rfl]
        exact kQ _ (((pen12.keep s015).mono (by omega) : PenAt _ p c (n + 1500))) (tabs_pen pen12 (fun b o z _ => s015 b o z) T12)
      · omega
    refine ifF (by omega) ?_
    obtain ⟨m3, rfl, ma3⟩ : ∃ m, vM = .ref m ∧ MachAt Z.C H12 m sg ((rowsBe sg mt R1 R2 nn).map nrm) ((endsBe sg mt R1 R2 E1 E2 nn).map kl) := by
      rcases bm with ⟨h, _⟩ | ⟨_, h⟩
      · omega
      · exact h
    -- a machine with the first one's signs
    have ma3d := ma3.keepE (sameN s015)
    obtain ⟨dy3, l1, l2, l3, l4, l5', l6, l7, hy3, _⟩ := id ma3d
    refine ⟨_, rfl, _, _, _, _, true, rfl, ClsV.own _, .base (.ins hy3 T.C.cl T.ha T.hn T.ht T.hm), ?_, true, rfl, ?_⟩
    · unfold PySem.W.kitOne
      rw [if_pos (by simp)]
    refine iteF ?_
    refine ⟨_, rfl, m3, Z.C, dy3, _, _, rfl, hy3, T.C.cl, T.C.a1, rfl, _, rfl, rfl, _, rfl, ifFn rfl ?_⟩
    -- the texts
    have pen15 : PenAt H15 p c (n + 1300) := pen12.keep s015
    refine ⟨_, rfl, _, rfl, p, c, sg, _, rfl, pen15, by omega, z1, z4, fun X txs HX hX gX lX penX sbX => ?_⟩
    have fuB := full_be W1 W2 (E1 := E1) (E2 := E2) perm ov (by omega)
    have stX := still_but sbX
    have maX1 := (ma1d.keepE (sameN s015)).still pen15 stX
    have maX2 := (ma2d.keepE (sameN s015)).still pen15 stX
    have maX3 := ma3d.still pen15 stX
    have gt1 := stX.tup pen15 (s015 _ _ ht1)
    have gt2 := stX.tup pen15 (s015 _ _ ht2')
    have gr1 := stX.lst pen15 (s015 _ _ hr1)
    have gr2 := stX.lst pen15 (s015 _ _ hr2')
    have ge1 := stX.lst pen15 (s015 _ _ he1)
    have ge2 := stX.lst pen15 (s015 _ _ he2')
    have pRX1 : Paired (RowE HX) rv1 R1 := L2.Paired.mapP pR1 fun _ _ z => rowE_still pen15 stX (z.keep s015)
    have pEX1 : Paired (KeyE HX) ev1 E1 := L2.Paired.mapP pE1 fun _ _ z => keyE_still pen15 stX (z.keep s015)
    have pRX2 : Paired (RowE HX) rv2 R2 := L2.Paired.mapP pR2 fun _ _ z => rowE_still pen15 stX (z.keep s015)
    have pEX2 : Paired (KeyE HX) ev2 E2 := L2.Paired.mapP pE2 fun _ _ z => keyE_still pen15 stX (z.keep s015)
    have TX : NdefX.TabsN N HX := tabs_pen pen15 sbX (tabs_pen pen12 (fun b o z _ => s015 b o z) T12)
    clear pR1 pE1 pR2 pE2 pR1s pR2s ma1d ma2d ma3 ma3d hy1 hy2 hy3 hk1 hk2 ht1 hr1 he1 ht2' hr2' he2' stX pen12 T12 s14 s15 s015 e912 x12 s911
    refine ⟨X, rfl, ⟨_, SqL.of hX⟩, ?_⟩
    refine for_it walk_list (fun j σ H' => (∃ o10 o11 : Option V, σ = [some (.ref p), some (.str sg), some (.ref l5), some (.str mt), some (.ref Dw), some (.ref t1), some (.ref t2), some (.ref a1), some (.ref a2), some (.ref m3), o10, o11, none, none, none, none, none]) ∧ Same HX H') ⟨⟨_, _, rfl⟩, Same.refl _⟩ (fun j σ H' _ z => SqL.of (z.2 _ _ hX)) ?_ ?_
    · rintro j x σ _ Hj hj ⟨⟨o10, o11, rfl⟩, sj⟩ ⟨rfl, hx⟩
      rw [List.getElem?_map] at hx
      obtain ⟨tx, htx, rfl⟩ := Option.map_eq_some_iff.mp hx
      obtain ⟨tl, tg⟩ := gX tx (List.mem_of_getElem? htx)
      have tl' : tx.cps.size ≤ 1000 := by have : tx.length = tx.cps.size := rfl; omega
      refine ⟨_, rfl, _, rfl, _, rfl, ?_⟩
      refine ⟨t1, r1, e1, tx, sg, rv1, ev1, R1, E1, rfl, sj _ _ gt1, sj _ _ gr1, L2.Paired.mapP pRX1 fun _ _ z => z.keep sj, sj _ _ ge1, L2.Paired.mapP pEX1 fun _ _ z => z.keep sj, ⟨W1.F, W1.two⟩, tl', tg, fun q1 k1' Ha sa' hq1 hk1 => ?_⟩
      refine ⟨q1, _, 1, _, rfl, rfl, SqT.of hq1, atI_nat (j := 1) rfl, _, rfl, _, rfl, _, rfl, ?_⟩
      have sja : Same HX Ha := fun b o z => sa' _ _ (sj _ _ z)
      refine ⟨t2, r2, e2, tx, mt, rv2, ev2, R2, E2, rfl, sja _ _ gt2, sja _ _ gr2, L2.Paired.mapP pRX2 fun _ _ z => z.keep sja, sja _ _ ge2, L2.Paired.mapP pEX2 fun _ _ z => z.keep sja, ⟨W2.F, W2.two⟩, tl', fun c hc => pmt.mem_iff.mp (tg c hc), fun q2 k2' Hb sb' hq2 hk2 => ?_⟩
      refine ⟨q2, _, 1, _, rfl, rfl, SqT.of hq2, atI_nat (j := 1) rfl, ?_⟩
      have kw1 : (keysW sg R1 E1 tx.cps.toList).length ≤ (keysA R1 E1).length := nd_sub_len (m := keysA R1 E1) (kl_nodup _) fun y hy => kl_mem.mpr (keysW_in W1.F _ y hy)
      have kw2 : (keysW mt R2 E2 tx.cps.toList).length ≤ (keysA R2 E2).length := nd_sub_len (m := keysA R2 E2) (kl_nodup _) fun y hy => kl_mem.mpr (keysW_in W2.F _ y hy)
      have kin : ∀ y, y ∈ keysW sg R1 E1 tx.cps.toList ++ keysW mt R2 E2 tx.cps.toList → y ∈ wordsN nw := fun y hy => by
        rcases List.mem_append.mp hy with hy | hy
        · exact inW1 y (keysW_in W1.F _ y hy)
        · exact inW2 y (keysW_in W2.F _ y hy)
      refine cat_keys (sb' _ _ hk1) hk2 (by have := W1.k12; have := W2.k12; omega) fun qc Hc sc' hqc => ?_
      have sjc : Same HX Hc := fun b o z => sc' _ _ (sb' _ _ (sja _ _ z))
      have maj := maX3.keepE (sameN sjc)
      obtain ⟨dxj, _, _, _, _, _, _, _, hmj, _⟩ := id maj
      refine ⟨_, rfl, m3, dxj, _, rfl, hmj, rfl, _, rfl, m3, tx, sg, _, _, rfl, maj, fuB, fun _ v H9 s9 an => ?_, fun k c _ _ h1 h2 => absurd (tg c (by
        have h : tx.cps.toList[k]? = some c := by rw [Array.getElem?_toList]; exact h1
        exact List.mem_of_getElem? h)) h2⟩
      obtain ⟨b, rfl, hb⟩ := an
      rw [keysB W1 W2 ov tg] at hb
      have kl3 : (keysW sg R1 E1 tx.cps.toList ++ keysW mt R2 E2 tx.cps.toList).length + 1 < scanBound := by
        have := W1.k12; have := W2.k12
        have e : scanBound = 4096 := rfl
        rw [List.length_append]; omega
      refine ⟨_, rfl, _, _, rfl, .tup (SqT.of (s9 _ _ hqc)), kl3, fun sa3 la3 hsa3 nda3 mema3 lela3 => ?_⟩
      refine ⟨sa3, la3, rfl, upd_same, by omega, fun p2 ys hp2 pm2 hs2 => ?_⟩
      refine .inl ⟨p2, _, rfl, SqL.of upd_same, fun p3 hp3 => ?_⟩
      rw [kl_of pm2 hs2 nda3 mema3] at *
      generalize hks : kl (keysW sg R1 E1 tx.cps.toList ++ keysW mt R2 E2 tx.cps.toList) = ks at hb hp3 ⊢
      have okS : Sh 1 (.tuple (ks.map PyData.str)) := Sh.tup (n := 0) fun y hy => by
        obtain ⟨u, hu, rfl⟩ := List.mem_map.mp hy
        rw [← hks] at hu
        exact Sh.str (wok u (kin u (kl_mem.mp hu)))
      refine ⟨.tuple (ks.map PyData.str), .tuple (ks.map PyData.str), .tup (SqT.of (Same.upd hp3 _ _ (Same.upd hp2 _ _ (Same.upd hsa3 _ _ hb)))) (dp_strs _ _ _), .tup (SqT.of upd_same) (dp_strs _ _ _), okS.ok (by decide), okS.ok (by decide), _, rfl, ?_⟩
      rw [okS.refl]
      exact iteF ⟨⟨_, _, rfl⟩, fun b o z => Same.upd hp3 _ _ (Same.upd hp2 _ _ (Same.upd hsa3 _ _ (s9 _ _ (sjc _ _ z))))⟩
    · rintro σ Hj ⟨⟨o10, o11, rfl⟩, sj⟩
      -- strange signs
      refine ⟨_, rfl, _, rfl, sg, rfl, by have : sg.length = sg.cps.size := rfl; rw [sizeLine_eq]; omega, ?_⟩
      refine ⟨"abcde", rfl, fun D33 hD33 => ?_⟩
      refine lcs_it [some (.ref p), some (.str sg), some (.ref l5), some (.str mt), some (.ref Dw), some (.ref t1), some (.ref t2), some (.ref a1), some (.ref a2), some (.ref m3), o10, o11, none, none, none, none, none] rfl walk_str
        (fun i2 H' => Same Hj H' ∧ ∃ cs : List Nat, H' D33 = some (.lst ((cs.map Froz.sing).map V.str)) ∧ cs.length ≤ i2 ∧ cs = (("abcde" : Str).cps.toList.take i2).filter fun c => !decide (c ∈ sg.cps.toList)) ⟨Same.upd hD33, [], upd_same, Nat.le_refl _, rfl⟩ (fun _ _ _ _ => trivial) ?_ ?_
      · rintro i2 x _ H33 hi2 ⟨s33, cs, hcs, lc, ecs⟩ ⟨rfl, c3, hc3, rfl⟩
        have hct : ("abcde" : Str).cps.toList[i2]? = some c3 := by rw [Array.getElem?_toList]; exact hc3
        have tk : ("abcde" : Str).cps.toList.take (i2 + 1) = ("abcde" : Str).cps.toList.take i2 ++ [c3] := by rw [List.take_add_one, hct]; rfl
        have i5 : i2 < 5 := hi2
        refine ⟨rfl, _, rfl, _, rfl, c3, sg, rfl, rfl, _, rfl, ?_⟩
        by_cases cm : c3 ∈ sg.cps.toList
        · rw [decide_eq_true cm]
          refine ⟨s33, cs, hcs, by omega, ?_⟩
          have e9 : ([c3] : List Nat).filter (fun c => !decide (c ∈ sg.cps.toList)) = [] := by rw [List.filter_cons, decide_eq_true cm]; rfl
          rw [tk, List.filter_append, ← ecs, e9, List.append_nil]
        · rw [decide_eq_false cm]
          refine ⟨_, rfl, _, hcs, by rw [List.length_map, List.length_map, sizeLine_eq]; omega, fun b o z => ?_, cs ++ [c3], by rw [upd_same, List.map_append, List.map_append]; rfl, by rw [List.length_append]; exact Nat.succ_le_succ lc, ?_⟩
          · rw [upd_ne (ne_of_none z hD33)]
            exact s33 _ _ z
          · have e9 : ([c3] : List Nat).filter (fun c => !decide (c ∈ sg.cps.toList)) = [c3] := by rw [List.filter_cons, decide_eq_false cm]; rfl
            rw [tk, List.filter_append, ← ecs, e9]
      rintro H33 ⟨s33, cs, hcs, lc, ecs⟩
      have ecs' : cs = ("abcde" : Str).cps.toList.filter fun c => !decide (c ∈ sg.cps.toList) := by
        rw [ecs, List.take_of_length_le]
        simp
      obtain ⟨ch5, rest5, ecs5⟩ : ∃ a l, cs = a :: l := by
        cases h : cs with
        | nil => exact absurd (ecs'.symm.trans h) (one_left9 z4)
        | cons a l => exact ⟨a, l, rfl⟩
      have m5 : ch5 ∈ ("abcde" : Str).cps.toList ∧ ch5 ∉ sg.cps.toList := by
        have m5 : ch5 ∈ cs := by rw [ecs5]; exact List.mem_cons_self
        rw [ecs'] at m5
        have := List.mem_filter.mp m5
        exact ⟨this.1, by simpa using this.2⟩
      have hat5 : atI ((cs.map Froz.sing).map V.str) 0 = some (.str (Froz.sing ch5)) := atI_nat (j := 0) (by rw [ecs5]; rfl)
      refine ⟨D33, _, 0, _, rfl, rfl, SqL.of hcs, hat5, _, _, rfl, rfl, ?_, ?_⟩
      · have e : (cutS sg (some 1) none).cps.toList.length = (sg.cps.toList.drop 1).length := congrArg List.length (cut1_tl9 sg)
        rw [Array.length_toList, List.length_drop, Array.length_toList] at e
        rw [sizeLine_eq]
        show (cutS sg (some 1) none).cps.size + 1 ≤ _
        omega
      have tlL : (cutS sg (some 1) none ++ Froz.sing ch5).cps.toList = sg.cps.toList.drop 1 ++ [ch5] := by
        have e := TL.tl_append (cutS sg (some 1) none) (Froz.sing ch5)
        rw [cut1_tl9] at e
        exact e
      generalize cutS sg (some 1) none ++ Froz.sing ch5 = lt at tlL ⊢
      have ltz : lt.cps.size = sg.cps.size := by rw [← Array.length_toList, tlL, List.length_append, List.length_drop, Array.length_toList, List.length_singleton]; omega
      have ndL : lt.cps.toList.Nodup := by
        rw [tlL, List.nodup_append]
        exact ⟨nd.sublist (List.drop_sublist 1 _), by simp, fun a ha b hb e => m5.2 (by rw [← List.mem_singleton.mp hb, ← e]; exact List.mem_of_mem_drop ha)⟩
      have lowC : ∀ c ∈ ("abcde" : Str).cps.toList, c < 128 := by decide +kernel
      have lowL : ∀ c ∈ lt.cps.toList, c < 128 := fun c hc => by
        rw [tlL] at hc
        rcases List.mem_append.mp hc with hc | hc
        · exact low c (List.mem_of_mem_drop hc)
        · rw [List.mem_singleton.mp hc]
          exact lowC _ m5.1
      have chL : ch5 ∈ lt.cps.toList := by rw [tlL]; simp
      have np1 : ¬ sg.cps.toList.Perm lt.cps.toList := fun h => m5.2 (h.mem_iff.mpr chL)
      have np2 : ¬ lt.cps.toList.Perm mt.cps.toList := fun h => m5.2 (pmt.mem_iff.mpr (h.mem_iff.mp chL))
      have sj33 : Same HX H33 := fun b o z => s33 _ _ (sj _ _ z)
      -- the strange machine
      refine ⟨_, rfl, _, rfl, lt, rfl, fun D4 hD4 => ?_⟩
      refine lcs_it [some (.ref p), some (.str sg), some (.ref l5), some (.str mt), some (.ref Dw), some (.ref t1), some (.ref t2), some (.ref a1), some (.ref a2), some (.ref m3), o10, o11, some (.str lt), none, none, none, none] rfl walk_str
        (fun j H' => Same H33 H' ∧ ∃ vs : List V, H' D4 = some (.lst vs) ∧ vs.length = j ∧ Paired (fun v (w : Way) => ∃ b k0, v = V.ref b ∧ H' b = some (.tup [.int w.1, .ref k0]) ∧ H' k0 = some (.lst (w.2.map V.str)) ∧ k0 ≠ D4) vs (List.replicate j ((0 : Int), ([] : List Str)))) ⟨Same.upd hD4, [], upd_same, rfl, .nil⟩ (fun _ _ _ _ => trivial) ?_ ?_
      · rintro j x _ H34 hj ⟨s34, vs, hvs, lvs, pvs⟩ ⟨rfl, cc, hc, rfl⟩
        have hj' : j < lt.cps.size := hj
        refine ⟨rfl, by show 0 ≤ sizeLine; decide, fun kv hkv => ⟨by show 2 ≤ sizeLine; decide, fun a ha => ?_⟩⟩
        have hvs2 := Same.upd (o := .tup [V.int 0, V.ref kv]) ha _ _ (Same.upd (o := .lst []) hkv _ _ hvs)
        have nD : D4 ≠ a := ne_of_none (Same.upd (o := .lst []) hkv _ _ hvs) ha
        have nK : D4 ≠ kv := ne_of_none hvs hkv
        have nA : kv ≠ a := fun z => by rw [← z, upd_same] at ha; cases ha
        refine ⟨_, hvs2, by rw [lvs, sizeLine_eq]; omega, fun b o z => ?_, vs ++ [V.ref a], upd_same, by rw [List.length_append, lvs]; rfl, ?_⟩
        · rw [upd_ne (ne_of_none z hD4)]
          exact Same.upd ha _ _ (Same.upd hkv _ _ (s34 _ _ z))
        · rw [List.replicate_succ']
          refine psnoc (L2.Paired.mapP pvs fun v w ⟨b, k0, e1, e2, e3, e4⟩ => ⟨b, k0, e1, ?_, ?_, e4⟩) ⟨a, kv, rfl, ?_, ?_, nK.symm⟩
          · rw [upd_ne (ne_of e2 hvs (by intro q; cases q))]
            exact Same.upd ha _ _ (Same.upd hkv _ _ e2)
          · rw [upd_ne e4]
            exact Same.upd ha _ _ (Same.upd hkv _ _ e3)
          · rw [upd_ne nD.symm, upd_same]
          · rw [upd_ne nK.symm, upd_ne nA, upd_same]
            rfl
      rintro H34 ⟨s34, vs, hvs, lvs, pvs⟩
      have pvs' : Paired (WayE H34) vs (List.replicate lt.cps.size ((0 : Int), ([] : List Str))) := L2.Paired.mapP pvs fun v w ⟨b, k0, e1, e2, e3, _⟩ => ⟨b, k0, e1, e2, e3⟩
      refine ⟨by show 1 ≤ sizeLine; decide, fun r3 hr3 => ⟨by show 0 ≤ sizeLine; decide, fun e3 he3 => ⟨by show 1 ≤ sizeLine; decide, fun q3 hq3 => ?_⟩⟩⟩
      have h35 : Same H34 (upd (upd (upd H34 r3 (.lst [.ref D4])) e3 (.lst [])) q3 (.lst [.ref e3])) := fun b o z => Same.upd hq3 _ _ (Same.upd he3 _ _ (Same.upd hr3 _ _ z))
      have g1 : (upd (upd (upd H34 r3 (.lst [.ref D4])) e3 (.lst [])) q3 (.lst [.ref e3])) r3 = some (.lst [V.ref D4]) := Same.upd hq3 _ _ (Same.upd he3 _ _ upd_same)
      have g2 : (upd (upd (upd H34 r3 (.lst [.ref D4])) e3 (.lst [])) q3 (.lst [.ref e3])) e3 = some (.lst (([] : List Str).map V.str)) := Same.upd hq3 _ _ upd_same
      have g3 : (upd (upd (upd H34 r3 (.lst [.ref D4])) e3 (.lst [])) q3 (.lst [.ref e3])) q3 = some (.lst [V.ref e3]) := upd_same
      generalize upd (upd (upd H34 r3 (.lst [.ref D4])) e3 (.lst [])) q3 (.lst [.ref e3]) = H35 at h35 g1 g2 g3 ⊢
      intro a3 dx3 hm3 hdx3 nm3
      have row3 : ∀ q ∈ [List.replicate lt.cps.size ((0 : Int), ([] : List Str))], q.length = lt.cps.size ∧ ∀ u ∈ q, Okw [List.replicate lt.cps.size ((0 : Int), ([] : List Str))].length u ∧ u.2.length ≤ 4 := fun q hq => by
        rw [List.mem_singleton.mp hq]
        refine ⟨List.length_replicate, fun u hu => ?_⟩
        rw [(List.mem_replicate.mp hu).2]
        exact ⟨⟨by decide, by show (0 : Int) < ((1 : Nat) : Int); decide⟩, by decide⟩
      have end3 : ∀ ks ∈ ([[]] : List (List Str)), ks.length ≤ 4 := fun ks hks => by rw [List.mem_singleton.mp hks]; decide
      have no3 : ∀ y, y ∉ keysOfRows [List.replicate lt.cps.size ((0 : Int), ([] : List Str))] ++ ([[]] : List (List Str)).flatten := fun y hy => by
        rcases List.mem_append.mp hy with hy | hy
        · obtain ⟨q, hq, hy⟩ := List.mem_flatMap.mp hy
          rw [List.mem_singleton.mp hq] at hy
          obtain ⟨u, hu, hy⟩ := List.mem_flatMap.mp hy
          rw [(List.mem_replicate.mp hu).2] at hy
          cases hy
        · cases hy
      have kl0 : (kl (keysOfRows [List.replicate lt.cps.size ((0 : Int), ([] : List Str))] ++ ([[]] : List (List Str)).flatten)).length ≤ 12 := Nat.le_trans (nd_sub_len (m := []) (kl_nodup _) fun y hy => absurd (kl_mem.mp hy) (no3 y)) (by decide)
      refine init_okL hm3 hdx3 g1 (.cons (toRow ⟨D4, vs, rfl, h35 _ _ hvs, L2.Paired.mapP pvs' fun v w ⟨b, k0, e1, e2, e3⟩ => ⟨b, k0, e1, h35 _ _ e2, h35 _ _ e3⟩⟩) .nil) (.inl g3) (.cons (toTexts ⟨e3, rfl, g2⟩) .nil) (ascL lowL) (by omega) row3 (by show 1 ≤ 16; decide) (by show 1 ≤ 16; decide) end3 kl0 fun H36 s36 ma4 => ⟨rfl, ?_⟩
      have knil : kl ([] : List Str) = [] := List.eq_nil_of_length_eq_zero (Nat.le_zero.mp (nd_sub_len (m := []) (kl_nodup _) fun y hy => kl_mem.mp hy))
      have nR3 : [List.replicate lt.cps.size ((0 : Int), ([] : List Str))].map nrm = [List.replicate lt.cps.size ((0 : Int), ([] : List Str))] := map_same fun q hq => nrm_same fun u hu => by
        rw [List.mem_singleton.mp hq] at hu
        rw [(List.mem_replicate.mp hu).2]
        exact knil
      have nE3 : ([[]] : List (List Str)).map kl = [[]] := by rw [List.map_cons, knil]; rfl
      rw [nR3, nE3] at ma4
      have W3 : Few lt [List.replicate lt.cps.size ((0 : Int), ([] : List Str))] [[]] := ⟨full_of ndL (by omega) row3 (by show 1 ≤ 16; decide) (by show 0 < 1; decide) rfl end3, by omega, lowL, by show 1 ≤ 16; decide, ⟨fun q hq u hu => by
        rw [List.mem_singleton.mp hq] at hu
        rw [(List.mem_replicate.mp hu).2]
        decide, fun ks hks => by rw [List.mem_singleton.mp hks]; decide⟩, kl0⟩
      have sX36 : Same HX H36 := fun b o z => s36 _ _ (h35 _ _ (s34 _ _ (sj33 _ _ z)))
      have T36 : NdefX.TabsN N H36 := tabs_pen penX (fun b o z _ => sX36 b o z) TX
      refine ⟨_, rfl, _, rfl, a1, a3, sg, lt, R1, _, E1, [[]], rfl, maX1.keepE (sameN sX36), ma4, W1, W3, T36, fun v1 H37 x37 T37 be1 => ?_⟩
      obtain rfl : v1 = V.str "unlike" := by
        rcases be1 with ⟨_, h⟩ | ⟨h, _⟩ | ⟨h, _⟩
        · exact h
        · exact absurd h np1
        · exact absurd h np1
      refine ⟨rfl, decide (V.str "unlike" = V.str "unlike"), rfl, ?_⟩
      rw [if_pos (decide_eq_true rfl)]
      refine ⟨_, rfl, _, rfl, a3, a2, lt, mt, _, R2, [[]], E2, rfl, ma4.keepE x37, (maX2.keepE (sameN sX36)).keepE x37, W3, W2, T37, fun v2 H38 x38 T38 be2 => ?_⟩
      obtain rfl : v2 = V.str "unlike" := by
        rcases be2 with ⟨_, h⟩ | ⟨h, _⟩ | ⟨h, _⟩
        · exact h
        · exact absurd h np2
        · exact absurd h np2
      refine ⟨rfl, ?_⟩
      show Q (V.bl (decide (V.str "unlike" = V.str "unlike"))) _
      rw [show decide (V.str "unlike" = V.str "unlike") = true from decide_eq_true rfl]
      exact kQ _ ((pen_ext x38 (pen_ext x37 (penX.keep sX36))).mono (by omega)) T38
end
end Kx

namespace Kx
open PySem L2 Own PinX DicN
abbrev s_law : Stmt := top 53
structure FoAd where
  ff : Addr
  df : FuncData
  fi : Addr
  di : FuncData
  fj : Addr
  dj : FuncData
structure TxtW (K : PySem.W.Frag) (mg : Str → Option Value) (base : Heap) (N : List NdefX.NTab) (A : EAd) (B : MAd) (Z : CAd) (S : SAd) (U : Addr) (L : LAd) (D : SoAd) (G : BAd) (F : FoAd) (f : Addr) (d : FuncData) : Prop where
  I : TxtIf K mg A B Z S L D G.fo G.fr F.ff F.fi G.do_ G.dr F.df F.di
  J : TxtIb K mg base N A B Z S U L D G F.fj F.dj
  D_law : DefT K mg "law" "law" s_law ["script"] f d
  n_range : mg "range" = none
  n_min : mg "min" = none
  n_len : mg "len" = none
def spLaw (K : PySem.W.Frag) (N : List NdefX.NTab) : Sp := fun vs H Q _ => ∃ (a : Addr) (ns : List Int), vs = [.ref a] ∧ SqL K H a (ns.map V.int) ∧ ns.length ≤ 63 ∧ NdefX.TabsN N H ∧ ∀ H', Q (.bl true) H'
abbrev Nlaw : List Str := ["script", "pen", "turn"]
theorem sc_law : FnScope Nlaw ["script"] (defScope s_law) := ⟨rfl, rfl, rfl, by decide +kernel, rfl, by decide +kernel, by decide +kernel⟩
section
variable {P : Program} {w : World} {K : PySem.W.Frag} {mg : Str → Option Value} {base : Heap} {N : List NdefX.NTab} {A : EAd} {B : MAd} {Z : CAd} {S : SAd} {U : Addr} {L : LAd} {D : SoAd} {G : BAd} {F : FoAd} {f : Addr} {d : FuncData}
theorem ok_law (T : TxtW K mg base N A B Z S U L D G F f d) : FnOk P w K mg base CX0 11 f d ["script"] (spLaw K N) := by
  have sc := sc_law
  have G_pen : FnOk P w K mg base CX0 1 L.p1 L.q1 ["script"] (spPen K) := ok_pen T.J.L.pen
  have G_isf : FnOk P w K mg base CX0 9 F.fi F.di ["pen"] spIsF := ok_isf T.I
  have G_isb : FnOk P w K mg base CX0 10 F.fj F.dj ["pen"] (spIsB N) := ok_isb T.J
  refine T.D_law.F.ok sc (fun vs H Q E h => ?_) (fun cdv A1 outer s H vs Q E hr h => ?_)
  · obtain ⟨_, _, rfl, _⟩ := h; rfl
  · obtain ⟨sa, ns, rfl, hS, hl, hT, kQ⟩ := h
    refine ⟨_, (pss_cons (ps_set (i := 1) sc.nd rfl (Or.inl rfl) (pe_call G_pen (hr.mono (by decide)) rfl T.J.L.pen.D__law_pen.g T.J.L.pen.D__law_pen.F.kp T.J.L.pen.D__law_pen.b .nil pass0 (pa_cons (pv 0) pa_nil)))
      (pss_cons (ps_for PassesOwn.never rfl (pi_range1 rfl T.n_range (pa_cons (pe_op op_add pe_int (pe_callB (call_min2 rfl) (by rfl) T.n_min (by decide +kernel) (pa_cons pe_int (pa_cons (pe_callB call_len (by rfl) T.n_len (by decide +kernel) (pa_cons (pv 0) pa_nil)) pa_nil)))) pa_nil)) (pg_name (i := 2) sc.nd rfl (Or.inl rfl))
        (pss_one (ps_if (PW.pt (pw_or (pt_not (pt_val (pe_call G_isf (hr.mono (by decide)) rfl T.I.D__law_is_folded.g T.I.D__law_is_folded.F.kp T.I.D__law_is_folded.b .nil pass0 (pa_cons (pv 1) pa_nil)))) (pw_or1 (pt_not (pt_val (pe_call G_isb (hr.mono (by decide)) rfl T.J.D__law_is_beside.g T.J.D__law_is_beside.F.kp T.J.D__law_is_beside.b .nil pass0 (pa_cons (pv 1) pa_nil))))))) (pss_one (ps_ret pe_bl)) pss_nil)))
      (pss_one (ps_ret pe_bl)))), ?_⟩
    refine ⟨_, rfl, sa, ns, rfl, hS, hl, fun p c H1 hp s1 pen1 => ?_⟩
    have hS1 := s1.seq hS
    have T1 : NdefX.TabsN N H1 := hT.ext s1
    refine ⟨_, rfl, .ref sa, ns.length, rfl, .inl ⟨_, hS1, by rw [List.length_map]⟩, _, _, rfl, _, _, rfl, rfl, ?_⟩
    have hm0 : 0 ≤ (if (ns.length : Int) < 6 then (ns.length : Int) else 6) ∧ (if (ns.length : Int) < 6 then (ns.length : Int) else 6) ≤ 6 := by
      split <;> omega
    generalize (if (ns.length : Int) < 6 then (ns.length : Int) else 6) = m at hm0 ⊢
    refine ⟨_, rfl, by omega, by omega, ?_⟩
    clear hS1 s1 hT hS
    refine for_range (lo := 0) (n := (4 + m).toNat) (fun i σ H' => (∃ o2 : Option V, σ = [some (.ref sa), some (.ref p), o2]) ∧ PenAt H' p c (2400 * i) ∧ NdefX.TabsN N H') ⟨⟨none, rfl⟩, pen1, T1⟩ ?_ ?_
    · rintro i σ H2 hi ⟨⟨o2, rfl⟩, pen2, T2⟩
      refine ⟨_, rfl, p, c, 2400 * i, rfl, pen2, by omega, fun H3 pen3 sb3 => ?_⟩
      have T3 := tabs_pen pen2 sb3 T2
      refine ⟨true, rfl, iteF ⟨_, rfl, p, c, 2400 * i + 900, rfl, pen3, by omega, T3, fun H4 pen4 T4 => ⟨true, rfl, iteF ⟨⟨_, rfl⟩, pen4.mono (by omega), T4⟩⟩⟩⟩
    · rintro σ H2 ⟨⟨o2, rfl⟩, pen2, T2⟩
      exact kQ _
end
end Kx

namespace Kx
open PySem L2 Own PinX DicN
theorem pairs_one {α β : Type} : ∀ (l : List (α × β)), (l.map (·.1)).Nodup → ∀ {p : α × β} {a : α} {b : β}, p ∈ l → (a, b) ∈ l → p.1 = a → p.2 = b
  | [], _, _, _, _, h, _, _ => nomatch h
  | (c, d) :: l, nd, p, a, b, h, g, e => by
    rw [List.map_cons] at nd
    have n1 := (List.nodup_cons.mp nd).1
    rcases List.mem_cons.mp h with rfl | h
    · rcases List.mem_cons.mp g with g | g
      · cases g; rfl
      · exact absurd (List.mem_map.mpr ⟨(a, b), g, e.symm⟩) n1
    · rcases List.mem_cons.mp g with g | g
      · cases g
        exact absurd (List.mem_map.mpr ⟨p, h, e⟩) n1
      · exact pairs_one l (List.nodup_cons.mp nd).2 h g e
theorem err_mk {K : PySem.W.Frag} {mg : Str → Option Value} {name : Str} {C M : Addr} {nm q : Str} {N : Addr} {bs : List Value} {sn : List Str} {sub : List Value} {ab : Bool} {col : Option Bool} {dd : Option Addr} {m0 m1 m2 m3 m5 : Option Value}
    (g : mg name = some (.ref C)) (xL : K.lookup C = some (excClassObj nm q C N bs (tailM M) true sn sub ab col dd m0 m1 m2 m3 m5 "ValueError.__new__"))
    (sa : PySem.W.findIn K (.ref C) "__setattr__" = some (some (.builtin "object.__setattr__"))) (ga : PySem.W.findIn K (.ref C) "__getattribute__" = some (some (.builtin "BaseException.__getattribute__"))) (gg : PySem.W.findIn K (.ref C) "__getattr__" = some none)
    (ha : PySem.W.findIn K (.ref C) "__class__" = some (some (.builtin "object.__class__"))) (hn : PySem.W.specialIn K (.builtin "object.__class__") "__get__" = some (some (.builtin "getset_descriptor.__get__"))) (ht : PySem.W.takesIn K (.builtin "object.__class__") = some true)
    (kC : PySem.W.keepIn K (.ref C) = true) : ErrC K mg name C M := by
  have hc : PySem.W.clsIn K C = some { name := nm, bases := bs, mro := .ref C :: tailM M, ns := N, qualname := q, hasDict := true, slotNames := sn, subclasses := sub, abstract := ab, collection := col, hasDel := false } := by unfold PySem.W.clsIn; rw [xL] <;> rfl
  have hs : ∀ b : Value, PySem.W.subIn K (.ref C) b = some ((Value.ref C :: tailM M).contains b) := fun b => by
    show PySem.W.mroIn K C b = _
    unfold PySem.W.mroIn
    rw [hc]
    rfl
  have ty : PySem.W.typeIn K (.ref C) = some (.type "type") := by
    show (K.lookup C).map (·.cls) = _
    rw [xL]
    rfl
  have hd : PySem.W.hasDictIn K C = true := by unfold PySem.W.hasDictIn; rw [hc]; rfl
  have eB : PySem.W.subIn K (.ref C) (.type "BaseException") = some true := by rw [hs]; rfl
  have eO : PySem.W.mroIn K C (.type "object") = some true := (hs (.type "object")).trans rfl
  refine ⟨g, ⟨⟨nm, q, N, bs, _, sn, sub, ab, col, dd, m0, m1, m2, m3, m5, xL, by rfl⟩, sa, eB, ty, kC⟩, ⟨ga, gg, eB, hd, ha, hn, ht, eO⟩, by unfold PySem.W.isClsIn; rw [hc]; rfl, hs⟩
theorem kit_M {K : PySem.W.Frag} {t : Value} {C : Addr} (hd : PySem.W.hasDictIn K C = true) (ty : PySem.W.typeIn K (.ref C) = some (.type "type")) (h : PySem.W.subIn K t (.ref C) = some true) : PySem.W.kitOne K t (.ref C) = some true := by
  unfold PySem.W.kitOne
  by_cases c : (t == Value.ref C) = true
  · rw [if_pos c]
  · rw [if_neg c]
    show (if ((PySem.W.clsIn K C).isSome && PySem.W.typeIn K (.ref C) == some (.type "type")) = true then PySem.W.subIn K t (.ref C) else none) = _
    have z : (PySem.W.clsIn K C).isSome = true := by
      unfold PySem.W.hasDictIn at hd
      cases e : PySem.W.clsIn K C with
      | none => rw [e] at hd; cases hd
      | some _ => rfl
    rw [z, ty, if_pos (by rfl), h]
theorem all_mk {l : PySem.W.OpenLaw} {w : World} {K : PySem.W.Frag} {h : Heap} {mg : Str → Option Value} {fa : Addr} (X : K.In h) (G : h.Ns mainGlobals mg) (hfa : mg "law" = some (.ref fa))
    {M : Addr}
    {CBadMachine NBadMachine : Addr} {nmBadMachine qBadMachine : Str} {bsBadMachine subBadMachine : List Value} {snBadMachine : List Str} {abBadMachine : Bool} {colBadMachine : Option Bool} {ddBadMachine : Option Addr} {maBadMachine mbBadMachine mcBadMachine mdBadMachine meBadMachine : Option Value}
    {IBadMachine : Addr} {odiBadMachine aniBadMachine : Option Addr} {sliBadMachine : Array (Option Value)} {ociBadMachine kViBadMachine dciBadMachine pmiBadMachine cdiBadMachine ctiBadMachine : Value}
    {CTooMany NTooMany : Addr} {nmTooMany qTooMany : Str} {bsTooMany subTooMany : List Value} {snTooMany : List Str} {abTooMany : Bool} {colTooMany : Option Bool} {ddTooMany : Option Addr} {maTooMany mbTooMany mcTooMany mdTooMany meTooMany : Option Value}
    {ITooMany : Addr} {odiTooMany aniTooMany : Option Addr} {sliTooMany : Array (Option Value)} {ociTooMany kViTooMany dciTooMany pmiTooMany cdiTooMany ctiTooMany : Value}
    {CBadSign NBadSign : Addr} {nmBadSign qBadSign : Str} {bsBadSign subBadSign : List Value} {snBadSign : List Str} {abBadSign : Bool} {colBadSign : Option Bool} {ddBadSign : Option Addr} {maBadSign mbBadSign mcBadSign mdBadSign meBadSign : Option Value}
    {IBadSign : Addr} {odiBadSign aniBadSign : Option Addr} {sliBadSign : Array (Option Value)} {ociBadSign kViBadSign dciBadSign pmiBadSign cdiBadSign ctiBadSign : Value}
    {CUnlike NUnlike : Addr} {nmUnlike qUnlike : Str} {bsUnlike subUnlike : List Value} {snUnlike : List Str} {abUnlike : Bool} {colUnlike : Option Bool} {ddUnlike : Option Addr} {maUnlike mbUnlike mcUnlike mdUnlike meUnlike : Option Value}
    {CMachine : Addr}
    {fMachine_init : Addr} {odMachine_init anMachine_init : Option Addr} {slMachine_init : Array (Option Value)} {ocMachine_init kVMachine_init dcMachine_init pmMachine_init cdMachine_init ctMachine_init : Value}
    {fMachine_walk : Addr} {odMachine_walk anMachine_walk : Option Addr} {slMachine_walk : Array (Option Value)} {ocMachine_walk kVMachine_walk dcMachine_walk pmMachine_walk cdMachine_walk ctMachine_walk : Value}
    {fMachine_keys_of : Addr} {odMachine_keys_of anMachine_keys_of : Option Addr} {slMachine_keys_of : Array (Option Value)} {ocMachine_keys_of kVMachine_keys_of dcMachine_keys_of pmMachine_keys_of cdMachine_keys_of ctMachine_keys_of : Value}
    {fis_whole : Addr} {odis_whole anis_whole : Option Addr} {slis_whole : Array (Option Value)} {ocis_whole kVis_whole dcis_whole pmis_whole cdis_whole ctis_whole : Value}
    {fkey_list : Addr} {odkey_list ankey_list : Option Addr} {slkey_list : Array (Option Value)} {ockey_list kVkey_list dckey_list pmkey_list cdkey_list ctkey_list : Value}
    {fcheck_ways : Addr} {odcheck_ways ancheck_ways : Option Addr} {slcheck_ways : Array (Option Value)} {occheck_ways kVcheck_ways dccheck_ways pmcheck_ways cdcheck_ways ctcheck_ways : Value}
    {fkeys_in : Addr} {odkeys_in ankeys_in : Option Addr} {slkeys_in : Array (Option Value)} {ockeys_in kVkeys_in dckeys_in pmkeys_in cdkeys_in ctkeys_in : Value}
    {fcopied : Addr} {odcopied ancopied : Option Addr} {slcopied : Array (Option Value)} {occopied kVcopied dccopied pmcopied cdcopied ctcopied : Value}
    {fsame_signs : Addr} {odsame_signs ansame_signs : Option Addr} {slsame_signs : Array (Option Value)} {ocsame_signs kVsame_signs dcsame_signs pmsame_signs cdsame_signs ctsame_signs : Value}
    {fbuilt : Addr} {odbuilt anbuilt : Option Addr} {slbuilt : Array (Option Value)} {ocbuilt kVbuilt dcbuilt pmbuilt cdbuilt ctbuilt : Value}
    {fcome_to : Addr} {odcome_to ancome_to : Option Addr} {slcome_to : Array (Option Value)} {occome_to kVcome_to dccome_to pmcome_to cdcome_to ctcome_to : Value}
    {ffolded : Addr} {odfolded anfolded : Option Addr} {slfolded : Array (Option Value)} {ocfolded kVfolded dcfolded pmfolded cdfolded ctfolded : Value}
    {f_law_pen : Addr} {od_law_pen an_law_pen : Option Addr} {sl_law_pen : Array (Option Value)} {oc_law_pen kV_law_pen dc_law_pen pm_law_pen cd_law_pen ct_law_pen : Value}
    {f_law_draw : Addr} {od_law_draw an_law_draw : Option Addr} {sl_law_draw : Array (Option Value)} {oc_law_draw kV_law_draw dc_law_draw pm_law_draw cd_law_draw ct_law_draw : Value}
    {f_law_pick : Addr} {od_law_pick an_law_pick : Option Addr} {sl_law_pick : Array (Option Value)} {oc_law_pick kV_law_pick dc_law_pick pm_law_pick cd_law_pick ct_law_pick : Value}
    {f_law_signs : Addr} {od_law_signs an_law_signs : Option Addr} {sl_law_signs : Array (Option Value)} {oc_law_signs kV_law_signs dc_law_signs pm_law_signs cd_law_signs ct_law_signs : Value}
    {f_law_keys : Addr} {od_law_keys an_law_keys : Option Addr} {sl_law_keys : Array (Option Value)} {oc_law_keys kV_law_keys dc_law_keys pm_law_keys cd_law_keys ct_law_keys : Value}
    {f_law_tables : Addr} {od_law_tables an_law_tables : Option Addr} {sl_law_tables : Array (Option Value)} {oc_law_tables kV_law_tables dc_law_tables pm_law_tables cd_law_tables ct_law_tables : Value}
    {f_law_read : Addr} {od_law_read an_law_read : Option Addr} {sl_law_read : Array (Option Value)} {oc_law_read kV_law_read dc_law_read pm_law_read cd_law_read ct_law_read : Value}
    {f_law_texts : Addr} {od_law_texts an_law_texts : Option Addr} {sl_law_texts : Array (Option Value)} {oc_law_texts kV_law_texts dc_law_texts pm_law_texts cd_law_texts ct_law_texts : Value}
    {f_law_text : Addr} {od_law_text an_law_text : Option Addr} {sl_law_text : Array (Option Value)} {oc_law_text kV_law_text dc_law_text pm_law_text cd_law_text ct_law_text : Value}
    {f_law_some_texts : Addr} {od_law_some_texts an_law_some_texts : Option Addr} {sl_law_some_texts : Array (Option Value)} {oc_law_some_texts kV_law_some_texts dc_law_some_texts pm_law_some_texts cd_law_some_texts ct_law_some_texts : Value}
    {f_law_is_folded : Addr} {od_law_is_folded an_law_is_folded : Option Addr} {sl_law_is_folded : Array (Option Value)} {oc_law_is_folded kV_law_is_folded dc_law_is_folded pm_law_is_folded cd_law_is_folded ct_law_is_folded : Value}
    {f_law_beside : Addr} {od_law_beside an_law_beside : Option Addr} {sl_law_beside : Array (Option Value)} {oc_law_beside kV_law_beside dc_law_beside pm_law_beside cd_law_beside ct_law_beside : Value}
    {f_law_pairs : Addr} {od_law_pairs an_law_pairs : Option Addr} {sl_law_pairs : Array (Option Value)} {oc_law_pairs kV_law_pairs dc_law_pairs pm_law_pairs cd_law_pairs ct_law_pairs : Value}
    {f_law_is_beside : Addr} {od_law_is_beside an_law_is_beside : Option Addr} {sl_law_is_beside : Array (Option Value)} {oc_law_is_beside kV_law_is_beside dc_law_is_beside pm_law_is_beside cd_law_is_beside ct_law_is_beside : Value}
    {flaw : Addr} {odlaw anlaw : Option Addr} {sllaw : Array (Option Value)} {oclaw kVlaw dclaw pmlaw cdlaw ctlaw : Value}
    {fbeside ccbeside Ptbeside : Addr} {odbeside anbeside ocdbeside : Option Addr} {slbeside oslbeside : Array (Option Value)} {ocbeside occbeside kVbeside dcbeside pmbeside ctbeside : Value} {vsbeside : Array Value}
    {tMOST_KEYS : Tok}
    {tMOST_STATES : Tok}
    (hn : PySem.W.specialIn K (.builtin "object.__class__") "__get__" = some (some (.builtin "getset_descriptor.__get__")))
    (ht : PySem.W.takesIn K (.builtin "object.__class__") = some true)
    (aM : PySem.W.nsIn K mainGlobals "MissError" = some (some (.ref M)))
    (m1 : PySem.W.subIn K (.ref M) (.type "BaseException") = some true)
    (m2 : PySem.W.hasDictIn K M = true)
    (m3 : PySem.W.typeIn K (.ref M) = some (.type "type"))
    (aCBadMachine : PySem.W.nsIn K mainGlobals "BadMachine" = some (some (.ref CBadMachine)))
    (xLBadMachine : K.lookup CBadMachine = some (excClassObj nmBadMachine qBadMachine CBadMachine NBadMachine bsBadMachine (tailM M) true snBadMachine subBadMachine abBadMachine colBadMachine ddBadMachine maBadMachine mbBadMachine mcBadMachine mdBadMachine meBadMachine "ValueError.__new__"))
    (saBadMachine : PySem.W.findIn K (.ref CBadMachine) "__setattr__" = some (some (.builtin "object.__setattr__")))
    (gaBadMachine : PySem.W.findIn K (.ref CBadMachine) "__getattribute__" = some (some (.builtin "BaseException.__getattribute__")))
    (ggBadMachine : PySem.W.findIn K (.ref CBadMachine) "__getattr__" = some none)
    (hcBadMachine : PySem.W.findIn K (.ref CBadMachine) "__class__" = some (some (.builtin "object.__class__")))
    (kCBadMachine : PySem.W.keepIn K (.ref CBadMachine) = true)
    (iCBadMachine : PySem.W.findIn K (.ref CBadMachine) "__init__" = some (some (.ref IBadMachine)))
    (tIBadMachine : PySem.W.typeIn K (.ref IBadMachine) = some (.type "function"))
    (lIBadMachine : K.lookup IBadMachine = some ⟨ociBadMachine, odiBadMachine, .func (PySem.W.fnOf "__init__" "BadMachine.__init__" (defArgs s_BadMachine) (defBody s_BadMachine) (defScope s_BadMachine) .none kViBadMachine dciBadMachine pmiBadMachine aniBadMachine cdiBadMachine ctiBadMachine), sliBadMachine⟩)
    (cIBadMachine : PySem.W.codeIn K cdiBadMachine "BadMachine.__init__" = true)
    (kIBadMachine : PySem.W.keepIn K (.ref IBadMachine) = true)
    (nfBadMachine_state : PySem.W.findIn K (.ref CBadMachine) "state" = some none)
    (nfBadMachine_place : PySem.W.findIn K (.ref CBadMachine) "place" = some none)
    (aCTooMany : PySem.W.nsIn K mainGlobals "TooMany" = some (some (.ref CTooMany)))
    (xLTooMany : K.lookup CTooMany = some (excClassObj nmTooMany qTooMany CTooMany NTooMany bsTooMany (tailM M) true snTooMany subTooMany abTooMany colTooMany ddTooMany maTooMany mbTooMany mcTooMany mdTooMany meTooMany "ValueError.__new__"))
    (saTooMany : PySem.W.findIn K (.ref CTooMany) "__setattr__" = some (some (.builtin "object.__setattr__")))
    (gaTooMany : PySem.W.findIn K (.ref CTooMany) "__getattribute__" = some (some (.builtin "BaseException.__getattribute__")))
    (ggTooMany : PySem.W.findIn K (.ref CTooMany) "__getattr__" = some none)
    (hcTooMany : PySem.W.findIn K (.ref CTooMany) "__class__" = some (some (.builtin "object.__class__")))
    (kCTooMany : PySem.W.keepIn K (.ref CTooMany) = true)
    (iCTooMany : PySem.W.findIn K (.ref CTooMany) "__init__" = some (some (.ref ITooMany)))
    (tITooMany : PySem.W.typeIn K (.ref ITooMany) = some (.type "function"))
    (lITooMany : K.lookup ITooMany = some ⟨ociTooMany, odiTooMany, .func (PySem.W.fnOf "__init__" "TooMany.__init__" (defArgs s_TooMany) (defBody s_TooMany) (defScope s_TooMany) .none kViTooMany dciTooMany pmiTooMany aniTooMany cdiTooMany ctiTooMany), sliTooMany⟩)
    (cITooMany : PySem.W.codeIn K cdiTooMany "TooMany.__init__" = true)
    (kITooMany : PySem.W.keepIn K (.ref ITooMany) = true)
    (nfTooMany_what : PySem.W.findIn K (.ref CTooMany) "what" = some none)
    (aCBadSign : PySem.W.nsIn K mainGlobals "BadSign" = some (some (.ref CBadSign)))
    (xLBadSign : K.lookup CBadSign = some (excClassObj nmBadSign qBadSign CBadSign NBadSign bsBadSign (tailM M) true snBadSign subBadSign abBadSign colBadSign ddBadSign maBadSign mbBadSign mcBadSign mdBadSign meBadSign "ValueError.__new__"))
    (saBadSign : PySem.W.findIn K (.ref CBadSign) "__setattr__" = some (some (.builtin "object.__setattr__")))
    (gaBadSign : PySem.W.findIn K (.ref CBadSign) "__getattribute__" = some (some (.builtin "BaseException.__getattribute__")))
    (ggBadSign : PySem.W.findIn K (.ref CBadSign) "__getattr__" = some none)
    (hcBadSign : PySem.W.findIn K (.ref CBadSign) "__class__" = some (some (.builtin "object.__class__")))
    (kCBadSign : PySem.W.keepIn K (.ref CBadSign) = true)
    (iCBadSign : PySem.W.findIn K (.ref CBadSign) "__init__" = some (some (.ref IBadSign)))
    (tIBadSign : PySem.W.typeIn K (.ref IBadSign) = some (.type "function"))
    (lIBadSign : K.lookup IBadSign = some ⟨ociBadSign, odiBadSign, .func (PySem.W.fnOf "__init__" "BadSign.__init__" (defArgs s_BadSign) (defBody s_BadSign) (defScope s_BadSign) .none kViBadSign dciBadSign pmiBadSign aniBadSign cdiBadSign ctiBadSign), sliBadSign⟩)
    (cIBadSign : PySem.W.codeIn K cdiBadSign "BadSign.__init__" = true)
    (kIBadSign : PySem.W.keepIn K (.ref IBadSign) = true)
    (nfBadSign_place : PySem.W.findIn K (.ref CBadSign) "place" = some none)
    (aCUnlike : PySem.W.nsIn K mainGlobals "Unlike" = some (some (.ref CUnlike)))
    (xLUnlike : K.lookup CUnlike = some (excClassObj nmUnlike qUnlike CUnlike NUnlike bsUnlike (tailM M) true snUnlike subUnlike abUnlike colUnlike ddUnlike maUnlike mbUnlike mcUnlike mdUnlike meUnlike "ValueError.__new__"))
    (saUnlike : PySem.W.findIn K (.ref CUnlike) "__setattr__" = some (some (.builtin "object.__setattr__")))
    (gaUnlike : PySem.W.findIn K (.ref CUnlike) "__getattribute__" = some (some (.builtin "BaseException.__getattribute__")))
    (ggUnlike : PySem.W.findIn K (.ref CUnlike) "__getattr__" = some none)
    (hcUnlike : PySem.W.findIn K (.ref CUnlike) "__class__" = some (some (.builtin "object.__class__")))
    (kCUnlike : PySem.W.keepIn K (.ref CUnlike) = true)
    (s_TooMany_TooMany : PySem.W.subIn K (.ref CTooMany) (.ref CTooMany) = some true)
    (s_Unlike_Unlike : PySem.W.subIn K (.ref CUnlike) (.ref CUnlike) = some true)
    (s_TooMany_Unlike : PySem.W.subIn K (.ref CTooMany) (.ref CUnlike) = some false)
    (aCMachine : PySem.W.nsIn K mainGlobals "Machine" = some (some (.ref CMachine)))
    (pgMachine : PySem.W.plainGet K CMachine Str.empty = true)
    (hdMachine : PySem.W.hasDictIn K CMachine = true)
    (poMachine : PySem.W.plainOver K CMachine = true)
    (saMachine : PySem.W.findIn K (.ref CMachine) "__setattr__" = some (some (.builtin "object.__setattr__")))
    (mkMachine : PySem.W.makesIn K CMachine = true)
    (kcMachine : PySem.W.keepIn K (.ref CMachine) = true)
    (naMachine_signs : PySem.W.findIn K (.ref CMachine) "signs" = some none)
    (naMachine_rows : PySem.W.findIn K (.ref CMachine) "rows" = some none)
    (naMachine_ends : PySem.W.findIn K (.ref CMachine) "ends" = some none)
    (naMachine_all_keys : PySem.W.findIn K (.ref CMachine) "all_keys" = some none)
    (naMachine__ways : PySem.W.findIn K (.ref CMachine) "_ways" = some none)
    (aMachine_init : PySem.W.findIn K (.ref CMachine) "__init__" = some (some (.ref fMachine_init)))
    (iMachine_init : PySem.W.isFn K (.ref fMachine_init) = true)
    (lMachine_init : K.lookup fMachine_init = some ⟨ocMachine_init, odMachine_init, .func (PySem.W.fnOf "__init__" "Machine.__init__" (defArgs s_init) (defBody s_init) (defScope s_init) .none kVMachine_init dcMachine_init pmMachine_init anMachine_init cdMachine_init ctMachine_init), slMachine_init⟩)
    (cMachine_init : PySem.W.codeIn K cdMachine_init "Machine.__init__" = true)
    (kMachine_init : PySem.W.keepIn K (.ref fMachine_init) = true)
    (aMachine_walk : PySem.W.findIn K (.ref CMachine) "walk" = some (some (.ref fMachine_walk)))
    (iMachine_walk : PySem.W.isFn K (.ref fMachine_walk) = true)
    (lMachine_walk : K.lookup fMachine_walk = some ⟨ocMachine_walk, odMachine_walk, .func (PySem.W.fnOf "walk" "Machine.walk" (defArgs s_Machine_walk) (defBody s_Machine_walk) (defScope s_Machine_walk) .none kVMachine_walk dcMachine_walk pmMachine_walk anMachine_walk cdMachine_walk ctMachine_walk), slMachine_walk⟩)
    (cMachine_walk : PySem.W.codeIn K cdMachine_walk "Machine.walk" = true)
    (kMachine_walk : PySem.W.keepIn K (.ref fMachine_walk) = true)
    (aMachine_keys_of : PySem.W.findIn K (.ref CMachine) "keys_of" = some (some (.ref fMachine_keys_of)))
    (iMachine_keys_of : PySem.W.isFn K (.ref fMachine_keys_of) = true)
    (lMachine_keys_of : K.lookup fMachine_keys_of = some ⟨ocMachine_keys_of, odMachine_keys_of, .func (PySem.W.fnOf "keys_of" "Machine.keys_of" (defArgs s_Machine_keys_of) (defBody s_Machine_keys_of) (defScope s_Machine_keys_of) .none kVMachine_keys_of dcMachine_keys_of pmMachine_keys_of anMachine_keys_of cdMachine_keys_of ctMachine_keys_of), slMachine_keys_of⟩)
    (cMachine_keys_of : PySem.W.codeIn K cdMachine_keys_of "Machine.keys_of" = true)
    (kMachine_keys_of : PySem.W.keepIn K (.ref fMachine_keys_of) = true)
    (ais_whole : PySem.W.nsIn K mainGlobals "is_whole" = some (some (.ref fis_whole)))
    (lis_whole : K.lookup fis_whole = some ⟨ocis_whole, odis_whole, .func (PySem.W.fnOf "is_whole" "is_whole" (defArgs s_is_whole) (defBody s_is_whole) (defScope s_is_whole) .none kVis_whole dcis_whole pmis_whole anis_whole cdis_whole ctis_whole), slis_whole⟩)
    (cis_whole : PySem.W.codeIn K cdis_whole "is_whole" = true)
    (kis_whole : PySem.W.keepIn K (.ref fis_whole) = true)
    (akey_list : PySem.W.nsIn K mainGlobals "key_list" = some (some (.ref fkey_list)))
    (lkey_list : K.lookup fkey_list = some ⟨ockey_list, odkey_list, .func (PySem.W.fnOf "key_list" "key_list" (defArgs s_key_list) (defBody s_key_list) (defScope s_key_list) .none kVkey_list dckey_list pmkey_list ankey_list cdkey_list ctkey_list), slkey_list⟩)
    (ckey_list : PySem.W.codeIn K cdkey_list "key_list" = true)
    (kkey_list : PySem.W.keepIn K (.ref fkey_list) = true)
    (acheck_ways : PySem.W.nsIn K mainGlobals "check_ways" = some (some (.ref fcheck_ways)))
    (lcheck_ways : K.lookup fcheck_ways = some ⟨occheck_ways, odcheck_ways, .func (PySem.W.fnOf "check_ways" "check_ways" (defArgs s_check_ways) (defBody s_check_ways) (defScope s_check_ways) .none kVcheck_ways dccheck_ways pmcheck_ways ancheck_ways cdcheck_ways ctcheck_ways), slcheck_ways⟩)
    (ccheck_ways : PySem.W.codeIn K cdcheck_ways "check_ways" = true)
    (kcheck_ways : PySem.W.keepIn K (.ref fcheck_ways) = true)
    (akeys_in : PySem.W.nsIn K mainGlobals "keys_in" = some (some (.ref fkeys_in)))
    (lkeys_in : K.lookup fkeys_in = some ⟨ockeys_in, odkeys_in, .func (PySem.W.fnOf "keys_in" "keys_in" (defArgs s_keys_in) (defBody s_keys_in) (defScope s_keys_in) .none kVkeys_in dckeys_in pmkeys_in ankeys_in cdkeys_in ctkeys_in), slkeys_in⟩)
    (ckeys_in : PySem.W.codeIn K cdkeys_in "keys_in" = true)
    (kkeys_in : PySem.W.keepIn K (.ref fkeys_in) = true)
    (acopied : PySem.W.nsIn K mainGlobals "copied" = some (some (.ref fcopied)))
    (lcopied : K.lookup fcopied = some ⟨occopied, odcopied, .func (PySem.W.fnOf "copied" "copied" (defArgs s_copied) (defBody s_copied) (defScope s_copied) .none kVcopied dccopied pmcopied ancopied cdcopied ctcopied), slcopied⟩)
    (ccopied : PySem.W.codeIn K cdcopied "copied" = true)
    (kcopied : PySem.W.keepIn K (.ref fcopied) = true)
    (asame_signs : PySem.W.nsIn K mainGlobals "same_signs" = some (some (.ref fsame_signs)))
    (lsame_signs : K.lookup fsame_signs = some ⟨ocsame_signs, odsame_signs, .func (PySem.W.fnOf "same_signs" "same_signs" (defArgs s_same_signs) (defBody s_same_signs) (defScope s_same_signs) .none kVsame_signs dcsame_signs pmsame_signs ansame_signs cdsame_signs ctsame_signs), slsame_signs⟩)
    (csame_signs : PySem.W.codeIn K cdsame_signs "same_signs" = true)
    (ksame_signs : PySem.W.keepIn K (.ref fsame_signs) = true)
    (abuilt : PySem.W.nsIn K mainGlobals "built" = some (some (.ref fbuilt)))
    (lbuilt : K.lookup fbuilt = some ⟨ocbuilt, odbuilt, .func (PySem.W.fnOf "built" "built" (defArgs s_built) (defBody s_built) (defScope s_built) .none kVbuilt dcbuilt pmbuilt anbuilt cdbuilt ctbuilt), slbuilt⟩)
    (cbuilt : PySem.W.codeIn K cdbuilt "built" = true)
    (kbuilt : PySem.W.keepIn K (.ref fbuilt) = true)
    (acome_to : PySem.W.nsIn K mainGlobals "come_to" = some (some (.ref fcome_to)))
    (lcome_to : K.lookup fcome_to = some ⟨occome_to, odcome_to, .func (PySem.W.fnOf "come_to" "come_to" (defArgs s_come_to) (defBody s_come_to) (defScope s_come_to) .none kVcome_to dccome_to pmcome_to ancome_to cdcome_to ctcome_to), slcome_to⟩)
    (ccome_to : PySem.W.codeIn K cdcome_to "come_to" = true)
    (kcome_to : PySem.W.keepIn K (.ref fcome_to) = true)
    (afolded : PySem.W.nsIn K mainGlobals "folded" = some (some (.ref ffolded)))
    (lfolded : K.lookup ffolded = some ⟨ocfolded, odfolded, .func (PySem.W.fnOf "folded" "folded" (defArgs s_folded) (defBody s_folded) (defScope s_folded) .none kVfolded dcfolded pmfolded anfolded cdfolded ctfolded), slfolded⟩)
    (cfolded : PySem.W.codeIn K cdfolded "folded" = true)
    (kfolded : PySem.W.keepIn K (.ref ffolded) = true)
    (a_law_pen : PySem.W.nsIn K mainGlobals "_law_pen" = some (some (.ref f_law_pen)))
    (l_law_pen : K.lookup f_law_pen = some ⟨oc_law_pen, od_law_pen, .func (PySem.W.fnOf "_law_pen" "_law_pen" (defArgs s__law_pen) (defBody s__law_pen) (defScope s__law_pen) .none kV_law_pen dc_law_pen pm_law_pen an_law_pen cd_law_pen ct_law_pen), sl_law_pen⟩)
    (c_law_pen : PySem.W.codeIn K cd_law_pen "_law_pen" = true)
    (k_law_pen : PySem.W.keepIn K (.ref f_law_pen) = true)
    (a_law_draw : PySem.W.nsIn K mainGlobals "_law_draw" = some (some (.ref f_law_draw)))
    (l_law_draw : K.lookup f_law_draw = some ⟨oc_law_draw, od_law_draw, .func (PySem.W.fnOf "_law_draw" "_law_draw" (defArgs s__law_draw) (defBody s__law_draw) (defScope s__law_draw) .none kV_law_draw dc_law_draw pm_law_draw an_law_draw cd_law_draw ct_law_draw), sl_law_draw⟩)
    (c_law_draw : PySem.W.codeIn K cd_law_draw "_law_draw" = true)
    (k_law_draw : PySem.W.keepIn K (.ref f_law_draw) = true)
    (a_law_pick : PySem.W.nsIn K mainGlobals "_law_pick" = some (some (.ref f_law_pick)))
    (l_law_pick : K.lookup f_law_pick = some ⟨oc_law_pick, od_law_pick, .func (PySem.W.fnOf "_law_pick" "_law_pick" (defArgs s__law_pick) (defBody s__law_pick) (defScope s__law_pick) .none kV_law_pick dc_law_pick pm_law_pick an_law_pick cd_law_pick ct_law_pick), sl_law_pick⟩)
    (c_law_pick : PySem.W.codeIn K cd_law_pick "_law_pick" = true)
    (k_law_pick : PySem.W.keepIn K (.ref f_law_pick) = true)
    (a_law_signs : PySem.W.nsIn K mainGlobals "_law_signs" = some (some (.ref f_law_signs)))
    (l_law_signs : K.lookup f_law_signs = some ⟨oc_law_signs, od_law_signs, .func (PySem.W.fnOf "_law_signs" "_law_signs" (defArgs s__law_signs) (defBody s__law_signs) (defScope s__law_signs) .none kV_law_signs dc_law_signs pm_law_signs an_law_signs cd_law_signs ct_law_signs), sl_law_signs⟩)
    (c_law_signs : PySem.W.codeIn K cd_law_signs "_law_signs" = true)
    (k_law_signs : PySem.W.keepIn K (.ref f_law_signs) = true)
    (a_law_keys : PySem.W.nsIn K mainGlobals "_law_keys" = some (some (.ref f_law_keys)))
    (l_law_keys : K.lookup f_law_keys = some ⟨oc_law_keys, od_law_keys, .func (PySem.W.fnOf "_law_keys" "_law_keys" (defArgs s__law_keys) (defBody s__law_keys) (defScope s__law_keys) .none kV_law_keys dc_law_keys pm_law_keys an_law_keys cd_law_keys ct_law_keys), sl_law_keys⟩)
    (c_law_keys : PySem.W.codeIn K cd_law_keys "_law_keys" = true)
    (k_law_keys : PySem.W.keepIn K (.ref f_law_keys) = true)
    (a_law_tables : PySem.W.nsIn K mainGlobals "_law_tables" = some (some (.ref f_law_tables)))
    (l_law_tables : K.lookup f_law_tables = some ⟨oc_law_tables, od_law_tables, .func (PySem.W.fnOf "_law_tables" "_law_tables" (defArgs s__law_tables) (defBody s__law_tables) (defScope s__law_tables) .none kV_law_tables dc_law_tables pm_law_tables an_law_tables cd_law_tables ct_law_tables), sl_law_tables⟩)
    (c_law_tables : PySem.W.codeIn K cd_law_tables "_law_tables" = true)
    (k_law_tables : PySem.W.keepIn K (.ref f_law_tables) = true)
    (a_law_read : PySem.W.nsIn K mainGlobals "_law_read" = some (some (.ref f_law_read)))
    (l_law_read : K.lookup f_law_read = some ⟨oc_law_read, od_law_read, .func (PySem.W.fnOf "_law_read" "_law_read" (defArgs s__law_read) (defBody s__law_read) (defScope s__law_read) .none kV_law_read dc_law_read pm_law_read an_law_read cd_law_read ct_law_read), sl_law_read⟩)
    (c_law_read : PySem.W.codeIn K cd_law_read "_law_read" = true)
    (k_law_read : PySem.W.keepIn K (.ref f_law_read) = true)
    (a_law_texts : PySem.W.nsIn K mainGlobals "_law_texts" = some (some (.ref f_law_texts)))
    (l_law_texts : K.lookup f_law_texts = some ⟨oc_law_texts, od_law_texts, .func (PySem.W.fnOf "_law_texts" "_law_texts" (defArgs s__law_texts) (defBody s__law_texts) (defScope s__law_texts) .none kV_law_texts dc_law_texts pm_law_texts an_law_texts cd_law_texts ct_law_texts), sl_law_texts⟩)
    (c_law_texts : PySem.W.codeIn K cd_law_texts "_law_texts" = true)
    (k_law_texts : PySem.W.keepIn K (.ref f_law_texts) = true)
    (a_law_text : PySem.W.nsIn K mainGlobals "_law_text" = some (some (.ref f_law_text)))
    (l_law_text : K.lookup f_law_text = some ⟨oc_law_text, od_law_text, .func (PySem.W.fnOf "_law_text" "_law_text" (defArgs s__law_text) (defBody s__law_text) (defScope s__law_text) .none kV_law_text dc_law_text pm_law_text an_law_text cd_law_text ct_law_text), sl_law_text⟩)
    (c_law_text : PySem.W.codeIn K cd_law_text "_law_text" = true)
    (k_law_text : PySem.W.keepIn K (.ref f_law_text) = true)
    (a_law_some_texts : PySem.W.nsIn K mainGlobals "_law_some_texts" = some (some (.ref f_law_some_texts)))
    (l_law_some_texts : K.lookup f_law_some_texts = some ⟨oc_law_some_texts, od_law_some_texts, .func (PySem.W.fnOf "_law_some_texts" "_law_some_texts" (defArgs s__law_some) (defBody s__law_some) (defScope s__law_some) .none kV_law_some_texts dc_law_some_texts pm_law_some_texts an_law_some_texts cd_law_some_texts ct_law_some_texts), sl_law_some_texts⟩)
    (c_law_some_texts : PySem.W.codeIn K cd_law_some_texts "_law_some_texts" = true)
    (k_law_some_texts : PySem.W.keepIn K (.ref f_law_some_texts) = true)
    (a_law_is_folded : PySem.W.nsIn K mainGlobals "_law_is_folded" = some (some (.ref f_law_is_folded)))
    (l_law_is_folded : K.lookup f_law_is_folded = some ⟨oc_law_is_folded, od_law_is_folded, .func (PySem.W.fnOf "_law_is_folded" "_law_is_folded" (defArgs s__law_isf) (defBody s__law_isf) (defScope s__law_isf) .none kV_law_is_folded dc_law_is_folded pm_law_is_folded an_law_is_folded cd_law_is_folded ct_law_is_folded), sl_law_is_folded⟩)
    (c_law_is_folded : PySem.W.codeIn K cd_law_is_folded "_law_is_folded" = true)
    (k_law_is_folded : PySem.W.keepIn K (.ref f_law_is_folded) = true)
    (a_law_beside : PySem.W.nsIn K mainGlobals "_law_beside" = some (some (.ref f_law_beside)))
    (l_law_beside : K.lookup f_law_beside = some ⟨oc_law_beside, od_law_beside, .func (PySem.W.fnOf "_law_beside" "_law_beside" (defArgs s__law_beside) (defBody s__law_beside) (defScope s__law_beside) .none kV_law_beside dc_law_beside pm_law_beside an_law_beside cd_law_beside ct_law_beside), sl_law_beside⟩)
    (c_law_beside : PySem.W.codeIn K cd_law_beside "_law_beside" = true)
    (k_law_beside : PySem.W.keepIn K (.ref f_law_beside) = true)
    (a_law_pairs : PySem.W.nsIn K mainGlobals "_law_pairs" = some (some (.ref f_law_pairs)))
    (l_law_pairs : K.lookup f_law_pairs = some ⟨oc_law_pairs, od_law_pairs, .func (PySem.W.fnOf "_law_pairs" "_law_pairs" (defArgs s__law_pairs) (defBody s__law_pairs) (defScope s__law_pairs) .none kV_law_pairs dc_law_pairs pm_law_pairs an_law_pairs cd_law_pairs ct_law_pairs), sl_law_pairs⟩)
    (c_law_pairs : PySem.W.codeIn K cd_law_pairs "_law_pairs" = true)
    (k_law_pairs : PySem.W.keepIn K (.ref f_law_pairs) = true)
    (a_law_is_beside : PySem.W.nsIn K mainGlobals "_law_is_beside" = some (some (.ref f_law_is_beside)))
    (l_law_is_beside : K.lookup f_law_is_beside = some ⟨oc_law_is_beside, od_law_is_beside, .func (PySem.W.fnOf "_law_is_beside" "_law_is_beside" (defArgs s__law_isb) (defBody s__law_isb) (defScope s__law_isb) .none kV_law_is_beside dc_law_is_beside pm_law_is_beside an_law_is_beside cd_law_is_beside ct_law_is_beside), sl_law_is_beside⟩)
    (c_law_is_beside : PySem.W.codeIn K cd_law_is_beside "_law_is_beside" = true)
    (k_law_is_beside : PySem.W.keepIn K (.ref f_law_is_beside) = true)
    (alaw : PySem.W.nsIn K mainGlobals "law" = some (some (.ref flaw)))
    (llaw : K.lookup flaw = some ⟨oclaw, odlaw, .func (PySem.W.fnOf "law" "law" (defArgs s_law) (defBody s_law) (defScope s_law) .none kVlaw dclaw pmlaw anlaw cdlaw ctlaw), sllaw⟩)
    (claw : PySem.W.codeIn K cdlaw "law" = true)
    (klaw : PySem.W.keepIn K (.ref flaw) = true)
    (abeside : PySem.W.nsIn K mainGlobals "beside" = some (some (.ref fbeside)))
    (lbeside : K.lookup fbeside = some ⟨ocbeside, odbeside, .func (PySem.W.fnOf "beside" "beside" (defArgs s_beside) (defBody s_beside) (defScope s_beside) .none kVbeside dcbeside pmbeside anbeside (.ref ccbeside) ctbeside), slbeside⟩)
    (cbeside : PySem.W.codeIn K (.ref ccbeside) "beside" = true)
    (kbeside : PySem.W.keepIn K (.ref fbeside) = true)
    (vbeside : K.lookup ccbeside = some ⟨occbeside, ocdbeside, .fields vsbeside, oslbeside⟩)
    (pbeside : vsbeside[11]? = some (.ref Ptbeside))
    (hbeside : PySem.W.codeHdIn K ccbeside Ptbeside = true)
    (ubeside : K.lookup Ptbeside = none)
    (ebeside : h.get? Ptbeside = some { cls := .none, data := .fields #[] })
    (ndP : ([Ptbeside] : List Addr).Nodup)
    (gMOST_KEYS : PySem.W.nsIn K mainGlobals "MOST_KEYS" = some (some (.int 12 tMOST_KEYS)))
    (gMOST_STATES : PySem.W.nsIn K mainGlobals "MOST_STATES" = some (some (.int 16 tMOST_STATES)))
    (z_isinstance : PySem.W.nsIn K mainGlobals "isinstance" = some none)
    (z_list : PySem.W.nsIn K mainGlobals "list" = some none)
    (z_tuple : PySem.W.nsIn K mainGlobals "tuple" = some none)
    (z_dict : PySem.W.nsIn K mainGlobals "dict" = some none)
    (z_int : PySem.W.nsIn K mainGlobals "int" = some none)
    (z_bool : PySem.W.nsIn K mainGlobals "bool" = some none)
    (z_len : PySem.W.nsIn K mainGlobals "len" = some none)
    (z_set : PySem.W.nsIn K mainGlobals "set" = some none)
    (z_sorted : PySem.W.nsIn K mainGlobals "sorted" = some none)
    (z_zip : PySem.W.nsIn K mainGlobals "zip" = some none)
    (z_enumerate : PySem.W.nsIn K mainGlobals "enumerate" = some none)
    (z_range : PySem.W.nsIn K mainGlobals "range" = some none)
    (z_min : PySem.W.nsIn K mainGlobals "min" = some none)
    (z_str : PySem.W.nsIn K mainGlobals "str" = some none)
    (xUnlike : PySem.W.excIn K CUnlike [.type "ValueError", .type "Exception", .type "BaseException", .type "object"] "ValueError.__new__" = true)
    (hcMachine : PySem.W.findIn K (.ref CMachine) "__class__" = some (some (.builtin "object.__class__")))
    (hmMachine : PySem.W.mroIn K CMachine (.type "object") = some true)
    : LamX.LawAtS l w K (fun o H s E e s' => CX0 o H s E e s') 11 63 "script" mg fa h := by
  have e : flaw = fa := Value.ref.inj (Option.some.inj ((PySem.W.mg_of X G alaw).symm.trans hfa))
  subst e
  have E_BadMachine : ErrC K mg "BadMachine" CBadMachine M := err_mk (PySem.W.mg_of X G aCBadMachine) xLBadMachine saBadMachine gaBadMachine ggBadMachine hcBadMachine hn ht kCBadMachine
  have FI_BadMachine := fun_mk (st := s_BadMachine) lIBadMachine cIBadMachine kIBadMachine
  have I_BadMachine : IniT K "BadMachine.__init__" s_BadMachine CBadMachine IBadMachine _ ["self", "state", "place"] := ⟨iCBadMachine, tIBadMachine, FI_BadMachine, FI_BadMachine.binds (ps := ["self", "state", "place"]) fun _ _ _ _ _ _ us hl => match us, hl with | [_, _, _], _ => rfl⟩
  have E_TooMany : ErrC K mg "TooMany" CTooMany M := err_mk (PySem.W.mg_of X G aCTooMany) xLTooMany saTooMany gaTooMany ggTooMany hcTooMany hn ht kCTooMany
  have FI_TooMany := fun_mk (st := s_TooMany) lITooMany cITooMany kITooMany
  have I_TooMany : IniT K "TooMany.__init__" s_TooMany CTooMany ITooMany _ ["self", "what"] := ⟨iCTooMany, tITooMany, FI_TooMany, FI_TooMany.binds (ps := ["self", "what"]) fun _ _ _ _ _ _ us hl => match us, hl with | [_, _], _ => rfl⟩
  have E_BadSign : ErrC K mg "BadSign" CBadSign M := err_mk (PySem.W.mg_of X G aCBadSign) xLBadSign saBadSign gaBadSign ggBadSign hcBadSign hn ht kCBadSign
  have FI_BadSign := fun_mk (st := s_BadSign) lIBadSign cIBadSign kIBadSign
  have I_BadSign : IniT K "BadSign.__init__" s_BadSign CBadSign IBadSign _ ["self", "place"] := ⟨iCBadSign, tIBadSign, FI_BadSign, FI_BadSign.binds (ps := ["self", "place"]) fun _ _ _ _ _ _ us hl => match us, hl with | [_, _], _ => rfl⟩
  have E_Unlike : ErrC K mg "Unlike" CUnlike M := err_mk (PySem.W.mg_of X G aCUnlike) xLUnlike saUnlike gaUnlike ggUnlike hcUnlike hn ht kCUnlike
  have x_TooMany_TooMany : PySem.W.exmOne K (.ref CTooMany) (.ref CTooMany) = some true := PySem.W.exm_ref ((E_TooMany.sub (.type "BaseException")).trans rfl) E_TooMany.exc.hd E_TooMany.oex.tyC s_TooMany_TooMany
  have x_Unlike_Unlike : PySem.W.exmOne K (.ref CUnlike) (.ref CUnlike) = some true := PySem.W.exm_ref ((E_Unlike.sub (.type "BaseException")).trans rfl) E_Unlike.exc.hd E_Unlike.oex.tyC s_Unlike_Unlike
  have x_TooMany_Unlike : PySem.W.exmOne K (.ref CTooMany) (.ref CUnlike) = some false := PySem.W.exm_ref ((E_Unlike.sub (.type "BaseException")).trans rfl) E_Unlike.exc.hd E_Unlike.oex.tyC s_TooMany_Unlike
  have cl_Machine : Cls K CMachine := ⟨pgMachine, hdMachine, poMachine, saMachine⟩
  have F_Machine_init := fun_mk (st := s_init) lMachine_init cMachine_init kMachine_init
  have b_Machine_init := F_Machine_init.binds (ps := ["self", "signs", "rows", "ends"]) fun _ _ _ _ _ _ us hl => match us, hl with | [_, _, _, _], _ => rfl
  have mk_Machine : Mk K CMachine fMachine_init := ⟨mkMachine, aMachine_init, iMachine_init, kcMachine⟩
  have F_Machine_walk := fun_mk (st := s_Machine_walk) lMachine_walk cMachine_walk kMachine_walk
  have b_Machine_walk := F_Machine_walk.binds (ps := ["self", "state", "text"]) fun _ _ _ _ _ _ us hl => match us, hl with | [_, _, _], _ => rfl
  have m_Machine_walk : Meth K CMachine "walk" fMachine_walk := ⟨aMachine_walk, iMachine_walk, kMachine_walk⟩
  have F_Machine_keys_of := fun_mk (st := s_Machine_keys_of) lMachine_keys_of cMachine_keys_of kMachine_keys_of
  have b_Machine_keys_of := F_Machine_keys_of.binds (ps := ["self", "text"]) fun _ _ _ _ _ _ us hl => match us, hl with | [_, _], _ => rfl
  have m_Machine_keys_of : Meth K CMachine "keys_of" fMachine_keys_of := ⟨aMachine_keys_of, iMachine_keys_of, kMachine_keys_of⟩
  have Fis_whole := fun_mk (st := s_is_whole) lis_whole cis_whole kis_whole
  have Dis_whole : DefT K mg "is_whole" "is_whole" s_is_whole ["value"] fis_whole _ := ⟨PySem.W.mg_of X G ais_whole, Fis_whole, Fis_whole.binds (ps := ["value"]) fun _ _ _ _ _ _ us hl => match us, hl with | [_], _ => rfl⟩
  have Fkey_list := fun_mk (st := s_key_list) lkey_list ckey_list kkey_list
  have Dkey_list : DefT K mg "key_list" "key_list" s_key_list ["given"] fkey_list _ := ⟨PySem.W.mg_of X G akey_list, Fkey_list, Fkey_list.binds (ps := ["given"]) fun _ _ _ _ _ _ us hl => match us, hl with | [_], _ => rfl⟩
  have Fcheck_ways := fun_mk (st := s_check_ways) lcheck_ways ccheck_ways kcheck_ways
  have Dcheck_ways : DefT K mg "check_ways" "check_ways" s_check_ways ["rows"] fcheck_ways _ := ⟨PySem.W.mg_of X G acheck_ways, Fcheck_ways, Fcheck_ways.binds (ps := ["rows"]) fun _ _ _ _ _ _ us hl => match us, hl with | [_], _ => rfl⟩
  have Fkeys_in := fun_mk (st := s_keys_in) lkeys_in ckeys_in kkeys_in
  have Dkeys_in : DefT K mg "keys_in" "keys_in" s_keys_in ["rows", "ends"] fkeys_in _ := ⟨PySem.W.mg_of X G akeys_in, Fkeys_in, Fkeys_in.binds (ps := ["rows", "ends"]) fun _ _ _ _ _ _ us hl => match us, hl with | [_, _], _ => rfl⟩
  have Fcopied := fun_mk (st := s_copied) lcopied ccopied kcopied
  have Dcopied : DefT K mg "copied" "copied" s_copied ["field"] fcopied _ := ⟨PySem.W.mg_of X G acopied, Fcopied, Fcopied.binds (ps := ["field"]) fun _ _ _ _ _ _ us hl => match us, hl with | [_], _ => rfl⟩
  have Fsame_signs := fun_mk (st := s_same_signs) lsame_signs csame_signs ksame_signs
  have Dsame_signs : DefT K mg "same_signs" "same_signs" s_same_signs ["one", "other"] fsame_signs _ := ⟨PySem.W.mg_of X G asame_signs, Fsame_signs, Fsame_signs.binds (ps := ["one", "other"]) fun _ _ _ _ _ _ us hl => match us, hl with | [_, _], _ => rfl⟩
  have Fbuilt := fun_mk (st := s_built) lbuilt cbuilt kbuilt
  have Dbuilt : DefT K mg "built" "built" s_built ["signs", "labels", "step", "at_end"] fbuilt _ := ⟨PySem.W.mg_of X G abuilt, Fbuilt, Fbuilt.binds (ps := ["signs", "labels", "step", "at_end"]) fun _ _ _ _ _ _ us hl => match us, hl with | [_, _, _, _], _ => rfl⟩
  have Fcome_to := fun_mk (st := s_come_to) lcome_to ccome_to kcome_to
  have Dcome_to : DefT K mg "come_to" "come_to" s_come_to ["label", "signs", "step"] fcome_to _ := ⟨PySem.W.mg_of X G acome_to, Fcome_to, Fcome_to.binds (ps := ["label", "signs", "step"]) fun _ _ _ _ _ _ us hl => match us, hl with | [_, _, _], _ => rfl⟩
  have Ffolded := fun_mk (st := s_folded) lfolded cfolded kfolded
  have Dfolded : DefT K mg "folded" "folded" s_folded ["machine", "signs", "words"] ffolded _ := ⟨PySem.W.mg_of X G afolded, Ffolded, Ffolded.binds (ps := ["machine", "signs", "words"]) fun _ _ _ _ _ _ us hl => match us, hl with | [_, _, _], _ => rfl⟩
  have F_law_pen := fun_mk (st := s__law_pen) l_law_pen c_law_pen k_law_pen
  have D_law_pen : DefT K mg "_law_pen" "_law_pen" s__law_pen ["script"] f_law_pen _ := ⟨PySem.W.mg_of X G a_law_pen, F_law_pen, F_law_pen.binds (ps := ["script"]) fun _ _ _ _ _ _ us hl => match us, hl with | [_], _ => rfl⟩
  have F_law_draw := fun_mk (st := s__law_draw) l_law_draw c_law_draw k_law_draw
  have D_law_draw : DefT K mg "_law_draw" "_law_draw" s__law_draw ["pen", "many"] f_law_draw _ := ⟨PySem.W.mg_of X G a_law_draw, F_law_draw, F_law_draw.binds (ps := ["pen", "many"]) fun _ _ _ _ _ _ us hl => match us, hl with | [_, _], _ => rfl⟩
  have F_law_pick := fun_mk (st := s__law_pick) l_law_pick c_law_pick k_law_pick
  have D_law_pick : DefT K mg "_law_pick" "_law_pick" s__law_pick ["pen", "items"] f_law_pick _ := ⟨PySem.W.mg_of X G a_law_pick, F_law_pick, F_law_pick.binds (ps := ["pen", "items"]) fun _ _ _ _ _ _ us hl => match us, hl with | [_, _], _ => rfl⟩
  have F_law_signs := fun_mk (st := s__law_signs) l_law_signs c_law_signs k_law_signs
  have D_law_signs : DefT K mg "_law_signs" "_law_signs" s__law_signs ["pen", "many"] f_law_signs _ := ⟨PySem.W.mg_of X G a_law_signs, F_law_signs, F_law_signs.binds (ps := ["pen", "many"]) fun _ _ _ _ _ _ us hl => match us, hl with | [_, _], _ => rfl⟩
  have F_law_keys := fun_mk (st := s__law_keys) l_law_keys c_law_keys k_law_keys
  have D_law_keys : DefT K mg "_law_keys" "_law_keys" s__law_keys ["pen", "words"] f_law_keys _ := ⟨PySem.W.mg_of X G a_law_keys, F_law_keys, F_law_keys.binds (ps := ["pen", "words"]) fun _ _ _ _ _ _ us hl => match us, hl with | [_, _], _ => rfl⟩
  have F_law_tables := fun_mk (st := s__law_tables) l_law_tables c_law_tables k_law_tables
  have D_law_tables : DefT K mg "_law_tables" "_law_tables" s__law_tables ["pen", "signs", "most", "words"] f_law_tables _ := ⟨PySem.W.mg_of X G a_law_tables, F_law_tables, F_law_tables.binds (ps := ["pen", "signs", "most", "words"]) fun _ _ _ _ _ _ us hl => match us, hl with | [_, _, _, _], _ => rfl⟩
  have F_law_read := fun_mk (st := s__law_read) l_law_read c_law_read k_law_read
  have D_law_read : DefT K mg "_law_read" "_law_read" s__law_read ["signs", "tables", "text"] f_law_read _ := ⟨PySem.W.mg_of X G a_law_read, F_law_read, F_law_read.binds (ps := ["signs", "tables", "text"]) fun _ _ _ _ _ _ us hl => match us, hl with | [_, _, _], _ => rfl⟩
  have F_law_texts := fun_mk (st := s__law_texts) l_law_texts c_law_texts k_law_texts
  have D_law_texts : DefT K mg "_law_texts" "_law_texts" s__law_texts ["signs", "most"] f_law_texts _ := ⟨PySem.W.mg_of X G a_law_texts, F_law_texts, F_law_texts.binds (ps := ["signs", "most"]) fun _ _ _ _ _ _ us hl => match us, hl with | [_, _], _ => rfl⟩
  have F_law_text := fun_mk (st := s__law_text) l_law_text c_law_text k_law_text
  have D_law_text : DefT K mg "_law_text" "_law_text" s__law_text ["pen", "signs", "most"] f_law_text _ := ⟨PySem.W.mg_of X G a_law_text, F_law_text, F_law_text.binds (ps := ["pen", "signs", "most"]) fun _ _ _ _ _ _ us hl => match us, hl with | [_, _, _], _ => rfl⟩
  have F_law_some_texts := fun_mk (st := s__law_some) l_law_some_texts c_law_some_texts k_law_some_texts
  have D_law_some_texts : DefT K mg "_law_some_texts" "_law_some_texts" s__law_some ["pen", "signs"] f_law_some_texts _ := ⟨PySem.W.mg_of X G a_law_some_texts, F_law_some_texts, F_law_some_texts.binds (ps := ["pen", "signs"]) fun _ _ _ _ _ _ us hl => match us, hl with | [_, _], _ => rfl⟩
  have F_law_is_folded := fun_mk (st := s__law_isf) l_law_is_folded c_law_is_folded k_law_is_folded
  have D_law_is_folded : DefT K mg "_law_is_folded" "_law_is_folded" s__law_isf ["pen"] f_law_is_folded _ := ⟨PySem.W.mg_of X G a_law_is_folded, F_law_is_folded, F_law_is_folded.binds (ps := ["pen"]) fun _ _ _ _ _ _ us hl => match us, hl with | [_], _ => rfl⟩
  have F_law_beside := fun_mk (st := s__law_beside) l_law_beside c_law_beside k_law_beside
  have D_law_beside : DefT K mg "_law_beside" "_law_beside" s__law_beside ["one", "other"] f_law_beside _ := ⟨PySem.W.mg_of X G a_law_beside, F_law_beside, F_law_beside.binds (ps := ["one", "other"]) fun _ _ _ _ _ _ us hl => match us, hl with | [_, _], _ => rfl⟩
  have F_law_pairs := fun_mk (st := s__law_pairs) l_law_pairs c_law_pairs k_law_pairs
  have D_law_pairs : DefT K mg "_law_pairs" "_law_pairs" s__law_pairs ["signs", "one", "mates", "other"] f_law_pairs _ := ⟨PySem.W.mg_of X G a_law_pairs, F_law_pairs, F_law_pairs.binds (ps := ["signs", "one", "mates", "other"]) fun _ _ _ _ _ _ us hl => match us, hl with | [_, _, _, _], _ => rfl⟩
  have F_law_is_beside := fun_mk (st := s__law_isb) l_law_is_beside c_law_is_beside k_law_is_beside
  have D_law_is_beside : DefT K mg "_law_is_beside" "_law_is_beside" s__law_isb ["pen"] f_law_is_beside _ := ⟨PySem.W.mg_of X G a_law_is_beside, F_law_is_beside, F_law_is_beside.binds (ps := ["pen"]) fun _ _ _ _ _ _ us hl => match us, hl with | [_], _ => rfl⟩
  have Flaw := fun_mk (st := s_law) llaw claw klaw
  have Dlaw : DefT K mg "law" "law" s_law ["script"] flaw _ := ⟨PySem.W.mg_of X G alaw, Flaw, Flaw.binds (ps := ["script"]) fun _ _ _ _ _ _ us hl => match us, hl with | [_], _ => rfl⟩
  have FCbeside : FunC K "beside" "beside" s_beside fbeside _ ccbeside := ⟨⟨_, _, _, _, _, _, _, _, rfl, lbeside, cbeside⟩, kbeside⟩
  have bCbeside := FCbeside.fn.binds (ps := ["one", "other"]) fun _ _ _ _ _ _ us hl => match us, hl with | [_, _], _ => rfl
  have g_MOST_KEYS := PySem.W.mg_of X G gMOST_KEYS
  have g_MOST_STATES := PySem.W.mg_of X G gMOST_STATES
  have n_isinstance := PySem.W.mg_none_of X G z_isinstance
  have n_list := PySem.W.mg_none_of X G z_list
  have n_tuple := PySem.W.mg_none_of X G z_tuple
  have n_dict := PySem.W.mg_none_of X G z_dict
  have n_int := PySem.W.mg_none_of X G z_int
  have n_bool := PySem.W.mg_none_of X G z_bool
  have n_len := PySem.W.mg_none_of X G z_len
  have n_set := PySem.W.mg_none_of X G z_set
  have n_sorted := PySem.W.mg_none_of X G z_sorted
  have n_zip := PySem.W.mg_none_of X G z_zip
  have n_enumerate := PySem.W.mg_none_of X G z_enumerate
  have n_range := PySem.W.mg_none_of X G z_range
  have n_min := PySem.W.mg_none_of X G z_min
  have n_str := PySem.W.mg_none_of X G z_str
  let A : EAd := { M := M, c1 := CBadMachine, c2 := CTooMany, i1 := IBadMachine, i2 := ITooMany, e1 := PySem.W.fnOf "__init__" "BadMachine.__init__" (defArgs s_BadMachine) (defBody s_BadMachine) (defScope s_BadMachine) .none kViBadMachine dciBadMachine pmiBadMachine aniBadMachine cdiBadMachine ctiBadMachine, e2 := PySem.W.fnOf "__init__" "TooMany.__init__" (defArgs s_TooMany) (defBody s_TooMany) (defScope s_TooMany) .none kViTooMany dciTooMany pmiTooMany aniTooMany cdiTooMany ctiTooMany, fc := fcopied, dc := PySem.W.fnOf "copied" "copied" (defArgs s_copied) (defBody s_copied) (defScope s_copied) .none kVcopied dccopied pmcopied ancopied cdcopied ctcopied }
  have TE : TxtE K mg A := ⟨E_BadMachine, I_BadMachine, nfBadMachine_state, nfBadMachine_place, E_TooMany, I_TooMany, nfTooMany_what, Dcopied, n_isinstance, n_list, n_tuple, n_dict⟩
  let B : MAd := { f1 := fis_whole, f2 := fkey_list, f3 := fcheck_ways, f4 := fkeys_in, d1 := PySem.W.fnOf "is_whole" "is_whole" (defArgs s_is_whole) (defBody s_is_whole) (defScope s_is_whole) .none kVis_whole dcis_whole pmis_whole anis_whole cdis_whole ctis_whole, d2 := PySem.W.fnOf "key_list" "key_list" (defArgs s_key_list) (defBody s_key_list) (defScope s_key_list) .none kVkey_list dckey_list pmkey_list ankey_list cdkey_list ctkey_list, d3 := PySem.W.fnOf "check_ways" "check_ways" (defArgs s_check_ways) (defBody s_check_ways) (defScope s_check_ways) .none kVcheck_ways dccheck_ways pmcheck_ways ancheck_ways cdcheck_ways ctcheck_ways, d4 := PySem.W.fnOf "keys_in" "keys_in" (defArgs s_keys_in) (defBody s_keys_in) (defScope s_keys_in) .none kVkeys_in dckeys_in pmkeys_in ankeys_in cdkeys_in ctkeys_in }
  have TM : TxtM K mg B := ⟨Dis_whole, Dkey_list, Dcheck_ways, Dkeys_in, n_isinstance, n_int, n_bool, n_len, n_set, n_sorted, n_tuple, n_zip, n_enumerate⟩
  let Z : CAd := { C := CMachine, f := fMachine_init, d := PySem.W.fnOf "__init__" "Machine.__init__" (defArgs s_init) (defBody s_init) (defScope s_init) .none kVMachine_init dcMachine_init pmMachine_init anMachine_init cdMachine_init ctMachine_init }
  have TC : TxtC K mg Z := ⟨cl_Machine, mk_Machine, F_Machine_init, b_Machine_init, PySem.W.mg_of X G aCMachine, naMachine_signs, naMachine_rows, naMachine_ends, naMachine_all_keys, naMachine__ways, ⟨_, g_MOST_KEYS⟩⟩
  let S : SAd := { c := CBadSign, i := IBadSign, e := PySem.W.fnOf "__init__" "BadSign.__init__" (defArgs s_BadSign) (defBody s_BadSign) (defScope s_BadSign) .none kViBadSign dciBadSign pmiBadSign aniBadSign cdiBadSign ctiBadSign, fw := fMachine_walk, fk := fMachine_keys_of, dw := PySem.W.fnOf "walk" "Machine.walk" (defArgs s_Machine_walk) (defBody s_Machine_walk) (defScope s_Machine_walk) .none kVMachine_walk dcMachine_walk pmMachine_walk anMachine_walk cdMachine_walk ctMachine_walk, dk := PySem.W.fnOf "keys_of" "Machine.keys_of" (defArgs s_Machine_keys_of) (defBody s_Machine_keys_of) (defScope s_Machine_keys_of) .none kVMachine_keys_of dcMachine_keys_of pmMachine_keys_of anMachine_keys_of cdMachine_keys_of ctMachine_keys_of }
  have TS : TxtS K mg A Z S := ⟨E_BadSign, I_BadSign, nfBadSign_place, m_Machine_walk, F_Machine_walk, b_Machine_walk, m_Machine_keys_of, F_Machine_keys_of, b_Machine_keys_of⟩
  let L : LAd := { f1 := f_law_signs, f2 := f_law_keys, f3 := f_law_tables, d1 := PySem.W.fnOf "_law_signs" "_law_signs" (defArgs s__law_signs) (defBody s__law_signs) (defScope s__law_signs) .none kV_law_signs dc_law_signs pm_law_signs an_law_signs cd_law_signs ct_law_signs, d2 := PySem.W.fnOf "_law_keys" "_law_keys" (defArgs s__law_keys) (defBody s__law_keys) (defScope s__law_keys) .none kV_law_keys dc_law_keys pm_law_keys an_law_keys cd_law_keys ct_law_keys, d3 := PySem.W.fnOf "_law_tables" "_law_tables" (defArgs s__law_tables) (defBody s__law_tables) (defScope s__law_tables) .none kV_law_tables dc_law_tables pm_law_tables an_law_tables cd_law_tables ct_law_tables, p1 := f_law_pen, p2 := f_law_draw, p3 := f_law_pick, q1 := PySem.W.fnOf "_law_pen" "_law_pen" (defArgs s__law_pen) (defBody s__law_pen) (defScope s__law_pen) .none kV_law_pen dc_law_pen pm_law_pen an_law_pen cd_law_pen ct_law_pen, q2 := PySem.W.fnOf "_law_draw" "_law_draw" (defArgs s__law_draw) (defBody s__law_draw) (defScope s__law_draw) .none kV_law_draw dc_law_draw pm_law_draw an_law_draw cd_law_draw ct_law_draw, q3 := PySem.W.fnOf "_law_pick" "_law_pick" (defArgs s__law_pick) (defBody s__law_pick) (defScope s__law_pick) .none kV_law_pick dc_law_pick pm_law_pick an_law_pick cd_law_pick ct_law_pick }
  have TP : TxtP K mg f_law_pen f_law_draw f_law_pick (PySem.W.fnOf "_law_pen" "_law_pen" (defArgs s__law_pen) (defBody s__law_pen) (defScope s__law_pen) .none kV_law_pen dc_law_pen pm_law_pen an_law_pen cd_law_pen ct_law_pen) (PySem.W.fnOf "_law_draw" "_law_draw" (defArgs s__law_draw) (defBody s__law_draw) (defScope s__law_draw) .none kV_law_draw dc_law_draw pm_law_draw an_law_draw cd_law_draw ct_law_draw) (PySem.W.fnOf "_law_pick" "_law_pick" (defArgs s__law_pick) (defBody s__law_pick) (defScope s__law_pick) .none kV_law_pick dc_law_pick pm_law_pick an_law_pick cd_law_pick ct_law_pick) := ⟨D_law_pen, D_law_draw, D_law_pick, n_list, n_int, n_len⟩
  have TL : TxtL K mg L := ⟨TP, D_law_signs, D_law_keys, D_law_tables, n_len, n_range, n_set, n_sorted⟩
  let D : SoAd := { fx := f_law_text, dx := PySem.W.fnOf "_law_text" "_law_text" (defArgs s__law_text) (defBody s__law_text) (defScope s__law_text) .none kV_law_text dc_law_text pm_law_text an_law_text cd_law_text ct_law_text, fX := f_law_texts, dX := PySem.W.fnOf "_law_texts" "_law_texts" (defArgs s__law_texts) (defBody s__law_texts) (defScope s__law_texts) .none kV_law_texts dc_law_texts pm_law_texts an_law_texts cd_law_texts ct_law_texts }
  let G' : BAd := { fs := fsame_signs, ds := PySem.W.fnOf "same_signs" "same_signs" (defArgs s_same_signs) (defBody s_same_signs) (defScope s_same_signs) .none kVsame_signs dcsame_signs pmsame_signs ansame_signs cdsame_signs ctsame_signs, fb := fbuilt, db := PySem.W.fnOf "built" "built" (defArgs s_built) (defBody s_built) (defScope s_built) .none kVbuilt dcbuilt pmbuilt anbuilt cdbuilt ctbuilt, fc := fcome_to, dc := PySem.W.fnOf "come_to" "come_to" (defArgs s_come_to) (defBody s_come_to) (defScope s_come_to) .none kVcome_to dccome_to pmcome_to ancome_to cdcome_to ctcome_to, fe := fbeside, de := (PySem.W.fnOf "beside" "beside" (defArgs s_beside) (defBody s_beside) (defScope s_beside) .none kVbeside dcbeside pmbeside anbeside (.ref ccbeside) ctbeside), ce := ccbeside, Pe := Ptbeside, fl := f_law_beside, dl := PySem.W.fnOf "_law_beside" "_law_beside" (defArgs s__law_beside) (defBody s__law_beside) (defScope s__law_beside) .none kV_law_beside dc_law_beside pm_law_beside an_law_beside cd_law_beside ct_law_beside, fp := f_law_pairs, dp := PySem.W.fnOf "_law_pairs" "_law_pairs" (defArgs s__law_pairs) (defBody s__law_pairs) (defScope s__law_pairs) .none kV_law_pairs dc_law_pairs pm_law_pairs an_law_pairs cd_law_pairs ct_law_pairs, fo := f_law_some_texts, do_ := PySem.W.fnOf "_law_some_texts" "_law_some_texts" (defArgs s__law_some) (defBody s__law_some) (defScope s__law_some) .none kV_law_some_texts dc_law_some_texts pm_law_some_texts an_law_some_texts cd_law_some_texts ct_law_some_texts, fr := f_law_read, dr := PySem.W.fnOf "_law_read" "_law_read" (defArgs s__law_read) (defBody s__law_read) (defScope s__law_read) .none kV_law_read dc_law_read pm_law_read an_law_read cd_law_read ct_law_read }
  let F : FoAd := { ff := ffolded, df := PySem.W.fnOf "folded" "folded" (defArgs s_folded) (defBody s_folded) (defScope s_folded) .none kVfolded dcfolded pmfolded anfolded cdfolded ctfolded, fi := f_law_is_folded, di := PySem.W.fnOf "_law_is_folded" "_law_is_folded" (defArgs s__law_isf) (defBody s__law_isf) (defScope s__law_isf) .none kV_law_is_folded dc_law_is_folded pm_law_is_folded an_law_is_folded cd_law_is_folded ct_law_is_folded, fj := f_law_is_beside, dj := PySem.W.fnOf "_law_is_beside" "_law_is_beside" (defArgs s__law_isb) (defBody s__law_isb) (defScope s__law_isb) .none kV_law_is_beside dc_law_is_beside pm_law_is_beside an_law_is_beside cd_law_is_beside ct_law_is_beside }
  have TTx : TxtTx K mg L.p1 L.p2 L.p3 D.fx L.q1 L.q2 L.q3 D.dx := ⟨TP, D_law_text, n_range⟩
  have TSo : TxtSo K mg L D G'.fo G'.do_ := ⟨⟨D_law_texts, n_range⟩, TTx, D_law_some_texts, n_range, n_len⟩
  have TR : TxtR K mg G'.fr G'.dr := ⟨D_law_read, n_list, n_set, n_sorted, n_tuple⟩
  have TI : TxtIf K mg A B Z S L D G'.fo G'.fr F.ff F.fi G'.do_ G'.dr F.df F.di := ⟨TM, TE, TC, TS, TSo, TTx, TR, ⟨Dfolded, n_len, n_range⟩, TL, D_law_is_folded, n_dict⟩
  have dist : ∀ {P : Addr} {g : Nat → Nat → Str}, (P, g) ∈ [(Ptbeside, nmBe)] → ∀ p ∈ [(Ptbeside, nmBe)], p.1 = P → p.2 = g := fun {P g} hm p hp e => pairs_one [(Ptbeside, nmBe)] (by simpa using ndP) hp hm e
  refine ⟨PySem.W.fnOf "law" "law" (defArgs s_law) (defBody s_law) (defScope s_law) .none kVlaw dclaw pmlaw anlaw cdlaw ctlaw, [(ccbeside, Ptbeside)], spLaw K [(Ptbeside, nmBe)], ?_, ?_, ?_, fun s v => .of_eq rfl, fun H a ns hl _ hT hS => ⟨a, ns, rfl, hS, hl, fun p hp => ?_, fun _ => rfl⟩, fun base Xb Gb hb => ?_⟩
  · intro p hp
    simp only [List.mem_cons, List.not_mem_nil, or_false] at hp
    rcases hp with rfl
    all_goals assumption
  · intro p hp
    simp only [List.mem_cons, List.not_mem_nil, or_false] at hp
    rcases hp with rfl
    all_goals assumption
  · intro p hp
    simp only [List.mem_cons, List.not_mem_nil, or_false] at hp
    rcases hp with rfl
    all_goals exact PySem.W.codeHd_of_K X (by assumption)
  · have hT' := hT
    simp only [List.mem_cons, List.not_mem_nil, or_false] at hp
    rcases hp with rfl
    · exact NdefX.TabN.nil (hT (ccbeside, Ptbeside) (by simp))
  · have T0 : TxtBe K mg base [(Ptbeside, nmBe)] A CUnlike fbeside _ ccbeside Ptbeside := ⟨PySem.W.mg_of X G abeside, FCbeside, bCbeside, hb (ccbeside, Ptbeside) (by simp), by simp, dist (by simp), E_Unlike, xUnlike, n_len, ⟨_, g_MOST_KEYS⟩, ⟨_, g_MOST_STATES⟩⟩
    have TJ : TxtIb K mg base [(Ptbeside, nmBe)] A B Z S CUnlike L D G' F.fj F.dj := ⟨TM, TE, TC, TS, ⟨Dsame_signs, n_sorted⟩, ⟨Dbuilt, n_enumerate⟩, ⟨Dcome_to, n_len⟩, T0, ⟨D_law_beside, x_TooMany_TooMany, x_Unlike_Unlike, x_TooMany_Unlike⟩, ⟨D_law_pairs, n_len⟩, TSo, TR, TL, D_law_is_beside, n_list, n_len, n_range, n_str, n_set, n_sorted, n_tuple, n_isinstance, hcMachine, hn, ht, hmMachine⟩
    have T : TxtW K mg base [(Ptbeside, nmBe)] A B Z S CUnlike L D G' F flaw (PySem.W.fnOf "law" "law" (defArgs s_law) (defBody s_law) (defScope s_law) .none kVlaw dclaw pmlaw anlaw cdlaw ctlaw) := ⟨TI, TJ, Dlaw, n_range, n_min, n_len⟩
    exact ok_law T
theorem walk {l : PySem.W.OpenLaw} {q : Program} {loose : List Str} {XP : (Str → Option Value) → Heap → Prop} {YP : World → Heap → Prop} {d : DefRec} (hn : l.most = some 63) (hdf : d.params.defaults = [])
    (F : ∀ (w : World) (mg : Str → Option Value) (fa : Addr) (h : Heap), YP w h → h.Ns mainGlobals mg → mg d.name = some (.ref fa) → ∃ K : PySem.W.Frag, K.In h ∧ LamX.LawAtS l w K (fun o H s E e s' => CX0 o H s E e s') 11 63 "script" mg fa h) :
    PySem.W.WalkO q loose XP YP l.row.toRowW d [] (fun f vs => PySem.call f vs) :=
  LamX.walk_ofTsE (n := 63) (k := 11) (x := "script") (CX := fun _ o H s E e s' => CX0 o H s E e s') hn (by decide) hdf ⟨rfl, by decide, by decide⟩ F fun _ _ _ _ _ z => z
end Kx

open PySem PySem.W PyProof.Rows
set_option maxRecDepth 100000 in
set_option maxHeartbeats 0 in
theorem PySem.Challenge.cw_nevermiss_k09_folded_and_beside_holds : PySem.Challenge.rw_nevermiss_k09_folded_and_beside.Holds := by
  w_on; o_law; km_head; (case hw => w_witness2)
  k_fill
  refine Kx.walk (l := PySem.Challenge.rw_nevermiss_k09_folded_and_beside) rfl rfl ?F
  case F =>
    intro w mg fa h Y G hmg
    have KX := km_in_of Y
    refine' ⟨_, KX, ?_⟩
    refine' Kx.all_mk KX G hmg ?hn ?ht ?aM ?m1 ?m2 ?m3 ?aCBadMachine ?xLBadMachine ?saBadMachine ?gaBadMachine ?ggBadMachine ?hcBadMachine ?kCBadMachine ?iCBadMachine ?tIBadMachine ?lIBadMachine ?cIBadMachine ?kIBadMachine ?nfBadMachine_state ?nfBadMachine_place ?aCTooMany ?xLTooMany ?saTooMany ?gaTooMany ?ggTooMany ?hcTooMany ?kCTooMany ?iCTooMany ?tITooMany ?lITooMany ?cITooMany ?kITooMany ?nfTooMany_what ?aCBadSign ?xLBadSign ?saBadSign ?gaBadSign ?ggBadSign ?hcBadSign ?kCBadSign ?iCBadSign ?tIBadSign ?lIBadSign ?cIBadSign ?kIBadSign ?nfBadSign_place ?aCUnlike ?xLUnlike ?saUnlike ?gaUnlike ?ggUnlike ?hcUnlike ?kCUnlike ?s_TooMany_TooMany ?s_Unlike_Unlike ?s_TooMany_Unlike ?aCMachine ?pgMachine ?hdMachine ?poMachine ?saMachine ?mkMachine ?kcMachine ?naMachine_signs ?naMachine_rows ?naMachine_ends ?naMachine_all_keys ?naMachine__ways ?aMachine_init ?iMachine_init ?lMachine_init ?cMachine_init ?kMachine_init ?aMachine_walk ?iMachine_walk ?lMachine_walk ?cMachine_walk ?kMachine_walk ?aMachine_keys_of ?iMachine_keys_of ?lMachine_keys_of ?cMachine_keys_of ?kMachine_keys_of ?ais_whole ?lis_whole ?cis_whole ?kis_whole ?akey_list ?lkey_list ?ckey_list ?kkey_list ?acheck_ways ?lcheck_ways ?ccheck_ways ?kcheck_ways ?akeys_in ?lkeys_in ?ckeys_in ?kkeys_in ?acopied ?lcopied ?ccopied ?kcopied ?asame_signs ?lsame_signs ?csame_signs ?ksame_signs ?abuilt ?lbuilt ?cbuilt ?kbuilt ?acome_to ?lcome_to ?ccome_to ?kcome_to ?afolded ?lfolded ?cfolded ?kfolded ?a_law_pen ?l_law_pen ?c_law_pen ?k_law_pen ?a_law_draw ?l_law_draw ?c_law_draw ?k_law_draw ?a_law_pick ?l_law_pick ?c_law_pick ?k_law_pick ?a_law_signs ?l_law_signs ?c_law_signs ?k_law_signs ?a_law_keys ?l_law_keys ?c_law_keys ?k_law_keys ?a_law_tables ?l_law_tables ?c_law_tables ?k_law_tables ?a_law_read ?l_law_read ?c_law_read ?k_law_read ?a_law_texts ?l_law_texts ?c_law_texts ?k_law_texts ?a_law_text ?l_law_text ?c_law_text ?k_law_text ?a_law_some_texts ?l_law_some_texts ?c_law_some_texts ?k_law_some_texts ?a_law_is_folded ?l_law_is_folded ?c_law_is_folded ?k_law_is_folded ?a_law_beside ?l_law_beside ?c_law_beside ?k_law_beside ?a_law_pairs ?l_law_pairs ?c_law_pairs ?k_law_pairs ?a_law_is_beside ?l_law_is_beside ?c_law_is_beside ?k_law_is_beside ?alaw ?llaw ?claw ?klaw ?abeside ?lbeside ?cbeside ?kbeside ?vbeside ?pbeside ?hbeside ?ubeside ?ebeside ?ndP ?gMOST_KEYS ?gMOST_STATES ?z_isinstance ?z_list ?z_tuple ?z_dict ?z_int ?z_bool ?z_len ?z_set ?z_sorted ?z_zip ?z_enumerate ?z_range ?z_min ?z_str ?xUnlike ?hcMachine ?hmMachine
    (case hn => k_is)
    (case ht => k_is)
    (case aM => k_is)
    (case m1 => k_is)
    (case m2 => k_is)
    (case m3 => k_is)
    (case aCBadMachine => k_is)
    (case xLBadMachine => k_is)
    (case saBadMachine => k_is)
    (case gaBadMachine => k_is)
    (case ggBadMachine => k_is)
    (case hcBadMachine => k_is)
    (case kCBadMachine => k_is)
    (case iCBadMachine => k_is)
    (case tIBadMachine => k_is)
    (case lIBadMachine => k_is)
    (case cIBadMachine => k_is)
    (case kIBadMachine => k_is)
    (case nfBadMachine_state => k_is)
    (case nfBadMachine_place => k_is)
    (case aCTooMany => k_is)
    (case xLTooMany => k_is)
    (case saTooMany => k_is)
    (case gaTooMany => k_is)
    (case ggTooMany => k_is)
    (case hcTooMany => k_is)
    (case kCTooMany => k_is)
    (case iCTooMany => k_is)
    (case tITooMany => k_is)
    (case lITooMany => k_is)
    (case cITooMany => k_is)
    (case kITooMany => k_is)
    (case nfTooMany_what => k_is)
    (case aCBadSign => k_is)
    (case xLBadSign => k_is)
    (case saBadSign => k_is)
    (case gaBadSign => k_is)
    (case ggBadSign => k_is)
    (case hcBadSign => k_is)
    (case kCBadSign => k_is)
    (case iCBadSign => k_is)
    (case tIBadSign => k_is)
    (case lIBadSign => k_is)
    (case cIBadSign => k_is)
    (case kIBadSign => k_is)
    (case nfBadSign_place => k_is)
    (case aCUnlike => k_is)
    (case xLUnlike => k_is)
    (case saUnlike => k_is)
    (case gaUnlike => k_is)
    (case ggUnlike => k_is)
    (case hcUnlike => k_is)
    (case kCUnlike => k_is)
    (case s_TooMany_TooMany => k_is)
    (case s_Unlike_Unlike => k_is)
    (case s_TooMany_Unlike => k_is)
    (case aCMachine => k_is)
    (case pgMachine => k_is)
    (case hdMachine => k_is)
    (case poMachine => k_is)
    (case saMachine => k_is)
    (case mkMachine => k_is)
    (case kcMachine => k_is)
    (case naMachine_signs => k_is)
    (case naMachine_rows => k_is)
    (case naMachine_ends => k_is)
    (case naMachine_all_keys => k_is)
    (case naMachine__ways => k_is)
    (case aMachine_init => k_is)
    (case iMachine_init => k_is)
    (case lMachine_init => k_is)
    (case cMachine_init => k_is)
    (case kMachine_init => k_is)
    (case aMachine_walk => k_is)
    (case iMachine_walk => k_is)
    (case lMachine_walk => k_is)
    (case cMachine_walk => k_is)
    (case kMachine_walk => k_is)
    (case aMachine_keys_of => k_is)
    (case iMachine_keys_of => k_is)
    (case lMachine_keys_of => k_is)
    (case cMachine_keys_of => k_is)
    (case kMachine_keys_of => k_is)
    (case ais_whole => k_is)
    (case lis_whole => k_is)
    (case cis_whole => k_is)
    (case kis_whole => k_is)
    (case akey_list => k_is)
    (case lkey_list => k_is)
    (case ckey_list => k_is)
    (case kkey_list => k_is)
    (case acheck_ways => k_is)
    (case lcheck_ways => k_is)
    (case ccheck_ways => k_is)
    (case kcheck_ways => k_is)
    (case akeys_in => k_is)
    (case lkeys_in => k_is)
    (case ckeys_in => k_is)
    (case kkeys_in => k_is)
    (case acopied => k_is)
    (case lcopied => k_is)
    (case ccopied => k_is)
    (case kcopied => k_is)
    (case asame_signs => k_is)
    (case lsame_signs => k_is)
    (case csame_signs => k_is)
    (case ksame_signs => k_is)
    (case abuilt => k_is)
    (case lbuilt => k_is)
    (case cbuilt => k_is)
    (case kbuilt => k_is)
    (case acome_to => k_is)
    (case lcome_to => k_is)
    (case ccome_to => k_is)
    (case kcome_to => k_is)
    (case afolded => k_is)
    (case lfolded => k_is)
    (case cfolded => k_is)
    (case kfolded => k_is)
    (case a_law_pen => k_is)
    (case l_law_pen => k_is)
    (case c_law_pen => k_is)
    (case k_law_pen => k_is)
    (case a_law_draw => k_is)
    (case l_law_draw => k_is)
    (case c_law_draw => k_is)
    (case k_law_draw => k_is)
    (case a_law_pick => k_is)
    (case l_law_pick => k_is)
    (case c_law_pick => k_is)
    (case k_law_pick => k_is)
    (case a_law_signs => k_is)
    (case l_law_signs => k_is)
    (case c_law_signs => k_is)
    (case k_law_signs => k_is)
    (case a_law_keys => k_is)
    (case l_law_keys => k_is)
    (case c_law_keys => k_is)
    (case k_law_keys => k_is)
    (case a_law_tables => k_is)
    (case l_law_tables => k_is)
    (case c_law_tables => k_is)
    (case k_law_tables => k_is)
    (case a_law_read => k_is)
    (case l_law_read => k_is)
    (case c_law_read => k_is)
    (case k_law_read => k_is)
    (case a_law_texts => k_is)
    (case l_law_texts => k_is)
    (case c_law_texts => k_is)
    (case k_law_texts => k_is)
    (case a_law_text => k_is)
    (case l_law_text => k_is)
    (case c_law_text => k_is)
    (case k_law_text => k_is)
    (case a_law_some_texts => k_is)
    (case l_law_some_texts => k_is)
    (case c_law_some_texts => k_is)
    (case k_law_some_texts => k_is)
    (case a_law_is_folded => k_is)
    (case l_law_is_folded => k_is)
    (case c_law_is_folded => k_is)
    (case k_law_is_folded => k_is)
    (case a_law_beside => k_is)
    (case l_law_beside => k_is)
    (case c_law_beside => k_is)
    (case k_law_beside => k_is)
    (case a_law_pairs => k_is)
    (case l_law_pairs => k_is)
    (case c_law_pairs => k_is)
    (case k_law_pairs => k_is)
    (case a_law_is_beside => k_is)
    (case l_law_is_beside => k_is)
    (case c_law_is_beside => k_is)
    (case k_law_is_beside => k_is)
    (case alaw => k_is)
    (case llaw => k_is)
    (case claw => k_is)
    (case klaw => k_is)
    (case abeside => k_is)
    (case lbeside => k_is)
    (case cbeside => k_is)
    (case kbeside => k_is)
    (case vbeside => k_is)
    (case pbeside => rfl)
    (case hbeside => kernel_rfl)
    (case ubeside => kernel_rfl)
    (case ebeside => exact km_tabs_of Y _ (by k_mem))
    (case ndP => decide)
    (case gMOST_KEYS => k_is)
    (case gMOST_STATES => k_is)
    (case z_isinstance => k_is)
    (case z_list => k_is)
    (case z_tuple => k_is)
    (case z_dict => k_is)
    (case z_int => k_is)
    (case z_bool => k_is)
    (case z_len => k_is)
    (case z_set => k_is)
    (case z_sorted => k_is)
    (case z_zip => k_is)
    (case z_enumerate => k_is)
    (case z_range => k_is)
    (case z_min => k_is)
    (case z_str => k_is)
    (case xUnlike => k_exc)
    (case hcMachine => k_is)
    (case hmMachine => k_is)

