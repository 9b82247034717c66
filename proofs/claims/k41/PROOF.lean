import PyProof.Rows.All
import Wide.All
import OpenK.AllK
import Wide.FinOn
import HandS.ForMost
import HandS.ForExc
import HandS.ExcInit
import HandS.ExcField
import HandS.ExcIs
import HandS.ExcValue
import HandS.HotCalls
import HandS.MakeKwOnly
import HandS.IsInst
import HandS.Conv
import HandS.Wide
import HandS.Codes
import KE.KExcIs
import HandS.Comp
import HandS.Walk
import HandS.Text
import HandS.DictComp
import HandS.TupAny
import HandS.SetTxt0
import HandS.Star
import HandS.Flow
import HandS.TupSets
import HandS.Strs
import HandS.SetFor
import PyProof.StrWalks
import PyProof.WalksMore
import PyProof.SetRoads
import PyProof.Rows.SortShellAny
import HandS.AnyAll
import PyProof.CollectStr
import PyProof.ListStr
import HandS.Call
import HandS.StrMore
import HandS.WideBits
import PyProof.StrLaws
import KE.KDictDisplayH
import HandS.Zip
import KE.GoesMore
import HandS.DictTup
import KE.KDictWalk
import KE.KPairComp
import KE.KDictCopyH
import HandS.SortInts
import HandS.More
import KE.KDictOf
import KE.KDictKeyed
import HandS.IterVal
import PySem.Challenge.RW_nevermiss_k41_bars
set_option Elab.async false
set_option linter.all false
set_option maxRecDepth 100000
set_option maxHeartbeats 4000000
/-! readings of small expressions, to be written out -/
namespace Own
open PySem L2
def lenT (K : PySem.W.Frag) (t : TE) : TE := tCB (fun xs H Q => ∃ x n, xs = [x] ∧ LenV K x H n ∧ Q (.int n) H) (tCons t tNil)
end Own

/-! An own exception class called with keywords: its own __init__ sees them. -/
namespace Own
open PySem PySem.Calls PySem.HandSPX
section
variable {prog : Program} {wo : World} {Ar : Around} {hp : Heap} {gs : Array GenState} {dr : Drawn} {tk : Nat} {os : OsState} {kw : List (Str × Value)}
variable {nm qn : Str} {Cl Ns : Addr} {bases tail full : List Value} {slots : List Str} {subs : List Value} {abst : Bool} {coll : Option Bool} {dict : Option Addr} {s0 s1 s2 s3 s5 : Option Value} {hd : Bool} {Base new ini : String}
local macro_rules | `(tactic| walk_at "stp") => `(tactic| first | with_reducible refine wpAny_loadPart_at (by assumption) ?_ | with_reducible refine wpAny_madeBy_exc (by assumption) ?_ | wp_step)
/-- what stands of the class at Cl -/
abbrev Has (hp : Heap) (nm qn : Str) (Cl Ns : Addr) (bases tail : List Value) (hd : Bool) (slots : List Str) (subs : List Value) (abst : Bool) (coll : Option Bool) (dict : Option Addr) (s0 s1 s2 s3 s5 : Option Value) (new : String) : Prop :=
  hp.get? Cl = some (excClassObj nm qn Cl Ns bases tail hd slots subs abst coll dict s0 s1 s2 s3 s5 new)
theorem inTail (F : ExcBaseFacts Base new ini full) (same : ∀ T : String, tail.contains (.type T) = full.contains (.type T)) : (Value.ref Cl :: tail).contains (.type Base) = true := by
  rw [List.contains_cons, same, F.hasB]
  exact Bool.or_true _
theorem seen {Q : Unit → Shared → Prop} {E : Value → Shared → Prop} (F : ExcBaseFacts Base new ini full) (same : ∀ T : String, tail.contains (.type T) = full.contains (.type T)) (h : Has hp nm qn Cl Ns bases tail hd slots subs abst coll dict s0 s1 s2 s3 s5 new)
    (k : Q () ⟨hp, gs, dr, tk, os⟩) : wpAny (model prog wo) Ar (checkBuiltinCall new ⟨[.ref Cl], kw⟩) Q E ⟨hp, gs, dr, tk, os⟩ := by
  have within := inTail (Cl := Cl) F same
  have ns := F.noStar
  unfold checkBuiltinCall
  simp only [F.newKind, F.newSplit, F.newRow]
  repeat (first | (refine wpAny_isSubtype_exc h ?_; rw [within]) | refine wpAny_staticBase_exc h ?_ | refine wpAny_madeBy_exc h ?_ | refine wpAny_loadPart_at h ?_ | simp only [Bool.false_eq_true, bne_self_eq_false, if_false] | wp_step)
  exact k
theorem bare {R : Result → Shared → Prop} (F : ExcBaseFacts Base new ini full) (same : ∀ T : String, tail.contains (.type T) = full.contains (.type T)) (h : Has hp nm qn Cl Ns bases tail hd slots subs abst coll dict s0 s1 s2 s3 s5 new)
    (k : R (.ok (.ret (.ref (hp.objs.size + 1)))) ⟨(hp.push (W.kdv_tup [])).push (excO Cl hp.objs.size), gs, dr, tk, os⟩) : codeAny (model prog wo) Ar (.builtin new ⟨[.ref Cl], kw⟩) R ⟨hp, gs, dr, tk, os⟩ := by
  have i1 := inTail (Cl := Cl) F same
  have i2 : (Value.ref Cl :: tail).contains (.type "AttributeError") = false := by rw [List.contains_cons, same, F.noAttr] <;> rfl
  have i3 : (Value.ref Cl :: tail).contains (.type "NameError") = false := by rw [List.contains_cons, same, F.noName] <;> rfl
  have en := F.ends
  apply codeAny_builtinAt F.entry
  unfold Builtin.«BaseException.__new__»
  apply wpAt_bind
  apply wpAt_bind
  apply wpAt_stack
  intro top below
  apply wpAt_of_wpAny
  wp_walk
  apply wpAt_of_wpAny
  rw [F.owner]
  repeat (first | with_reducible refine wpAny_madeHere_exc F.canon h ?_ | (with_reducible refine wpAny_isSubtype_exc h ?_; first | rw [i1] | rw [i2] | rw [i3]) | walk_at "stp")
  show R _ _
  rw [Heap.size_push]
  exact k
theorem called {Q : Fin → Shared → Prop} {E : Value → Shared → Prop} {fi : Addr} (F : ExcBaseFacts Base new ini full) (same : ∀ T : String, tail.contains (.type T) = full.contains (.type T)) (h : Has hp nm qn Cl Ns bases tail hd slots subs abst coll dict s0 s1 s2 s3 s5 new)
    (find : W.Looks (model prog wo) hp (typeLookup (.ref Cl) "__init__") (some (.ref fi))) (bound : ∀ me, W.Looks (model prog wo) hp (bindSpecial (.ref fi) me) (.ref fi, [me]))
    (run : codeAny (model prog wo) Ar (.call (.ref fi) ⟨[.ref (hp.objs.size + 1)], kw⟩) (fun r s' => match r with
      | .error e => E e s'
      | .ok (.ret u) => u = .none ∧ Q (.done (.ret (.ref (hp.objs.size + 1)))) s'
      | .ok _ => False) ⟨(hp.push (W.kdv_tup [])).push (excO Cl hp.objs.size), gs, dr, tk, os⟩) :
    wpAny (model prog wo) Ar (Builtin.«type.__call__» ⟨[.ref Cl], kw⟩) Q E ⟨hp, gs, dr, tk, os⟩ := by
  repeat walk_at "stp"
  apply codeAny_call_builtin_code (Code.quiet_builtin _ F.quiet) (seen F same h _)
  apply bare F same h
  show wpAny _ _ _ _ _ _
  have stay : ∀ b o, hp.get? b = some o → ((hp.push (W.kdv_tup [])).push (excO Cl hp.objs.size)).get? b = some o := fun b o e => Heap.get?_push_of_some _ (Heap.get?_push_of_some _ e)
  have cls := stay _ _ h
  have obj : ((hp.push (W.kdv_tup [])).push (excO Cl hp.objs.size)).get? (hp.objs.size + 1) = some (excO Cl hp.objs.size) := by heap_get
  have self : (Value.ref Cl :: tail).contains (.ref Cl) = true := by simp
  have find' := find.keeps stay
  have bound' := (bound (.ref (hp.objs.size + 1))).keeps stay
  unfold isInstance
  repeat (first | with_reducible refine wpAny_loadPart_at obj ?_ | (with_reducible refine wpAny_isSubtype_exc cls ?_; rw [self]) | wp_step)
  apply find'.at
  apply wpAny_holding
  apply wpAny_bind
  apply bound'.at
  apply wpAny_bind
  apply wpAny_call
  refine codeAny_mono run fun r s' q => ?_
  match r, q with
  | .error _, q => exact q
  | .ok (.ret u), ⟨e, q⟩ =>
    subst e
    first
      | exact wpAny_pure (wpAny_pure q)
      | (wp_walk; exact q)
theorem made {R : Result → Shared → Prop} {fi : Addr} (F : ExcBaseFacts Base new ini full) (same : ∀ T : String, tail.contains (.type T) = full.contains (.type T)) (h : Has hp nm qn Cl Ns bases tail hd slots subs abst coll dict s0 s1 s2 s3 s5 new)
    (find : W.Looks (model prog wo) hp (typeLookup (.ref Cl) "__init__") (some (.ref fi))) (bound : ∀ me, W.Looks (model prog wo) hp (bindSpecial (.ref fi) me) (.ref fi, [me]))
    (run : codeAny (model prog wo) (Ar.under (.builtin "type.__call__" ⟨[.ref Cl], kw⟩)) (.call (.ref fi) ⟨[.ref (hp.objs.size + 1)], kw⟩) (W.InitBack (hp.objs.size + 1) R) ⟨(hp.push (W.kdv_tup [])).push (excO Cl hp.objs.size), gs, dr, tk, os⟩) :
    codeAny (model prog wo) Ar (.call (.ref Cl) ⟨[], kw⟩) R ⟨hp, gs, dr, tk, os⟩ := by
  have t1 := tc_lookup
  have t2 := tc_bind (.ref Cl)
  have ty : (⟨hp, gs, dr, tk, os⟩ : Shared).TypeIs (.ref Cl) "type" := ⟨_, h, rfl⟩
  apply codeAny_of_tree
  show wpAny _ _ (callAny (.ref Cl) _) _ _ _
  repeat (any_goals (first | assumption | walk_at "stp"))
  refine ⟨rfl, codeAny_call_builtin_at (Code.quiet_builtin _ (by decide +kernel)) entry_typeCall (wpAny_check_type_call_sub h (called F same h find bound (codeAny_mono run ?_)))⟩
  intro r s' q
  cases r with
  | error _ => exact q
  | ok f => cases f <;> exact q
end
end Own

namespace L2
open PySem PySem.Spec PyProof.Rows
/-! ### exceptions as tracked objects -/
/-- an exception of the class at C stands at a, d its own dict's place -/
def xob (a C : Addr) (d : Option Addr) : HO := .ext fun h => ∃ (oe : Obj) (vs : Array Value), h.get? a = some oe ∧ Zc (.ref C) d oe ∧ oe.data = .fields vs
theorem xob_ok {P : Program} {w : World} {H : Hp} {h : Heap} {a C : Addr} {d : Option Addr} {oe : Obj} {vs : Array Value} (e : h.get? a = some oe) (z : Zc (.ref C) d oe) (hd : oe.data = .fields vs) : ObjOk P w H h a (xob a C d) :=
  ⟨⟨oe, vs, e, z, hd⟩, ⟨_, e⟩, fun _ _ ⟨o, vs, e, z, q⟩ k => ⟨o, vs, k _ e, z, q⟩⟩
theorem xob_at {P : Program} {w : World} {H : Hp} {h : Heap} {a C : Addr} {d : Option Addr} (hok : HOk P w H h) (he : H a = some (xob a C d)) : ∃ (oe : Obj) (vs : Array Value), h.get? a = some oe ∧ Zc (.ref C) d oe ∧ oe.data = .fields vs :=
  (show ObjOk P w H h a (.ext fun h => ∃ (oe : Obj) (vs : Array Value), h.get? a = some oe ∧ Zc (.ref C) d oe ∧ oe.data = .fields vs) from hok a _ he).1
/-- it is an instance in the library's sense; what its dict holds -/
theorem xob_inst {P : Program} {w : World} {H : Hp} {h : Heap} {a C dd : Addr} {fs : List (Str × V)} (hok : HOk P w H h) (he : H a = some (xob a C (some dd))) (hd : H dd = some (.xd fs)) :
    ∃ (oe od : Obj), PySem.W.InstAt h a oe C (some od) ∧ ∀ (f : Str) (v : V), fs.lookup f = some v → ∃ u, PySem.W.lookIn f od = some (some u) ∧ RelV v u := by
  obtain ⟨oe, vs, at_, hz, dat⟩ := xob_at hok he
  obtain ⟨mA, nsp, rel⟩ := show ObjOk P w H h dd (.xd fs) from hok dd _ hd
  obtain ⟨od, atd, look⟩ := lookIn_ns nsp
  refine ⟨oe, od, ⟨at_, hz.1, by simp only [PySem.W.notCls, dat], by rw [hz.2]; exact atd⟩, fun f v e => ?_⟩
  obtain ⟨u, hu, ru⟩ := RelO.some_of (v := v) (o := mA f) (e ▸ rel f)
  exact ⟨u, (look f).trans (congrArg some hu), ru⟩
theorem xob_inst0 {P : Program} {w : World} {H : Hp} {h : Heap} {a C : Addr} (hok : HOk P w H h) (he : H a = some (xob a C none)) : ∃ oe : Obj, PySem.W.InstAt h a oe C none := by
  obtain ⟨oe, vs, at_, hz, dat⟩ := xob_at hok he
  exact ⟨oe, at_, hz.1, by simp only [PySem.W.notCls, dat], by rw [hz.2]; exact True.intro⟩
/-- the kinds that may be told anew -/
def Loose : HO → Prop
  | .ext _ => True
  | .xd _ => True
  | _ => False
theorem Loose.no {o : HO} (h : Loose o) : (∀ x, o ≠ .own x) ∧ (∀ xs, o ≠ .tup xs) ∧ (∀ b u, o ≠ .frz b u) ∧ (∀ ps, o ≠ .tbl ps) := by
  cases o <;> first | exact h.elim | exact ⟨(fun _ z => nomatch z), (fun _ z => nomatch z), (fun _ _ z => nomatch z), (fun _ z => nomatch z)⟩
section
variable {X : Cx} {pins : List (Addr × Obj)} {σ : St} {H : Hp} {s : Shared} {a : Addr} {o o' : HO}
theorem Inv.retell (I : Inv X pins σ H s) (e : H a = some o) (l : Loose o) (ok : ObjOk X.prog X.w (upd H a o') s.heap a o') : Inv X pins σ (upd H a o') s := by
  obtain ⟨nw, nt, nf, nb⟩ := l.no
  have ne : ∀ {b u}, H b = some u → o ≠ u → b ≠ a := fun {b u} q d z => by rw [z, e] at q; exact d (Option.some.inj q)
  have na : ∀ {b}, H b = none → b ≠ a := fun {b} q z => by rw [z, e] at q; cases q
  have U : Un X.fs [] H (upd H a o') s.heap s.heap := {
    keep := fun b o q _ _ _ => q
    slot := fun b o q _ _ _ => ⟨o.slots, q⟩
    free := fun b o q n _ => by rw [upd_ne (na n)]; exact n
    there := fun b o q _ => ⟨o, q⟩
    tups := fun b xs q => by rw [upd_ne (ne q (nt xs))]; exact q
    frzs := fun b o v q => by rw [upd_ne (ne q (nf o v))]; exact q
    tbls := fun b ps q => ⟨#[], by rw [upd_ne (ne q (nb ps)), q]; simp⟩ }
  exact I.un (t' := s.toks) U fun b u q => by
    by_cases hb : b = a
    · subst hb
      rw [upd_same] at q
      cases q
      exact ok
    · rw [upd_ne hb] at q
      exact (I.hok b u q).stay (fun c v _ z => z) (fun c hc => by rw [upd_ne (ne hc (nw b))]; exact hc) fun c xs hc => by rw [upd_ne (ne hc (nt xs))]; exact hc
/-- an object that was made behind the entry, not tracked as yet, is tracked -/
theorem Inv.track (I : Inv X pins σ H s) (na : H a = none) (n0 : X.s_0.heap.get? a = none) (nL : a ≠ X.env.locals) (nC : ∀ x c, X.env.cells.lookup x = some c → c ≠ a) (nP : ∀ p ∈ X.pn ++ pins, p.1 ≠ a)
    (new : ObjOk X.prog X.w (upd H a o) s.heap a o) : Inv X pins σ (upd H a o) s where
  ok := I.ok
  os := I.os
  bare := I.bare
  loc := I.loc
  cell := I.cell
  len := I.len
  free := (upd_ne nL.symm).trans I.free
  freeC := fun x c e => (upd_ne (nC x c e)).trans (I.freeC x c e)
  pin := fun p hp => let ⟨p1, p2, r⟩ := I.pin p hp; ⟨p1, (upd_ne (nP p hp)).trans p2, r⟩
  base := {
    keep := I.base.keep
    slot := I.base.slot
    there := I.base.there
    free := fun b ob e n hx => (upd_ne fun z => by rw [z, n0] at e; cases e).trans (I.base.free b ob e n hx)
    tups := fun b xs q => (upd_ne (ne_of_none (I.base.tups b xs q) na)).trans (I.base.tups b xs q)
    frzs := fun b ob u q => (upd_ne (ne_of_none (I.base.frzs b ob u q) na)).trans (I.base.frzs b ob u q)
    tbls := fun b ps q => let ⟨m, y⟩ := I.base.tbls b ps q; ⟨m, (upd_ne (ne_of_none y na)).trans y⟩ }
  hok := fun b u e => by
    by_cases hb : b = a
    · cases hb
      rw [upd_same] at e
      cases e
      exact new
    · rw [upd_ne hb] at e
      exact (I.hok b u e).stay (fun c v _ z => z) (fun c hc => (upd_ne (ne_of_none hc na)).trans hc) fun c xs hc => (upd_ne (ne_of_none hc na)).trans hc
end
/-! ### e.f, isinstance(e, c), e such an exception -/
def tXfT (K : PySem.W.Frag) (f : Str) (te : TE) : TE := fun σ H Q => te σ H fun x H1 => ∃ (a C dd : Addr) (fs : List (Str × V)) (v : V), x = .ref a ∧ XfC K C ∧ PySem.W.findIn K (.ref C) f = some none ∧ H1 a = some (xob a C (some dd)) ∧ H1 dd = some (.xd fs) ∧ fs.lookup f = some v ∧ Q v H1
theorem pe_xfT {X : Cx} {e : Expr} {te : TE} {pos : Pos} {n : Str} (he : PE X e te) (hb : attributeBase e n X.env (eval e X.env) = eval e X.env := by rfl) : PE X (.Attribute e n pos) (tXfT X.K n te) where
  run := fun pins s σ H Q I h => attr_of hb (thn (he.run pins s σ H _ I h) fun u s1 ⟨x, H1, I1, rx, a, C, dd, fs, v, ex, T, no, ea, ed, lk, q⟩ => by
    cases ex
    cases rx
    obtain ⟨oe, od, J, look⟩ := xob_inst I1.hok ea ed
    obtain ⟨u, hu, ru⟩ := look n v lk
    exact HandSPX.exc_get I1.kIn J T.ga T.gg T.exC (PySem.W.findObj_own T.hdC no rfl hu) (handed_of ru) ⟨v, H1, I1.tok _, ru, q⟩)
/-- an exception's dict: none, or told -/
def OdAt (H : Hp) (d : Option Addr) : Prop := d = none ∨ ∃ dd fs, d = some dd ∧ H dd = some (.xd fs)
def rIsT (K : PySem.W.Frag) : List V → Hp → VK → Prop := fun xs H Q => ∃ (a C : Addr) (d : Option Addr) (c : V) (cv : Value) (b : Bool), xs = [.ref a, c] ∧ H a = some (xob a C d) ∧ OdAt H d ∧ ExcC K C ∧ (∀ u, RelV c u → u = cv) ∧ PySem.W.kitOne K (.ref C) cv = some b ∧ Q (.bl b) H
theorem call_isT {X : Cx} : CallR X (.builtin "isinstance") (rIsT X.K) := fun pins s σ H xs us Q I r ⟨a, D, d, c, cv, b, ex, ea, hd, C, hcv, e, q⟩ => by
  cases ex
  obtain ⟨u, v, rfl, ru, rv⟩ := vals2 r
  cases ru
  cases hcv v rv
  have some_cls : (PySem.W.clsIn X.K D).isSome = true := by
    obtain ⟨cd, h1, _⟩ := PySem.W.any_some C.hd
    rw [h1]; rfl
  have inst : ∃ oe od, PySem.W.InstAt s.heap a oe D od := by
    rcases hd with rfl | ⟨dd, fs, rfl, hdd⟩
    · obtain ⟨oe, J⟩ := xob_inst0 I.hok ea
      exact ⟨oe, _, J⟩
    · obtain ⟨oe, od, J, _⟩ := xob_inst I.hok ea hdd
      exact ⟨oe, _, J⟩
  obtain ⟨oe, od, J⟩ := inst
  exact PySem.W.kia_one (PySem.W.kitx_exc some_cls C.hg C.hk C.hs C.ha C.hn C.ht C.hm) I.kIn J e (fun z => nomatch z) fun tk => ⟨.bl b, H, I.kept (t' := tk) fun _ _ z => z, rfl, q⟩

/-! ### defs that may be called where an exception is handled -/
abbrev RoomW := L2H.RoomH
theorem roomW {k : Nat} {A : Around} (r : Room k A) : RoomW k A := L2H.roomH_of r
structure FnW (P : Program) (w : World) (K : PySem.W.Frag) (mg : Str → Option Value) (base : Heap) (CX : CXT) (k : Nat) (f : Addr) (fd : FuncData) (ps : List Str) (sp : Sp) : Prop where
  arity : ∀ vs H Q E, sp vs H Q E → vs.length = ps.length
  go : ∀ (A : Around) (outer : List Env) (s : Shared) (H : Hp) (args : Args) (us : List Value) (vs : List V) (Q : VK) (E : XK), RoomW k A → Env0 P w K mg base A outer s H → BindsTo s fd args (ps.zip us) → Vals vs us → sp vs H Q E → codeAny (model P w) A (.call (.ref f) args) (CR CX outer P w H s Q E) s
theorem FnW.ok {P : Program} {w : World} {K : PySem.W.Frag} {mg : Str → Option Value} {base : Heap} {CX : CXT} {k : Nat} {f : Addr} {fd : FuncData} {ps : List Str} {sp : Sp} (F : FnW P w K mg base CX k f fd ps sp) : FnOk P w K mg base CX k f fd ps sp :=
  ⟨F.arity, fun A outer s H args us vs Q E hr => F.go A outer s H args us vs Q E (roomW hr)⟩
/-- the context of such a def's body: nothing is said of what is handled -/
abbrev Cx.warm (X : Cx) (A : Around) (xe : Value → Shared → Prop) : Cx := { X with A := A, calm := false, xe := xe }
theorem Inv.warm {X : Cx} {pins : List (Addr × Obj)} {σ : St} {H : Hp} {s : Shared} {A : Around} {xe : Value → Shared → Prop} (I : Inv X pins σ H s) (hA : A.frames = some X.stack) : Inv (X.warm A xe) pins σ H s where
  ok := { I.ok with hd := fun z => (Bool.false_ne_true z).elim, frames := hA }
  os := I.os
  bare := I.bare
  base := I.base
  loc := I.loc
  cell := I.cell
  free := I.free
  freeC := I.freeC
  pin := I.pin
  hok := I.hok
  len := I.len
/-- the body's context -/
abbrev cxW (CX : CXT) (P : Program) (w : World) (K : PySem.W.Frag) (mg : Str → Option Value) (base : Heap) (N : List Str) (qual : Str) (scope : Scope) (f : Addr) (cd : Value) (A : Around) (outer : List Env) (s : Shared) (H : Hp) (E : XK) : Cx :=
  { cxOf CX P w K mg base N qual scope f cd A outer s H E with calm := false }
theorem Fun.okW {P : Program} {w : World} {K : PySem.W.Frag} {mg : Str → Option Value} {base : Heap} {x qual : Str} {st : Stmt} {f : Addr} {fd : FuncData} {N ps : List Str} {k : Nat} {sp : Sp} (F : Fun K x qual st f fd) (S : FnScope N ps (defScope st)) (hps : ∀ vs H Q E, sp vs H Q E → vs.length = ps.length)
    (body : ∀ (cdv : Value) (A : Around) (outer : List Env) (s : Shared) (H : Hp) (vs : List V) (Q : VK) (E : XK), RoomW k (A.deeper (envOfC qual (defScope st) s.heap.objs.size f cdv)) → sp vs H Q E →
      ∃ t, PSs (cxW CX0 P w K mg base N qual (defScope st) f cdv A outer s H E).nox (defBody st) t ∧ t { nx := fun _ H' => Q .non H', rt := Q } (start N vs) H) : FnW P w K mg base CX0 (k + 1) f fd ps sp := by
  obtain ⟨_, _, kV, doc, pm, an, cdv, ct, _, rfl, here, code⟩ := F.ex
  refine ⟨hps, fun A outer s H args us vs Q E room e0 bind r h => ?_⟩
  have KX : K.In s.heap := e0.mod.kin.keeps fun _ _ e => (e0.bs _ _ e).1
  have many := hps _ _ _ _ h
  refine Att.call_fn KX (e0.mod.nolimit.keeps fun _ _ e => (e0.bs _ _ e).1) here code room.depth bind ?_ (fun s1 ic => ?_) S.co S.gen S.kind
  · refine List.all_eq_true.mpr fun y hy => ?_
    rcases S.par y.1 (List.of_mem_zip (show (y.1, y.2) ∈ ps.zip us from hy)).1 with z | z <;> simp [z]
  · obtain ⟨t, ht, q⟩ := body cdv A outer s H vs Q E (room.deeper _) h
    have e1 : Env0 P w K mg base { A with handled := none } outer s H := ⟨e0.frames, e0.mod, e0.bs, e0.bsz, e0.funs, e0.frf, e0.hok, e0.bare⟩
    have I0 := inv_start (CX := CX0) (P := P) (w := w) (mg := mg) (base := base) (f := f) (cd := cdv) (A := { A with handled := none }) (E := E) S rfl e1 many r ic
    have I : Inv (cxW CX0 P w K mg base N qual (defScope st) f cdv A outer s H E) [] (start N vs) H s1 := I0.warm (A := A.deeper (envOfC qual (defScope st) s.heap.objs.size f cdv)) (Around.frames_deeper e0.frames)
    refine wpAny_mono (ht.nox.run [] s1 _ H _ I q) (fun fl s2 hs => ?_) fun _ _ z => z
    cases fl with
    | ret u =>
      obtain ⟨v, _, H', J, rv, q'⟩ := hs
      exact ⟨v, H', J.os, J.bare, J.base, J.hok, rv, q'⟩
    | next =>
      obtain ⟨_, H', J, q'⟩ := hs
      exact ⟨.non, H', J.os, J.bare, J.base, J.hok, rfl, q'⟩
    | brk => exact hs.elim fun _ z => z.elim fun _ z => z.2.elim
    | cont => exact hs.elim fun _ z => z.elim fun _ z => z.2.elim
/-- f(e, ..) of such a def -/
theorem pe_callW {X : Cx} {CX : CXT} {k : Nat} {f : Addr} {fd : FuncData} {ps : List Str} {sp : Sp} {E : XK} {x : Str} {q pos : Pos} {e : Expr} {es : List Expr} {t : TA}
    (F : FnW X.prog X.w X.K X.mg X.base CX k f fd ps sp) (room : RoomW k X.A) (gl : Gl X x) (is : X.mg x = some (.ref f)) (kp : PySem.W.keepIn X.K (.ref f) = true) (bind : Binds X.K fd ps []) (pass : Passes CX X E) (args : PA X (e :: es) t)
    (nodebug : (x == ("__debug__" : Str)) = false := by decide) (first : starEach (e :: es) X.env = (false, eval e X.env) :: starEach es X.env := by rfl) (nostar : (backTo pos (starEach es X.env)).any (·.1) = false := by rfl) :
    PE X (.Call (.Name x q) (e :: es) [] pos) (fun σ H Q => t σ H fun vs H1 => sp vs H1 Q E) where
  run := fun pins s σ H Q I h => wpAny_Call_Name_kw (ld_glob I gl is (PySem.W.callWith_K (h₀ := X.base) I.ok.mod.kin kp (thn (args.run pos pins s σ H _ I h) fun us s1 ⟨vs, H1, I1, r, y⟩ => ⟨I1.kIn, by
    have n : us.length = ps.length := r.length.symm.trans (F.arity _ _ _ _ y)
    have b := bind s1 us I1.kIn (by simpa using n)
    simp only [List.append_nil] at b
    refine wpAny_call (codeAny_mono (F.go X.A X.stack s1 H1 ⟨us, []⟩ us vs Q E room I1.env0 b r y) fun res s2 z => ?_)
    match res, z with
    | .error er, z => exact pass pins σ H1 s1 er s2 I1 z
    | .ok (.ret _), z => exact I1.after z⟩) first nostar) nodebug)

/-! ### try: body, except M as n: suite, where every exception of the body is an own one that M names -/
section
variable {X : Cx} {pins : List (Addr × Obj)} {σ : St} {H : Hp} {s : Shared}
/-- the suite's context, the exception tracked, not pinned -/
theorem Inv.inSuite (I : Inv X pins σ H s) (a : Addr) : Inv (X.suite a (X.pn ++ pins)) [] σ H s where
  ok := I.ok.suite a _
  os := I.os
  bare := I.bare
  base := I.base
  loc := I.loc
  cell := I.cell
  free := I.free
  freeC := I.freeC
  pin := fun p hp => I.pin p ((List.append_nil (X.pn ++ pins)) ▸ hp)
  hok := I.hok
  len := I.len
theorem Inv.outSuite {a : Addr} (I : Inv (X.suite a (X.pn ++ pins)) [] σ H s) (ok : X.Ok) : Inv X pins σ H s where
  ok := ok
  os := I.os
  bare := I.bare
  base := I.base
  loc := I.loc
  cell := I.cell
  free := I.free
  freeC := I.freeC
  pin := fun p hp => I.pin p ((List.append_nil (X.pn ++ pins)).symm ▸ hp)
  hok := I.hok
  len := I.len
end
/-- the ends of a suite: slot i is emptied -/
def Ends.less (D : Ends) (i : Nat) : Ends := { nx := fun σ H => D.nx (σ.set i none) H, rt := D.rt, bk := fun σ H => D.bk (σ.set i none) H, ct := fun σ H => D.ct (σ.set i none) H }
/-- what is wished of an exception of the body -/
def wAsT (K : PySem.W.Frag) (c : Value) (i : Nat) (ts : TS) (D : Ends) : WX := fun cls d σ H => PySem.W.exmOne K cls c = some true ∧ ∃ C : Addr, cls = .ref C ∧ ∀ a, H a = none → ts (D.less i) (σ.set i (some (.ref a))) (upd H a (xob a C d))
section
variable {X : Cx} {x n : Str} {c : Value} {i : Nat} {body suite : List Stmt} {b0 : Stmt} {p1 p2 p3 : Pos} {tb : WX → TS} {ts : TS}
/-- what came behind the state I is none of its things -/
theorem newcomer {pins : List (Addr × Obj)} {σ : St} {H : Hp} {s : Shared} {a : Addr} (I : Inv X pins σ H s) (alone : X.ex = []) (no : s.heap.get? a = none) :
    X.s_0.heap.get? a = none ∧ a ≠ X.env.locals ∧ (∀ x c, X.env.cells.lookup x = some c → c ≠ a) ∧ ∀ p ∈ X.pn ++ pins, p.1 ≠ a := by
  have some_not : ∀ {b : Addr} {o : Obj}, s.heap.get? b = some o → b ≠ a := fun {b o} e z => by rw [z, no] at e; cases e
  refine ⟨Option.eq_none_iff_forall_ne_some.mpr fun o e => ?_, ?_, fun x c e => ?_, fun p hp => some_not (I.pin p hp).1⟩
  · obtain ⟨o', z⟩ := I.base.there a o e (by simp [alone])
    exact some_not z rfl
  · obtain ⟨m, ⟨o, _, _, e, _⟩, _⟩ := I.loc
    exact (some_not e).symm
  · obtain ⟨v, o, e', _⟩ := I.cell x c e
    exact some_not e'
/-- an exception has come to the try: its suite runs -/
theorem caught {pins : List (Addr × Obj)} {D : Ends} {u : Value} {s : Shared} {xe : Value → Shared → Prop} (alone : X.ex = []) (top : X.stack = X.env :: X.outer) (frame : X.env.frame = some X.env.locals) (nodup : X.N.Nodup) (slot : X.N[i]? = some n) (loc : X.env.kindOf n = some .local) (names : Names X x c) (ok : X.Ok)
    (run : ∀ (a : Addr) (pn : List (Addr × Obj)), PSs (X.suite a pn) (b0 :: suite) ts) (fly : XE (X.tr (X.pn ++ pins) xe) (wAsT X.K c i ts D) u s) :
    wpAny (model X.prog X.w) X.A (noteFrame u X.env) (fun _ s2 => wpAny (model X.prog X.w) X.A (setFlight u none) (fun _ s3 => wpAny (model X.prog X.w) X.A (handleBy u X.env [.ExceptHandler (some (.Name x p1)) (some n) (b0 :: suite) p2]) (SP X pins D) X.xe s3) X.xe s2) X.xe s := by
  obtain ⟨a, ground, sI, _, σ1, H1, cls, d, rfl, Jt, stays, slots, sky, free, os, gens, named, C, rfl, wish⟩ := fly
  have J : Inv X pins σ1 H1 sI := Jt.ofTry ok
  refine Sky.land Zc.steady (ok.frames.trans (congrArg some top)) frame (top ▸ sky) fun h3 f3 up3 => ?_
  obtain ⟨o3, v3, g3, z3, d3⟩ := f3.there
  have notFrame : a ∉ frs X.stack := fun hm => by
    obtain ⟨_, o, e, other⟩ := f3.2.2.1.mem (top ▸ hm)
    exact other v3 (Option.some.inj (e.symm.trans g3) ▸ d3)
  have absent : sI.heap.get? a = none := Option.eq_none_iff_forall_ne_some.mpr fun o e => by
    have z := stays a o e notFrame
    rw [f3.2.1] at z
    cases z
  obtain ⟨n0, nL, nC, nP⟩ := newcomer J alone absent
  have J3 : Inv X pins σ1 H1 { s with heap := h3 } := J.landed stays f3.1 (slots.trans up3) os gens
  have clause : ∀ {Q : Value → Shared → Prop} {E : Value → Shared → Prop}, Q c { s with heap := h3 } → wpAny (model X.prog X.w) (X.A.mark (some (.ref a))) (eval (.Name x p1) X.env) Q E { s with heap := h3 } := fun {Q E} q => by
    rcases names with ⟨gl, dbg, is | ⟨no, boot, other⟩⟩
    · exact ld_glob (J3.inSuite a) gl is q dbg
    · exact ld_blt (J3.inSuite a) gl no boot q other dbg
  have cls3 : PySem.W.Looks (model X.prog X.w) h3 (typeOf (.ref a)) (.ref C) := fun _ _ _ _ keep q => wpAny_typeOf_ref (keep _ _ g3) (z3.1.symm ▸ q)
  refine wpAny_handleBy_cons (codeAny_handlers_test (clause ((PySem.W.exm_one (M := model X.prog X.w) J3.kIn cls3 named).here ?_))) (fun z => nomatch z)
  refine codeAny_handlers_suite_as (HandSPX.lands_againZ f3 fun h4 f4 up4 => ?_)
  obtain ⟨o4, v4, g4, z4, d4⟩ := f4.there
  have J4 : Inv X pins σ1 H1 { s with heap := h4 } := J.landed stays f4.1 ((slots.trans up3).trans up4) os gens
  have J5 := (J4.track free n0 nL nC nP (xob_ok g4 z4 d4)).inSuite a
  refine store_ok (X := X.suite a (X.pn ++ pins)) (v := .ref a) J5 nodup slot (.inl loc) rfl (fun s5 S5 => ?_) (.inr loc)
  have leave : ∀ {σ6 : St} {H6 : Hp} {s6 : Shared} {Q : Shared → Prop}, Inv (X.suite a (X.pn ++ pins)) [] σ6 H6 s6 → (∀ s7, Inv X pins (σ6.set i none) H6 s7 → Q s7) → wpAny (model X.prog X.w) X.A (do bindName X.env n .none; unbindBehindTheSuite X.env n p2) (fun _ s7 => Q s7) X.xe s6 :=
    fun S6 q => gone_ok (S6.outSuite ok) nodup slot loc q
  refine wpAny_mono ((run a (X.pn ++ pins)).run [] s5 _ _ _ S5 (wish a free)) (fun fl s6 q => ?_) fun _ _ z => z.elim
  match fl, q with
  | .next, ⟨_, _, S6, q⟩ => exact leave S6 fun _ J7 => ⟨_, _, J7, q⟩
  | .brk, ⟨_, _, S6, q⟩ => exact leave S6 fun _ J7 => ⟨_, _, J7, q⟩
  | .cont, ⟨_, _, S6, q⟩ => exact leave S6 fun _ J7 => ⟨_, _, J7, q⟩
  | .ret _, ⟨_, _, _, S6, r, q⟩ => exact leave S6 fun _ J7 => ⟨_, _, _, J7, r, q⟩
theorem ps_try_asT (alone : X.ex = []) (top : X.stack = X.env :: X.outer) (frame : X.env.frame = some X.env.locals) (nodup : X.N.Nodup) (slot : X.N[i]? = some n) (loc : X.env.kindOf n = some .local) (names : Names X x c)
    (try_ : ∀ (W : WX) (pn : List (Addr × Obj)) (xe : Value → Shared → Prop), Takes (X.tr pn xe) W → PSs (X.tr pn xe) body (tb W)) (run : ∀ (a : Addr) (pn : List (Addr × Obj)), PSs (X.suite a pn) (b0 :: suite) ts) :
    PS X (.Try body [.ExceptHandler (some (.Name x p1)) (some n) (b0 :: suite) p2] [] [] p3) (fun D σ H => tb (wAsT X.K c i ts D) D σ H) where
  run := fun pins s σ H D I h => by
    have ok := I.ok
    refine wpAny_Try_except (wpAny_mono ((try_ (wAsT X.K c i ts D) (X.pn ++ pins) _ fun u s' y => caught alone top frame nodup slot loc names ok run y).run [] s σ H D (I.toTry _) h) (fun fl s1 q => ?_) fun _ _ z => z)
    match fl, q with
    | .next, ⟨_, _, J, q⟩ => exact wpAny_execs_nil ⟨_, _, J.ofTry ok, q⟩
    | .brk, ⟨_, _, J, q⟩ => exact ⟨_, _, J.ofTry ok, q⟩
    | .cont, ⟨_, _, J, q⟩ => exact ⟨_, _, J.ofTry ok, q⟩
    | .ret _, ⟨_, _, _, J, r, q⟩ => exact ⟨_, _, _, J.ofTry ok, r, q⟩
end
end L2

namespace L2
open PySem PySem.Spec PyProof.Rows
/-! ### an own exception made as a value -/
/-- C(k = v, ..), C's own __init__ keeping sp -/
def tXMk (C : Addr) (n : Nat) (sp : Sp) (gV : List V → List V → List V) (tk : TA) : TE := fun σ H Q => tk σ H fun zs H1 => zs.length = n ∧ ∀ a, H1 a = none → sp (gV [.ref a] zs) (upd H1 a (exo a C none))
  (fun v H2 => v = .non ∧ ∃ (d : Addr) (fs : List (Str × V)), H2 a = some (exo a C (some d)) ∧ H2 d = some (exd d fs) ∧ d ≠ a ∧ Q (.ref a) (upd (upd H2 d (.xd fs)) a (xob a C (some d)))) (fun _ _ _ => False)
section
variable {X : Cx} {CX : CXT} {k : Nat} {C fI : Addr} {fd : FuncData} {ps ks : List Str} {sp : Sp} {x : Str} {p pos : Pos} {kws : List Keyword} {tk : TA} {g : List Value → List Value → List Value} {gV : List V → List V → List V}
/-- behind __init__ the exception stands as a made one -/
theorem Inv.finished {pins : List (Addr × Obj)} {σ : St} {H : Hp} {s : Shared} {a d : Addr} {fs : List (Str × V)} (I : Inv X pins σ H s) (ea : H a = some (exo a C (some d))) (ed : H d = some (exd d fs)) (ne : d ≠ a) : Inv X pins σ (upd (upd H d (.xd fs)) a (xob a C (some d))) s := by
  have J : Inv X pins σ (upd H d (.xd fs)) s := I.retell ed True.intro (exd_at I.hok ed)
  have ea' : (upd H d (.xd fs)) a = some (exo a C (some d)) := (upd_ne ne.symm).trans ea
  obtain ⟨t, at_⟩ := exo_at J.hok ea'
  exact J.retell ea' True.intro (xob_ok at_ ⟨rfl, rfl⟩ rfl)
theorem pe_xmk (T : OexC X.K C) (ini : PySem.W.findIn X.K (.ref C) "__init__" = some (some (.ref fI))) (fn : PySem.W.typeIn X.K (.ref fI) = some (.type "function"))
    (fnok : FnOk X.prog X.w X.K X.mg X.base CX k fI fd ps sp) (room : Room (k + 1) X.A) (bind : KBn X.K fd ps 1 ks g gV) (pass : Passes CX X (fun _ _ _ => False)) (gl : Gl X x) (is : X.mg x = some (.ref C)) (vals : PK X kws tk)
    (named : (backToKw pos (keywordEach kws X.env)).all (·.1.isSome) = true := by rfl) (names : (backToKw pos (keywordEach kws X.env)).filterMap (·.1) = ks := by rfl) (nodebug : (x == ("__debug__" : Str)) = false := by decide)
    (plain : ((backTo pos (starEach [] X.env)).any (·.1) || (backToKw pos (keywordEach kws X.env)).any (·.1.isNone)) = false := by rfl) : PE X (.Call (.Name x p) [] kws pos) (tXMk C ks.length sp gV tk) where
  run := fun pins s σ H Q I h => by
    obtain ⟨_, _, _, _, bm, _, _, _, _, _, _, _, _, _, _, cls, mro⟩ := T.cls
    refine wpAny_Call_Name_kw (ld_glob I gl is (PySem.W.callWith_KW0 (h₀ := X.base) I.ok.mod.kin T.kC named (thn (vals.run pos pins s σ H _ I h) fun ws s1 ⟨zs, H1, I1, rz, hz, q1⟩ => ⟨I1.kIn, ?_⟩) plain) nodebug)
    obtain ⟨hp, gs, dr, tks, os⟩ := s1
    have new : H1 (hp.objs.size + 1) = none := I1.hok.fresh (Nat.le_succ _)
    have I2 : Inv X pins σ (upd H1 (hp.objs.size + 1) (exo (hp.objs.size + 1) C none)) ⟨(hp.push (PySem.W.kdv_tup [])).push (PySem.HandSPX.excO C hp.objs.size), gs, dr, tks, os⟩ :=
      I1.laid (t' := tks) (o := exo (hp.objs.size + 1) C none) (fun _ _ e => Heap.get?_push_of_some _ (Heap.get?_push_of_some _ e)) (Nat.le_succ _) (exo_ok (by heap_get))
    have q2 := q1 _ new
    rw [names]
    show wpAny _ _ (call (.ref C) [] (ks.zip ws)) _ _ _
    refine wpAny_call (Own.made (kw := ks.zip ws) PySem.F.excBase_ValueError (fun Y => PySem.HandSPX.refsVE_contains Y bm mro) (I1.kIn _ _ cls) (PySem.W.looks_findIn I1.kIn ini) (fun me => PySem.W.bind_fn I1.kIn me fn)
      (codeAny_mono (fnok.run _ X.stack _ _ ⟨[.ref (hp.objs.size + 1)], ks.zip ws⟩ (g [.ref (hp.objs.size + 1)] ws) _ _ (fun _ _ _ => False) (room.make C [] (ks.zip ws)) (I2.env0.make C [] (ks.zip ws))
        (bind.to _ [.ref (hp.objs.size + 1)] ws I2.kIn rfl (rz.length.symm.trans hz)) (bind.rel (show Vals [V.ref (hp.objs.size + 1)] [Value.ref (hp.objs.size + 1)] from .cons rfl .nil) rz) q2) fun r s2 y => ?_))
    match r, y with
    | .error er, y => exact pass pins σ _ _ er s2 I2 y
    | .ok (.ret u), y =>
      obtain ⟨_, H3, I3, rv, rfl, d, fs, ea, ed, ne, q3⟩ := I2.after y
      exact ⟨rv, .ref (hp.objs.size + 1), _, I3.finished ea ed ne, rfl, q3⟩
/-- C(), C without own __init__, as a value; raised -/
theorem pe_xmk0 {full : List Value} {Base new ini : String} (F : ExcBaseFacts Base new ini full) (own : PySem.W.excIn X.K C full new = true) (is : X.mg x = some (.ref C)) (kp : PySem.W.keepIn X.K (.ref C) = true) (gl : Gl X x) (nodebug : (x == ("__debug__" : Str)) = false := by decide) :
    PE X (.Call (.Name x p) [] [] pos) (fun _ H Q => ∀ a, H a = none → Q (.ref a) (upd H a (xob a C none))) where
  run := fun pins s σ H Q I h => wpAny_Call_Name_kw (ld_glob I gl is (PySem.W.callWith_K0 I.kIn kp (by
    obtain ⟨_, _, _, _, _, _, _, _, _, _, _, _, _, _, _, _, _, cls, ns, no, tl⟩ := exc_obj I.kIn own
    refine wpAny_call_exc_subT F tl cls ns no (fun h' a m => ?_) (Nat.zero_le _)
    have free := I.hok.gone m.new
    obtain ⟨_, at_, _⟩ := m.there
    exact ⟨.ref a, _, I.laidN m.keeps m.new free (xob_ok at_ ⟨rfl, rfl⟩ rfl), rfl, h a free⟩)) nodebug)
theorem pmk_own0 {full : List Value} {Base new ini : String} (F : ExcBaseFacts Base new ini full) (own : PySem.W.excIn X.K C full new = true) (is : X.mg x = some (.ref C)) (kp : PySem.W.keepIn X.K (.ref C) = true) (r : Raises X (.ref C)) (gl : Gl X x) (nodebug : (x == ("__debug__" : Str)) = false := by decide) :
    PMk X (.Call (.Name x p) [] [] pos) (fun _ H Q => Q (.ref C) none H) := fun pins s σ H Q I h => wpAny_Call_Name_kw (ld_glob I gl is (PySem.W.callWith_K0 I.kIn kp (by
    obtain ⟨_, _, _, _, _, _, _, _, _, _, _, _, _, _, _, _, _, cls, ns, no, tl⟩ := exc_obj I.kIn own
    exact wpAny_call_exc_subT F tl cls ns no (fun h' e m => mk_of I m r h (I.hok.gone m.new)) (Nat.zero_le _))) nodebug)
end
end L2

namespace Kx
open PySem L2
def top (i : Nat) : Stmt := PySem.Challenge.pw_nevermiss_k41_bars.main.body.getD i (.Pass ⟨0, 0, 0, 0⟩)
abbrev s__law_pen : Stmt := top 37
abbrev s__law_draw : Stmt := top 38
abbrev s__law_pick : Stmt := top 39
/-- a def of the text, as it stands behind the top -/
structure DefT (K : PySem.W.Frag) (mg : Str → Option Value) (name qual : Str) (st : Stmt) (ps : List Str) (f : Addr) (fd : FuncData) : Prop where
  g : mg name = some (.ref f)
  F : Fun K name qual st f fd
  b : Binds K fd ps []
/-! ### the pen -/
/-- all but what stands at p is as it was -/
def SameBut (p : Addr) (H H' : Hp) : Prop := ∀ b o, H b = some o → b ≠ p → H' b = some o
theorem SameBut.refl (p : Addr) (H : Hp) : SameBut p H H := fun _ _ h _ => h
theorem SameBut.trans {p : Addr} {H H1 H2 : Hp} (a : SameBut p H H1) (b : SameBut p H1 H2) : SameBut p H H2 := fun c o h n => b c o (a c o h n) n
theorem SameBut.of {p : Addr} {H H' : Hp} (a : Same H H') : SameBut p H H' := fun c o h _ => a c o h
theorem Same.upd {H : Hp} {p : Addr} {o : HO} (h : H p = none) : Same H (upd H p o) := fun b u e => by rw [upd_ne (ne_of_none e h)]; exact e
theorem SameBut.upd {H : Hp} {p : Addr} {o : HO} : SameBut p H (upd H p o) := fun b u e n => by rw [upd_ne n]; exact e
theorem SameBut.new {H : Hp} {p q : Addr} {o : HO} (h : H q = none) : SameBut p H (L2.upd H q o) := .of (Same.upd h)
abbrev kCells : Key := Sum.inr "cells"
abbrev kAt : Key := Sum.inr "at"
abbrev kLeft : Key := Sum.inr "left"
def penKvs (c : Addr) (a l : Int) : List (Key × V) := [(kCells, .ref c), (kAt, .int a), (kLeft, .int l)]
theorem n_ca : ¬ (kCells = kAt) := by decide +kernel
theorem n_cl : ¬ (kCells = kLeft) := by decide +kernel
theorem n_al : ¬ (kAt = kLeft) := by decide +kernel
theorem pen_cells (c : Addr) (a l : Int) : valV (penKvs c a l) kCells = some (.ref c) := valV_pos rfl
theorem pen_at (c : Addr) (a l : Int) : valV (penKvs c a l) kAt = some (.int a) := by
  unfold penKvs
  rw [valV_neg n_ca]
  exact valV_pos rfl
theorem pen_left (c : Addr) (a l : Int) : valV (penKvs c a l) kLeft = some (.int l) := by
  unfold penKvs
  rw [valV_neg n_cl, valV_neg n_al]
  exact valV_pos rfl
theorem put_at (c : Addr) (a l x : Int) : putK (penKvs c a l) kAt (.int x) = penKvs c x l := by
  have h : ((penKvs c a l).any fun kv => decide (kv.1 = kAt)) = true := by
    rw [valV_any, pen_at]; rfl
  unfold putK
  rw [if_pos h]
  show [if kCells = kAt then (kCells, V.int x) else (kCells, V.ref c), if kAt = kAt then (kAt, V.int x) else (kAt, V.int a), if kLeft = kAt then (kLeft, V.int x) else (kLeft, V.int l)] = _
  rw [if_neg n_ca, if_pos rfl, if_neg (Ne.symm n_al)]
  rfl
theorem put_left (c : Addr) (a l x : Int) : putK (penKvs c a l) kLeft (.int x) = penKvs c a x := by
  have h : ((penKvs c a l).any fun kv => decide (kv.1 = kLeft)) = true := by
    rw [valV_any, pen_left]; rfl
  unfold putK
  rw [if_pos h]
  show [if kCells = kLeft then (kCells, V.int x) else (kCells, V.ref c), if kAt = kLeft then (kAt, V.int x) else (kAt, V.int a), if kLeft = kLeft then (kLeft, V.int x) else (kLeft, V.int l)] = _
  rw [if_neg n_cl, if_neg n_al, if_pos rfl]
  rfl
/-- a pen at p: n bounds the places that were read -/
def PenAt (H : Hp) (p c : Addr) (n : Nat) : Prop := ∃ (ns : List Int) (a l : Int), H p = some (.dK (penKvs c a l)) ∧ H c = some (.lst (ns.map V.int)) ∧ ns.length ≤ 63 ∧ 0 ≤ a ∧ a ≤ n
theorem PenAt.ne {H : Hp} {p c : Addr} {n : Nat} (h : PenAt H p c n) {b : Addr} {xs : List V} (e : H b = some (.lst xs)) : b ≠ p := by
  obtain ⟨ns, a, l, h1, _⟩ := h
  exact ne_of e h1 (by intro z; cases z)
theorem PenAt.keep {H H' : Hp} {p c : Addr} {n : Nat} (h : PenAt H p c n) (s : Same H H') : PenAt H' p c n := by
  obtain ⟨ns, a, l, h1, h2, r⟩ := h
  exact ⟨ns, a, l, s _ _ h1, s _ _ h2, r⟩
/-- a store elsewhere -/
theorem PenAt.put {H : Hp} {p c : Addr} {n : Nat} (h : PenAt H p c n) {d : Addr} {o : HO} (np : d ≠ p) (nc : d ≠ c) : PenAt (upd H d o) p c n := by
  obtain ⟨ns, a, l, h1, h2, r⟩ := h
  exact ⟨ns, a, l, by rw [upd_ne (Ne.symm np)]; exact h1, by rw [upd_ne (Ne.symm nc)]; exact h2, r⟩
theorem PenAt.apart {H : Hp} {p c : Addr} {n : Nat} (h : PenAt H p c n) {d : Addr} (e : H d = none) : d ≠ p ∧ d ≠ c := by
  obtain ⟨ns, a, l, h1, h2, r⟩ := h
  exact ⟨fun z => (by rw [z, h1] at e; cases e), fun z => (by rw [z, h2] at e; cases e)⟩
theorem PenAt.mono {H : Hp} {p c : Addr} {n m : Nat} (h : PenAt H p c n) (s : n ≤ m) : PenAt H p c m := by
  obtain ⟨ns, a, l, h1, h2, h3, h4, h5⟩ := h
  exact ⟨ns, a, l, h1, h2, h3, h4, by omega⟩
def spPen (K : PySem.W.Frag) : Sp := fun vs H Q _ => ∃ (s : Addr) (ns : List Int), vs = [.ref s] ∧ SqL K H s (ns.map V.int) ∧ ns.length ≤ 63 ∧ ∀ p c H', H p = none → Same H H' → PenAt H' p c 0 → Q (.ref p) H'
def spDraw : Sp := fun vs H Q _ => ∃ (p c : Addr) (many : Int) (n : Nat), vs = [.ref p, .int many] ∧ PenAt H p c n ∧ n ≤ 1000000 ∧ 0 < many ∧ many < 1073741824 ∧
  ∀ (r : Int) H', 0 ≤ r → r < many → PenAt H' p c (n + 1) → SameBut p H H' → Q (.int r) H'
def spPick : Sp := fun vs H Q _ => ∃ (p c q : Addr) (xs : List V) (n : Nat), vs = [.ref p, .ref q] ∧ PenAt H p c n ∧ n ≤ 1000000 ∧ H q = some (.lst xs) ∧ 0 < xs.length ∧ xs.length ≤ 1000000 ∧
  ∀ (v : V) (i : Nat) H', xs[i]? = some v → PenAt H' p c (n + 1) → SameBut p H H' → Q v H'
structure TxtP (K : PySem.W.Frag) (mg : Str → Option Value) (f1 f2 f3 : Addr) (d1 d2 d3 : FuncData) : Prop where
  D__law_pen : DefT K mg "_law_pen" "_law_pen" s__law_pen ["script"] f1 d1
  D__law_draw : DefT K mg "_law_draw" "_law_draw" s__law_draw ["pen", "many"] f2 d2
  D__law_pick : DefT K mg "_law_pick" "_law_pick" s__law_pick ["pen", "items"] f3 d3
  n_list : mg "list" = none
  n_int : mg "int" = none
  n_len : mg "len" = none
local macro_rules | `(tactic| walk_at "g") => `(tactic| first | refine ⟨_, _, rfl, rfl, ?_⟩ | refine ⟨_, rfl, ?_⟩ | refine ⟨rfl, ?_⟩)
theorem cut63 (ns : List Int) : ∃ ms : List Int, cutV (ns.map V.int) none (some 63) = ms.map V.int ∧ ms.length ≤ ns.length := by
  refine ⟨(ns.drop (HT.sIx (ns.map V.int).length 0 none)).take (HT.sIx (ns.map V.int).length (ns.map V.int).length (some 63) - HT.sIx (ns.map V.int).length 0 none), ?_, ?_⟩
  · unfold cutV
    rw [List.map_take, List.map_drop]
  · rw [List.length_take, List.length_drop]; omega
section
variable {P : Program} {w : World} {K : PySem.W.Frag} {mg : Str → Option Value} {base : Heap} {f1 f2 f3 : Addr} {d1 d2 d3 : FuncData}
theorem sc_pen : FnScope ["script"] ["script"] (defScope s__law_pen) := ⟨rfl, rfl, rfl, by decide +kernel, rfl, by decide +kernel, by decide +kernel⟩
theorem ok_pen (T : TxtP K mg f1 f2 f3 d1 d2 d3) : FnOk P w K mg base CX0 1 f1 d1 ["script"] (spPen K) := by
  have sc := sc_pen
  refine T.D__law_pen.F.ok sc (fun vs H Q E h => ?_) (fun cdv A outer s H vs Q E hr h => ?_)
  · obtain ⟨_, _, rfl, _⟩ := h; rfl
  · obtain ⟨a, ns, rfl, hs, hl, k⟩ := h
    have hu := hu_of hr
    refine ⟨_, (pss_one (ps_ret (pe_disp (pps_cons pe_str (pe_callTy call_list_of (by rfl) T.n_list (by decide +kernel) (pa_cons (pe_slice sl_list (pv 0) po_none (po_some pe_int)) pa_nil)) (pps_cons pe_str pe_int (pps_cons pe_str pe_int pps_nil))) (by rfl) (by rfl) (fun z => by cases z) (by decide)))), ?_⟩
    intro p hp
    have s1 : Same H (upd H p (.dK [])) := Same.upd hp
    obtain ⟨ms, em, lm⟩ := cut63 ns
    refine ⟨_, rfl, _, rfl, a, _, rfl, s1.seq hs, fun q hq => ?_⟩
    rw [em]
    refine ⟨q, ms.map V.int, rfl, .inl (SqL.of upd_same), fun l hl2 => ?_⟩
    have npq : p ≠ q := ne_of_none upd_same hq
    have npl : p ≠ l := ne_of_none (by rw [upd_ne npq]; exact upd_same) hl2
    refine ⟨by rw [upd_ne npl, upd_ne npq, upd_same], penKvs l 0 0, rfl, (by show 3 ≤ 15; decide), ?_⟩
    refine k p l _ hp (fun b o e => ?_) ⟨ms, 0, 0, ?_, ?_, by omega, by omega, by omega⟩
    · have e1 : upd H p (.dK []) b = some o := s1 b o e
      have e2 : upd (upd H p (.dK [])) q (.lst (ms.map V.int)) b = some o := Same.upd hq b o e1
      rw [upd_ne (ne_of_none e hp)]
      exact Same.upd hl2 b o e2
    · rw [upd_same]
      rfl
    · rw [upd_ne npl.symm, upd_same]
theorem dg_left {H : Hp} {p c : Addr} {a l : Int} (h : H p = some (.dK (penKvs c a l))) : DGet H p (.str "left") (some (.int l)) := by
  have q := DGet.k (k := kLeft) h
  rw [pen_left] at q
  exact q
theorem dg_at {H : Hp} {p c : Addr} {a l : Int} (h : H p = some (.dK (penKvs c a l))) : DGet H p (.str "at") (some (.int a)) := by
  have q := DGet.k (k := kAt) h
  rw [pen_at] at q
  exact q
theorem dg_cells {H : Hp} {p c : Addr} {a l : Int} (h : H p = some (.dK (penKvs c a l))) : DGet H p (.str "cells") (some (.ref c)) := by
  have q := DGet.k (k := kCells) h
  rw [pen_cells] at q
  exact q
theorem dp_left {H : Hp} {p c : Addr} {a l x : Int} (h : H p = some (.dK (penKvs c a l))) : DPut H p (.str "left") (.int x) (upd H p (.dK (penKvs c a x))) := by
  have q := DPut.k (k := kLeft) (v := .int x) h (by show 3 < sizeLine; decide)
  rw [put_left] at q
  exact q
theorem dp_at {H : Hp} {p c : Addr} {a l x : Int} (h : H p = some (.dK (penKvs c a l))) : DPut H p (.str "at") (.int x) (upd H p (.dK (penKvs c x l))) := by
  have q := DPut.k (k := kAt) (v := .int x) h (by show 3 < sizeLine; decide)
  rw [put_at] at q
  exact q
theorem dpInts (K : PySem.W.Frag) (H : Hp) : ∀ ns : List Int, DpAll K H (ns.map V.int) (ns.map PyData.int)
  | [] => .nil
  | n :: ns => .cons (.int n) (dpInts K H ns)
/-- data of a small depth -/
def Sh (n : Nat) (d : PyData) : Prop := d.canLay0 = true ∧ d.depth ≤ n
theorem Sh.int {n : Nat} (i : Int) : Sh n (.int i) := ⟨by simp [PyData.canLay0], by rw [PyData.depth]; omega⟩
theorem Sh.bl {n : Nat} (b : Bool) : Sh n (.bool b) := ⟨by simp [PyData.canLay0], by rw [PyData.depth]; omega⟩
theorem Sh.str {n : Nat} {x : Str} (h : PyData.strOk x = true) : Sh n (.str x) := ⟨by simp [PyData.canLay0, h], by rw [PyData.depth]; omega⟩
theorem Sh.all {n : Nat} : ∀ {xs : List PyData}, (∀ x ∈ xs, Sh n x) → PyData.canLayAll0 xs = true ∧ PyData.depthAll xs ≤ n
  | [], _ => ⟨by simp [PyData.canLayAll0], by rw [PyData.depthAll]; omega⟩
  | x :: xs, h => by
    obtain ⟨a, b⟩ := Sh.all (xs := xs) fun y hy => h y (List.mem_cons_of_mem _ hy)
    obtain ⟨c, d⟩ := h x List.mem_cons_self
    refine ⟨by rw [PyData.canLayAll0, c, a]; rfl, ?_⟩
    rw [PyData.depthAll]
    exact Nat.max_le.mpr ⟨d, b⟩
theorem Sh.list {n : Nat} {xs : List PyData} (h : ∀ x ∈ xs, Sh n x) : Sh (n + 1) (.list xs) := by
  obtain ⟨a, b⟩ := Sh.all h
  exact ⟨by rw [PyData.canLay0]; exact a, by rw [PyData.depth]; omega⟩
theorem Sh.tup {n : Nat} {xs : List PyData} (h : ∀ x ∈ xs, Sh n x) : Sh (n + 1) (.tuple xs) := by
  obtain ⟨a, b⟩ := Sh.all h
  exact ⟨by rw [PyData.canLay0]; exact a, by rw [PyData.depth]; omega⟩
theorem Sh.ok {n : Nat} {d : PyData} (h : Sh n d) (hn : n ≤ 64) : SeqAt.shaped d = true := by
  unfold SeqAt.shaped
  rw [h.1, decide_eq_true (Nat.le_trans h.2 hn)]
  rfl
theorem Sh.refl {n : Nat} {d : PyData} (h : Sh n d) : PyData.eqv d d = true := PySem.SeqAt.eqv_refl d h.1
theorem ifT {c A B : Prop} [Decidable c] (h : c) (a : A) : if decide c = true then A else B := by rw [if_pos (decide_eq_true h)]; exact a
theorem ifF {c A B : Prop} [Decidable c] (h : ¬ c) (b : B) : if decide c = true then A else B := by rw [if_neg (by simpa using h)]; exact b
theorem ifTn {c A B : Prop} [Decidable c] (h : ¬ c) (a : A) : if (!decide c) = true then A else B := by rw [if_pos (by simpa using h)]; exact a
theorem ifFn {c A B : Prop} [Decidable c] (h : c) (b : B) : if (!decide c) = true then A else B := by rw [if_neg (by simpa using h)]; exact b
theorem shInts (ns : List Int) : SeqAt.shaped (.list (ns.map PyData.int)) = true := (Sh.list (n := 0) fun x hx => by
  obtain ⟨i, _, rfl⟩ := List.mem_map.mp hx
  exact Sh.int i).ok (by decide)
theorem eqv_ints_nil (ns : List Int) : PyData.eqv (.list (ns.map PyData.int)) (.list []) = decide (ns = []) := by
  cases ns with
  | nil => rw [List.map_nil, PyData.eqv, PyData.eqvAll]; rfl
  | cons a r => rw [List.map_cons, PyData.eqv, PyData.eqvAll]; rfl
theorem sc_draw : FnScope ["pen", "many", "digit", "at", "cell", "mixed"] ["pen", "many"] (defScope s__law_draw) := ⟨rfl, rfl, rfl, by decide +kernel, rfl, by decide +kernel, by decide +kernel⟩
theorem ok_draw (T : TxtP K mg f1 f2 f3 d1 d2 d3) : FnOk P w K mg base CX0 1 f2 d2 ["pen", "many"] spDraw := by
  have sc := sc_draw
  refine T.D__law_draw.F.ok sc (fun vs H Q E h => ?_) (fun cdv A outer s H vs Q E hr h => ?_)
  · obtain ⟨_, _, _, _, rfl, _⟩ := h; rfl
  · obtain ⟨p, c, many, n, rfl, ⟨ns, a, l, h1, h2, h3, h4, h5⟩, hn, m0, m1, k⟩ := h
    have hu := hu_of hr
    have ncp : c ≠ p := ne_of h2 h1 (by intro z; cases z)
    refine ⟨_, (pss_cons (ps_if (pt_cmpR op_ge (pe_dget hu (pv 0) pe_str (fun _ _ => rfl)) (pv 1) (nomark _)) (pss_cons (ps_set (i := 2) sc.nd rfl (Or.inl rfl) (pe_op op_mod (pe_callTy call_int1 (by rfl) T.n_int (by decide +kernel) (pa_cons (pe_dget hu (pv 0) pe_str (fun _ _ => rfl)) pa_nil)) (pv 1)))
      (pss_cons (ps_dput hu (pv 0) pe_str (pe_op op_fdiv (pe_dget hu (pv 0) pe_str (fun _ _ => rfl)) (pv 1)) rfl)
      (pss_one (ps_ret (pv 2)))))
        pss_nil)
      (pss_cons (ps_set (i := 3) sc.nd rfl (Or.inl rfl) (pe_dget hu (pv 0) pe_str (fun _ _ => rfl)))
      (pss_cons (ps_dput hu (pv 0) pe_str (pe_op op_add (pv 3) pe_int) rfl)
      (pss_cons (ps_set (i := 4) sc.nd rfl (Or.inl rfl) (pe_op op_add (pe_op op_mul pe_int (pv 3)) pe_int))
      (C8.pss_cut (ps_if (pt_cmpR (op_neD hr.units) (pe_dget hu (pv 0) pe_str (fun _ _ => rfl)) (pe_lst pa_nil) (nomark _)) (pss_one (ps_set (i := 4) sc.nd rfl (Or.inl rfl) (pe_ix ix_list (pe_dget hu (pv 0) pe_str (fun _ _ => rfl)) (pe_op op_mod (pe_callTy call_int1 (by rfl) T.n_int (by decide +kernel) (pa_cons (pv 3) pa_nil)) (pe_callB call_len (by rfl) T.n_len (by decide +kernel) (pa_cons (pe_dget hu (pv 0) pe_str (fun _ _ => rfl)) pa_nil))) (fun _ _ => rfl))))
        pss_nil)
      (pss_cons (ps_if (PW.pt (pw_and (pt_cmpR op_lt (pv 3) (pe_callB call_len (by rfl) T.n_len (by decide +kernel) (pa_cons (pe_dget hu (pv 0) pe_str (fun _ _ => rfl)) pa_nil)) (nomark _)) (pw_and1 (pt_cmpR op_ge (pv 4) (pe_op op_pow pe_int pe_int) (nomark _))))) (pss_cons (ps_dput hu (pv 0) pe_str (pe_op op_fdiv (pe_op op_sub (pv 4) (pe_op op_pow pe_int pe_int)) (pv 1)) rfl)
      (pss_one (ps_ret (pe_op op_mod (pe_callTy call_int1 (by rfl) T.n_int (by decide +kernel) (pa_cons (pe_op op_sub (pv 4) (pe_op op_pow pe_int pe_int)) pa_nil)) (pv 1)))))
        pss_nil)
      (pss_cons (ps_set (i := 5) sc.nd rfl (Or.inl rfl) (pe_op op_add (pe_op op_add (pe_op op_add (pe_op op_mul (pe_op op_mod (pe_callTy call_int1 (by rfl) T.n_int (by decide +kernel) (pa_cons (pv 4) pa_nil)) pe_int) pe_int) (pe_op op_mul (pe_op op_mul pe_int (pv 3)) (pv 3))) (pe_op op_mul pe_int (pv 3))) pe_int))
      (pss_cons (ps_set (i := 5) sc.nd rfl (Or.inl rfl) (pe_op op_mod (pe_callTy call_int1 (by rfl) T.n_int (by decide +kernel) (pa_cons (pv 5) pa_nil)) pe_int))
      (pss_cons (ps_set (i := 5) sc.nd rfl (Or.inl rfl) (pe_op op_mod (pe_callTy call_int1 (by rfl) T.n_int (by decide +kernel) (pa_cons (pe_op op_mul (pv 5) (pe_op op_add (pv 5) pe_int)) pa_nil)) pe_int))
      (pss_one (ps_ret (pe_op op_mod (pe_callTy call_int1 (by rfl) T.n_int (by decide +kernel) (pa_cons (pe_op op_fdiv (pe_op op_mod (pe_callTy call_int1 (by rfl) T.n_int (by decide +kernel) (pa_cons (pe_op op_mul (pv 5) (pv 5)) pa_nil)) pe_int) pe_int) pa_nil)) (pv 1))))))))))))), ?_⟩
    refine ⟨_, rfl, p, .int l, rfl, dg_left h1, _, rfl, _, _, rfl, rfl, _, rfl, ?_⟩
    by_cases c1 : many ≤ l
    · refine ifT c1 ?_
      refine ⟨_, rfl, p, .int l, rfl, dg_left h1, .inl ⟨_, rfl, _, rfl, _, _, rfl, rfl, m0, ?_⟩⟩
      refine ⟨_, rfl, p, .int l, rfl, dg_left h1, _, rfl, _, _, rfl, rfl, ⟨m0, m1⟩, _, rfl, p, _, rfl, dp_left h1, ?_⟩
      refine ⟨_, rfl, ?_⟩
      refine k _ _ (Int.emod_nonneg _ (by omega)) (Int.emod_lt_of_pos _ m0) ⟨ns, a, _, upd_same, by rw [upd_ne ncp]; exact h2, h3, h4, by omega⟩ .upd
    · refine ifF c1 ?_
      refine ⟨_, rfl, p, .int a, rfl, dg_at h1, ?_⟩
      refine ⟨_, rfl, _, _, rfl, rfl, _, rfl, p, _, rfl, dp_at h1, ?_⟩
      have g1 : upd H p (.dK (penKvs c (a + 1) l)) p = some (.dK (penKvs c (a + 1) l)) := upd_same
      have g2 : upd H p (.dK (penKvs c (a + 1) l)) c = some (.lst (ns.map V.int)) := by rw [upd_ne ncp]; exact h2
      have g3 : SameBut p H (upd H p (.dK (penKvs c (a + 1) l))) := .upd
      generalize upd H p (.dK (penKvs c (a + 1) l)) = H1 at g1 g2 g3 ⊢
      refine ⟨_, rfl, _, _, rfl, rfl, .inl ⟨by decide, by decide⟩, _, _, rfl, rfl, ?_⟩
      -- if pen['cells'] != []
      refine ⟨fun σ' H' => ∃ cell : Int, σ' = [some (.ref p), some (.int many), none, some (.int a), some (.int cell), none] ∧ Same H1 H', ?_, ?_⟩
      · refine ⟨_, rfl, p, .ref c, rfl, dg_cells g1, (by decide), fun lz hz => ?_⟩
        refine ⟨.list (ns.map PyData.int), .list [], .lst (SqL.of (Same.upd hz _ _ g2)) (dpInts _ _ _), .lst (SqL.of upd_same) .nil, shInts ns, shInts [], _, rfl, ?_⟩
        rw [eqv_ints_nil]
        by_cases c2 : ns = []
        · refine ifFn c2 ?_
          exact ⟨_, rfl, Same.upd hz⟩
        · refine ifTn c2 ?_
          have hpos : 0 < ns.length := List.length_pos_iff.mpr c2
          have hsu := Same.upd (o := .lst ([] : List V)) hz
          have e2 := hsu _ _ g2
          have e1 := hsu _ _ g1
          have hm0 : 0 ≤ a % (ns.length : Int) := Int.emod_nonneg _ (by omega)
          have hm1 : a % (ns.length : Int) < ns.length := Int.emod_lt_of_pos _ (by omega)
          obtain ⟨x, hx⟩ : ∃ x, ns[(a % (ns.length : Int)).toNat]? = some x := ⟨_, List.getElem?_eq_getElem (by omega)⟩
          refine ⟨_, rfl, p, .ref c, rfl, dg_cells e1, _, rfl, .inl ⟨_, rfl, ?_⟩⟩
          refine ⟨_, rfl, p, .ref c, rfl, dg_cells e1, .ref c, ns.length, rfl, .inl ⟨_, SqL.of e2, by rw [List.length_map]⟩, _, _, rfl, rfl, by omega, ?_⟩
          refine ⟨c, ns.map V.int, _, .int x, rfl, rfl, SqL.of e2, ?_, ?_⟩
          · have q := atI_nat (xs := ns.map V.int) (j := (a % (ns.length : Int)).toNat) (v := .int x) (by rw [List.getElem?_map, hx]; rfl)
            rw [Int.toNat_of_nonneg hm0] at q
            exact q
          · exact ⟨x, rfl, hsu⟩
      · rintro σ' H' ⟨cell, rfl, s1⟩
        have e1 := s1 _ _ g1
        have e2 := s1 _ _ g2
        refine ⟨_, rfl, _, rfl, p, .ref c, rfl, dg_cells e1, .ref c, ns.length, rfl, .inl ⟨_, SqL.of e2, by rw [List.length_map]⟩, _, _, rfl, rfl, _, rfl, ?_⟩
        have P18 : CPow 10 18 := ⟨by decide, by decide, by decide⟩
        have fin : ∀ (r : Int) (H2 : Hp) (l2 : Int), 0 ≤ r → r < many → H2 = upd H' p (.dK (penKvs c (a + 1) l2)) ∨ H2 = H' → Q (.int r) H2 := by
          intro r H2 l2 r0 r1 e
          have g3' : SameBut p H H' := g3.trans (.of s1)
          rcases e with rfl | rfl
          · exact k r _ r0 r1 ⟨ns, a + 1, l2, upd_same, by rw [upd_ne ncp]; exact e2, h3, by omega, by omega⟩ (g3'.trans .upd)
          · exact k r _ r0 r1 ⟨ns, a + 1, l, e1, e2, h3, by omega, by omega⟩ g3'
        have last : (tSeq (tAsg (tOp (rI0 fun i j => .int (i + j)) (tOp (rI0 fun i j => .int (i + j)) (tOp (rI0 fun i j => .int (i + j)) (tOp (rI CMul fun i j => .int (i * j)) (tOp (rI (fun _ j => 0 < j) fun i j => .int (i % j)) (tCB (fun xs H Q => (∃ i, xs = [V.int i] ∧ Q (.int i) H) ∨ ∃ k, xs = [V.bl k] ∧ Q (.int (if k then 1 else 0)) H) (tCons (tVar 4) tNil)) (tC (.int 2147483587))) (tC (.int 48271))) (tOp (rI CMul fun i j => .int (i * j)) (tOp (rI CMul fun i j => .int (i * j)) (tC (.int 40014)) (tVar 3)) (tVar 3))) (tOp (rI CMul fun i j => .int (i * j)) (tC (.int 59)) (tVar 3))) (tC (.int 17))) (gName 5))
            (tSeq (tAsg (tOp (rI (fun _ j => 0 < j) fun i j => .int (i % j)) (tCB (fun xs H Q => (∃ i, xs = [V.int i] ∧ Q (.int i) H) ∨ ∃ k, xs = [V.bl k] ∧ Q (.int (if k then 1 else 0)) H) (tCons (tVar 5) tNil)) (tC (.int 2147483629))) (gName 5))
            (tSeq (tAsg (tOp (rI (fun _ j => 0 < j) fun i j => .int (i % j)) (tCB (fun xs H Q => (∃ i, xs = [V.int i] ∧ Q (.int i) H) ∨ ∃ k, xs = [V.bl k] ∧ Q (.int (if k then 1 else 0)) H) (tCons (tOp (rI CMul fun i j => .int (i * j)) (tVar 5) (tOp (rI0 fun i j => .int (i + j)) (tVar 5) (tC (.int 69621)))) tNil)) (tC (.int 2147483549))) (gName 5))
            (tRet (tOp (rI (fun _ j => 0 < j) fun i j => .int (i % j)) (tCB (fun xs H Q => (∃ i, xs = [V.int i] ∧ Q (.int i) H) ∨ ∃ k, xs = [V.bl k] ∧ Q (.int (if k then 1 else 0)) H) (tCons (tOp (rI CDiv fun i j => .int (i / j)) (tOp (rI (fun _ j => 0 < j) fun i j => .int (i % j)) (tCB (fun xs H Q => (∃ i, xs = [V.int i] ∧ Q (.int i) H) ∨ ∃ k, xs = [V.bl k] ∧ Q (.int (if k then 1 else 0)) H) (tCons (tOp (rI CMul fun i j => .int (i * j)) (tVar 5) (tVar 5)) tNil)) (tC (.int 2147483579))) (tC (.int 32))) tNil)) (tVar 1))))))
            { nx := fun _ H' => Q .non H', rt := Q } [some (.ref p), some (.int many), none, some (.int a), some (.int cell), none] H' := by
          refine ⟨_, rfl, .inl ⟨_, rfl, _, _, rfl, rfl, (show (0 : Int) < 2147483587 by decide), _, _, rfl, rfl, .inr ⟨by decide, by decide⟩, _, rfl, _, _, rfl, rfl, .inl ⟨by decide, by decide⟩, _, rfl, _, _, rfl, rfl, .inr ⟨by omega, by omega⟩, _, _, rfl, rfl, _, rfl, _, _, rfl, rfl, .inl ⟨by decide, by decide⟩, _, _, rfl, rfl, _, _, rfl, rfl, ?_⟩⟩
          refine ⟨_, rfl, .inl ⟨_, rfl, _, _, rfl, rfl, (show (0 : Int) < 2147483629 by decide), ?_⟩⟩
          have x0 := Int.emod_nonneg (cell % 2147483587 * 48271 + 40014 * a * a + 59 * a + 17) (show (2147483629 : Int) ≠ 0 by decide)
          have x1 := Int.emod_lt_of_pos (cell % 2147483587 * 48271 + 40014 * a * a + 59 * a + 17) (show (0 : Int) < 2147483629 by decide)
          generalize (cell % 2147483587 * 48271 + 40014 * a * a + 59 * a + 17) % 2147483629 = x at x0 x1 ⊢
          refine ⟨_, rfl, _, rfl, _, _, rfl, rfl, _, _, rfl, rfl, .inl ⟨by omega, by omega⟩, .inl ⟨_, rfl, _, _, rfl, rfl, (show (0 : Int) < 2147483549 by decide), ?_⟩⟩
          have y0 := Int.emod_nonneg (x * (x + 69621)) (show (2147483549 : Int) ≠ 0 by decide)
          have y1 := Int.emod_lt_of_pos (x * (x + 69621)) (show (0 : Int) < 2147483549 by decide)
          generalize (x * (x + 69621)) % 2147483549 = y at y0 y1 ⊢
          refine ⟨_, rfl, _, rfl, _, _, rfl, rfl, .inl ⟨by omega, by omega⟩, .inl ⟨_, rfl, _, _, rfl, rfl, (show (0 : Int) < 2147483579 by decide), _, _, rfl, rfl, ⟨by decide, by decide⟩, .inl ⟨_, rfl, _, rfl, _, _, rfl, rfl, m0, ?_⟩⟩⟩
          exact fin _ _ l (Int.emod_nonneg _ (by omega)) (Int.emod_lt_of_pos _ m0) (.inr rfl)
        by_cases c3 : a < ns.length
        · refine ifT c3 ?_
          refine ⟨_, rfl, _, _, rfl, rfl, P18, _, _, rfl, rfl, _, rfl, ?_⟩
          by_cases c4 : (10 : Int) ^ (18 : Int).toNat ≤ cell
          · refine ifT c4 ?_
            refine ⟨_, rfl, _, _, rfl, rfl, P18, _, _, rfl, rfl, _, rfl, _, _, rfl, rfl, ⟨m0, m1⟩, _, rfl, p, _, rfl, dp_left e1, ?_⟩
            refine ⟨_, rfl, _, _, rfl, rfl, P18, _, _, rfl, rfl, .inl ⟨_, rfl, _, rfl, _, _, rfl, rfl, m0, ?_⟩⟩
            exact fin _ _ _ (Int.emod_nonneg _ (by omega)) (Int.emod_lt_of_pos _ m0) (.inl rfl)
          · refine ifF c4 ?_
            exact last
        · refine ifF c3 ?_
          exact last
theorem sc_pick : FnScope ["pen", "items"] ["pen", "items"] (defScope s__law_pick) := ⟨rfl, rfl, rfl, by decide +kernel, rfl, by decide +kernel, by decide +kernel⟩
theorem ok_pick (T : TxtP K mg f1 f2 f3 d1 d2 d3) : FnOk P w K mg base CX0 2 f3 d3 ["pen", "items"] spPick := by
  have sc := sc_pick
  have G__law_draw : FnOk P w K mg base CX0 1 f2 d2 ["pen", "many"] spDraw := ok_draw T
  refine T.D__law_pick.F.ok sc (fun vs H Q E h => ?_) (fun cdv A outer s H vs Q E hr h => ?_)
  · obtain ⟨_, _, _, _, _, rfl, _⟩ := h; rfl
  · obtain ⟨p, c, q, xs, n, rfl, hp, hn, hq, x0, x1, k⟩ := h
    refine ⟨_, (pss_one (ps_ret (pe_ix ix_list (pv 1) (pe_call G__law_draw (hr.mono (by decide)) rfl T.D__law_draw.g T.D__law_draw.F.kp T.D__law_draw.b .nil pass0 (pa_cons (pv 0) (pa_cons (pe_callB call_len (by rfl) T.n_len (by decide +kernel) (pa_cons (pv 1) pa_nil)) pa_nil))) (fun _ _ => rfl)))), ?_⟩
    refine ⟨_, rfl, _, rfl, _, rfl, .ref q, xs.length, rfl, .inl ⟨_, SqL.of hq, rfl⟩, p, c, _, n, rfl, hp, hn, by omega, by omega, fun r H' r0 r1 hp' sb => ?_⟩
    obtain ⟨x, hx⟩ : ∃ x, xs[r.toNat]? = some x := ⟨_, List.getElem?_eq_getElem (by omega)⟩
    refine ⟨q, xs, r, x, rfl, rfl, SqL.of (sb _ _ hq (hp.ne hq)), ?_, k x _ H' hx hp' sb⟩
    have z := atI_nat hx
    rw [Int.toNat_of_nonneg r0] at z
    exact z
end
end Kx

/-! list comprehensions of any number of clauses -/
namespace Own
open PySem PySem.Spec PyProof.Rows L2
/-- what a clause whose tests hold does next -/
def onward (elt : Expr) (gs : List Comprehension) (scope : Scope) (pos : Pos) (d : Nat) (acc : Value) (env : Env) : Sem Unit := match gs[d]? with
  | some g' => do
    let x ← eval g'.iter env
    standAt g'.iter.pos
    let x ← if g'.is_async != 0 then foldedIterable g'.iter x else foldedSetIterable g'.iter env x
    let _ ← runOwn (.compStart (.ListComp elt gs scope pos) d (← holding [x] (if g'.is_async != 0 then asyncIter x else pyIter x)) acc env) env
  | none => do
    let _ ← call (.builtin "list.append") [acc, ← eval elt env]
/-- the clause at d is there, or d is the end -/
def Nextly (gs : List Comprehension) (d : Nat) : Prop := gs[d]? = none ∨ ∃ t i fs, gs[d]? = some ⟨t, i, fs, 0⟩
theorem turn_of {elt tg iter : Expr} {ifs : List Expr} {gs : List Comprehension} {scope : Scope} {pos : Pos} {d : Nat} {it acc : Value} {env : Env} (hg : gs[d]? = some ⟨tg, iter, ifs, 0⟩) (hn : Nextly gs (d + 1)) :
    compTurn (.ListComp elt gs scope pos) d it acc env = (do
      standAt iter.pos
      match ← pyNext it with
      | none => pure (.done .next)
      | some v =>
        letOwnedTupleGo tg it v
        assign tg env v
        let mut ok := true
        for c in ifs do
          if ok then ok ← isTrue c env (eval c env)
        if ok then
          onward elt gs scope pos (d + 1) acc env
          again (.compLoop (.ListComp elt gs scope pos) d it acc env)
        else again (.compLoop (.ListComp elt gs scope pos) d it acc env)) := by
  unfold compTurn onward
  dsimp only
  rw [hg]
  have z : ((0 : Int) != 0) = false := rfl
  rcases hn with hn | ⟨t, i, fs, hn⟩
  · rw [hn]
    simp only [z, Bool.false_eq_true, if_false, bind_assoc, pure_bind]
    try rfl
  · rw [hn]
    simp only [z, Bool.false_eq_true, if_false, bind_assoc, pure_bind]
    try rfl
section
variable {prog : Program} {w : World} {A : Around} {R : Result → Shared → Prop} {s : Shared} {elt tg iter : Expr} {ifs : List Expr} {gs : List Comprehension} {scope : Scope} {pos : Pos} {d : Nat} {it acc : Value} {env : Env}
/-- a clause's loop, nothing raised -/
theorem loop_of (hg : gs[d]? = some ⟨tg, iter, ifs, 0⟩) (hn : Nextly gs (d + 1)) (I : Nat → Shared → Prop)
    (turn : ∀ n s, I n s → wpAny (model prog w) A (pyNext it) (fun r s1 => match r with
      | none => R (.ok .next) s1
      | some v => wpAny (model prog w) A (letOwnedTupleGo tg it v) (fun _ s2 => wpAny (model prog w) A (assign tg env v) (fun _ s3 =>
          wpAny (model prog w) A (forIn ifs true fun c r => if r = true then do let ok ← isTrue c env (eval c env); pure (ForInStep.yield ok) else pure (ForInStep.yield r)) (fun ok s4 =>
            if ok = true then wpAny (model prog w) A (onward elt gs scope pos (d + 1) acc env) (fun _ s5 => ∃ m, m < n ∧ I m s5) (fun _ _ => False) s4 else ∃ m, m < n ∧ I m s4) (fun _ _ => False) s3) (fun _ _ => False) s2) (fun _ _ => False) s1) (fun _ _ => False) s)
    (n : Nat) (h : I n s) : codeAny (model prog w) A (.compLoop (.ListComp elt gs scope pos) d it acc env) R s := by
  have no : ∀ (E : Value → Shared → Prop) (x : Value) (z : Shared), False → E x z := fun _ _ _ z => z.elim
  refine codeAny_loop rfl I (fun n s hI => ?_) n h
  show wpAny _ A ((compTurn (.ListComp elt gs scope pos) d it acc env).onRaise (fun x => do noteFrame x env; theTreesLotGoes x)) _ _ s
  refine wpAny_noted ?_
  rw [turn_of hg hn]
  refine wpAny_bind (wpAny_standAt (wpAny_bind (wpAny_mono (turn n s hI) (fun r s1 h1 => ?_) (no _))))
  cases r with
  | none => exact wpAny_pure h1
  | some v =>
    refine wpAny_bind (wpAny_mono h1 (fun _ s2 h2 => wpAny_bind (wpAny_mono h2 (fun _ s3 h3 => wpAny_bind (wpAny_mono h3 (fun b s4 h4 => ?_) (no _))) (no _))) (no _))
    cases b with
    | false => exact wpAny_pure ⟨rfl, h4⟩
    | true => exact wpAny_bind (wpAny_mono h4 (fun _ s5 h5 => wpAny_pure ⟨rfl, h5⟩) (no _))
theorem start_of (hg : gs[d]? = some ⟨tg, iter, ifs, 0⟩) (h0 : codeAny (model prog w) A (.compLoop (.ListComp elt gs scope pos) d it acc env) R s)
    (h : wpAny (model prog w) A (pyIter it) (fun it' s' => codeAny (model prog w) A (.compLoop (.ListComp elt gs scope pos) d it' acc env) R s') (fun _ _ => False) s) :
    codeAny (model prog w) A (.compStart (.ListComp elt gs scope pos) d it acc env) R s := by
  refine codeAny_of_tree ?_
  show wpAny _ _ ((compStart (.ListComp elt gs scope pos) d it acc env).onRaise (fun x => do noteFrame x env; standAt theWindowsPlace)) _ _ s
  refine wpAny_notedAt ?_
  unfold compStart
  have hc : clausesOf (.ListComp elt gs scope pos) = gs := rfl
  rw [hc, hg]
  show wpAny _ _ (ask >>= _) _ _ s
  refine wpAny_bind (wpAny_askSetting (wpAny_ite ?_))
  split
  · first
      | exact wpAny_bind (wpAny_pure (wpAny_pure (And.intro rfl h0)))
      | exact wpAny_pure (And.intro rfl h0)
  · refine wpAny_bind (wpAny_rule ?_)
    show wpAny _ _ (standAt iter.pos >>= _) _ _ s
    exact wpAny_bind (wpAny_standAt (wpAny_bind (wpAny_mono h (fun it' s' h' => wpAny_pure (And.intro rfl h')) fun _ _ x => x.elim)))
end
/-- from slots and heap to what is reached -/
abbrev TN := L2.St → Hp → (Hp → Prop) → Prop
/-- the onward step at depth d, the list at D, the slots vs its own -/
structure Does (Y : Cx) (elt : Expr) (gs : List Comprehension) (scope : Scope) (pos : Pos) (d : Nat) (D : Addr) (vs : List Nat) (t : TN) : Prop where
  run : ∀ (pins : List (Addr × Obj)) (s : Shared) (σ : L2.St) (H : Hp) (Nx : Hp → Prop) (R : Shared → Prop), Inv Y pins σ H s → t σ H Nx →
    (∀ s' σ' H', Inv Y pins σ' H' s' → σ'.length = σ.length → (∀ (i : Nat) v, i ∉ vs → σ[i]? = some (some v) → σ'[i]? = some (some v)) → Nx H' → R s') →
    wpAny (model Y.prog Y.w) Y.A (onward elt gs scope pos d (.ref D) Y.env) (fun _ => R) (fun _ _ => False) s
def tEmit (te : TE) (D : Addr) : TN := fun σ H Nx => te σ H fun y H4 => ∃ acc, H4 D = some (.lst acc) ∧ acc.length < sizeLine ∧ Nx (upd H4 D (.lst (acc ++ [y])))
def tLoop (g : TG) (tt : TT) (t : TN) (vs : List Nat) (J : It) : TN := fun σ H Nx => ∃ W : Nat → Nat → Hp → Prop, (∃ m, W 0 m H) ∧ ∀ j k H, W j k H →
  (J.stop j H ∧ Nx H) ∨ (J.go j H ∧ ∃ N1 : Hp → Prop, (∀ H', N1 H' → ∃ k', k' < k ∧ W (j + 1) k' H') ∧ ∀ x H', J.yld j H x H' → g x (wipe σ vs) H' fun σ3 H5 => wipe σ3 vs = wipe σ vs ∧ tt σ3 H5 fun b H6 =>
    if b = true then t σ3 H6 N1 else N1 H6)
/-- a further clause, and what stands behind it -/
def tFor (wi : TI) (g : TG) (tt : TT) (vs : List Nat) (t : Addr → TN) : Addr → TN := fun D σ H Nx => wi σ H fun J H4 => tLoop g tt (t D) vs J σ H4 Nx
section
variable {Y : Cx} {elt tg iter : Expr} {ifs : List Expr} {gs : List Comprehension} {scope : Scope} {pos : Pos} {d : Nat} {D : Addr} {g : TG} {tt : TT} {te : TE} {t : TN} {wi : TI} {vs vs1 : List Nat}
theorem does_emit (hg : gs[d]? = none) (hx : Y.xe = fun _ _ => False) (pe : PE Y elt te) : Does Y elt gs scope pos d D [] (tEmit te D) := by
  refine ⟨fun pins s σ H Nx R I h k => ?_⟩
  unfold onward
  rw [hg]
  refine wpAny_bind ?_
  have r := pe.run pins s σ H _ I h
  rw [hx] at r
  refine thnF r fun z s1 ⟨y, H1, I1, r1, acc, e, hz, nx⟩ => ?_
  exact wpAny_bind (app_ok I1 e hz r1 fun s2 I2 => wpAny_pure (k s2 σ _ I2 rfl (fun _ _ _ e => e) nx))
theorem loop_n (hg : gs[d]? = some ⟨tg, iter, ifs, 0⟩) (hn : Nextly gs (d + 1)) (hc : Y.calm = true) (hx : Y.xe = fun _ _ => False) (pg : PG Y tg g) (pt : PTs Y ifs tt) (dn : Does Y elt gs scope pos (d + 1) D vs1 t) (hv : ∀ i ∈ vs1, i ∈ vs)
    {pins : List (Addr × Obj)} {s : Shared} {σ : L2.St} {H : Hp} {Nx : Hp → Prop} {R : Result → Shared → Prop} {J : It} {fp : List Addr} {it : Addr} {tn : Nat → Heap → Prop} (I : Inv Y pins σ H s) (T : Turn Y.prog Y.w Y.K tg J fp it tn) (st : tn 0 s.heap) (hf : ∀ b ∈ fp, FpOk Y pins H b)
    (h : tLoop g tt t vs J σ H Nx) (fin : ∀ s' H', Inv Y pins (wipe σ vs) H' s' → Nx H' → R (.ok .next) s') :
    codeAny (model Y.prog Y.w) Y.A (.compLoop (.ListComp elt gs scope pos) d (.ref it) (.ref D) Y.env) R s := by
  obtain ⟨W, ⟨m0, w0⟩, turn⟩ := h
  have ok : ∀ {H' : Hp}, (∀ b ∈ fp, H' b = none) → ∀ b ∈ fp, FpOk Y pins H' b := fun hn b hb => ⟨hn b hb, (hf b hb).2⟩
  refine loop_of hg hn (fun n z => ∃ i H', Inv Y pins (wipe σ vs) H' z ∧ tn i z.heap ∧ (∀ b ∈ fp, H' b = none) ∧ W i n H') ?_ m0 ⟨0, H, I.weak (wipe_length _ _) fun _ _ e => (wipe_some e).1, st, fun b hb => (hf b hb).1, w0⟩
  rintro n z ⟨i, H1, I1, st1, n1, w1⟩
  rcases turn i n H1 w1 with ⟨stop, nx⟩ | ⟨go, N1, back, step⟩
  · refine thnF (T.done Y rfl rfl rfl hc i pins z _ H1 (fun _ _ => False) I1 (ok n1) st1 stop) fun r z2 ⟨hr, I2⟩ => ?_
    rw [hr]
    exact fin z2 H1 I2 nx
  · refine thnF (T.item Y rfl rfl rfl hc i pins z _ H1 (fun _ _ => False) I1 (ok n1) st1 go) fun r z2 ⟨u, hr, h2⟩ => ?_
    rw [hr]
    refine thnF h2 fun _ z3 ⟨x, H3, I3, r3, y3, st3, n3⟩ => ?_
    have J3 := I3.pinned (ok n3) (T.obj _ _ st3)
    have a := pg.run _ z3 _ H3 x u _ J3 r3 (step x H3 y3)
    rw [hx] at a
    refine thnF a fun _ z4 ⟨σ4, H4, I4, e4, q4⟩ => ?_
    have b := pt.run _ z4 σ4 H4 _ I4 q4
    rw [hx] at b
    refine thnF b fun ok5 z5 ⟨H5, I5, q5⟩ => ?_
    -- the end of a turn
    have fin1 : ∀ z6 σ6 H6, Inv Y (pins ++ pinsAt fp z3.heap) σ6 H6 z6 → σ6.length = σ4.length → (∀ (j : Nat) v, j ∉ vs1 → σ4[j]? = some (some v) → σ6[j]? = some (some v)) → N1 H6 → ∃ m, m < n ∧ ∃ i H', Inv Y pins (wipe σ vs) H' z6 ∧ tn i z6.heap ∧ (∀ b ∈ fp, H' b = none) ∧ W i m H' := fun z6 σ6 H6 I6 l6 k6 nx => by
      obtain ⟨m, lt, w6⟩ := back H6 nx
      have pin : ∀ b ∈ fp, ∀ o, z3.heap.get? b = some o → z6.heap.get? b = some o ∧ H6 b = none := fun b hb o e =>
        have q := I6.pin (b, o) (List.mem_append_right _ (List.mem_append_right _ (mem_pinsAt hb e)))
        ⟨q.1, q.2.1⟩
      refine ⟨m, lt, i + 1, H6, I6.unpinned.weak ?_ fun j v e => ?_, T.keep _ _ _ st3 fun b hb o e => (pin b hb o e).1, fun b hb => ?_, w6⟩
      · rw [l6, ← e4, wipe_length]
      · rw [← e4] at e
        obtain ⟨p, q⟩ := wipe_some e
        exact k6 j v (fun m => q (hv j m)) p
      · obtain ⟨o, e, _⟩ := T.obj _ _ st3 b hb
        exact (pin b hb o e).2
    cases ok5 with
    | false =>
      simp only [Bool.false_eq_true, if_false] at q5 ⊢
      exact fin1 z5 σ4 H5 I5 rfl (fun _ _ _ e => e) q5
    | true =>
      simp only [if_true] at q5 ⊢
      exact dn.run _ z5 σ4 H5 N1 _ I5 q5 fin1
theorem does_for {t : Addr → TN} (hg : gs[d]? = some ⟨tg, iter, ifs, 0⟩) (hn : Nextly gs (d + 1)) (hc : Y.calm = true) (hx : Y.xe = fun _ _ => False) (pi : PI Y tg iter wi) (hs : ∀ x, foldedSetIterable iter Y.env x = pure x) (pg : PG Y tg g) (pt : PTs Y ifs tt)
    (dn : Does Y elt gs scope pos (d + 1) D vs1 (t D)) (hv : ∀ i ∈ vs1, i ∈ vs) : Does Y elt gs scope pos d D vs (tFor wi g tt vs t D) := by
  refine ⟨fun pins s σ H Nx R I h k => ?_⟩
  unfold onward
  rw [hg]
  have r := pi.run pins s σ H _ I h
  rw [hx] at r
  refine wpAny_bind (thnF r fun v s1 h1 => wpAny_bind (wpAny_standAt ?_))
  dsimp only
  rw [show ((0 : Int) != 0) = false from rfl]
  simp only [Bool.false_eq_true, if_false]
  refine wpAny_bind (wpAny_of_eq (hs v) (wpAny_bind (wpAny_holding (thnF h1 fun itv s2 h2 => ?_))))
  obtain ⟨it, fp, tn, J, H2, e, I2, T, st2, f2, q⟩ := h2
  subst e
  have lp : codeAny (model Y.prog Y.w) Y.A (.compLoop (.ListComp elt gs scope pos) d (.ref it) (.ref D) Y.env) (fun r s' => match r with
      | .ok _ => R s'
      | .error _ => False) s2 :=
    loop_n hg hn hc hx pg pt dn hv I2 T st2 f2 q fun s' H' I' nx => k s' _ H' I' (wipe_length _ _) (fun i v hi e => by rw [wipe_out hi]; exact e) nx
  refine wpAny_bind (wpAny_runOwn ?_)
  rw [Around.mark_none]
  refine codeAny_mono (start_of hg lp (T.self Y.A 0 _ _ _ st2 lp)) fun r s' hr => ?_
  cases r with
  | ok f => exact wpAny_pure hr
  | error e => exact hr.elim
end
section
variable {X : Cx} {elt tg iter : Expr} {ifs : List Expr} {rest : List Comprehension} {scope : Scope} {own : List (Str × Nat)} {pos : Pos} {g : TG} {tt : TT} {wi : TI} {vs1 : List Nat} {t : Addr → TN}
/-- [elt for tg in iter if .. for ..]; t: what stands behind the first clause -/
def tLcN (wi : TI) (g : TG) (tt : TT) (t : Addr → TN) (vs : List Nat) : TE := fun σ H Q => wi σ H fun J H1 => ∀ D, H1 D = none → tLoop g tt (t D) vs J (wipe σ vs) (upd H1 D (.lst [])) (Q (.ref D))
theorem lcN_core {pins : List (Addr × Obj)} {s : Shared} {σ : L2.St} {H : Hp} {Q : VK} {pos' : Pos} {use : Option (Value → Sem Unit)} {Qf : Value → Shared → Prop} (hc : X.calm = true) (hN : X.N.Nodup) (hi : PI X tg iter wi) (ok : BlkOk X.N X.env.scope scope own) (hn : Nextly (⟨tg, iter, ifs, 0⟩ :: rest) 1) (hv : ∀ i ∈ vs1, i ∈ own.map (·.2))
    (hg : ∀ (s : Shared) (H : Hp) (C : Addr) (cl : List (Str × Addr)) (fp : List Addr), PG (X.blk s H scope (compEnvC scope cl C X.env) fp) tg g) (ht : ∀ (s : Shared) (H : Hp) (C : Addr) (cl : List (Str × Addr)) (fp : List Addr), PTs (X.blk s H scope (compEnvC scope cl C X.env) fp) ifs tt)
    (hd : ∀ (s : Shared) (H : Hp) (C : Addr) (cl : List (Str × Addr)) (fp : List Addr) (D : Addr), Does (X.blk s H scope (compEnvC scope cl C X.env) fp) elt (⟨tg, iter, ifs, 0⟩ :: rest) scope pos 1 D vs1 (t D)) (hs : ∀ x, foldedSetIterable iter X.env x = pure x)
    (I : Inv X pins σ H s) (h : tLcN wi g tt t (own.map (·.2)) σ H Q) (done : ∀ D C s' m H', Inv X pins σ H' s' → Q (.ref D) H' → s'.heap.Ns C m → FpOk X pins H' C → compPost (model X.prog X.w) X.A X.xe use Qf (.ref D) C (.ok .next) s') :
    wpAny (model X.prog X.w) X.A (comprehension (.ListComp elt (⟨tg, iter, ifs, 0⟩ :: rest) scope pos) scope X.env pos' (newList []) false (eval iter X.env) use) Qf X.xe s := by
  have cl : closureFor scope X.env = pure (cloFrom X.env.cells scope.names []) := closure_ok fun y hy e => I.ok.has _ (ok.free y hy e)
  refine wpAny_comprehension_free (use := use) rfl hs cl ok.kind (fun y hy e => (ok.uniq y hy).trans (by rw [e])) (thn (hi.run pins s σ H _ I h) fun xv s1 h1 => thn h1 fun itv s2 h2 => ?_)
  obtain ⟨it, fp, tn, J, H2, rfl, I2, T, st2, f2, q⟩ := h2
  refine wpAny_newObj_type (newEnv_comp ?_) (Nat.zero_le _)
  have q := q s2.heap.objs.size (I2.hok.fresh (Nat.le_refl _))
  have lt : ∀ b ∈ fp, b < s2.heap.objs.size := fun b hb => by
    obtain ⟨o, e, _⟩ := T.obj _ _ st2 b hb
    exact Heap.lt_size e
  have new : ∀ b o, s2.heap.get? b = some o → (s2.heap.push { cls := .type "list", data := .seq ([] : List Value).toArray }).get? b = some o := fun b o e => Heap.get?_push_of_some _ e
  -- the list is there
  have I3 := I2.laid (t' := s2.toks) (o := .lst []) (a := s2.heap.objs.size) new (Nat.le_refl _) ⟨Nat.zero_le _, [], 0, .nil, Heap.get?_push_size _ rfl⟩
  have f3 : ∀ b ∈ fp, FpOk X pins (upd H2 s2.heap.objs.size (.lst [])) b := fun b hb => ⟨by rw [upd_ne (Nat.ne_of_lt (lt b hb))]; exact (f2 b hb).1, (f2 b hb).2⟩
  have st3 := T.keep _ _ _ st2 fun b _ o e => new b o e
  generalize s2.heap.objs.size = D at q I3 f3 lt ⊢
  generalize upd H2 D (.lst []) = H3 at q I3 f3 ⊢
  have lt3 : ∀ b ∈ fp, b < (s2.heap.push { cls := .type "list", data := .seq ([] : List Value).toArray }).objs.size := fun b hb => by
    obtain ⟨o, e, _⟩ := T.obj _ _ st3 b hb
    exact Heap.lt_size e
  change Inv X pins σ H3 { s2 with heap := s2.heap.push { cls := .type "list", data := .seq ([] : List Value).toArray } } at I3
  generalize hz : ({ s2 with heap := s2.heap.push { cls := .type "list", data := .seq ([] : List Value).toArray } } : Shared) = z at I3 ⊢
  have ez : s2.heap.push { cls := .type "list", data := .seq ([] : List Value).toArray } = z.heap := by rw [← hz]
  rw [ez] at st3 lt3
  have I4 := block_start I3 ok hN fun b hb => ⟨f3 b hb, lt3 b hb⟩
  have st4 := T.keep 0 _ (pushCells (z.heap.push { cls := .type "dict", data := .dict #[] }) scope.names) st3 fun b _ o e => pushCells_keeps _ _ _ _ (Heap.get?_push_of_some _ e)
  have pg := hg z H3 z.heap.objs.size (cellsFrom (z.heap.objs.size + 1) scope.names (cloFrom X.env.cells scope.names [])) fp
  have pt := ht z H3 z.heap.objs.size (cellsFrom (z.heap.objs.size + 1) scope.names (cloFrom X.env.cells scope.names [])) fp
  have pd := hd z H3 z.heap.objs.size (cellsFrom (z.heap.objs.size + 1) scope.names (cloFrom X.env.cells scope.names [])) fp D
  change codeAny (model X.prog X.w) X.A (.compStart _ 0 (.ref it) (.ref D) (compEnvC scope (cellsFrom (z.heap.objs.size + 1) scope.names (cloFrom X.env.cells scope.names [])) z.heap.objs.size X.env)) (compPost (model X.prog X.w) X.A X.xe use Qf (.ref D) z.heap.objs.size) { z with heap := pushCells (z.heap.push { cls := .type "dict", data := .dict #[] }) scope.names }
  have fY : ∀ b ∈ fp, FpOk (X.blk z H3 scope (compEnvC scope (cellsFrom (z.heap.objs.size + 1) scope.names (cloFrom X.env.cells scope.names [])) z.heap.objs.size X.env) fp) [] H3 b := fun b hb =>
    ⟨(f3 b hb).1, (I4.ok.exf b hb).1, I4.ok.exfs b hb, .inl hb, fun x c e => (I4.ok.exf b hb).2 x c e, fun p hp => nomatch (show p ∈ ([] : List (Addr × Obj)) from by simpa using hp)⟩
  have free : X.calm = true := hc
  have lp := loop_n (Y := X.blk z H3 scope (compEnvC scope (cellsFrom (z.heap.objs.size + 1) scope.names (cloFrom X.env.cells scope.names [])) z.heap.objs.size X.env) fp) (R := compPost (model X.prog X.w) X.A X.xe use Qf (.ref D) z.heap.objs.size) rfl hn hc rfl pg pt pd hv I4 T st4 fY q fun s' H' I' q' => by
    have J : Inv X pins σ H' s' := I3.call' (ch := fp) I'.os I'.base I'.hok I'.bare fun b hb =>
      have f := f3 b hb
      ⟨f.2.2.2.1, f.2.1, f.2.2.2.2.1, f.2.2.2.2.2⟩
    obtain ⟨m, ns, _⟩ := I'.loc
    have f := I3.fpOk (b := z.heap.objs.size) (H' := H') (Nat.le_refl _) I'.free
    exact done D _ s' m H' J q' ns f
  exact codeAny_compStart_list lp (T.self X.A 0 _ _ _ st4 lp)
theorem pe_lcN (hc : X.calm = true) (hN : X.N.Nodup) (hi : PI X tg iter wi) (ok : BlkOk X.N X.env.scope scope own) (hn : Nextly (⟨tg, iter, ifs, 0⟩ :: rest) 1) (hv : ∀ i ∈ vs1, i ∈ own.map (·.2))
    (hg : ∀ (s : Shared) (H : Hp) (C : Addr) (cl : List (Str × Addr)) (fp : List Addr), PG (X.blk s H scope (compEnvC scope cl C X.env) fp) tg g) (ht : ∀ (s : Shared) (H : Hp) (C : Addr) (cl : List (Str × Addr)) (fp : List Addr), PTs (X.blk s H scope (compEnvC scope cl C X.env) fp) ifs tt)
    (hd : ∀ (s : Shared) (H : Hp) (C : Addr) (cl : List (Str × Addr)) (fp : List Addr) (D : Addr), Does (X.blk s H scope (compEnvC scope cl C X.env) fp) elt (⟨tg, iter, ifs, 0⟩ :: rest) scope pos 1 D vs1 (t D)) (hs : ∀ x, foldedSetIterable iter X.env x = pure x := by intro _; rfl) :
    PE X (.ListComp elt (⟨tg, iter, ifs, 0⟩ :: rest) scope pos) (tLcN wi g tt t (own.map (·.2))) := by
  refine ⟨fun pins s σ H Q I h => ?_⟩
  rw [eval_ListComp]
  refine lcN_core hc hN hi ok hn hv hg ht hd hs I h fun D C s' m H' J q ns f => ⟨m, ns, fun h sb => ⟨.ref D, H', J.turned (t' := s'.toks) (fun b o hb e => (sb.2 b hb).trans e) f.1 f.2.1 f.2.2.2.1 f.2.2.2.2.1 f.2.2.2.2.2, rfl, q⟩⟩
/-- y = [..] on one line, y a local -/
theorem ps_setLcN {i : Nat} {y : Str} {py spos : Pos} (hc : X.calm = true) (hN : X.N.Nodup) (hy : X.N[i]? = some y) (hyl : X.env.scope.names.lookup y = some .local)
    (hsw : swapsWith (.ListComp elt (⟨tg, iter, ifs, 0⟩ :: rest) scope pos) (some (.Name y py)) spos.line X.env = pure true) (hi : PI X tg iter wi) (ok : BlkOk X.N X.env.scope scope own) (hn : Nextly (⟨tg, iter, ifs, 0⟩ :: rest) 1) (hv : ∀ i ∈ vs1, i ∈ own.map (·.2))
    (hg : ∀ (s : Shared) (H : Hp) (C : Addr) (cl : List (Str × Addr)) (fp : List Addr), PG (X.blk s H scope (compEnvC scope cl C X.env) fp) tg g) (ht : ∀ (s : Shared) (H : Hp) (C : Addr) (cl : List (Str × Addr)) (fp : List Addr), PTs (X.blk s H scope (compEnvC scope cl C X.env) fp) ifs tt)
    (hd : ∀ (s : Shared) (H : Hp) (C : Addr) (cl : List (Str × Addr)) (fp : List Addr) (D : Addr), Does (X.blk s H scope (compEnvC scope cl C X.env) fp) elt (⟨tg, iter, ifs, 0⟩ :: rest) scope pos 1 D vs1 (t D)) (hs : ∀ x, foldedSetIterable iter X.env x = pure x := by intro _; rfl) :
    PS X (.Assign [.Name y py] (.ListComp elt (⟨tg, iter, ifs, 0⟩ :: rest) scope pos) spos) (tAsg (tLcN wi g tt t (own.map (·.2))) (gName i)) := by
  refine ⟨fun pins s σ H D I h => ?_⟩
  rw [exec_Assign_Name_used _ _ _ _ hsw]
  refine wpAny_bind (wpAny_standAt (wpAny_bind (m := comprehension _ scope X.env _ (newList []) false (eval iter X.env) (some (assign (.Name y py) X.env)) >>= fun _ => pure ()) ?_))
  refine wpAny_bind (thn (lcN_core (Q := fun x H1 => gName i x σ H1 D.nx) (Qf := fun _ z => SP X pins D .next z) hc hN hi ok hn hv hg ht hd hs I h fun L C s1 m H1 J q ns f => ?_) fun _ z hq => wpAny_pure (wpAny_pure hq))
  show wpAny _ _ (assign (.Name y py) X.env (.ref L)) _ _ _
  refine wpAny_assign_Name (store_ok2 (v := V.ref L) J hN hy (.inl hyl) rfl (fun s2 J2 ⟨a, sb, ha⟩ => ?_) (.inr hyl))
  have ne : C ≠ a := ha.elim (fun z => by rw [z]; exact f.2.1) fun z e => f.2.2.2.2.1 y a z e.symm
  exact ⟨m, ns.sameBut sb ne, fun h3 sb3 => ⟨_, H1, J2.turned (t' := s2.toks) (fun b o hb e => (sb3.2 b hb).trans e) f.1 f.2.1 f.2.2.2.1 f.2.2.2.2.1 f.2.2.2.2.2, q⟩⟩
end
section
variable {J : It} {n : Nat} {G : Hp → Prop} {Yl : Nat → Hp → V → Hp → Prop} {g : TG} {tt : TT} {t : TN} {vs : List Nat} {σ : L2.St} {H : Hp} {Nx : Hp → Prop}
/-- a clause's turns, by what holds after each; τ: the slots ahead of a turn, written out -/
theorem lp_it (τ : L2.St) (ht : wipe σ vs = τ) (w : L2.Walk J n G Yl) (Pv : Nat → Hp → Prop) (h0 : Pv 0 H) (hG : ∀ i H, i ≤ n → Pv i H → G H)
    (hs : ∀ i x H H', i < n → Pv i H → Yl i H x H' → g x τ H' fun σ3 H5 => wipe σ3 vs = τ ∧ tt σ3 H5 fun b H6 => if b = true then t σ3 H6 (Pv (i + 1)) else Pv (i + 1) H6) (hd : ∀ H, Pv n H → Nx H) :
    tLoop g tt t vs J σ H Nx := by
  subst ht
  refine ⟨fun i m H => m + i = n ∧ Pv i H, ⟨n, rfl, h0⟩, fun i m H ⟨e, p⟩ => ?_⟩
  have q := hG i H (by omega) p
  by_cases c : i = n
  · subst c
    exact .inl ⟨w.stops H q, hd H p⟩
  · exact .inr ⟨w.goes i H (by omega) q, Pv (i + 1), fun H' p' => ⟨m - 1, by omega, by omega, p'⟩, fun x H' y => hs i x H H' (by omega) p (w.yields i H x H' (by omega) q y)⟩
end
end Own

namespace Kx
open PySem L2 Own
/-- what is never come to: any statements, any expression -/
theorem pss_dead {X : Cx} {b : List Stmt} : PSs X b (fun _ _ _ => False) := ⟨fun pins s σ H D I h => h.elim⟩
theorem ps_dead {X : Cx} {b : Stmt} : PS X b (fun _ _ _ => False) := ⟨fun pins s σ H D I h => h.elim⟩
theorem pe_dead {X : Cx} {e : Expr} : PE X e (fun _ _ _ => False) := ⟨fun pins s σ H Q I h => h.elim⟩
theorem lcs_it {J : It} {n : Nat} {G : Hp → Prop} {Yl : Nat → Hp → V → Hp → Prop} {g : TG} {tt : TT} {te : TE} {vs : List Nat} {σ : L2.St} {H1 : Hp} {D : Addr} {Qd : Hp → Prop} (τ : L2.St) (ht : wipe σ vs = τ) (w : L2.Walk J n G Yl) (Pv : Nat → Hp → Prop) (h0 : Pv 0 (upd H1 D (.lst []))) (hG : ∀ i H, i ≤ n → Pv i H → G H)
    (hs : ∀ i x H H', i < n → Pv i H → Yl i H x H' → g x τ H' fun σ2 H2 => wipe σ2 vs = τ ∧ tt σ2 H2 fun b H3 =>
      if b = true then te σ2 H3 fun y H4 => ∃ acc, H4 D = some (.lst acc) ∧ acc.length < sizeLine ∧ Pv (i + 1) (upd H4 D (.lst (acc ++ [y]))) else Pv (i + 1) H3) (hd : ∀ H, Pv n H → Qd H) :
    ∃ W : Nat → Nat → Hp → Prop, (∃ m, W 0 m (upd H1 D (.lst []))) ∧ ∀ i m H, W i m H →
      (J.stop i H ∧ Qd H) ∨ (J.go i H ∧ ∃ Nx : Hp → Prop, (∀ H', Nx H' → ∃ m', m' < m ∧ W (i + 1) m' H') ∧ ∀ x H', J.yld i H x H' → g x (wipe σ vs) H' fun σ2 H2 => wipe σ2 vs = wipe σ vs ∧ tt σ2 H2 fun b H3 =>
        if b = true then te σ2 H3 fun y H4 => ∃ acc, H4 D = some (.lst acc) ∧ acc.length < sizeLine ∧ Nx (upd H4 D (.lst (acc ++ [y]))) else Nx H3) := by
  subst ht
  exact lc_it w Pv h0 hG hs hd
theorem dcs_it {J : It} {n : Nat} {G : Hp → Prop} {Yl : Nat → Hp → V → Hp → Prop} {g : TG} {tt : TT} {tk tv : TE} {vs : List Nat} {σ : L2.St} {H1 : Hp} {D : Addr} {Qd : Hp → Prop} (τ : L2.St) (ht : wipe σ vs = τ) (w : L2.Walk J n G Yl) (Pv : Nat → Hp → Prop) (h0 : Pv 0 (upd H1 D (.dK []))) (hG : ∀ i H, i ≤ n → Pv i H → G H)
    (hs : ∀ i x H H', i < n → Pv i H → Yl i H x H' → g x τ H' fun σ2 H2 => wipe σ2 vs = τ ∧ tt σ2 H2 fun b H3 =>
      if b = true then tk σ2 H3 fun y H4 => tv σ2 H4 fun z H5 => ∃ kvs k, y = kV k ∧ H5 D = some (.dK kvs) ∧ kvs.length < sizeLine ∧ Pv (i + 1) (upd H5 D (.dK (putK kvs k z))) else Pv (i + 1) H3) (hd : ∀ H, Pv n H → Qd H) :
    ∃ W : Nat → Nat → Hp → Prop, (∃ m, W 0 m (upd H1 D (.dK []))) ∧ ∀ i m H, W i m H →
      (J.stop i H ∧ Qd H) ∨ (J.go i H ∧ ∃ Nx : Hp → Prop, (∀ H', Nx H' → ∃ m', m' < m ∧ W (i + 1) m' H') ∧ ∀ x H', J.yld i H x H' → g x (wipe σ vs) H' fun σ2 H2 => wipe σ2 vs = wipe σ vs ∧ tt σ2 H2 fun b H3 =>
        if b = true then tk σ2 H3 fun y H4 => tv σ2 H4 fun z H5 => ∃ kvs k, y = kV k ∧ H5 D = some (.dK kvs) ∧ kvs.length < sizeLine ∧ Nx (upd H5 D (.dK (putK kvs k z))) else Nx H3) := by
  subst ht
  refine ⟨fun i m H => m + i = n ∧ Pv i H, ⟨n, rfl, h0⟩, fun i m H ⟨e, p⟩ => ?_⟩
  have q := hG i H (by omega) p
  by_cases c : i = n
  · subst c
    exact .inl ⟨w.stops H q, hd H p⟩
  · exact .inr ⟨w.goes i H (by omega) q, Pv (i + 1), fun H' p' => ⟨m - 1, by omega, by omega, p'⟩, fun x H' y => hs i x H H' (by omega) p (w.yields i H x H' (by omega) q y)⟩
theorem psnoc {α β : Type} {F : α → β → Prop} : ∀ {l : List α} {m : List β} {x : α} {y : β}, Paired F l m → F x y → Paired F (l ++ [x]) (m ++ [y])
  | _, _, _, _, .nil, h => .cons h .nil
  | _, _, _, _, .cons r t, h => .cons r (psnoc t h)
theorem pat {α β : Type} {F : α → β → Prop} : ∀ {l : List α} {m : List β} {i : Nat} {x : α}, Paired F l m → l[i]? = some x → ∃ y, m[i]? = some y ∧ F x y
  | _, _, i, _, .nil, h => by cases i <;> cases h
  | _, _, 0, _, .cons r _, h => ⟨_, rfl, by cases h; exact r⟩
  | _, _, i + 1, _, .cons _ t, h => pat (i := i) t h
theorem bound_line {n : Nat} (h : n < scanBound) : n < sizeLine := by
  rw [sizeLine_eq]
  unfold scanBound at h
  omega
end Kx

namespace Kx
open PySem L2 Own
abbrev s__law_signs : Stmt := top 40
structure LAd where
  f1 : Addr
  d1 : FuncData
  p1 : Addr
  p2 : Addr
  p3 : Addr
  q1 : FuncData
  q2 : FuncData
  q3 : FuncData
structure TxtL (K : PySem.W.Frag) (mg : Str → Option Value) (L : LAd) : Prop where
  pen : TxtP K mg L.p1 L.p2 L.p3 L.q1 L.q2 L.q3
  D__law_signs : DefT K mg "_law_signs" "_law_signs" s__law_signs ["pen", "many"] L.f1 L.d1
  n_len : mg "len" = none
  n_range : mg "range" = none
section
variable {P : Program} {w : World} {K : PySem.W.Frag} {mg : Str → Option Value} {base : Heap} {L : LAd}
def alpha : List Nat := (List.range 26).map (97 + ·)
def spSigns : Sp := fun vs H Q _ => ∃ (p c : Addr) (many n : Nat), vs = [.ref p, .int many] ∧ PenAt H p c n ∧ n + many ≤ 1000000 ∧ many ≤ 26 ∧
  ∀ (sg : Str) H', sg.cps.size = many → sg.cps.toList.Nodup → (∀ c ∈ sg.cps.toList, c ∈ alpha) → PenAt H' p c (n + many) → SameBut p H H' → Q (.str sg) H'
theorem sc_signs : FnScope ["pen", "many", "left", "found", "turn", "at"] ["pen", "many"] (defScope s__law_signs) := ⟨rfl, rfl, rfl, by decide +kernel, rfl, by decide +kernel, by decide +kernel⟩
theorem ok_signs (T : TxtL K mg L) : FnOk P w K mg base CX0 2 L.f1 L.d1 ["pen", "many"] spSigns := by
  have sc := sc_signs
  have G_draw : FnOk P w K mg base CX0 1 L.p2 L.q2 ["pen", "many"] spDraw := ok_draw T.pen
  refine T.D__law_signs.F.ok sc (fun vs H Q E h => ?_) (fun cdv A1 outer s H vs Q E hr h => ?_)
  · obtain ⟨_, _, _, _, rfl, _⟩ := h; rfl
  · obtain ⟨p, pc, many, n, rfl, hp, hn, h26, k⟩ := h
    refine ⟨_, (pss_cons (ps_asg (pe_tup (pa_cons pe_str (pa_cons pe_str pa_nil))) (pg_tup rfl (pgs_cons (pg_name (i := 2) sc.nd rfl (Or.inl rfl)) (pgs_cons (pg_name (i := 3) sc.nd rfl (Or.inl rfl)) pgs_nil))))
      (pss_cons (ps_for PassesOwn.never rfl (pi_range1 rfl T.n_range (pa_cons (pv 1) pa_nil)) (pg_name (i := 4) sc.nd rfl (Or.inl rfl))
        (pss_cons (ps_set (i := 5) sc.nd rfl (Or.inl rfl) (pe_call G_draw (hr.mono (by decide)) rfl T.pen.D__law_draw.g T.pen.D__law_draw.F.kp T.pen.D__law_draw.b .nil pass0 (pa_cons (pv 0) (pa_cons (pe_callB call_len (by rfl) T.n_len (by decide +kernel) (pa_cons (pv 2) pa_nil)) pa_nil))))
        (pss_one (ps_par (i := 3) (j := 2) rfl sc.nd rfl rfl (by decide) rfl rfl (pa_cons (pe_op op_add_str (pv 3) (pe_ix ix_str (pv 2) (pv 5) (fun _ _ => rfl))) (pa_cons (pe_op op_add_str (pe_slice sl_str (pv 2) po_none (po_some (pv 5))) (pe_slice sl_str (pv 2) (po_some (pe_op op_add (pv 5) pe_int)) po_none)) pa_nil)) rfl))))
      (pss_one (ps_ret (pv 3))))), ?_⟩
    have lt26 : alpha.length = 26 := rfl
    refine ⟨by show 2 ≤ sizeLine; decide, fun t0 ht0 => ⟨t0, _, rfl, SqT.of upd_same, rfl, _, _, rfl, _, _, rfl, rfl, ?_⟩⟩
    have hp0 : PenAt (upd H t0 (.tup [.str "abcdefghijklmnopqrstuvwxyz", .str ""])) p pc n := hp.keep (Same.upd ht0)
    have sb0 : SameBut p H (upd H t0 (.tup [.str "abcdefghijklmnopqrstuvwxyz", .str ""])) := .new ht0
    generalize upd H t0 (.tup [.str "abcdefghijklmnopqrstuvwxyz", .str ""]) = H0 at hp0 sb0 ⊢
    refine ⟨_, rfl, many, rfl, by omega, by omega, ?_⟩
    rw [Int.toNat_natCast]
    refine for_it walk_range (fun i σ H' => ∃ x4 x5, ∃ l f : Str, σ = [some (.ref p), some (.int many), some (.str l), some (.str f), x4, x5] ∧ PenAt H' p pc (n + i) ∧ SameBut p H H' ∧ (f.cps.toList ++ l.cps.toList).Perm alpha ∧ f.cps.size = i)
      ⟨_, _, _, _, rfl, hp0, sb0, by decide +kernel, rfl⟩ (fun _ _ _ _ _ => trivial) ?_ ?_
    · rintro i x σ _ H1 hi ⟨x4, x5, l, f, rfl, hp1, sb1, pm, fz⟩ ⟨rfl, rfl⟩
      have hlen : f.cps.size + l.cps.size = 26 := by
        have e := pm.length_eq
        rw [List.length_append, Array.length_toList, Array.length_toList] at e
        exact e
      have ll : l.length = l.cps.size := rfl
      have fl : f.length = f.cps.size := rfl
      refine ⟨_, rfl, _, rfl, .str l, l.length, rfl, ⟨by rw [sizeLine_eq]; omega, rfl⟩, p, pc, _, n + i, rfl, hp1, by omega, by omega, by omega, fun at1 H2 r0 r1 hp2 sb2 => ?_⟩
      obtain ⟨j, rfl⟩ := Int.eq_ofNat_of_zero_le r0
      have jl : j < l.cps.toList.length := by rw [Array.length_toList]; omega
      have hc : l.cps.toList[j]? = some l.cps.toList[j] := List.getElem?_eq_getElem jl
      generalize l.cps.toList[j] = c at hc
      refine ⟨_, rfl, _, rfl, _, rfl, l, _, c, rfl, rfl, by rw [sizeLine_eq]; omega, atI_nat hc, f, ⟨#[c]⟩, rfl, rfl, ?_, ?_⟩
      · show f.length + 1 ≤ sizeLine
        rw [sizeLine_eq]; omega
      refine ⟨_, rfl, _, rfl, _, rfl, l, rfl, by rw [sizeLine_eq]; omega, ?_⟩
      have e1 : cutS l none (some ((j : Nat) : Int)) = ⟨(l.cps.toList.take j).toArray⟩ := by
        unfold cutS
        rw [HT.sIx_none, HT.sIx_nat]
        have : min j l.length = j := by omega
        rw [this]
        simp
      have e2 : cutS l (some (((j : Nat) : Int) + 1)) none = ⟨(l.cps.toList.drop (j + 1)).toArray⟩ := by
        unfold cutS
        rw [show ((j : Nat) : Int) + 1 = ((j + 1 : Nat) : Int) from rfl, HT.sIx_none, HT.sIx_nat]
        have : min (j + 1) l.length = j + 1 := by omega
        rw [this, List.take_of_length_le]
        rw [List.length_drop, Array.length_toList]
        omega
      refine ⟨_, rfl, _, rfl, _, _, rfl, rfl, _, rfl, l, rfl, by rw [sizeLine_eq]; omega, _, _, rfl, rfl, ?_, _, _, rfl, ?_⟩
      · show (cutS l none (some ((j : Nat) : Int))).length + (cutS l (some (((j : Nat) : Int) + 1)) none).length ≤ sizeLine
        rw [e1, e2]
        show (l.cps.toList.take j).toArray.size + (l.cps.toList.drop (j + 1)).toArray.size ≤ sizeLine
        rw [List.size_toArray, List.size_toArray, List.length_take, List.length_drop, Array.length_toList, sizeLine_eq]
        omega
      · refine ⟨_, _, _, _, rfl, hp2, sb1.trans sb2, ?_, ?_⟩
        · show ((f.cps ++ #[c]).toList ++ ((cutS l none (some ((j : Nat) : Int))).cps ++ (cutS l (some (((j : Nat) : Int) + 1)) none).cps).toList).Perm alpha
          rw [e1, e2]
          refine List.Perm.trans ?_ pm
          have sp : l.cps.toList = l.cps.toList.take j ++ c :: l.cps.toList.drop (j + 1) := by
            have h1 := List.take_append_drop j l.cps.toList
            obtain ⟨hj, ec⟩ := List.getElem?_eq_some_iff.mp hc
            rw [List.drop_eq_getElem_cons hj, ec] at h1
            exact h1.symm
          have lhs : ((f.cps ++ #[c]).toList ++ ((⟨(l.cps.toList.take j).toArray⟩ : Str).cps ++ (⟨(l.cps.toList.drop (j + 1)).toArray⟩ : Str).cps).toList) = f.cps.toList ++ (c :: (l.cps.toList.take j ++ l.cps.toList.drop (j + 1))) := by simp
          rw [lhs]
          refine List.Perm.append_left _ ?_
          refine List.Perm.trans ?_ (List.Perm.of_eq sp.symm)
          exact List.perm_middle.symm
        · show (f.cps ++ #[c]).size = i + 1
          rw [Array.size_append, fz]
          rfl
    · rintro σ H1 ⟨x4, x5, l, f, rfl, hp1, sb1, pm, fz⟩
      refine ⟨_, rfl, k f H1 fz ?_ (fun c hc => pm.mem_iff.mp (List.mem_append_left _ hc)) hp1 sb1⟩
      have nd : (f.cps.toList ++ l.cps.toList).Nodup := pm.nodup_iff.mpr (by decide +kernel)
      exact (List.nodup_append.mp nd).1
end
end Kx

namespace Kx
open PySem L2 Own
abbrev s__law_text : Stmt := top 41
structure TxtTx (K : PySem.W.Frag) (mg : Str → Option Value) (f1 f2 f3 f : Addr) (d1 d2 d3 d : FuncData) : Prop where
  pen : TxtP K mg f1 f2 f3 d1 d2 d3
  D__law_text : DefT K mg "_law_text" "_law_text" s__law_text ["pen", "signs", "most"] f d
  n_range : mg "range" = none
theorem PenAt.some {H : Hp} {p c : Addr} {n : Nat} (h : PenAt H p c n) : ∃ o, H p = some o := by
  obtain ⟨_, _, _, h1, _⟩ := h
  exact ⟨_, h1⟩
theorem none_back {H H' : Hp} {p c : Addr} {n : Nat} (s : SameBut p H H') (hp : PenAt H' p c n) {b : Addr} (e : H' b = none) : H b = none := by
  cases h : H b with
  | none => rfl
  | some o =>
    by_cases z : b = p
    · obtain ⟨o', h'⟩ := hp.some
      rw [z, h'] at e
      cases e
    · rw [s _ _ h z] at e
      cases e
section
variable {P : Program} {w : World} {K : PySem.W.Frag} {mg : Str → Option Value} {base : Heap} {f1 f2 f3 f : Addr} {d1 d2 d3 d : FuncData}
/-- items[..] of a text -/
def spPickS : Sp := fun vs H Q _ => ∃ (p c : Addr) (z : Str) (n : Nat), vs = [.ref p, .str z] ∧ PenAt H p c n ∧ n ≤ 1000000 ∧ 0 < z.cps.size ∧ z.cps.size ≤ 1000000 ∧
  ∀ (x i : Nat) H', z.cps[i]? = some x → PenAt H' p c (n + 1) → SameBut p H H' → Q (.str (Froz.sing x)) H'
theorem ok_pickS (T : TxtP K mg f1 f2 f3 d1 d2 d3) : FnOk P w K mg base CX0 2 f3 d3 ["pen", "items"] spPickS := by
  have sc := sc_pick
  have G_draw : FnOk P w K mg base CX0 1 f2 d2 ["pen", "many"] spDraw := ok_draw T
  refine T.D__law_pick.F.ok sc (fun vs H Q E h => ?_) (fun cdv A outer s H vs Q E hr h => ?_)
  · obtain ⟨_, _, _, _, rfl, _⟩ := h; rfl
  · obtain ⟨p, c, z, n, rfl, hp, hn, z0, z1, k⟩ := h
    refine ⟨_, (pss_one (ps_ret (pe_ix ix_str (pv 1) (pe_call G_draw (hr.mono (by decide)) rfl T.D__law_draw.g T.D__law_draw.F.kp T.D__law_draw.b .nil pass0 (pa_cons (pv 0) (pa_cons (pe_callB call_len (by rfl) T.n_len (by decide +kernel) (pa_cons (pv 1) pa_nil)) pa_nil))) (fun _ _ => rfl)))), ?_⟩
    have zl : z.length = z.cps.size := rfl
    refine ⟨_, rfl, _, rfl, _, rfl, .str z, z.length, rfl, ⟨by rw [sizeLine_eq]; omega, rfl⟩, p, c, _, n, rfl, hp, hn, by omega, by omega, fun r H' r0 r1 hp' sb => ?_⟩
    obtain ⟨r, rfl⟩ := Int.eq_ofNat_of_zero_le r0
    have hl : r < z.cps.toList.length := by rw [Array.length_toList]; omega
    have hx : z.cps.toList[r]? = some z.cps.toList[r] := List.getElem?_eq_getElem hl
    refine ⟨z, _, _, rfl, rfl, by rw [sizeLine_eq]; omega, atI_nat hx, k _ r H' ?_ hp' sb⟩
    rw [← Array.getElem?_toList]
    exact hx
theorem join_sings (cs : List Nat) : (Txt.join "" (cs.map Froz.sing)).cps.toList = cs := by
  have h : ∀ cs : List Nat, TL.joinL [] ((cs.map Froz.sing).map TL.tl) = cs := by
    intro cs
    induction cs with
    | nil => rfl
    | cons a r ih =>
      cases r with
      | nil => rfl
      | cons b r =>
        show [a] ++ ([] ++ TL.joinL [] ((((b :: r).map Froz.sing)).map TL.tl)) = _
        rw [ih]
        rfl
  have e := TL.tl_join "" (cs.map Froz.sing)
  rw [← TL.join_eq] at e
  exact e.trans (h cs)
/-- a text of up to so many signs -/
def spText : Sp := fun vs H Q _ => ∃ (p c : Addr) (z : Str) (most n : Nat), vs = [.ref p, .str z, .int most] ∧ PenAt H p c n ∧ most ≤ 1000 ∧ n + most + 1 ≤ 1000000 ∧ 0 < z.cps.size ∧ z.cps.size ≤ 1000 ∧
  ∀ (y : Str) H', y.cps.size ≤ most → (∀ c ∈ y.cps.toList, c ∈ z.cps.toList) → PenAt H' p c (n + most + 1) → SameBut p H H' → Q (.str y) H'
abbrev Ntext : List Str := ["pen", "signs", "most", "k"]
theorem sc_text : FnScope Ntext ["pen", "signs", "most"] (defScope s__law_text) := ⟨rfl, rfl, rfl, by decide +kernel, rfl, by decide +kernel, by decide +kernel⟩
theorem ok_text (T : TxtTx K mg f1 f2 f3 f d1 d2 d3 d) : FnOk P w K mg base CX0 3 f d ["pen", "signs", "most"] spText := by
  have sc := sc_text
  have G_draw : FnOk P w K mg base CX0 1 f2 d2 ["pen", "many"] spDraw := ok_draw T.pen
  have G_pick : FnOk P w K mg base CX0 2 f3 d3 ["pen", "items"] spPickS := ok_pickS T.pen
  refine T.D__law_text.F.ok sc (fun vs H Q E h => ?_) (fun cdv A1 outer s H vs Q E hr h => ?_)
  · obtain ⟨_, _, _, _, _, rfl, _⟩ := h; rfl
  · obtain ⟨p, c, z, most, n, rfl, hp, hm, hn, z0, z1, k⟩ := h
    refine ⟨_, (pss_one (ps_ret (pe_join pe_str (pe_lc (own := [("k", 3)]) (g := gName 3) (tt := tYes) (te := tCall spPickS [] E0 (tCons (tVar 0) (tCons (tVar 1) tNil))) rfl sc.nd (pi_range1 rfl T.n_range (pa_cons (pe_call G_draw (hr.mono (by decide)) rfl T.pen.D__law_draw.g T.pen.D__law_draw.F.kp T.pen.D__law_draw.b .nil pass0 (pa_cons (pv 0) (pa_cons (pe_op op_add (pv 2) pe_int) pa_nil))) pa_nil)) (blkOk_by (N := Ntext) (sc := defScope s__law_text) (own := [("k", 3)]) (by decide +kernel)) (fun _ _ _ _ _ => (pg_name (i := 3) sc.nd rfl (Or.inl rfl))) (fun _ _ _ _ _ => pts_nil)
      (fun _ _ _ _ _ => pe_call G_pick (hr.mono (by decide)) rfl T.pen.D__law_pick.g T.pen.D__law_pick.F.kp T.pen.D__law_pick.b .nil pass0 (pa_cons (pv 0) (pa_cons (pv 1) pa_nil))))))), ?_⟩
    refine ⟨⟨_, rfl⟩, _, rfl, _, rfl, _, _, rfl, rfl, p, c, _, n, rfl, hp, by omega, by omega, by omega, fun r H1 r0 r1 hp1 sb1 => ?_⟩
    obtain ⟨r, rfl⟩ := Int.eq_ofNat_of_zero_le r0
    refine ⟨_, rfl, by omega, by omega, fun D hD => ?_⟩
    rw [Int.toNat_natCast]
    have npD : D ≠ p ∧ D ≠ c := hp1.apart hD
    refine lcs_it [some (.ref p), some (.str z), some (.int (most : Nat)), none] rfl walk_range (fun i H' => PenAt H' p c (n + 1 + i) ∧ SameBut p H H' ∧ ∃ cs : List Nat, H' D = some (.lst ((cs.map Froz.sing).map V.str)) ∧ cs.length = i ∧ ∀ x ∈ cs, x ∈ z.cps.toList)
      ⟨hp1.keep (Same.upd hD), sb1.trans (.new hD), [], upd_same, rfl, fun _ z => nomatch z⟩ (fun _ _ _ _ => trivial) ?_ ?_
    · rintro i x _ H2 hi ⟨hp2, sb2, cs, hcs, lc, mc⟩ ⟨rfl, ex⟩
      refine ⟨rfl, _, rfl, _, rfl, p, c, z, n + 1 + i, rfl, hp2, by omega, z0, by omega, fun c1 j H3 hc1 hp3 sb3 => ?_⟩
      have h3 : H3 D = some (.lst ((cs.map Froz.sing).map V.str)) := sb3 _ _ hcs (hp2.ne hcs)
      refine ⟨_, h3, by rw [List.length_map, List.length_map, lc, sizeLine_eq]; omega, hp3.put npD.1 npD.2, fun b o e nb => ?_, cs ++ [c1], by rw [upd_same, List.map_append, List.map_append]; rfl, by rw [List.length_append, lc]; rfl, fun x hx => ?_⟩
      · have hH : H D = none := none_back sb1 hp1 hD
        rw [upd_ne (ne_of_none e hH)]
        exact sb3 b o (sb2 b o e nb) nb
      · rcases List.mem_append.mp hx with hx | hx
        · exact mc x hx
        · rw [List.mem_singleton.mp hx]
          exact List.mem_of_getElem? (by rw [Array.getElem?_toList]; exact hc1)
    rintro H2 ⟨hp2, sb2, cs, hcs, lc, mc⟩
    have zl : ∀ cs : List Nat, ((cs.map Froz.sing).map (·.length)).sum = cs.length := fun cs => by
      induction cs with
      | nil => rfl
      | cons a r ih =>
        rw [List.map_cons, List.map_cons, List.sum_cons, ih, List.length_cons]
        show 1 + r.length = r.length + 1
        omega
    refine ⟨"", D, cs.map Froz.sing, rfl, rfl, .inl (SqL.of hcs), ?_, ?_⟩
    · rw [zl, lc, List.length_map, lc]
      show r + r * 0 ≤ _
      omega
    · have e := join_sings cs
      refine k _ H2 ?_ (fun x hx => mc x (by rw [e] at hx; exact hx)) (hp2.mono (by omega)) sb2
      rw [← Array.length_toList, e, lc]
      omega
end
end Kx

namespace Kx
open PySem L2 Own
abbrev s_is_whole : Stmt := top 2
abbrev s_is_natural : Stmt := top 3
abbrev s_check_rows : Stmt := top 32
abbrev s_is_edit : Stmt := top 33
abbrev s_is_side : Stmt := top 34
abbrev s_is_weight : Stmt := top 35
theorem pe_andR {X : Cx} {a b : Expr} {rest : List Expr} {ta tb : TE} {pos : Pos} (ha : PE X a ta) (hb : PE X (.BoolOp .And (b :: rest) pos) tb) : PE X (.BoolOp .And (a :: b :: rest) pos) (tAndV ta tb) := pe_and ha hb
theorem tyes {σ : L2.St} {H : Hp} {F : Bool → Hp → Prop} (h : F true H) : tYes σ H F := h
/-! ### edits -/
/-- an edit: what it takes, what it puts, what it weighs -/
abbrev Ed := Str × Str × Int
def EdT (H : Hp) (v : V) (e : Ed) : Prop := ∃ a, v = .ref a ∧ H a = some (.tup [.str e.1, .str e.2.1, .int e.2.2])
theorem EdT.keep {H H' : Hp} (s : ∀ b xs, H b = some (.tup xs) → H' b = some (.tup xs)) {v : V} {e : Ed} (h : EdT H v e) : EdT H' v e := by
  obtain ⟨a, e, h⟩ := h
  exact ⟨a, e, s _ _ h⟩
abbrev MW : Int := 1000000000000000000000000000000
structure OkEd (sg : Str) (e : Ed) : Prop where
  l1 : e.1.cps.size ≤ 3
  l2 : e.2.1.cps.size ≤ 3
  s1 : ∀ c ∈ e.1.cps.toList, c ∈ sg.cps.toList
  s2 : ∀ c ∈ e.2.1.cps.toList, c ∈ sg.cps.toList
  ne : e.1 ≠ e.2.1
  w0 : 0 ≤ e.2.2
  w1 : e.2.2 ≤ MW
structure OkRows (sg : Str) (R : List Ed) : Prop where
  ok : ∀ e ∈ R, OkEd sg e
  nd : (R.map fun e => (e.1, e.2.1)).Nodup
  le : R.length ≤ 24
structure EdAd where
  f1 : Addr
  f2 : Addr
  f3 : Addr
  f4 : Addr
  f5 : Addr
  f6 : Addr
  d1 : FuncData
  d2 : FuncData
  d3 : FuncData
  d4 : FuncData
  d5 : FuncData
  d6 : FuncData
structure TxtD (K : PySem.W.Frag) (mg : Str → Option Value) (B : EdAd) : Prop where
  D_is_whole : DefT K mg "is_whole" "is_whole" s_is_whole ["value"] B.f1 B.d1
  D_is_natural : DefT K mg "is_natural" "is_natural" s_is_natural ["value"] B.f2 B.d2
  D_is_weight : DefT K mg "is_weight" "is_weight" s_is_weight ["value"] B.f3 B.d3
  D_is_side : DefT K mg "is_side" "is_side" s_is_side ["signs", "word"] B.f4 B.d4
  D_is_edit : DefT K mg "is_edit" "is_edit" s_is_edit ["signs", "row"] B.f5 B.d5
  D_check_rows : DefT K mg "check_rows" "check_rows" s_check_rows ["signs", "rows"] B.f6 B.d6
  g_MW : ∃ t, mg "MOST_WEIGHT" = some (.int MW t)
  g_LS : ∃ t, mg "LONGEST_SIDE" = some (.int 3 t)
  n_isinstance : mg "isinstance" = none
  n_int : mg "int" = none
  n_bool : mg "bool" = none
  n_str : mg "str" = none
  n_len : mg "len" = none
  n_all : mg "all" = none
  n_tuple : mg "tuple" = none
  n_list : mg "list" = none
  n_enumerate : mg "enumerate" = none
section
variable {P : Program} {w : World} {K : PySem.W.Frag} {mg : Str → Option Value} {base : Heap} {B : EdAd}
def spWhole : Sp := fun vs H Q _ => ∃ i : Int, vs = [.int i] ∧ Q (.bl true) H
theorem sc_is_whole : FnScope ["value"] ["value"] (defScope s_is_whole) := ⟨rfl, rfl, rfl, by decide +kernel, rfl, by decide +kernel, by decide +kernel⟩
theorem ok_is_whole (T : TxtD K mg B) : FnOk P w K mg base CX0 1 B.f1 B.d1 ["value"] spWhole := by
  have sc := sc_is_whole
  refine T.D_is_whole.F.ok sc (fun vs H Q E h => ?_) (fun cdv A1 outer s H vs Q E hr h => ?_)
  · obtain ⟨_, rfl, _⟩ := h; rfl
  · obtain ⟨i, rfl, q⟩ := h
    refine ⟨_, pss_one (ps_ret (pe_and (pe_callB call_isi (by rfl) T.n_isinstance (by decide +kernel) (pa_cons (pv 0) (pa_cons (pe_bltn (v := .ty "int") rfl T.n_int (by decide +kernel) rfl) pa_nil)))
      (pe_one (pe_notT (pe_callB call_isi (by rfl) T.n_isinstance (by decide +kernel) (pa_cons (pv 0) (pa_cons (pe_bltn (v := .ty "bool") rfl T.n_bool (by decide +kernel) rfl) pa_nil))))))), ?_⟩
    refine ⟨_, rfl, _, _, _, _, true, rfl, ClsV.ty _, .base (.int i), kit_ty (by decide +kernel), true, rfl, ?_⟩
    exact ⟨_, rfl, _, _, _, _, false, rfl, ClsV.ty _, .base (.int i), kit_ty (by decide +kernel), false, rfl, q⟩
def spNat : Sp := fun vs H Q _ => ∃ i : Int, vs = [.int i] ∧ 0 ≤ i ∧ Q (.bl true) H
theorem sc_is_natural : FnScope ["value"] ["value"] (defScope s_is_natural) := ⟨rfl, rfl, rfl, by decide +kernel, rfl, by decide +kernel, by decide +kernel⟩
theorem ok_is_natural (T : TxtD K mg B) : FnOk P w K mg base CX0 2 B.f2 B.d2 ["value"] spNat := by
  have sc := sc_is_natural
  have G_w : FnOk P w K mg base CX0 1 B.f1 B.d1 ["value"] spWhole := ok_is_whole T
  refine T.D_is_natural.F.ok sc (fun vs H Q E h => ?_) (fun cdv A1 outer s H vs Q E hr h => ?_)
  · obtain ⟨_, rfl, _⟩ := h; rfl
  · obtain ⟨i, rfl, i0, q⟩ := h
    refine ⟨_, pss_one (ps_ret (pe_and (pe_call G_w (hr.mono (by decide)) rfl T.D_is_whole.g T.D_is_whole.F.kp T.D_is_whole.b .nil pass0 (pa_cons (pv 0) pa_nil)) (pe_one (pe_cmpR op_ge (pv 0) pe_int (nomark _))))), ?_⟩
    refine ⟨_, rfl, i, rfl, true, rfl, _, rfl, _, _, rfl, rfl, ?_⟩
    show Q (.bl (decide (0 ≤ i))) H
    rw [decide_eq_true i0]
    exact q
def spWt : Sp := fun vs H Q _ => ∃ i : Int, vs = [.int i] ∧ 0 ≤ i ∧ i ≤ MW ∧ Q (.bl true) H
theorem sc_is_weight : FnScope ["value"] ["value"] (defScope s_is_weight) := ⟨rfl, rfl, rfl, by decide +kernel, rfl, by decide +kernel, by decide +kernel⟩
theorem ok_is_weight (T : TxtD K mg B) : FnOk P w K mg base CX0 3 B.f3 B.d3 ["value"] spWt := by
  have sc := sc_is_weight
  have G_n : FnOk P w K mg base CX0 2 B.f2 B.d2 ["value"] spNat := ok_is_natural T
  obtain ⟨t1, g1⟩ := T.g_MW
  refine T.D_is_weight.F.ok sc (fun vs H Q E h => ?_) (fun cdv A1 outer s H vs Q E hr h => ?_)
  · obtain ⟨_, rfl, _⟩ := h; rfl
  · obtain ⟨i, rfl, i0, i1, q⟩ := h
    refine ⟨_, pss_one (ps_ret (pe_and (pe_call G_n (hr.mono (by decide)) rfl T.D_is_natural.g T.D_is_natural.F.kp T.D_is_natural.b .nil pass0 (pa_cons (pv 0) pa_nil)) (pe_one (pe_cmpR op_le (pv 0) (pe_glob (v := .int MW) rfl g1 ⟨_, rfl⟩) (nomark _))))), ?_⟩
    refine ⟨_, rfl, i, rfl, i0, true, rfl, _, rfl, _, _, rfl, rfl, ?_⟩
    show Q (.bl (decide (i ≤ MW))) H
    rw [decide_eq_true i1]
    exact q
def rInSg : R2 := fun x y H Q => ∃ (c : Nat) (z : Str), x = .str ⟨#[c]⟩ ∧ y = .str z ∧ Q (.bl (decide (c ∈ z.cps.toList))) H
def spSide : Sp := fun vs H Q _ => ∃ sg u : Str, vs = [.str sg, .str u] ∧ u.cps.size ≤ 3 ∧ (∀ c ∈ u.cps.toList, c ∈ sg.cps.toList) ∧ ∀ H', Same H H' → Q (.bl true) H'
abbrev Nsd : List Str := ["signs", "word", "letter"]
theorem sc_is_side : FnScope Nsd ["signs", "word"] (defScope s_is_side) := ⟨rfl, rfl, rfl, by decide +kernel, rfl, by decide +kernel, by decide +kernel⟩
theorem ok_is_side (T : TxtD K mg B) : FnOk P w K mg base CX0 1 B.f4 B.d4 ["signs", "word"] spSide := by
  have sc := sc_is_side
  obtain ⟨t1, g1⟩ := T.g_LS
  refine T.D_is_side.F.ok sc (fun vs H Q E h => ?_) (fun cdv A1 outer s H vs Q E hr h => ?_)
  · obtain ⟨_, _, rfl, _⟩ := h; rfl
  · obtain ⟨sg, u, rfl, ul, sub, k⟩ := h
    refine ⟨_, pss_one (ps_ret (pe_andR (pe_callB call_isi (by rfl) T.n_isinstance (by decide +kernel) (pa_cons (pv 1) (pa_cons (pe_bltn (v := .ty "str") rfl T.n_str (by decide +kernel) rfl) pa_nil)))
      (pe_andR (pe_cmpR op_le (pe_callB call_len (by rfl) T.n_len (by decide +kernel) (pa_cons (pv 1) pa_nil)) (pe_glob (v := .int 3) rfl g1 ⟨_, rfl⟩) (nomark _))
      (pe_one (pe_callB (cr_all rfl) (by rfl) T.n_all (by decide +kernel) (pa_cons (pe_lc (own := [("letter", 2)]) (g := gName 2) (tt := tYes) (te := tOp rInSg (tVar 2) (tVar 0)) rfl sc.nd (pi_str (pv 1)) (blkOk_by (N := Nsd) (sc := defScope s_is_side) (own := [("letter", 2)]) (by decide +kernel))
        (fun _ _ _ _ _ => (pg_name (i := 2) sc.nd rfl (Or.inl rfl))) (fun _ _ _ _ _ => pts_nil) (fun _ _ _ _ _ => pe_cmpR op_in_sign (pv 2) (pv 0) (by rfl))) pa_nil)))))), ?_⟩
    refine ⟨_, rfl, _, _, _, _, true, rfl, ClsV.ty _, .base (.str u), kit_ty (by decide +kernel), true, rfl, ?_⟩
    refine ⟨_, rfl, .str u, u.cps.size, rfl, ⟨by rw [sizeLine_eq]; show u.cps.size ≤ _; omega, rfl⟩, _, _, rfl, rfl, decide ((u.cps.size : Int) ≤ 3), rfl, ?_⟩
    rw [decide_eq_true (by omega : (u.cps.size : Int) ≤ 3)]
    refine iteT ?_
    refine ⟨_, rfl, u, rfl, fun D hD => ?_⟩
    refine lcs_it [some (.str sg), some (.str u), none] rfl walk_str (fun i H' => Same H H' ∧ H' D = some (.lst ((List.replicate i true).map V.bl))) ⟨Same.upd hD, upd_same⟩ (fun _ _ _ _ => trivial) ?_ ?_
    · rintro i x _ H2 hi ⟨s2, h2⟩ ⟨rfl, c, hc, rfl⟩
      have hct : u.cps.toList[i]? = some c := by rw [Array.getElem?_toList]; exact hc
      have hi' : i < u.cps.size := hi
      refine ⟨rfl, tyes ?_⟩
      simp only [if_true]
      refine ⟨_, rfl, _, rfl, c, sg, rfl, rfl, _, h2, by rw [List.length_map, List.length_replicate, sizeLine_eq]; omega, fun b o z => ?_, ?_⟩
      · rw [upd_ne (ne_of_none z hD)]
        exact s2 _ _ z
      · rw [upd_same, decide_eq_true (sub c (List.mem_of_getElem? hct)), List.replicate_succ', List.map_append]
        rfl
    · rintro H2 ⟨s2, h2⟩
      refine ⟨D, _, rfl, SqL.of h2, ?_⟩
      have e : (List.replicate u.cps.size true).all id = true := by simp
      show Q (.bl ((List.replicate u.cps.size true).all id)) H2
      rw [e]
      exact k H2 s2
def spEdit : Sp := fun vs H Q _ => ∃ (sg : Str) (b : Addr) (e : Ed), vs = [.str sg, .ref b] ∧ H b = some (.tup [.str e.1, .str e.2.1, .int e.2.2]) ∧ OkEd sg e ∧ ∀ H', Same H H' → Q (.bl true) H'
theorem sc_is_edit : FnScope ["signs", "row"] ["signs", "row"] (defScope s_is_edit) := ⟨rfl, rfl, rfl, by decide +kernel, rfl, by decide +kernel, by decide +kernel⟩
theorem ok_is_edit (T : TxtD K mg B) : FnOk P w K mg base CX0 4 B.f5 B.d5 ["signs", "row"] spEdit := by
  have sc := sc_is_edit
  have G_side : FnOk P w K mg base CX0 1 B.f4 B.d4 ["signs", "word"] spSide := ok_is_side T
  have G_wt : FnOk P w K mg base CX0 3 B.f3 B.d3 ["value"] spWt := ok_is_weight T
  refine T.D_is_edit.F.ok sc (fun vs H Q E h => ?_) (fun cdv A1 outer s H vs Q E hr h => ?_)
  · obtain ⟨_, _, _, rfl, _⟩ := h; rfl
  · obtain ⟨sg, b, e, rfl, hb, ok, k⟩ := h
    refine ⟨_, (pss_cons (ps_if (PW.pt (pw_or (pt_not (pt_val (pe_isiTL (pv 1) (by rfl) T.n_isinstance (pa_cons (pe_bltn (v := .ty "tuple") rfl T.n_tuple (by decide +kernel) rfl) (pa_cons (pe_bltn (v := .ty "list") rfl T.n_list (by decide +kernel) rfl) pa_nil)) rfl rfl rfl))) (pw_or1 (pt_cmpR op_ne (pe_callB call_len (by rfl) T.n_len (by decide +kernel) (pa_cons (pv 1) pa_nil)) pe_int (nomark _))))) pss_dead pss_nil)
      (pss_one (ps_ret (pe_andR (pe_call G_side (hr.mono (by decide)) rfl T.D_is_side.g T.D_is_side.F.kp T.D_is_side.b .nil pass0 (pa_cons (pv 0) (pa_cons (pe_ix ix_tup (pv 1) pe_int (fun _ _ => rfl)) pa_nil))) (pe_andR (pe_call G_side (hr.mono (by decide)) rfl T.D_is_side.g T.D_is_side.F.kp T.D_is_side.b .nil pass0 (pa_cons (pv 0) (pa_cons (pe_ix ix_tup (pv 1) pe_int (fun _ _ => rfl)) pa_nil))) (pe_andR (pe_cmpR op_ne (pe_ix ix_tup (pv 1) pe_int (fun _ _ => rfl)) (pe_ix ix_tup (pv 1) pe_int (fun _ _ => rfl)) (nomark _)) (pe_one (pe_call G_wt (hr.mono (by decide)) rfl T.D_is_weight.g T.D_is_weight.F.kp T.D_is_weight.b .nil pass0 (pa_cons (pe_ix ix_tup (pv 1) pe_int (fun _ _ => rfl)) pa_nil))))))))), ?_⟩
    refine ⟨_, rfl, ⟨b, _, rfl, SqT.of hb⟩, fun T0 hT0 => ⟨_, rfl, iteF ?_⟩⟩
    have s1 : Same H (upd H T0 (.tup [.ty "tuple", .ty "list"])) := Same.upd hT0
    generalize upd H T0 (.tup [.ty "tuple", .ty "list"]) = H1 at s1 ⊢
    have hb1 := s1 _ _ hb
    have at0 : atI ([.str e.1, .str e.2.1, .int e.2.2] : List V) 0 = some (.str e.1) := atI_nat (j := 0) rfl
    have at1 : atI ([.str e.1, .str e.2.1, .int e.2.2] : List V) 1 = some (.str e.2.1) := atI_nat (j := 1) rfl
    have at2 : atI ([.str e.1, .str e.2.1, .int e.2.2] : List V) 2 = some (.int e.2.2) := atI_nat (j := 2) rfl
    refine ⟨_, rfl, .ref b, 3, rfl, .inr ⟨_, SqT.of hb1, rfl⟩, rfl, _, rfl, iteF ?_⟩
    refine ⟨_, rfl, _, rfl, b, _, 0, _, rfl, rfl, SqT.of hb1, at0, sg, e.1, rfl, ok.l1, ok.s1, fun H2 s2 => ⟨true, rfl, iteT ?_⟩⟩
    refine ⟨_, rfl, _, rfl, b, _, 1, _, rfl, rfl, SqT.of (s2 _ _ hb1), at1, sg, e.2.1, rfl, ok.l2, ok.s2, fun H3 s3 => ⟨true, rfl, iteT ?_⟩⟩
    have hb3 := s3 _ _ (s2 _ _ hb1)
    refine ⟨_, rfl, b, _, 0, _, rfl, rfl, SqT.of hb3, at0, _, rfl, b, _, 1, _, rfl, rfl, SqT.of hb3, at1, rfl, !decide (V.str e.1 = V.str e.2.1), rfl, ?_⟩
    rw [decide_eq_false (fun h => ok.ne (V.str.inj h) : ¬ V.str e.1 = V.str e.2.1)]
    refine iteT ⟨_, rfl, b, _, 2, _, rfl, rfl, SqT.of hb3, at2, e.2.2, rfl, ok.w0, ok.w1, ?_⟩
    exact k H3 (s1.trans (s2.trans s3))
def kvE (R : List Ed) : List (List L2.Key × V) := R.map fun e => ([.inr e.1, .inr e.2.1], V.bl true)
theorem valE {R : List Ed} {u v : Str} (h : (u, v) ∉ R.map fun e => (e.1, e.2.1)) : valV (kvE R) [.inr u, .inr v] = none := by
  induction R with
  | nil => rfl
  | cons e R ih =>
    rw [List.map_cons, List.mem_cons, not_or] at h
    unfold valV kvE
    rw [List.map_cons, List.find?_cons]
    have ne : ¬ ([.inr e.1, .inr e.2.1] : List L2.Key) = [.inr u, .inr v] := fun z => h.1 (by
      have z1 := List.cons.inj z
      have z2 := List.cons.inj z1.2
      rw [Sum.inr.inj z1.1, Sum.inr.inj z2.1])
    rw [decide_eq_false ne]
    exact ih h.2
def spRows : Sp := fun vs H Q _ => ∃ (sg : Str) (r : Addr) (rv : List V) (R : List Ed), vs = [.str sg, .ref r] ∧ H r = some (.lst rv) ∧ Paired (EdT H) rv R ∧ OkRows sg R ∧ ∀ H', Same H H' → Q .non H'
theorem sc_rows : FnScope ["signs", "rows", "ahead", "index", "row"] ["signs", "rows"] (defScope s_check_rows) := ⟨rfl, rfl, rfl, by decide +kernel, rfl, by decide +kernel, by decide +kernel⟩
theorem ok_rows (T : TxtD K mg B) : FnOk P w K mg base CX0 5 B.f6 B.d6 ["signs", "rows"] spRows := by
  have sc := sc_rows
  have G_ed : FnOk P w K mg base CX0 4 B.f5 B.d5 ["signs", "row"] spEdit := ok_is_edit T
  refine T.D_check_rows.F.ok sc (fun vs H Q E h => ?_) (fun cdv A1 outer s H vs Q E hr h => ?_)
  · obtain ⟨_, _, _, _, rfl, _⟩ := h; rfl
  · obtain ⟨sg, r, rv, R, rfl, hrv, pR, ok, k⟩ := h
    have hu1 : (A1.deeper (PyProof.Rows.envOfC "check_rows" (defScope s_check_rows) s.heap.objs.size B.f6 cdv)).units + 1 < cLine := by have := hr.un; omega
    refine ⟨_, (pss_cons (ps_set (i := 2) sc.nd rfl (Or.inl rfl) pe_dnewT)
      (pss_one (ps_for PassesOwn.never rfl (pi_enum (by rfl) T.n_enumerate (pa_cons (pv 1) pa_nil)) (pg_tup rfl (pgs_cons (pg_name (i := 3) sc.nd rfl (Or.inl rfl)) (pgs_cons (pg_name (i := 4) sc.nd rfl (Or.inl rfl)) pgs_nil)))
      (pss_cons (ps_if (PW.pt (pw_or (pt_not (pt_val (pe_call G_ed (hr.mono (by decide)) rfl T.D_is_edit.g T.D_is_edit.F.kp T.D_is_edit.b .nil pass0 (pa_cons (pv 0) (pa_cons (pv 4) pa_nil))))) (pw_or1 (pt_cmp (pc_din hu1 (pe_tup (pa_cons (pe_ix ix_tup (pv 4) pe_int (fun _ _ => rfl)) (pa_cons (pe_ix ix_tup (pv 4) pe_int (fun _ _ => rfl)) pa_nil))) (pv 2)))))) pss_dead pss_nil)
      (pss_one (ps_dput hu1 (pv 2) (pe_tup (pa_cons (pe_ix ix_tup (pv 4) pe_int (fun _ _ => rfl)) (pa_cons (pe_ix ix_tup (pv 4) pe_int (fun _ _ => rfl)) pa_nil))) pe_bl rfl)))))), ?_⟩
    refine fun D hD => ⟨_, rfl, r, rv, rfl, SqL.of (Same.upd hD _ _ hrv), ?_⟩
    refine for_it walk_enum (fun i σ H' => (∃ x3 x4, σ = [some (.str sg), some (.ref r), some (.ref D), x3, x4]) ∧ Same H H' ∧ H' D = some (.dT (kvE (R.take i)))) ⟨⟨_, _, rfl⟩, Same.upd hD, upd_same⟩ (fun i σ H' _ z => SqL.of (z.2.1 _ _ hrv)) ?_ ?_
    · rintro i x σ H1 H1' hi ⟨⟨x3, x4, rfl⟩, s1, hD1⟩ ⟨t1, u1, y, rfl, nt1, rfl, eu, hy⟩
      cases eu
      obtain ⟨e, he, a, rfl, ha⟩ := pat pR hy
      have em := List.mem_of_getElem? he
      refine ⟨t1, _, rfl, SqT.of upd_same, rfl, _, _, rfl, _, _, rfl, rfl, ?_⟩
      have s2 : Same H (upd H1 t1 (.tup [.int (i : Nat), .ref a])) := s1.trans (Same.upd nt1)
      have hD2 := Same.upd (o := .tup [.int (i : Nat), .ref a]) nt1 _ _ hD1
      generalize upd H1 t1 (.tup [.int (i : Nat), .ref a]) = H2 at s2 hD2 ⊢
      have at0 : atI ([.str e.1, .str e.2.1, .int e.2.2] : List V) 0 = some (.str e.1) := atI_nat (j := 0) rfl
      have at1 : atI ([.str e.1, .str e.2.1, .int e.2.2] : List V) 1 = some (.str e.2.1) := atI_nat (j := 1) rfl
      refine ⟨_, rfl, _, rfl, sg, a, e, rfl, s2 _ _ ha, ok.ok e em, fun H3 s3 => ⟨_, rfl, iteF ?_⟩⟩
      have ha3 := s3 _ _ (s2 _ _ ha)
      have hD3 := s3 _ _ hD2
      have le := ok.le
      have il : i < R.length := (List.getElem?_eq_some_iff.mp he).1
      have new : (e.1, e.2.1) ∉ (R.take i).map fun e => (e.1, e.2.1) := fun hm => by
        have tk : (R.take (i + 1)).map (fun e => (e.1, e.2.1)) = (R.take i).map (fun e => (e.1, e.2.1)) ++ [(e.1, e.2.1)] := by
          rw [List.take_add_one, he]
          simp
        have nd := (ok.nd.sublist ((List.take_sublist (i + 1) R).map fun e => (e.1, e.2.1)))
        rw [tk, List.nodup_append] at nd
        exact nd.2.2 _ hm _ (List.mem_singleton.mpr rfl) rfl
      refine ⟨_, rfl, a, _, 0, _, rfl, rfl, SqT.of ha3, at0, _, rfl, a, _, 1, _, rfl, rfl, SqT.of ha3, at1, by show 2 ≤ sizeLine; decide, fun q hq => ?_⟩
      refine ⟨_, rfl, D, _, rfl, DGet.t (k := [.inr e.1, .inr e.2.1]) (Same.upd hq _ _ hD3) upd_same, _, rfl, ?_⟩
      rw [valE new]
      refine iteF ?_
      have s4 : Same H (upd H3 q (.tup [.str e.1, .str e.2.1])) := s2.trans (s3.trans (Same.upd hq))
      have ha4 := Same.upd (o := .tup [.str e.1, .str e.2.1]) hq _ _ ha3
      have hD4 := Same.upd (o := .tup [.str e.1, .str e.2.1]) hq _ _ hD3
      generalize upd H3 q (.tup [.str e.1, .str e.2.1]) = H4 at s4 ha4 hD4 ⊢
      refine ⟨_, rfl, _, rfl, a, _, 0, _, rfl, rfl, SqT.of ha4, at0, _, rfl, a, _, 1, _, rfl, rfl, SqT.of ha4, at1, by show 2 ≤ sizeLine; decide, fun q2 hq2 => ?_⟩
      refine ⟨D, _, rfl, DPut.t (k := [.inr e.1, .inr e.2.1]) (Same.upd hq2 _ _ hD4) upd_same (by unfold kvE; rw [List.length_map, List.length_take, sizeLine_eq]; omega), ⟨_, _, rfl⟩, fun b o z => ?_, ?_⟩
      · rw [upd_ne (ne_of_none z hD)]
        exact Same.upd hq2 _ _ (s4 _ _ z)
      · rw [upd_same, putK_new _ (valE new), List.take_add_one, he]
        unfold kvE
        rw [List.map_append]
        rfl
    · rintro σ H1 ⟨_, s1, _⟩
      exact k H1 s1
end
end Kx

namespace Kx
open PySem L2 Own
abbrev s_einit : Stmt := inClass (top 31) 0
abbrev s_eside : Stmt := inClass (top 31) 6
abbrev s_eall : Stmt := inClass (top 31) 7
/-- edits at m -/
def EdAt (C : Addr) (H : Hp) (m : Addr) (sg : Str) (R : List Ed) : Prop := ∃ (dx r : Addr) (rv : List V), H m = some (.ins C dx [("signs", .str sg), ("rows", .ref r)]) ∧ H r = some (.tup rv) ∧ Paired (EdT H) rv R
theorem EdAt.keep {C : Addr} {H H' : Hp} {m : Addr} {sg : Str} {R : List Ed} (s : Same H H') (h : EdAt C H m sg R) : EdAt C H' m sg R := by
  obtain ⟨dx, r, rv, h1, h2, h3⟩ := h
  exact ⟨dx, r, rv, s _ _ h1, s _ _ h2, L2.Paired.mapP h3 fun _ _ z => z.keep fun b xs e => s _ _ e⟩
structure ZAd where
  C : Addr
  f : Addr
  d : FuncData
  ft : Addr
  dt : FuncData
  fs : Addr
  ds : FuncData
  fa : Addr
  da : FuncData
structure TxtZ (K : PySem.W.Frag) (mg : Str → Option Value) (Z : ZAd) : Prop where
  cl : Cls K Z.C
  make : Mk K Z.C Z.f
  F : Fun K "__init__" "Edits.__init__" s_einit Z.f Z.d
  b : Binds K Z.d ["self", "signs", "rows"] []
  g : mg "Edits" = some (.ref Z.C)
  a1 : NoAttr K Z.C "signs"
  a2 : NoAttr K Z.C "rows"
  g_ME : ∃ t, mg "MOST_EDITS" = some (.int 24 t)
  n_len : mg "len" = none
  n_tuple : mg "tuple" = none
section
variable {P : Program} {w : World} {K : PySem.W.Frag} {mg : Str → Option Value} {base : Heap} {B : EdAd} {Z : ZAd}
/-- all stands, but for the thing at m -/
def But (m : Addr) (H H' : Hp) : Prop := ∀ b o, H b = some o → b ≠ m → H' b = some o
def spEd (Z : ZAd) : Sp := fun vs H Q _ => ∃ (m dx r : Addr) (sg : Str) (rv : List V) (R : List Ed), vs = [.ref m, .str sg, .ref r] ∧ H m = some (.ins Z.C dx []) ∧ H r = some (.lst rv) ∧ Paired (EdT H) rv R ∧ OkRows sg R ∧
  ∀ H', But m H H' → EdAt Z.C H' m sg R → Q .non H'
abbrev Nei : List Str := ["self", "signs", "rows", "u", "v", "weight"]
theorem sc_einit : FnScope Nei ["self", "signs", "rows"] (defScope s_einit) := ⟨rfl, rfl, rfl, by decide +kernel, rfl, by decide +kernel, by decide +kernel⟩
theorem ok_einit (T : TxtD K mg B) (TZ : TxtZ K mg Z) : FnOk P w K mg base CX0 6 Z.f Z.d ["self", "signs", "rows"] (spEd Z) := by
  have sc := sc_einit
  have G_rows : FnOk P w K mg base CX0 5 B.f6 B.d6 ["signs", "rows"] spRows := ok_rows T
  obtain ⟨t1, g1⟩ := TZ.g_ME
  refine TZ.F.ok sc (fun vs H Q E h => ?_) (fun cdv A1 outer s H vs Q E hr h => ?_)
  · obtain ⟨_, _, _, _, _, _, rfl, _⟩ := h; rfl
  · obtain ⟨m, dx, r, sg, rv, R, rfl, hm, hrv, pR, ok, k⟩ := h
    refine ⟨_, (pss_cons (ps_if (pt_cmpR op_gt (pe_callB call_len (by rfl) T.n_len (by decide +kernel) (pa_cons (pv 2) pa_nil)) (pe_glob (v := .int 24) rfl g1 ⟨_, rfl⟩) (nomark _)) pss_dead pss_nil)
      (pss_cons (ps_expr (pe_call G_rows (hr.mono (by decide)) rfl T.D_check_rows.g T.D_check_rows.F.kp T.D_check_rows.b .nil pass0 (pa_cons (pv 1) (pa_cons (pv 2) pa_nil))))
      (pss_cons (ps_fld (pv 0) (pv 1) rfl)
      (pss_one (ps_fld (pv 0) (pe_tupleOf rfl T.n_tuple (pe_lc (own := [("u", 3), ("v", 4), ("weight", 5)]) (g := gTup K 3 (gCons (gName 3) (gCons (gName 4) (gCons (gName 5) gNil)))) (tt := tYes) (te := tTup (tCons (tVar 3) (tCons (tVar 4) (tCons (tVar 5) tNil)))) rfl sc.nd (pi_list (pv 2)) (blkOk_by (N := Nei) (sc := defScope s_einit) (own := [("u", 3), ("v", 4), ("weight", 5)]) (by decide +kernel)) (fun _ _ _ _ _ => (pg_tup rfl (pgs_cons (pg_name (i := 3) sc.nd rfl (Or.inl rfl)) (pgs_cons (pg_name (i := 4) sc.nd rfl (Or.inl rfl)) (pgs_cons (pg_name (i := 5) sc.nd rfl (Or.inl rfl)) pgs_nil))))) (fun _ _ _ _ _ => pts_nil) (fun _ _ _ _ _ => (pe_tup (pa_cons (pv 3) (pa_cons (pv 4) (pa_cons (pv 5) pa_nil))))))) rfl))))), ?_⟩
    have le := ok.le
    have lR : rv.length = R.length := Paired.length pR
    refine ⟨_, rfl, .ref r, rv.length, rfl, .inl ⟨_, SqL.of hrv, rfl⟩, _, _, rfl, rfl, _, rfl, ?_⟩
    rw [decide_eq_false (by omega : ¬ (24 : Int) < (rv.length : Nat))]
    refine iteF ⟨_, rfl, _, rfl, sg, r, rv, R, rfl, hrv, pR, ok, fun H1 s1 => ?_⟩
    -- signs
    refine ⟨_, rfl, _, rfl, m, Z.C, dx, [], rfl, s1 _ _ hm, TZ.cl, TZ.a1, (by show 0 < 1000; decide), ?_⟩
    have k2 : But m H (upd H1 m (.ins Z.C dx (putF "signs" (.str sg) []))) := fun b o e n => by
      rw [upd_ne n]
      exact s1 _ _ e
    have m2 : (upd H1 m (.ins Z.C dx (putF "signs" (.str sg) []))) m = some (.ins Z.C dx [("signs", .str sg)]) := upd_same
    generalize upd H1 m (.ins Z.C dx (putF "signs" (.str sg) [])) = H2 at k2 m2 ⊢
    have nm : ∀ {b o}, H b = some o → (∀ C dx fs, o ≠ .ins C dx fs) → b ≠ m := fun {b o} e h z => by rw [z, hm] at e; exact h _ _ _ (Option.some.inj e).symm
    have hrv2 := k2 _ _ hrv (nm hrv (by intro _ _ _ z; cases z))
    have pR2 : Paired (EdT H2) rv R := L2.Paired.mapP pR fun _ _ z => z.keep fun b xs e => k2 _ _ e (nm e (by intro _ _ _ z; cases z))
    -- rows
    refine ⟨_, rfl, r, rfl, ⟨_, SqL.of hrv2⟩, fun D hD => ?_⟩
    refine lcs_it [some (.ref m), some (.str sg), some (.ref r), none, none, none] rfl walk_list (fun i H' => Same H2 H' ∧ ∃ acc, H' D = some (.lst acc) ∧ acc.length = i ∧ Paired (EdT H') acc (R.take i)) ⟨Same.upd hD, [], upd_same, rfl, .nil⟩ (fun i H' _ z => SqL.of (z.1 _ _ hrv2)) ?_ ?_
    · rintro i x _ H3 hi ⟨s3, acc, hacc, hl, pa⟩ ⟨rfl, hx⟩
      obtain ⟨e, he, a, rfl, ha⟩ := pat pR2 hx
      have il : i < R.length := (List.getElem?_eq_some_iff.mp he).1
      refine ⟨a, _, rfl, SqT.of (s3 _ _ ha), rfl, _, _, rfl, _, _, rfl, _, _, rfl, rfl, rfl, tyes ?_⟩
      simp only [if_true]
      refine ⟨_, rfl, _, rfl, _, rfl, by show 3 ≤ sizeLine; decide, fun q hq => ?_⟩
      have hacc4 := Same.upd (o := .tup [.str e.1, .str e.2.1, .int e.2.2]) hq _ _ hacc
      have kt : ∀ b xs, (upd H3 q (.tup [.str e.1, .str e.2.1, .int e.2.2])) b = some (.tup xs) → (upd (upd H3 q (.tup [.str e.1, .str e.2.1, .int e.2.2])) D (.lst (acc ++ [.ref q]))) b = some (.tup xs) := fun b xs y => by
        rw [upd_ne (ne_of y hacc4 (by intro z; cases z))]; exact y
      refine ⟨acc, hacc4, by rw [sizeLine_eq]; omega, fun b o z => ?_, acc ++ [.ref q], upd_same, by rw [List.length_append, hl]; rfl, ?_⟩
      · rw [upd_ne (ne_of_none z hD)]
        exact Same.upd hq _ _ (s3 _ _ z)
      · rw [List.take_add_one, he]
        exact psnoc (L2.Paired.mapP pa fun _ _ z => z.keep fun b xs y => kt b xs (Same.upd hq _ _ y)) ⟨q, rfl, kt _ _ upd_same⟩
    rintro H3 ⟨s3, acc, hacc, hl, pa⟩
    rw [lR, List.take_length] at pa
    refine .inl ⟨D, acc, rfl, SqL.of hacc, fun r3 hr3 => ?_⟩
    have s4 : Same H2 (upd H3 r3 (.tup acc)) := s3.trans (Same.upd hr3)
    refine ⟨_, rfl, m, Z.C, dx, [("signs", .str sg)], rfl, s4 _ _ m2, TZ.cl, TZ.a2, (by show 1 < 1000; decide), ?_⟩
    refine k _ (fun b o e n => ?_) ⟨dx, r3, acc, upd_same, ?_, ?_⟩
    · rw [upd_ne n]
      exact s4 _ _ (k2 _ _ e n)
    · rw [upd_ne (ne_of (upd_same : (upd H3 r3 (.tup acc)) r3 = _) (s4 _ _ m2) (by intro z; cases z))]
      exact upd_same
    · exact L2.Paired.mapP pa fun _ _ z => z.keep fun b xs y => by
        rw [upd_ne (ne_of (Same.upd hr3 _ _ y) (s4 _ _ m2) (by intro z; cases z))]
        exact Same.upd hr3 _ _ y
end
end Kx

namespace Own
open PySem L2 PyProof.Rows PySem.Froz
/-! ### sets of texts, as they grow -/
/-- the table stands in its order, and is told -/
def Tidy (w : World) (D : SD) : Prop := Ris D.2.2.place.toList ∧ (w.params.followText "set-order" = true ∨ D.2.2.led = true)
theorem tidy_tail {w : World} {ep : Nat} {es : Array (Int × Value)} {t : SetTable} {b : Bool} (h : Tidy w (es, ep, t)) : Tidy w (tailTx ep es t b) := by
  unfold tailTx
  split
  · exact ⟨relayAll_ris t es _, h.2.imp id fun z => (relayAll_led t es _).trans z⟩
  · exact h
theorem tidy_add {w : World} {k : Int} {v : Value} {D : SD} (h : Tidy w D) : Tidy w (addTx k v D) := by
  refine tidy_tail ?_
  have r := layNew_ris D.2.2 D.1 k v h.1
  have l := layNew_led D.2.2 D.1 k v
  split
  · exact ⟨r, h.2.imp id fun z => l.trans z⟩
  · exact ⟨r, h.2.imp id fun z => l.trans z⟩
/-- the set at a holds the texts l, each once -/
def SetS (P : Program) (w : World) (h : Heap) (a : Addr) (l : List Str) : Prop := ∃ D : SD, h.get? a = some (sObj "set" D) ∧ Tidy w D ∧ TxOk P w D l ∧ l.Nodup
section
variable {P : Program} {w : World} {A : Around} {E : Value → Shared → Prop} {s : Shared} {a : Addr} {l : List Str} {k : Str} {u : Tok}
theorem SetS.at {h h' : Heap} (R : SetS P w h a l) (e : ∀ o, h.get? a = some o → h'.get? a = some o) : SetS P w h' a l := by
  obtain ⟨D, q, r⟩ := R
  exact ⟨D, e _ q, r⟩
/-- a text that is there already -/
theorem stay_s {D : SD} {Q : Bool → Shared → Prop} (ho : s.heap.get? a = some (sObj "set" D)) (F : TxOk P w D l) (hb : l.length < scanBound) (hk : k ∈ l) (q : Q false s) : wpAny (model P w) A (setAddHashed a (.str k u) (hashStr w k)) Q E s := by
  obtain ⟨es, ep, t⟩ := D
  have sz : es.size < scanBound := by rw [show es.size = l.length from F.sz]; exact hb
  unfold setAddHashed setAddHashedIn
  refine wpAny_holding (wpAny_bind (wpAny_setState_of ho rfl F.fit ?_))
  dsimp only
  rw [byScan_of (knd := strKind P w) rfl sz F.el]
  simp only [↓reduceIte]
  unfold setAddByScan
  refine wpAny_bind (wpAny_bind (wpAny_rule (wpAny_bind (wpAny_setScan_of (knd := strKind P w) (k := k) (is_str k u) ho rfl F.fit F.el ?_))))
  obtain ⟨e, he, hq⟩ := (F.mem k).mp hk
  cases c : List.findIdx? (fun e => (strKind P w).is k e.2) es.toList with
  | some j => exact wpAny_pure (wpAny_pure q)
  | none =>
    have z := List.findIdx?_eq_none_iff.mp c e he
    rw [hq] at z
    cases z
/-- one more text -/
theorem put_s {Q : Bool → Shared → Prop} (R : SetS P w s.heap a l) (hb : l.length + 1 < scanBound) (q : ∀ h' l' b, Heap.SameBut a s.heap h' → SetS P w h' a l' → (∀ x, x ∈ l' ↔ x ∈ l ∨ x = k) → l'.length ≤ l.length + 1 → Q b { s with heap := h' }) :
    wpAny (model P w) A (setAddHashed a (.str k u) (hashStr w k)) Q E s := by
  obtain ⟨D, ho, td, F, nd⟩ := R
  by_cases c : k ∈ l
  · exact stay_s ho F (by omega) c (q s.heap l false (.refl _ _) ⟨D, ho, td, F, nd⟩ (fun x => ⟨.inl, fun z => z.elim id fun e => e ▸ c⟩) (by omega))
  · refine add_x ho F c hb (q _ (k :: l) true (Heap.SameBut.update _ _ _) ⟨_, get_upd _ ho rfl, tidy_add td, add_ok u F, List.nodup_cons.mpr ⟨c, nd⟩⟩ (fun x => ?_) (Nat.le_refl _))
    rw [List.mem_cons]
    exact Or.comm
/-- set.update's loop over a walk of texts -/
theorem fill_s {I : Addr} {fp wr : List Addr} {n : Nat} {St : Nat → Heap → Prop} {Pv : Nat → Value → Prop} {R : Result → Shared → Prop} (W : Walks P w A.in1 I fp wr n Pv St) (ha : a ∉ fp) (xs : List Str) (hn : n = xs.length) (hb : n + 1 < scanBound) (hv : ∀ i v, Pv i v → ∃ x t, xs[i]? = some x ∧ v = .str x t)
    (fin : ∀ (h' : Heap) tk l', (∀ b o, b ≠ a → b ∉ wr → s.heap.get? b = some o → h'.get? b = some o) → SetS P w h' a l' → (∀ x, x ∈ l' ↔ x ∈ xs) → l'.length ≤ xs.length → R (.ok (.ret .none)) { s with heap := h', toks := tk }) :
    ∀ (m i : Nat) (h1 : Heap) (tk : Nat), i + m = n → St i h1 → (∀ b o, b ≠ a → b ∉ wr → s.heap.get? b = some o → h1.get? b = some o) → (∃ l, SetS P w h1 a l ∧ (∀ x, x ∈ l ↔ x ∈ xs.take i) ∧ l.length ≤ i) →
      codeAny (model P w) A (.builtin "set.update.loop" ⟨[.ref a, .ref I], []⟩) R { s with heap := h1, toks := tk } := by
  have hw : a ∉ wr := fun z => ha (W.sub _ z)
  intro m
  induction m with
  | zero =>
    intro i h1 tk e st k1 ⟨l, hs, hm, hl⟩
    have e' : i = n := e
    subst e'
    refine codeAny_builtin F.entry_set_update_loop ?_
    rw [Around.under_plainId F.plain_set_update_loop _]
    refine wpAny_bind (W.done { s with heap := h1, toks := tk } _ _ st fun h2 t2 k2 => wpAny_pure (fin h2 t2 l (fun b o b1 b2 e => k2 b o b2 (k1 b o b1 b2 e)) (hs.at fun o e => k2 a o hw e) (fun x => ?_) (by omega)))
    rw [hm x, List.take_of_length_le (by omega)]
  | succ m ih =>
    intro i h1 tk e st k1 ⟨l, hs, hm, hl⟩
    refine codeAny_builtin F.entry_set_update_loop ?_
    rw [Around.under_plainId F.plain_set_update_loop _]
    refine wpAny_bind (W.item i { s with heap := h1, toks := tk } _ _ (by omega) st fun v h2 t2 hp st2 k2 => ?_)
    obtain ⟨x, t, hx, rfl⟩ := hv i v hp
    refine wpAny_bind (m := holding _ (setAdd a _)) (wpAny_holding ?_)
    unfold setAdd
    refine wpAny_holding (wpAny_bind ((strKind P w).pyHash (k := x) (is_str x t) ?_))
    refine put_s (s := { s with heap := h2, toks := t2 + 1 }) (hs.at fun o e => k2 a o hw e) (by omega) fun h3 l3 b sb hs3 hm3 hl3 => ?_
    have k3 : ∀ b o, b ≠ a → h2.get? b = some o → h3.get? b = some o := fun b o q z => (sb.2 b q).trans z
    refine wpAny_pure ⟨plainId_quiet F.plain_set_update_loop _, ih (i + 1) h3 _ (by omega) (W.frame _ _ _ st2 fun b hbf o z => k3 b o (fun q => ha (q ▸ hbf)) z) (fun b o b1 b2 z => k3 b o b1 (k2 b o b2 (k1 b o b1 b2 z))) ⟨l3, hs3, fun y => ?_, by omega⟩⟩
    rw [hm3 y, hm y, List.take_add_one, hx]
    simp
end
end Own

namespace Own
open PySem L2 PyProof.Rows PySem.Froz
/-- the set that has just been made -/
def newSetO (w : World) : Obj := { cls := .type "set", dict := none, data := .set #[] 0 (.fresh 0 0 (!w.params.followText "set-order")) }
theorem new_s (P : Program) (w : World) {h : Heap} {a : Addr} (e : h.get? a = some (newSetO w)) : SetS P w h a [] := by
  refine ⟨(#[], 0, .fresh 0 0 (!w.params.followText "set-order")), e, ⟨List.Pairwise.nil, ?_⟩, .nil (by rfl), List.nodup_nil⟩
  show _ ∨ (!w.params.followText "set-order") = true
  cases w.params.followText "set-order"
  · exact .inr rfl
  · exact .inl rfl
/-- what can be walked, and gives the texts xs: x of the type T -/
structure Gives (P : Program) (w : World) (E : Value → Shared → Prop) (s : Shared) (x : Value) (T : String) (xs : List Str) : Prop where
  ty : ∀ s1 : Shared, (∀ b o, s.heap.get? b = some o → s1.heap.get? b = some o) → s1.TypeIs x T
  no1 : isSubtype (.type T) (.type "set") = pure false
  no2 : isSubtype (.type T) (.type "frozenset") = pure false
  no3 : (Value.type T == Value.type "dict") = false
  it : ∀ (A : Around) (s1 : Shared) (Q : Value → Shared → Prop), A.handled = none → (∀ b o, s.heap.get? b = some o → s1.heap.get? b = some o) →
    (∀ (o : Obj) (fp : List Addr) (St : Nat → Heap → Prop) (Pv : Nat → Value → Prop), (∀ B : Around, B.handled = none → Walks P w B s1.heap.objs.size fp [s1.heap.objs.size] xs.length Pv St) →
      (∀ b ∈ fp, b = s1.heap.objs.size ∨ ∃ o, s.heap.get? b = some o) → (∀ i v, Pv i v → ∃ y t, xs[i]? = some y ∧ v = .str y t) → St 0 (s1.heap.push o) → Q (.ref s1.heap.objs.size) { s1 with heap := s1.heap.push o }) →
    wpAny (model P w) A (pyIter x) Q E s1
section
variable {P : Program} {w : World} {A : Around} {E : Value → Shared → Prop} {s : Shared} {x : Value} {T : String} {xs : List Str}
theorem upd_fr {a : Addr} {s1 : Shared} {Q : Unit → Shared → Prop} (g : Gives P w E s x T xs) (hh : A.handled = none) (k : ∀ b o, s.heap.get? b = some o → s1.heap.get? b = some o) (na : s.heap.get? a = none) (S : SetS P w s1.heap a []) (hb : xs.length + 1 < scanBound)
    (q : ∀ (h' : Heap) tk l, (∀ b o, b ≠ a → s1.heap.get? b = some o → h'.get? b = some o) → SetS P w h' a l → (∀ y, y ∈ l ↔ y ∈ xs) → l.length ≤ xs.length → Q () { s1 with heap := h', toks := tk }) :
    wpAny (model P w) A (Builtin.Frozenset.updateFrom "set.__init__" a x) Q E s1 := by
  have ty := g.ty s1 k
  unfold Builtin.Frozenset.updateFrom
  refine wpAny_bind (m := Builtin.Frozenset.isAnySet x) ?_
  · unfold Builtin.Frozenset.isAnySet orM
    refine wpAny_bind (wpAny_isInstance ty g.no1 ?_)
    refine wpAny_isInstance ty g.no2 ?_
    dsimp only
    simp only [Bool.false_eq_true, ↓reduceIte]
    refine wpAny_bind (wpAny_typeOf ty ?_)
    rw [g.no3]
    simp only [Bool.false_eq_true, ↓reduceIte]
    refine wpAny_bind (g.it A s1 _ hh k fun o fp St Pv W hfp hv st => ?_)
    have ha : a < s1.heap.objs.size := by
      obtain ⟨D, e, _⟩ := S
      exact Heap.lt_size e
    have hf : a ∉ fp := fun z => by
      rcases hfp a z with e | ⟨o, e⟩
      · exact Nat.ne_of_lt ha e
      · rw [na] at e; cases e
    refine wpAny_bind (wpAny_runValue ?_)
    refine fill_s (s := { s1 with heap := s1.heap.push o }) (W A.in1 hh) hf xs rfl hb hv (fun h' tk l kk hs hm hl => ?_) xs.length 0 (s1.heap.push o) s1.toks (by omega) st (fun b o' _ _ e => e) ⟨[], S.at fun o' e => Heap.get?_push_of_some _ e, fun y => by simp, Nat.le_refl _⟩
    refine wpAny_pure (q h' tk l (fun b u hb' e => kk b u hb' (fun z => ?_) (Heap.get?_push_of_some _ e)) hs hm hl)
    exact Nat.ne_of_lt (Heap.lt_size e) (List.mem_singleton.mp z)
theorem call_setG (g : Gives P w E s x T xs) (hh : A.handled = none) (hb : xs.length + 1 < scanBound) {Q : Value → Shared → Prop}
    (q : ∀ (h' : Heap) tk l, (∀ b o, s.heap.get? b = some o → h'.get? b = some o) → SetS P w h' s.heap.objs.size l → (∀ y, y ∈ l ↔ y ∈ xs) → l.length ≤ xs.length → Q (.ref s.heap.objs.size) { s with heap := h', toks := tk }) :
    wpAny (model P w) A (call (.type "set") [x]) Q E s := by
  obtain ⟨c, tl, hmro⟩ := F.called_set.mro
  have k1 := F.called_set.made
  have k2 := F.called_set.sub
  have k3 := F.called_set.notType
  have k4 := F.called_set.canCreate
  have k5 := F.typeCall_set_1 x
  refine wpAny_call (codeAny_of_tree ?_)
  show wpAny _ _ (callAny (.type "set") _) _ _ _
  refine wpAny_pure ⟨Code.quiet_builtin _ (by decide +kernel), codeAny_builtin F.entry_type_call ?_⟩
  rw [Around.under_plain (weight_type_call_type "set" [x] []) rfl]
  repeat (any_goals (first | assumption | wp_step))
  have na : s.heap.get? s.heap.objs.size = none := by
    cases e : s.heap.get? s.heap.objs.size with
    | none => rfl
    | some o => exact absurd (Heap.lt_size e) (Nat.lt_irrefl _)
  have hp : ∀ b o, s.heap.get? b = some o → (s.heap.push (newSetO w)).get? b = some o := fun b o e => Heap.get?_push_of_some _ e
  have hn : (s.heap.push (newSetO w)).get? s.heap.objs.size = some (newSetO w) := Heap.get?_push_size _ rfl
  refine codeAny_mono (code_set_led1 x (E := E) (Q₁ := fun obj z => obj = .ref s.heap.objs.size ∧ z = { s with heap := s.heap.push (newSetO w) }) ⟨rfl, rfl⟩) fun r z hr => ?_
  cases r with
  | error e => exact hr
  | ok fl =>
    cases fl with
    | ret obj =>
      obtain ⟨rfl, rfl⟩ := hr
      have hT : Shared.TypeIs { s with heap := s.heap.push (newSetO w) } (.ref s.heap.objs.size) "set" := ⟨_, hn, rfl⟩
      have k6 := F.called_set.init.lookup
      have k7 := F.called_set.init.bind (.ref s.heap.objs.size)
      repeat (any_goals (first | assumption | wp_step))
      refine codeAny_mono (codeAny_call_builtin (R := wants (fun r z => r = .none ∧ ∃ h' tk l, z = { s with heap := h', toks := tk } ∧ (∀ b o, s.heap.get? b = some o → h'.get? b = some o) ∧ SetS P w h' s.heap.objs.size l ∧ (∀ y, y ∈ l ↔ y ∈ xs) ∧ l.length ≤ xs.length) E)
        F.called_set.init.plain F.entry_set_init (check_set_init_1 hT ?_)) fun r2 z2 hr2 => ?_
      · unfold Builtin.«set.__init__» noKeywords
        generalize hU : @Builtin.Frozenset.updateFrom = U
        wp_walk
        subst hU
        refine upd_fr (E := E) (s1 := { s with heap := s.heap.push (newSetO w) }) g hh hp na (new_s P w hn) hb fun h' tk l kk hs hm hl => ?_
        exact wpAny_pure ⟨rfl, h', tk, l, rfl, fun b o e => kk b o (Nat.ne_of_lt (Heap.lt_size e)) (hp b o e), hs, hm, hl⟩
      · cases r2 with
        | error e => exact hr2
        | ok fl2 =>
          cases fl2 with
          | ret r =>
            obtain ⟨rfl, h', tk, l, rfl, kk, hs, hm, hl⟩ := hr2
            repeat (any_goals (first | assumption | wp_step))
            exact q h' tk l kk hs hm hl
          | _ => exact hr2.elim
    | _ => exact hr.elim
end
end Own

namespace Own
open PySem PySem.Spec L2 PyProof.Rows PySem.Froz
section
variable {P : Program} {w : World} {A : Around} {E : Value → Shared → Prop} {s : Shared} {xs : List Str}
/-- a list of texts -/
theorem gives_list {l : Addr} {us : List Value} (hl : s.heap.IsList l us.toArray) (hu : StrsAre us xs) : Gives P w E s (.ref l) "list" xs where
  ty := fun s1 k => by
    obtain ⟨o, e, r⟩ := hl
    exact ⟨o, k l o e, r.1⟩
  no1 := F.sub_list_set
  no2 := F.sub_list_frozenset
  no3 := by decide
  it := fun A s1 Q hh k q => by
    have hl1 : s1.heap.IsList l us.toArray := by
      obtain ⟨o, e, r⟩ := hl
      exact ⟨o, k l o e, r⟩
    have hb : l < s1.heap.objs.size := by
      obtain ⟨o, e, _⟩ := hl1
      exact Heap.lt_size e
    have hz : us.toArray.size = xs.length := by rw [List.size_toArray]; exact hu.length
    refine wpAny_pyIter_list hl1 (q _ [s1.heap.objs.size, l] (fun i h => h.IsListIter s1.heap.objs.size l i ∧ h.IsList l us.toArray) (fun i v => us.toArray[i]? = some v) (fun B hB => ?_) (fun b hb => ?_) (fun i v e => ?_) ⟨⟨_, Heap.get?_push_size _ rfl, rfl, rfl⟩, hl1.push _⟩)
    · rw [← hz]
      exact Walks.list hB _ l (Nat.ne_of_lt hb) us.toArray
    · rcases List.mem_cons.mp hb with z | z
      · exact .inl z
      · rw [List.mem_singleton.mp z]
        obtain ⟨o, e, _⟩ := hl
        exact .inr ⟨o, e⟩
    · obtain ⟨y, t, z, e2⟩ := hu.item i v (by rw [← e]; simp)
      exact ⟨y, t, e2, z⟩
/-- a tuple of texts -/
theorem gives_tup {l : Addr} {us : List Value} (hl : s.heap.IsTuple l us.toArray) (hu : StrsAre us xs) : Gives P w E s (.ref l) "tuple" xs where
  ty := fun s1 k => by
    obtain ⟨o, e, r⟩ := hl
    exact ⟨o, k l o e, r.1⟩
  no1 := F.sub_tuple_set
  no2 := F.sub_tuple_frozenset
  no3 := by decide
  it := fun A s1 Q hh k q => by
    have hl1 : s1.heap.IsTuple l us.toArray := by
      obtain ⟨o, e, r⟩ := hl
      exact ⟨o, k l o e, r⟩
    have hb : l < s1.heap.objs.size := by
      obtain ⟨o, e, _⟩ := hl1
      exact Heap.lt_size e
    have hz : us.toArray.size = xs.length := by rw [List.size_toArray]; exact hu.length
    refine wpAny_pyIter_tuple hl1 (q _ [s1.heap.objs.size, l] (fun i h => h.IsTupleIter s1.heap.objs.size l i ∧ h.IsTuple l us.toArray) (fun i v => us.toArray[i]? = some v) (fun B hB => ?_) (fun b hb => ?_) (fun i v e => ?_) ⟨⟨_, Heap.get?_push_size _ rfl, rfl, rfl⟩, hl1.push _⟩)
    · rw [← hz]
      exact Walks.tuple hB _ l (Nat.ne_of_lt hb) us.toArray
    · rcases List.mem_cons.mp hb with z | z
      · exact .inl z
      · rw [List.mem_singleton.mp z]
        obtain ⟨o, e, _⟩ := hl
        exact .inr ⟨o, e⟩
    · obtain ⟨y, t, z, e2⟩ := hu.item i v (by rw [← e]; simp)
      exact ⟨y, t, e2, z⟩
/-- the letters of a text -/
def letters (x : Str) : List Str := x.cps.toList.map sing
theorem gives_str {x : Str} {t : Tok} : Gives P w E s (.str x t) "str" (letters x) where
  ty := fun s1 _ => typeIs_str _ _ _
  no1 := PySem.F.sub_str_set
  no2 := PySem.F.sub_str_frozenset
  no3 := by decide
  it := fun A s1 Q hh k q => by
    refine wpAny_pyIter_str fun o St W st => q o [s1.heap.objs.size] St (SignAt x) (fun B hB => ?_) (fun b hb => .inl (List.mem_singleton.mp hb)) (fun i v e => ?_) st
    · have hz : (letters x).length = x.cps.size := by unfold letters; rw [List.length_map, Array.length_toList]
      rw [hz]
      exact W B hB
    · obtain ⟨c, u, e1, e2⟩ := e
      refine ⟨sing c, u, ?_, e2⟩
      unfold letters
      rw [List.getElem?_map, Array.getElem?_toList, e1]
      rfl
/-- a row of texts that has all of l, and is no longer -/
theorem perm_s : ∀ (l ys : List Str), l.Nodup → (∀ x ∈ l, x ∈ ys) → ys.length ≤ l.length → ys.Perm l
  | [], ys, _, _, h => by
    cases ys with
    | nil => exact .nil
    | cons y r => simp at h
  | x :: l, ys, nd, hs, h => by
    obtain ⟨n1, n2⟩ := List.nodup_cons.mp nd
    have hx := hs x List.mem_cons_self
    have le : (ys.erase x).length ≤ l.length := by
      rw [List.length_erase_of_mem hx]
      rw [List.length_cons] at h
      omega
    refine (List.perm_cons_erase hx).trans ((perm_s l (ys.erase x) n2 (fun y hy => ?_) le).cons x)
    exact (List.mem_erase_of_ne (fun e : y = x => n1 (e ▸ hy))).mpr (hs y (List.mem_cons_of_mem _ hy))
def textOf : Value → Str
  | .str x _ => x
  | _ => Str.empty
theorem strs_map : ∀ vs : List Value, (∀ v ∈ vs, ∃ x t, v = .str x t) → StrsAre vs (vs.map textOf)
  | [], _ => .nil
  | v :: vs, h => by
    obtain ⟨x, t, rfl⟩ := h v List.mem_cons_self
    exact .cons x t (strs_map vs fun u hu => h u (List.mem_cons_of_mem _ hu))
/-- sorted(set) -/
theorem sorted_s {a : Addr} {l : List Str} {Q : Value → Shared → Prop} (R : SetS P w s.heap a l) (hh : A.handled = none) (hb : l.length < scanBound)
    (q : ∀ s' p (out : Array Value) (c : Nat) (ys : List Str), (∀ b o, s.heap.get? b = some o → s'.heap.get? b = some o) → s'.gens = s.gens → s'.os = s.os → s.heap.objs.size ≤ p →
      s'.heap.get? p = some (seqObj "list" out c) → StrsAre out.toList ys → ys.Perm l → sortedS ys = true → Q (.ref p) s') :
    wpAny (model P w) A (call (.builtin "sorted") [.ref a]) Q E s := by
  obtain ⟨D, ho, td, F, nd⟩ := R
  refine Calls.call_function_entry kind_sorted plain_sorted entry_sorted (args_sorted1 _) ?_
  unfold Builtin.«sorted»
  refine wpAny_bind (m := checkCount "sorted" 1 1 _) (wpAny_pure ?_)
  have sz : D.1.size = l.length := F.sz
  refine wpAny_bind (collect_set (A := A.in1) hh ⟨_, ho, rfl, rfl⟩ F.fit (by rw [sz]; exact hb) td.1 td.2 fun s1 vs k1 z1 g1 o1 pm => ?_)
  have sv : ∀ v ∈ vs, ∃ x t, v = .str x t ∧ ∃ e ∈ D.1.toList, e.2 = v := fun v hv => by
    obtain ⟨e, he, e2⟩ := List.mem_map.mp (pm.mem_iff.mp hv)
    obtain ⟨⟨k, hk, _⟩, _⟩ := F.el e he
    obtain ⟨t, z⟩ := Value.isStrOf_shape (x := k) (v := e.2) hk
    exact ⟨k, t, e2.symm.trans z, e, he, e2⟩
  have hS : StrsAre vs (vs.map textOf) := strs_map vs fun v hv => let ⟨x, t, z, _⟩ := sv v hv; ⟨x, t, z⟩
  have hlen : vs.length = l.length := by rw [pm.length_eq, List.length_map, Array.length_toList]; exact sz
  have hp : (vs.map textOf).Perm l := perm_s l _ nd (fun x hx => by
    obtain ⟨e, he, z⟩ := (F.mem x).mp hx
    obtain ⟨t, z2⟩ := Value.isStrOf_shape (x := x) (v := e.2) z
    exact List.mem_map.mpr ⟨e.2, pm.mem_iff.mpr (List.mem_map.mpr ⟨e, he, rfl⟩), by rw [z2]; rfl⟩) (by rw [List.length_map]; omega)
  have fit : vs.length ≤ sizeLine := by rw [hlen]; exact fits_of_scanBound hb
  refine wpAny_bind (wpAny_newList ?_ fit)
  have hoL : (s1.heap.push (seqObj "list" vs.toArray 0)).get? s1.heap.objs.size = some (seqObj "list" vs.toArray 0) := Heap.get?_push_size _ rfl
  refine wpAny_bind (wpAny_holding (wpAny_call_entry slot_list_sort ⟨_, hoL, rfl⟩ entry_list_sort
    (list_sort_treeKAny strKind_oneLt hoL hS.keysOf (fun v₁ v₂ rest e => keyKind_strs (by rw [← e]; exact hS)) fit fun st a1 a2 => ⟨_, rfl, ?_⟩) (args_list_sort _)))
  obtain ⟨ys, b1, b2, b3⟩ := sorted_out_str hS a1 a2
  obtain ⟨c, hc⟩ := sortedHeap_at (vs := vs) (out := (arrOf st).map (·.2)) hoL
  refine wpAny_pure ⟨_, rfl, q _ s1.heap.objs.size _ c ys (fun b u e => ?_) g1 o1 z1 hc b1 (b2.trans hp) b3⟩
  have e1 := k1 b u e
  have lt := Heap.lt_size e1
  have e2 := sortedHeap_old (h := s1.heap.push (seqObj "list" vs.toArray 0)) (a := s1.heap.objs.size) (vs := vs) (out := (arrOf st).map (·.2)) (b := b) (Nat.ne_of_lt lt) (by rw [size_push']; exact Nat.lt_succ_of_lt lt)
  exact e2.trans (Heap.get?_push_of_some _ e1)
/-- len(set) -/
theorem len_s {a : Addr} {l : List Str} {Q : Value → Shared → Prop} (R : SetS P w s.heap a l) (hb : l.length < scanBound) (q : Q (.int l.length (s.toks + 1)) { s with toks := s.toks + 1 + 1 }) :
    wpAny (model P w) A (call (.builtin "len") [.ref a]) Q E s := by
  obtain ⟨D, ho, td, F, nd⟩ := R
  have sz : D.1.size = l.length := F.sz
  refine call_len_set ho ⟨rfl, rfl, rfl⟩ rfl F.fit ?_ (by rw [sz]; exact q)
  rw [sz]
  have : (l.length : Int) < 4096 := by unfold scanBound at hb; omega
  exact Int.lt_of_lt_of_le this (by decide +kernel)
/-- x in set -/
theorem in_s {a : Addr} {l : List Str} (R : SetS P w s.heap a l) (hb : l.length < scanBound) : s.heap.SetOf (PySem.strKind P w) a (fun k => decide (k ∈ l)) l.length := by
  obtain ⟨D, ho, td, F, nd⟩ := R
  exact ⟨_, D.1, D.2.1, D.2.2, ho, ⟨rfl, rfl, rfl⟩, rfl, F.el, fun k => by rw [decide_eq_true_eq]; exact F.mem k, by rw [show D.1.size = l.length from F.sz]; exact hb, F.fit, F.sz⟩
end
end Own

namespace Own
open PySem PySem.Spec L2 PyProof.Rows PySem.Froz
/-- a set of texts on the tracked heap -/
def SetT (P : Program) (w : World) (a : Addr) (l : List Str) : HO := .ext fun h => SetS P w h a l
theorem setT_ok {P : Program} {w : World} {H : Hp} {h : Heap} {a : Addr} {l : List Str} (R : SetS P w h a l) : ObjOk P w H h a (SetT P w a l) := by
  have ⟨D, e, _⟩ := R
  exact ⟨R, ⟨_, e⟩, fun h1 h2 p k => SetS.at p k⟩
/-- what gives the texts xs: a list, a tuple, a text letter by letter -/
inductive Texts (K : PySem.W.Frag) (H : Hp) : V → List Str → Prop
  | list {a xs} : SqL K H a (xs.map V.str) → Texts K H (.ref a) xs
  | tup {a xs} : SqT K H a (xs.map V.str) → Texts K H (.ref a) xs
  | text (y : Str) : Texts K H (.str y) (letters y)
def rSetT (P : Program) (w : World) (K : PySem.W.Frag) : List V → Hp → VK → Prop := fun vs H Q => ∃ x xs, vs = [x] ∧ Texts K H x xs ∧ xs.length + 1 < scanBound ∧
  ∀ (p : Addr) (l : List Str), H p = none → l.Nodup → (∀ y, y ∈ l ↔ y ∈ xs) → l.length ≤ xs.length → Q (.ref p) (upd H p (SetT P w p l))
def rSortT (P : Program) (w : World) : List V → Hp → VK → Prop := fun vs H Q => ∃ (a : Addr) (l : List Str), vs = [.ref a] ∧ H a = some (SetT P w a l) ∧ l.length < scanBound ∧
  ∀ (p : Addr) (ys : List Str), H p = none → ys.Perm l → sortedS ys = true → Q (.ref p) (upd H p (.lst (ys.map V.str)))
def rLenT (P : Program) (w : World) : List V → Hp → VK → Prop := fun vs H Q => ∃ (a : Addr) (l : List Str), vs = [.ref a] ∧ H a = some (SetT P w a l) ∧ l.length < scanBound ∧ Q (.int l.length) H
theorem SetS.nodup {P : Program} {w : World} {h : Heap} {a : Addr} {l : List Str} (R : SetS P w h a l) : l.Nodup := by
  obtain ⟨_, _, _, _, nd⟩ := R
  exact nd
section
variable {X : Cx}
theorem setT_at {pins : List (Addr × Obj)} {σ : L2.St} {H : Hp} {s : Shared} {a : Addr} {l : List Str} (I : Inv X pins σ H s) (ha : H a = some (SetT X.prog X.w a l)) : SetS X.prog X.w s.heap a l := (I.hok a _ ha).1
theorem IsTup.isTuple {h : Heap} {a : Addr} {items : Array Value} (e : IsTup h a items) : h.IsTuple a items := e
theorem cr_setT (hc : X.calm = true) : CallR X (.type "set") (rSetT X.prog X.w X.K) := by
  intro pins s σ H vs us Q I r h
  obtain ⟨x, xs, rfl, tx, hb, q⟩ := h
  obtain ⟨u, rfl, rx⟩ := vals1 r
  have go : ∀ T, Gives X.prog X.w X.xe s u T xs → wpAny (model X.prog X.w) X.A (call (.type "set") [u]) (EP X pins σ Q) X.xe s := fun T g =>
    call_setG g (I.ok.hd hc) hb fun h' tk l k S hm hl =>
      ⟨.ref _, upd H s.heap.objs.size (SetT X.prog X.w s.heap.objs.size l), I.laid (t' := tk) k (Nat.le_refl _) (setT_ok S), rfl, q _ l (I.hok.fresh (Nat.le_refl _)) S.nodup hm hl⟩
  cases tx with
  | list hs =>
    obtain ⟨its, rv, hl, _⟩ := I.list hs
    cases rx
    exact go _ (gives_list hl.isList rv.strs)
  | tup hs =>
    obtain ⟨its, rv, hl, _⟩ := I.tuple hs
    cases rx
    exact go _ (gives_tup (IsTup.isTuple hl) rv.strs)
  | text y =>
    obtain ⟨t, rfl⟩ := rx
    exact go _ gives_str
theorem cr_sortT (hc : X.calm = true) : CallR X (.builtin "sorted") (rSortT X.prog X.w) := by
  intro pins s σ H vs us Q I r h
  obtain ⟨a, l, rfl, ha, hb, q⟩ := h
  rw [Vals.ref1 r]
  refine sorted_s (setT_at I ha) (I.ok.hd hc) hb fun s' p out c ys k g o hp hg hi pm hs => ?_
  have hz : (ys.map V.str).length ≤ sizeLine := by rw [List.length_map, pm.length_eq]; exact fits_of_scanBound hb
  have hn : H p = none := I.hok.fresh hp
  have J : Inv X pins σ (upd H p (.lst (ys.map V.str))) { s with heap := s'.heap, gens := s'.gens, drawn := s'.drawn, toks := s'.toks } :=
    I.call (ch := []) (Un.laid k hp hn) (I.hok.laid k hp ⟨hz, out.toList, c, vals_of_strs hi, hg⟩) (by rw [g]; exact I.bare) (fun _ z => nomatch z)
  have e : s' = { s with heap := s'.heap, gens := s'.gens, drawn := s'.drawn, toks := s'.toks } := by
    obtain ⟨_, _, _, _, _⟩ := s'
    obtain ⟨_, _, _, _, _⟩ := s
    cases o
    rfl
  rw [e]
  exact ⟨.ref p, _, J, rfl, q p ys hn pm hs⟩
theorem cr_lenT : CallR X (.builtin "len") (rLenT X.prog X.w) := by
  intro pins s σ H vs us Q I r h
  obtain ⟨a, l, rfl, ha, hb, q⟩ := h
  rw [Vals.ref1 r]
  exact len_s (setT_at I ha) hb ⟨.int l.length, H, I.tok _, ⟨_, rfl⟩, q⟩
/-- a text in a set, or not in it -/
def rInT (P : Program) (w : World) (f : Bool → Bool) : V → V → Hp → VK → Prop := fun x y H Q => ∃ (k : Str) (a : Addr) (l : List Str), x = .str k ∧ y = .ref a ∧ H a = some (SetT P w a l) ∧ l.length < scanBound ∧ Q (.bl (f (decide (k ∈ l)))) H
theorem or_inT : OpR X (compareOp .In) (rInT X.prog X.w id) := by
  intro pins s σ H x y v u Q I rx ry h
  obtain ⟨k, a, l, rfl, rfl, ha, hb, q⟩ := h
  obtain ⟨t, rfl⟩ := rx
  cases ry
  exact wpAny_inSet_of (knd := PySem.strKind X.prog X.w) (k := k) (is_str k t) rfl (in_s (setT_at I ha) hb) ⟨.bl _, H, I.tok _, rfl, q⟩
theorem or_notinT : OpR X (compareOp .NotIn) (rInT X.prog X.w not) := by
  intro pins s σ H x y v u Q I rx ry h
  obtain ⟨k, a, l, rfl, rfl, ha, hb, q⟩ := h
  obtain ⟨t, rfl⟩ := rx
  cases ry
  exact wpAny_notInSet_of (knd := PySem.strKind X.prog X.w) (k := k) (is_str k t) rfl (in_s (setT_at I ha) hb) ⟨.bl _, H, I.tok _, rfl, q⟩
end
end Own

/-! sorted(text) -/
namespace Own
open PySem PySem.Spec L2 PyProof.Rows PySem.Froz
theorem items_letters {x : Str} {acc : Array Value} (h : ItemsOf (SignAt x) acc x.cps.size) : StrsAre acc.toList (letters x) := by
  obtain ⟨hz, hv⟩ := h
  have g : ∀ v ∈ acc.toList, ∃ y t, v = .str y t := fun v m => by
    obtain ⟨j, hj⟩ := List.getElem?_of_mem m
    rw [Array.getElem?_toList] at hj
    obtain ⟨c, u, _, e⟩ := hv j v hj
    exact ⟨_, u, e⟩
  have e : acc.toList.map textOf = letters x := by
    refine List.ext_getElem? fun j => ?_
    unfold letters
    rw [List.getElem?_map, List.getElem?_map, Array.getElem?_toList, Array.getElem?_toList]
    cases h : acc[j]? with
    | none =>
      have : x.cps.size ≤ j := by
        rw [← hz]
        exact Array.getElem?_eq_none_iff.mp h
      rw [Array.getElem?_eq_none_iff.mpr this]
      rfl
    | some v =>
      obtain ⟨c, u, e1, e2⟩ := hv j v h
      rw [e1, e2]
      rfl
  rw [← e]
  exact strs_map _ g
section
variable {P : Program} {w : World} {A : Around} {E : Value → Shared → Prop} {s : Shared}
theorem sorted_text {x : Str} {t : Tok} {Q : Value → Shared → Prop} (hh : A.handled = none) (hz : x.cps.size ≤ sizeLine)
    (q : ∀ (s1 s' : Shared) (p : Addr) (out : Array Value) (c : Nat) (ys : List Str), (∀ b o, s.heap.get? b = some o → s1.heap.get? b = some o) → (∀ b o, s1.heap.get? b = some o → s'.heap.get? b = some o) → s'.gens = s.gens → s'.os = s.os → s1.heap.objs.size ≤ p →
      s'.heap.get? p = some (seqObj "list" out c) → StrsAre out.toList ys → ys.Perm (letters x) → sortedS ys = true → Q (.ref p) s') :
    wpAny (model P w) A (call (.builtin "sorted") [.str x t]) Q E s := by
  refine Calls.call_function_entry kind_sorted plain_sorted entry_sorted (args_sorted1 _) ?_
  unfold Builtin.«sorted»
  refine wpAny_bind (m := checkCount "sorted" 1 1 _) (wpAny_pure ?_)
  refine wpAny_bind (wpAny_collect_str (A := A.in1) hh x t (fun s1 acc k1 g1 _ o1 it => ?_) hz)
  have hS := items_letters it
  have len : acc.toList.length = x.cps.size := by rw [hS.length]; unfold letters; rw [List.length_map, Array.length_toList]
  refine wpAny_bind (wpAny_newList ?_ (by rw [len]; exact hz))
  have hoL : (s1.heap.push (seqObj "list" acc.toList.toArray 0)).get? s1.heap.objs.size = some (seqObj "list" acc.toList.toArray 0) := Heap.get?_push_size _ rfl
  refine wpAny_bind (wpAny_holding (wpAny_call_entry slot_list_sort ⟨_, hoL, rfl⟩ entry_list_sort
    (list_sort_treeKAny strKind_oneLt hoL hS.keysOf (fun v₁ v₂ rest e => keyKind_strs (by rw [← e]; exact hS)) (by rw [len]; exact hz) fun st a1 a2 => ⟨_, rfl, ?_⟩) (args_list_sort _)))
  obtain ⟨ys, b1, b2, b3⟩ := sorted_out_str hS a1 a2
  obtain ⟨c, hc⟩ := sortedHeap_at (vs := acc.toList) (out := (arrOf st).map (·.2)) hoL
  refine wpAny_pure ⟨_, rfl, q s1 _ s1.heap.objs.size _ c ys k1 (fun b u e1 => ?_) g1 o1 (Nat.le_refl _) hc b1 b2 b3⟩
  · have lt := Heap.lt_size e1
    exact (sortedHeap_old (h := s1.heap.push (seqObj "list" acc.toList.toArray 0)) (a := s1.heap.objs.size) (vs := acc.toList) (out := (arrOf st).map (·.2)) (b := b) (Nat.ne_of_lt lt) (by rw [size_push']; exact Nat.lt_succ_of_lt lt)).trans (Heap.get?_push_of_some _ e1)
/-- sorted(text) -/
def rSortX : List V → Hp → VK → Prop := fun vs H Q => ∃ y : Str, vs = [.str y] ∧ y.cps.size ≤ sizeLine ∧ ∀ (p : Addr) (ys : List Str), H p = none → ys.Perm (letters y) → sortedS ys = true → Q (.ref p) (upd H p (.lst (ys.map V.str)))
theorem cr_sortX {X : Cx} (hc : X.calm = true) : CallR X (.builtin "sorted") rSortX := by
  intro pins s σ H vs us Q I r h
  obtain ⟨y, rfl, hz, q⟩ := h
  obtain ⟨u, rfl, t, rfl⟩ := vals1 r
  refine sorted_text (I.ok.hd hc) hz fun s1 s' p out c ys k1 k2 g o hp hg hi pm hs => ?_
  have I1 := I.kept (h' := s1.heap) (t' := s'.toks) k1
  have lz : (ys.map V.str).length ≤ sizeLine := by rw [List.length_map, pm.length_eq]; unfold letters; rw [List.length_map, Array.length_toList]; exact hz
  have hn : H p = none := I1.hok.fresh hp
  have J := I1.call (h' := s'.heap) (g' := s'.gens) (d' := s'.drawn) (t' := s'.toks) (H' := upd H p (.lst (ys.map V.str))) (ch := []) (Un.laid k2 hp hn) (I1.hok.laid k2 hp ⟨lz, out.toList, c, vals_of_strs hi, hg⟩) (by rw [g]; exact I.bare) (fun _ z => nomatch z)
  have e : s' = { s with heap := s'.heap, gens := s'.gens, drawn := s'.drawn, toks := s'.toks } := by
    obtain ⟨_, _, _, _, _⟩ := s'
    obtain ⟨_, _, _, _, _⟩ := s
    cases o
    rfl
  rw [e]
  exact ⟨.ref p, _, J, rfl, q p ys hn pm hs⟩
end
end Own

/-! list(text) -/
namespace Own
open PySem PySem.Spec L2 PyProof.Rows PySem.Froz
def rListX : List V → Hp → VK → Prop := fun vs H Q => ∃ y : Str, vs = [.str y] ∧ y.cps.size ≤ sizeLine ∧ ∀ p : Addr, H p = none → Q (.ref p) (upd H p (.lst ((letters y).map V.str)))
theorem cr_listX {X : Cx} (hc : X.calm = true) : CallR X (.type "list") rListX := by
  intro pins s σ H vs us Q I r h
  obtain ⟨y, rfl, hz, q⟩ := h
  obtain ⟨u, rfl, t, rfl⟩ := vals1 r
  refine call_list_str (I.ok.hd hc) y t (fun h' tk acc c k g it => ?_) hz
  have lz : ((letters y).map V.str).length ≤ sizeLine := by rw [List.length_map]; unfold letters; rw [List.length_map, Array.length_toList]; exact hz
  exact ⟨.ref s.heap.objs.size, _, I.laid (t' := tk) k (Nat.le_refl _) (show ObjOk X.prog X.w _ h' _ (.lst _) from ⟨lz, acc.toList, c, vals_of_strs (items_letters it), by simpa using g⟩), rfl, q _ (I.hok.fresh (Nat.le_refl _))⟩
end Own

/-! *text in a display -/
namespace Own
open PySem PySem.Spec L2 PyProof.Rows PySem.Froz
def tStarT (te : TE) (t : TA) : TA := fun σ H Q => te σ H fun x H1 => ∃ y : Str, x = V.str y ∧ y.cps.size ≤ sizeLine ∧ t σ H1 fun ys H2 => Q ((letters y).map V.str ++ ys) H2
section
variable {X : Cx}
theorem star_txt {pins : List (Addr × Obj)} {σ : L2.St} {H : Hp} {s : Shared} {y : Str} {t : Tok} {E : Value → Shared → Prop} {Q : List Value → Shared → Prop} (hc : X.calm = true) (I : Inv X pins σ H s) (hz : y.cps.size ≤ sizeLine) (hQ : ∀ us s', Inv X pins σ H s' → Vals ((letters y).map V.str) us → Q us s') : PySem.W.StarOf (model X.prog X.w) X.A E (.str y t) Q s := by
  have hT : s.TypeIs (.str y t) "str" := rfl
  unfold PySem.W.StarOf notIterableAtAll
  refine wpAny_bind (wpAny_specialOf (T := "str") (v := .str y t) rfl PySem.F.slot_str_iter.lookup (wpAny_pure ⟨rfl, ?_⟩))
  refine PySem.wpAny_collect_str (I.ok.hd hc) y t (fun s' acc k g d o it => ?_) hz
  obtain ⟨h', g', d', t', o'⟩ := s'
  cases g
  cases d
  cases o
  exact hQ _ _ (I.kept (t' := t') k) (vals_of_strs (items_letters it))
theorem pa_starT {e : Expr} {es : List Expr} {te : TE} {t : TA} {p : Pos} (hc : X.calm = true) (he : PE X e te) (hr : PA X es t) (hs : starEach (.Starred e p :: es) X.env = (true, eval e X.env) :: starEach es X.env := by rfl) : PA X (.Starred e p :: es) (tStarT te t) := by
  refine ⟨fun pos pins s σ H Q I h => ?_⟩
  refine PySem.W.items_star (thn (he.run pins s σ H _ I h) fun v s1 ⟨x, H1, I1, rx, y, ey, hz, q⟩ => ?_) hs
  subst ey
  obtain ⟨tk, rfl⟩ := rx
  refine star_txt hc I1 hz fun us s2 I2 rv => ?_
  exact thn (hr.run pos pins s2 σ H1 _ I2 q) fun ws s3 ⟨vs, H3, I3, r3, q3⟩ => ⟨(letters y).map V.str ++ vs, H3, I3, rv.append r3, q3⟩
end
end Own

namespace Kx
open PySem L2 Own
/-- a column, and what it takes, puts, weighs -/
def ColIs (R : List Ed) (v : V) (e : Ed) : Prop := (∃ c : Str, v = .str c ∧ e = (c, c, 0)) ∨ ∃ j : Nat, v = .int j ∧ R[j]? = some e
structure TxtZm (K : PySem.W.Frag) (mg : Str → Option Value) (Z : ZAd) : Prop where
  zz : TxtZ K mg Z
  M_side : Meth K Z.C "side" Z.fs
  F_side : Fun K "side" "Edits.side" s_eside Z.fs Z.ds
  b_side : Binds K Z.ds ["self", "column"] []
  M_all : Meth K Z.C "all_columns" Z.fa
  F_all : Fun K "all_columns" "Edits.all_columns" s_eall Z.fa Z.da
  b_all : Binds K Z.da ["self"] []
  n_isinstance : mg "isinstance" = none
  n_str : mg "str" = none
  n_list : mg "list" = none
  n_range : mg "range" = none
  n_len : mg "len" = none
section
variable {P : Program} {w : World} {K : PySem.W.Frag} {mg : Str → Option Value} {base : Heap} {B : EdAd} {Z : ZAd}
def spSd (Z : ZAd) : Sp := fun vs H Q _ => ∃ (m : Addr) (sg : Str) (R : List Ed) (v : V) (e : Ed), vs = [.ref m, v] ∧ EdAt Z.C H m sg R ∧ ColIs R v e ∧ ∀ x H', Same H H' → EdT H' x e → Q x H'
theorem sc_eside : FnScope ["self", "column"] ["self", "column"] (defScope s_eside) := ⟨rfl, rfl, rfl, by decide +kernel, rfl, by decide +kernel, by decide +kernel⟩
theorem ok_eside (T : TxtZm K mg Z) : FnOk P w K mg base CX0 1 Z.fs Z.ds ["self", "column"] (spSd Z) := by
  have sc := sc_eside
  refine T.F_side.ok sc (fun vs H Q E h => ?_) (fun cdv A1 outer s H vs Q E hr h => ?_)
  · obtain ⟨_, _, _, _, _, rfl, _⟩ := h; rfl
  · obtain ⟨m, sg, R, v, e, rfl, at0, ci, k⟩ := h
    refine ⟨_, (pss_cons (ps_if (pt_val (pe_callB call_isi (by rfl) T.n_isinstance (by decide +kernel) (pa_cons (pv 1) (pa_cons (pe_bltn (v := .ty "str") rfl T.n_str (by decide +kernel) rfl) pa_nil)))) (pss_one (ps_ret (pe_tup (pa_cons (pv 1) (pa_cons (pv 1) (pa_cons pe_int pa_nil)))))) pss_nil)
      (pss_one (ps_ret (pe_ix ix_tup (pe_fld (pv 0) rfl) (pv 1) (fun _ _ => rfl))))), ?_⟩
    rcases ci with ⟨c, rfl, rfl⟩ | ⟨j, rfl, hj⟩
    · refine ⟨_, rfl, _, _, _, _, true, rfl, ClsV.ty _, .base (.str c), kit_ty (by decide +kernel), _, rfl, iteT ?_⟩
      refine ⟨_, rfl, _, rfl, by show 3 ≤ sizeLine; decide, fun q hq => ?_⟩
      exact k _ _ (Same.upd hq) ⟨q, rfl, upd_same⟩
    · refine ⟨_, rfl, _, _, _, _, false, rfl, ClsV.ty _, .base (.int j), kit_ty (by decide +kernel), _, rfl, iteF ?_⟩
      obtain ⟨dx, r, rv, h1, h2, h3⟩ := at0
      have jl : j < R.length := (List.getElem?_eq_some_iff.mp hj).1
      have lR : rv.length = R.length := Paired.length h3
      have hv : rv[j]? = some (rv[j]'(by omega)) := List.getElem?_eq_getElem (by omega)
      obtain ⟨e', he', et⟩ := pat h3 hv
      rw [hj] at he'
      obtain rfl := Option.some.inj he'
      refine ⟨_, rfl, m, Z.C, dx, _, _, rfl, h1, T.zz.cl, T.zz.a2, rfl, _, rfl, r, rv, _, _, rfl, rfl, SqT.of h2, atI_nat hv, ?_⟩
      exact k _ _ (Same.refl _) et
/-- the columns of edits over signs: the signs, and the places of the rows -/
def colsV (sg : Str) (R : List Ed) : List V := (letters sg).map V.str ++ (List.range R.length).map fun i => V.int (i : Nat)
def spAll (Z : ZAd) : Sp := fun vs H Q _ => ∃ (m : Addr) (sg : Str) (R : List Ed), vs = [.ref m] ∧ EdAt Z.C H m sg R ∧ sg.cps.size ≤ 26 ∧ R.length ≤ 24 ∧ ∀ t H', H t = none → Same H H' → H' t = some (.tup (colsV sg R)) → Q (.ref t) H'
theorem sc_eall : FnScope ["self"] ["self"] (defScope s_eall) := ⟨rfl, rfl, rfl, by decide +kernel, rfl, by decide +kernel, by decide +kernel⟩
theorem ok_eall (T : TxtZm K mg Z) : FnOk P w K mg base CX0 1 Z.fa Z.da ["self"] (spAll Z) := by
  have sc := sc_eall
  refine T.F_all.ok sc (fun vs H Q E h => ?_) (fun cdv A1 outer s H vs Q E hr h => ?_)
  · obtain ⟨_, _, _, rfl, _⟩ := h; rfl
  · obtain ⟨m, sg, R, rfl, at0, sz, rl, k⟩ := h
    refine ⟨_, (pss_one (ps_ret (pe_tup (pa_starT rfl (pe_fld (pv 0) rfl) (StX.pa_star (pe_listRg rfl (by rfl) T.n_list (prg_1 (by rfl) T.n_range (pe_callB call_len (by rfl) T.n_len (by decide +kernel) (pa_cons (pe_fld (pv 0) rfl) pa_nil)))) pa_nil))))), ?_⟩
    obtain ⟨dx, r, rv, h1, h2, h3⟩ := at0
    have lR : rv.length = R.length := Paired.length h3
    refine ⟨_, rfl, m, Z.C, dx, _, _, rfl, h1, T.zz.cl, T.zz.a1, rfl, sg, rfl, by rw [sizeLine_eq]; omega, ?_⟩
    refine ⟨_, rfl, m, Z.C, dx, _, _, rfl, h1, T.zz.cl, T.zz.a2, rfl, .ref r, rv.length, rfl, .inr ⟨_, SqT.of h2, rfl⟩, _, rfl, RgOk.of_le (by omega) (by omega) (by omega) (by omega), fun q hq => ?_⟩
    have er : rgV 0 (rv.length : Nat) = (List.range R.length).map fun i => V.int (i : Nat) := by
      unfold rgV
      rw [Int.sub_zero, Int.toNat_natCast, lR]
      exact List.map_congr_left fun i _ => by rw [Int.zero_add]
    rw [er]
    refine ⟨q, _, rfl, .inr (SqL.of upd_same), ?_⟩
    show ((letters sg).map V.str ++ ((List.range R.length).map (fun i => V.int (i : Nat)) ++ [])).length ≤ sizeLine ∧ ∀ p : Addr, (upd H q (HO.lst ((List.range R.length).map fun i => V.int (i : Nat)))) p = none → Q (.ref p) (upd _ p (.tup ((letters sg).map V.str ++ ((List.range R.length).map (fun i => V.int (i : Nat)) ++ []))))
    rw [List.append_nil]
    have s1 : Same H (upd H q (HO.lst ((List.range R.length).map fun i => V.int (i : Nat)))) := Same.upd hq
    have lz : (letters sg).length = sg.cps.size := by unfold letters; rw [List.length_map, Array.length_toList]
    exact ⟨by rw [List.length_append, List.length_map, List.length_map, List.length_range, lz, sizeLine_eq]; omega, fun t ht => k t _ (s1.free ht) (s1.trans (Same.upd ht)) upd_same⟩
/-- edits the other way round -/
def flipE (e : Ed) : Ed := (e.2.1, e.1, e.2.2)
theorem OkRows.flip {sg : Str} {R : List Ed} (h : OkRows sg R) : OkRows sg (R.map flipE) := by
  refine ⟨fun e he => ?_, ?_, by rw [List.length_map]; exact h.le⟩
  · obtain ⟨e', h', rfl⟩ := List.mem_map.mp he
    have o := h.ok e' h'
    exact ⟨o.l2, o.l1, o.s2, o.s1, fun y => o.ne y.symm, o.w0, o.w1⟩
  · have e : (R.map flipE).map (fun e => (e.1, e.2.1)) = (R.map fun e => (e.1, e.2.1)).map Prod.swap := by
      rw [List.map_map, List.map_map]
      rfl
    rw [e]
    exact List.Pairwise.map Prod.swap (fun a b hab z => hab (by
      have y := Prod.mk.inj z
      exact Prod.ext y.2 y.1)) h.nd
/-- made anew: all stands, and there are edits -/
theorem ed_made {H1 : Hp} {m dx r : Addr} {sg : Str} {rv : List V} {R : List Ed} {Q : VK} {E : XK} (hm : H1 m = none) (hdx : H1 dx = none) (hr : H1 r = some (.lst rv)) (pr : Paired (EdT H1) rv R) (ok : OkRows sg R)
    (q : ∀ H', Same H1 H' → EdAt Z.C H' m sg R → Q .non H') : spEd Z [.ref m, .str sg, .ref r] (upd (upd H1 dx (.own m)) m (.ins Z.C dx [])) Q E := by
  have s0 : Same H1 (upd (upd H1 dx (.own m)) m (.ins Z.C dx [])) := fun b o z => by
    rw [upd_ne (ne_of_none z hm), upd_ne (ne_of_none z hdx)]
    exact z
  exact ⟨m, dx, r, sg, rv, R, rfl, upd_same, s0 _ _ hr, L2.Paired.mapP pr fun _ _ z => z.keep fun b xs e => s0 _ _ e, ok, fun H' k at' => q H' (fun b o z => k b o (s0 _ _ z) (ne_of_none z hm)) at'⟩
end
end Kx

/-! least weights of walks in a graph whose edges go ahead, found place by place -/
namespace Dag
/-- the least one of some weights, none if there are none -/
def LO (A : Int → Prop) : Option Int → Prop
  | none => ∀ w, ¬ A w
  | some w => A w ∧ ∀ w', A w' → w ≤ w'
theorem LO.to {A B : Int → Prop} {o : Option Int} (h : LO A o) (ab : ∀ w, A w → B w) (ba : ∀ w, B w → ∃ w', w' ≤ w ∧ A w') : LO B o := by
  cases o with
  | none =>
    intro w b
    obtain ⟨w', _, a⟩ := ba w b
    exact h w' a
  | some w =>
    refine ⟨ab w h.1, fun w' b => ?_⟩
    obtain ⟨v, hv, a⟩ := ba w' b
    exact Int.le_trans (h.2 v a) hv
theorem LO.iff {A B : Int → Prop} {o : Option Int} (h : LO A o) (e : ∀ w, A w ↔ B w) : LO B o := h.to (fun w a => (e w).mp a) fun w b => ⟨w, Int.le_refl _, (e w).mpr b⟩
theorem LO.one {A : Int → Prop} {o o' : Option Int} (h : LO A o) (h' : LO A o') : o = o' := by
  cases o with
  | none => cases o' with
    | none => rfl
    | some w' => exact absurd h'.1 (h w')
  | some w => cases o' with
    | none => exact absurd h.1 (h' w)
    | some w' => rw [Int.le_antisymm (h.2 w' h'.1) (h'.2 w h.1)]
/-- one edge tried -/
def relax (b : Int) (wt : Nat → Option Int) (e : Nat × Int) : Nat → Option Int := fun q =>
  if q = e.1 then (match wt q with
    | none => some (b + e.2)
    | some w => if b + e.2 < w then some (b + e.2) else some w) else wt q
variable (E : Nat → List (Nat × Int))
/-- all edges of a place tried -/
def turn (wt : Nat → Option Int) (p : Nat) : Nat → Option Int := match wt p with
  | none => wt
  | some b => (E p).foldl (relax b) wt
def init : Nat → Option Int := fun q => if q = 0 then some 0 else none
def run : Nat → Nat → Option Int
  | 0 => init
  | n + 1 => turn E (run n) n
inductive Walk : Nat → Int → Prop
  | start : Walk 0 0
  | step {p q : Nat} {w c : Int} : Walk p w → (q, c) ∈ E p → Walk q (w + c)
variable {E}
theorem relax_LO {A : Nat → Int → Prop} {b : Int} {wt : Nat → Option Int} {e : Nat × Int} (h : ∀ q, LO (A q) (wt q)) : ∀ q, LO (fun w => A q w ∨ (q = e.1 ∧ w = b + e.2)) (relax b wt e q) := fun q => by
  have hq := h q
  unfold relax
  by_cases c : q = e.1
  · rw [if_pos c]
    cases hw : wt q with
    | none =>
      rw [hw] at hq
      refine ⟨.inr ⟨c, rfl⟩, fun w' a => ?_⟩
      rcases a with a | ⟨_, rfl⟩
      · exact absurd a (hq w')
      · exact Int.le_refl _
    | some w =>
      rw [hw] at hq
      dsimp only
      by_cases l : b + e.2 < w
      · rw [if_pos l]
        refine ⟨.inr ⟨c, rfl⟩, fun w' a => ?_⟩
        rcases a with a | ⟨_, rfl⟩
        · have := hq.2 w' a; omega
        · exact Int.le_refl _
      · rw [if_neg l]
        refine ⟨.inl hq.1, fun w' a => ?_⟩
        rcases a with a | ⟨_, rfl⟩
        · exact hq.2 w' a
        · omega
  · rw [if_neg c]
    exact hq.iff fun w => ⟨.inl, fun a => a.resolve_right fun z => c z.1⟩
theorem fold_LO {b : Int} : ∀ (L : List (Nat × Int)) {A : Nat → Int → Prop} {wt : Nat → Option Int}, (∀ q, LO (A q) (wt q)) → ∀ q, LO (fun w => A q w ∨ ∃ c, (q, c) ∈ L ∧ w = b + c) (L.foldl (relax b) wt q)
  | [], A, wt, h, q => (h q).iff fun w => ⟨.inl, fun a => a.resolve_right fun ⟨_, z, _⟩ => nomatch z⟩
  | e :: L, A, wt, h, q => (fold_LO L (relax_LO (e := e) h) q).iff fun w => by
    constructor
    · rintro ((a | ⟨rfl, rfl⟩) | ⟨c, hc, rfl⟩)
      · exact .inl a
      · exact .inr ⟨e.2, List.mem_cons_self, rfl⟩
      · exact .inr ⟨c, List.mem_cons_of_mem _ hc, rfl⟩
    · rintro (a | ⟨c, hc, rfl⟩)
      · exact .inl (.inl a)
      · rcases List.mem_cons.mp hc with z | hc
        · exact .inl (.inr (by rw [← z]; exact ⟨rfl, rfl⟩))
        · exact .inr ⟨c, hc, rfl⟩
/-- walks whose last edge comes from a place below n -/
def Wb (E : Nat → List (Nat × Int)) (n q : Nat) (w : Int) : Prop := (q = 0 ∧ w = 0) ∨ ∃ p c w', p < n ∧ Walk E p w' ∧ (q, c) ∈ E p ∧ w = w' + c
theorem run_Wb (fw : ∀ p q c, (q, c) ∈ E p → p < q) : ∀ n q, LO (Wb E n q) (run E n q)
  | 0, q => by
    show LO _ (init q)
    unfold init
    by_cases h : q = 0
    · rw [if_pos h]
      refine ⟨.inl ⟨h, rfl⟩, fun w' a => ?_⟩
      rcases a with ⟨_, rfl⟩ | ⟨p, _, _, hp, _⟩
      · exact Int.le_refl _
      · omega
    · rw [if_neg h]
      rintro w (⟨z, _⟩ | ⟨p, _, _, hp, _⟩)
      · exact h z
      · omega
  | n + 1, q => by
    have ih := run_Wb fw n
    have wn : ∀ w, Wb E n n w ↔ Walk E n w := fun w => by
      constructor
      · rintro (⟨rfl, rfl⟩ | ⟨p, c, w', hp, hw, he, rfl⟩)
        · exact .start
        · exact .step hw he
      · intro h
        cases h with
        | start => exact .inl ⟨rfl, rfl⟩
        | step hw he => exact .inr ⟨_, _, _, fw _ _ _ he, hw, he, rfl⟩
    show LO _ (turn E (run E n) n q)
    unfold turn
    have hn := (ih n).iff wn
    cases hb : run E n n with
    | none =>
      rw [hb] at hn
      refine (ih q).iff fun w => ⟨fun a => ?_, fun a => ?_⟩
      · rcases a with a | ⟨p, c, w', hp, r⟩
        · exact .inl a
        · exact .inr ⟨p, c, w', by omega, r⟩
      · rcases a with a | ⟨p, c, w', hp, hw, he, r⟩
        · exact .inl a
        · by_cases z : p = n
          · rw [z] at hw
            exact absurd hw (hn w')
          · exact .inr ⟨p, c, w', by omega, hw, he, r⟩
    | some b =>
      rw [hb] at hn
      refine (fold_LO (b := b) (E n) ih q).to (fun w a => ?_) fun w a => ?_
      · rcases a with (a | ⟨p, c, w', hp, r⟩) | ⟨c, hc, rfl⟩
        · exact .inl a
        · exact .inr ⟨p, c, w', by omega, r⟩
        · exact .inr ⟨n, c, b, by omega, hn.1, hc, rfl⟩
      · rcases a with a | ⟨p, c, w', hp, hw, he, rfl⟩
        · exact ⟨w, Int.le_refl _, .inl (.inl a)⟩
        · by_cases z : p = n
          · subst z
            have := hn.2 w' hw
            exact ⟨b + c, by omega, .inr ⟨c, he, rfl⟩⟩
          · exact ⟨w' + c, Int.le_refl _, .inl (.inr ⟨p, c, w', by omega, hw, he, rfl⟩)⟩
/-- all places up to q tried: the least weight of all walks to q -/
theorem run_least (fw : ∀ p q c, (q, c) ∈ E p → p < q) {n q : Nat} (h : q ≤ n) : LO (Walk E q) (run E n q) := (run_Wb fw n q).iff fun w => by
  constructor
  · rintro (⟨rfl, rfl⟩ | ⟨p, c, w', _, hw, he, rfl⟩)
    · exact .start
    · exact .step hw he
  · intro z
    cases z with
    | start => exact .inl ⟨rfl, rfl⟩
    | step hw he => exact .inr ⟨_, _, _, by have := fw _ _ _ he; omega, hw, he, rfl⟩
end Dag

/-! rows of columns, and walks over the places of a grid -/
namespace Dag
/-- two texts, made of sides in a row, and what these weigh together -/
inductive Ch (S : List Nat → List Nat → Int → Prop) : List Nat → List Nat → Int → Prop
  | nil : Ch S [] [] 0
  | snoc {xs ys u v : List Nat} {w c : Int} : Ch S xs ys w → S u v c → Ch S (xs ++ u) (ys ++ v) (w + c)
section
variable {S S' : List Nat → List Nat → Int → Prop} {a b a' b' : List Nat} {w w' : Int}
theorem Ch.mono (h : Ch S a b w) (m : ∀ u v c, S u v c → S' u v c) : Ch S' a b w := by
  induction h with
  | nil => exact .nil
  | snoc _ s ih => exact .snoc ih (m _ _ _ s)
theorem Ch.app (h : Ch S a b w) (h' : Ch S a' b' w') : Ch S (a ++ a') (b ++ b') (w + w') := by
  induction h' with
  | nil => rw [List.append_nil, List.append_nil, Int.add_zero]; exact h
  | snoc _ s ih =>
    rw [← List.append_assoc, ← List.append_assoc, ← Int.add_assoc]
    exact .snoc ih s
theorem Ch.flip (h : Ch S a b w) (m : ∀ u v c, S u v c → S' v u c) : Ch S' b a w := by
  induction h with
  | nil => exact .nil
  | snoc _ s ih => exact .snoc ih (m _ _ _ s)
theorem Ch.times {k : Int} (h : Ch S a b w) (m : ∀ u v c, S u v c → S' u v (c * k)) : Ch S' a b (w * k) := by
  induction h with
  | nil => rw [Int.zero_mul]; exact .nil
  | snoc _ s ih => rw [Int.add_mul]; exact .snoc ih (m _ _ _ s)
theorem Ch.untimes {k : Int} (h : Ch S' a b w) (m : ∀ u v c, S' u v c → ∃ c0, S u v c0 ∧ c = c0 * k) : ∃ w0, Ch S a b w0 ∧ w = w0 * k := by
  induction h with
  | nil => exact ⟨0, .nil, by rw [Int.zero_mul]⟩
  | snoc _ s ih =>
    obtain ⟨w0, h0, rfl⟩ := ih
    obtain ⟨c0, s0, rfl⟩ := m _ _ _ s
    exact ⟨w0 + c0, .snoc h0 s0, by rw [Int.add_mul]⟩
theorem Ch.same (t : List Nat) (h : ∀ x ∈ t, S [x] [x] 0) : Ch S t t 0 := by
  have go : ∀ (t r : List Nat), (∀ x ∈ t, S [x] [x] 0) → Ch S r r 0 → Ch S (r ++ t) (r ++ t) 0 := by
    intro t
    induction t with
    | nil => intro r _ h; rw [List.append_nil]; exact h
    | cons x t ih =>
      intro r hx h
      have := ih (r ++ [x]) (fun y hy => hx y (List.mem_cons_of_mem _ hy)) (by have := Ch.snoc h (hx x List.mem_cons_self); rwa [Int.add_zero] at this)
      rwa [List.append_assoc] at this
  exact go t [] h .nil
theorem Ch.pos (h : Ch S a b w) (m : ∀ u v c, S u v c → 0 ≤ c) : 0 ≤ w := by
  induction h with
  | nil => exact Int.le_refl _
  | snoc _ s ih => have := m _ _ _ s; omega
end
/-- the text u stands in x at i -/
def fits (x u : List Nat) (i : Nat) : Bool := decide ((x.drop i).take u.length = u)
theorem fits_take {x u : List Nat} {i : Nat} (hi : i ≤ x.length) (h : fits x u i = true) : i + u.length ≤ x.length ∧ x.take (i + u.length) = x.take i ++ u := by
  have e := of_decide_eq_true h
  have l := congrArg List.length e
  rw [List.length_take, List.length_drop] at l
  refine ⟨by omega, ?_⟩
  rw [List.take_add, e]
theorem fits_pre {x xs u : List Nat} (h : xs ++ u <+: x) : fits x u xs.length = true := by
  obtain ⟨t, rfl⟩ := h
  refine decide_eq_true ?_
  rw [List.append_assoc, List.drop_left, List.take_left]
/-- the edges of a grid: sides that stand in both texts -/
def edges (L : List (List Nat × List Nat × Int)) (x y : List Nat) (p : Nat) : List (Nat × Int) :=
  (L.filter fun e => fits x e.1 (p / (y.length + 1)) && fits y e.2.1 (p % (y.length + 1))).map fun e => (p + e.1.length * (y.length + 1) + e.2.1.length, e.2.2)
theorem mem_edges {L : List (List Nat × List Nat × Int)} {x y : List Nat} {p q : Nat} {c : Int} : (q, c) ∈ edges L x y p ↔ ∃ u v, (u, v, c) ∈ L ∧ fits x u (p / (y.length + 1)) = true ∧ fits y v (p % (y.length + 1)) = true ∧ q = p + u.length * (y.length + 1) + v.length := by
  unfold edges
  rw [List.mem_map]
  constructor
  · rintro ⟨⟨u, v, c'⟩, he, e⟩
    obtain ⟨hm, hf⟩ := List.mem_filter.mp he
    rw [Bool.and_eq_true] at hf
    have e1 := congrArg Prod.fst e
    have e2 := congrArg Prod.snd e
    dsimp only at e1 e2
    subst e2
    exact ⟨u, v, hm, hf.1, hf.2, e1.symm⟩
  · rintro ⟨u, v, hm, h1, h2, rfl⟩
    exact ⟨(u, v, c), List.mem_filter.mpr ⟨hm, by rw [h1, h2]; rfl⟩, rfl⟩
theorem edges_fw {L : List (List Nat × List Nat × Int)} {x y : List Nat} (ne : ∀ e ∈ L, e.1 ≠ [] ∨ e.2.1 ≠ []) : ∀ p q c, (q, c) ∈ edges L x y p → p < q := fun p q c h => by
  obtain ⟨u, v, hm, _, _, rfl⟩ := mem_edges.mp h
  have l : 0 < u.length * (y.length + 1) + v.length := by
    rcases ne _ hm with z | z
    · have z1 : 0 < u.length := List.length_pos_iff.mpr z
      have := Nat.mul_pos z1 (Nat.succ_pos y.length)
      show 0 < u.length * y.length.succ + v.length
      omega
    · have z1 : 0 < v.length := List.length_pos_iff.mpr z
      omega
  omega
/-- what can stand in a row -/
def Sd (L : List (List Nat × List Nat × Int)) (u v : List Nat) (c : Int) : Prop := (u, v, c) ∈ L
theorem div_at {W i j : Nat} (h : j < W) : (i * W + j) / W = i ∧ (i * W + j) % W = j := by
  have w0 : 0 < W := by omega
  refine ⟨?_, ?_⟩
  · rw [Nat.add_comm, Nat.add_mul_div_right _ _ w0, Nat.div_eq_of_lt h, Nat.zero_add]
  · rw [Nat.add_comm, Nat.add_mul_mod_self_right, Nat.mod_eq_of_lt h]
theorem walk_ch {L : List (List Nat × List Nat × Int)} {x y : List Nat} {q : Nat} {w : Int} (h : Walk (edges L x y) q w) : ∃ i j, q = i * (y.length + 1) + j ∧ i ≤ x.length ∧ j ≤ y.length ∧ Ch (Sd L) (x.take i) (y.take j) w := by
  induction h with
  | start => exact ⟨0, 0, by omega, Nat.zero_le _, Nat.zero_le _, .nil⟩
  | step _ he ih =>
    obtain ⟨i, j, rfl, hi, hj, ch⟩ := ih
    obtain ⟨u, v, hm, h1, h2, rfl⟩ := mem_edges.mp he
    obtain ⟨d1, d2⟩ := div_at (W := y.length + 1) (i := i) (j := j) (by omega)
    rw [d1] at h1
    rw [d2] at h2
    obtain ⟨l1, t1⟩ := fits_take hi h1
    obtain ⟨l2, t2⟩ := fits_take hj h2
    refine ⟨i + u.length, j + v.length, ?_, l1, l2, ?_⟩
    · rw [Nat.add_mul]; omega
    · rw [t1, t2]
      exact .snoc ch hm
theorem ch_walk {L : List (List Nat × List Nat × Int)} {x y a b : List Nat} {w : Int} (h : Ch (Sd L) a b w) : a <+: x → b <+: y → Walk (edges L x y) (a.length * (y.length + 1) + b.length) w := by
  induction h with
  | nil => intro _ _; rw [List.length_nil, Nat.zero_mul]; exact .start
  | snoc _ s ih =>
    rename_i xs ys u v w c _
    intro ha hb
    have pa := (List.prefix_append xs u).trans ha
    have pb := (List.prefix_append ys v).trans hb
    have lb := pb.length_le
    obtain ⟨d1, d2⟩ := div_at (W := y.length + 1) (i := xs.length) (j := ys.length) (by omega)
    have he : ((xs ++ u).length * (y.length + 1) + (ys ++ v).length, c) ∈ edges L x y (xs.length * (y.length + 1) + ys.length) := mem_edges.mpr ⟨u, v, s, by rw [d1]; exact fits_pre ha, by rw [d2]; exact fits_pre hb, by rw [List.length_append, List.length_append, Nat.add_mul]; omega⟩
    exact .step (ih pa pb) he
/-- the least weight of all rows of columns with these two texts -/
theorem grid_least {L : List (List Nat × List Nat × Int)} {x y : List Nat} (ne : ∀ e ∈ L, e.1 ≠ [] ∨ e.2.1 ≠ []) : LO (Ch (Sd L) x y) (run (edges L x y) (x.length * (y.length + 1) + y.length + 1) (x.length * (y.length + 1) + y.length)) :=
  (run_least (edges_fw ne) (Nat.le_succ _)).iff fun w => by
    constructor
    · intro h
      obtain ⟨i, j, e, hi, hj, ch⟩ := walk_ch h
      have d := div_at (W := y.length + 1) (i := x.length) (j := y.length) (by omega)
      have d' := div_at (W := y.length + 1) (i := i) (j := j) (by omega)
      rw [e, d'.1, d'.2] at d
      rw [d.1, d.2, List.take_length, List.take_length] at ch
      exact ch
    · exact fun h => ch_walk h List.prefix_rfl List.prefix_rfl
end Dag

/-! bits told one by one -/
namespace Dag
/-- the bits below n at which p holds -/
def mask (p : Nat → Bool) : Nat → Nat
  | 0 => 0
  | n + 1 => mask p n + if p n = true then 2 ^ n else 0
theorem mask_succ (p : Nat → Bool) (n : Nat) : mask p (n + 1) = mask p n + if p n = true then 2 ^ n else 0 := rfl
theorem mask_lt (p : Nat → Bool) : ∀ n, mask p n < 2 ^ n
  | 0 => Nat.zero_lt_one
  | n + 1 => by
    have := mask_lt p n
    unfold mask
    rw [Nat.pow_succ]
    split <;> omega
theorem mask_bit (p : Nat → Bool) (k : Nat) : ∀ n, (mask p n).testBit k = (decide (k < n) && p k)
  | 0 => by
    unfold mask
    simp
  | n + 1 => by
    have ih := mask_bit p k n
    have lt := mask_lt p n
    unfold mask
    by_cases h : p n = true
    · rw [if_pos h, Nat.add_comm]
      by_cases e : k = n
      · subst e
        rw [Nat.testBit_two_pow_add_eq, ih, h]
        simp
      · by_cases l : k < n
        · rw [Nat.testBit_two_pow_add_gt l, ih, decide_eq_true l, decide_eq_true (by omega : k < n + 1)]
        · have : (2 ^ n + mask p n).testBit k = false := by
            refine Nat.testBit_lt_two_pow ?_
            have : 2 ^ (n + 1) ≤ 2 ^ k := Nat.pow_le_pow_right (by decide) (by omega)
            rw [Nat.pow_succ] at this
            omega
          rw [this, decide_eq_false (by omega : ¬ k < n + 1)]
          rfl
    · rw [if_neg h, Nat.add_zero, ih]
      by_cases e : k = n
      · subst e
        simp [h]
      · by_cases l : k < n
        · rw [decide_eq_true l, decide_eq_true (by omega : k < n + 1)]
        · rw [decide_eq_false l, decide_eq_false (by omega : ¬ k < n + 1)]
theorem mask_sum (p : Nat → Bool) : ∀ n, (((List.range n).filter p).map fun k => (2 : Int) ^ k).sum = (mask p n : Nat)
  | 0 => rfl
  | n + 1 => by
    rw [List.range_succ, List.filter_append, List.map_append, List.sum_append, mask_sum p n, mask_succ]
    by_cases h : p n = true
    · rw [if_pos h]
      simp [List.filter_cons, h]
    · rw [if_neg h]
      simp [List.filter_cons, h]
theorem and_nat (a b : Nat) : PySem.Builtin.bitAnd (a : Int) (b : Int) = ((a &&& b : Nat) : Int) := rfl
theorem both_bit (p q : Nat → Bool) {n k : Nat} (h : k < n) : (mask p n &&& mask q n) / 2 ^ k % 2 = if (p k && q k) = true then 1 else 0 := by
  have e := Nat.testBit_and (mask p n) (mask q n) k
  rw [mask_bit, mask_bit, decide_eq_true h, Bool.true_and, Bool.true_and, Nat.testBit_eq_decide_div_mod_eq] at e
  by_cases c : (p k && q k) = true
  · rw [if_pos c]
    rw [c] at e
    exact of_decide_eq_true e
  · rw [if_neg c]
    have : (p k && q k) = false := by simpa using c
    rw [this] at e
    have := of_decide_eq_false e
    omega
end Dag

namespace Kx
open PySem L2 Own
abbrev s_standing : Stmt := top 4
theorem sw_fits {x y : Str} {i : Nat} (h : i ≤ x.cps.size) : Txt.startswith3 x y (i : Nat) = Dag.fits x.cps.toList y.cps.toList i := by
  have e : PySem.fromIndex x.length ((i : Nat) : Int) = i := by
    unfold PySem.fromIndex
    rw [if_neg (by omega)]
    omega
  unfold Txt.startswith3 Dag.fits
  rw [e, PySem.StrLaws.subAt_eq]
  have ly : y.cps.toList.length = y.length := Array.length_toList
  rw [ly]
  have lx : x.cps.toList.length = x.length := Array.length_toList
  by_cases c : (x.cps.toList.drop i).take y.length = y.cps.toList
  · have l := congrArg List.length c
    rw [List.length_take, List.length_drop, lx, ly] at l
    have hx : x.length = x.cps.size := rfl
    rw [c, decide_eq_true rfl, decide_eq_true (by omega : i + y.length ≤ x.length)]
    simp
  · rw [decide_eq_false c]
    simp [c]
structure TxtSt (K : PySem.W.Frag) (mg : Str → Option Value) (f : Addr) (d : FuncData) : Prop where
  D_standing : DefT K mg "standing" "standing" s_standing ["text", "words"] f d
  n_sum : mg "sum" = none
  n_range : mg "range" = none
  n_len : mg "len" = none
  n_enumerate : mg "enumerate" = none
section
variable {P : Program} {w : World} {K : PySem.W.Frag} {mg : Str → Option Value} {base : Heap} {f : Addr} {d : FuncData}
/-- the bits of the words that stand in x at i -/
def standN (x : Str) (ws : List Str) (i : Nat) : Nat := Dag.mask (fun k => Dag.fits x.cps.toList ((ws.getD k "").cps.toList) i) ws.length
def spSt : Sp := fun vs H Q _ => ∃ (x : Str) (r : Addr) (ws : List Str), vs = [.str x, .ref r] ∧ H r = some (.lst (ws.map V.str)) ∧ x.cps.size ≤ 1000 ∧ ws.length ≤ 1000 ∧
  ∀ t H', H t = none → Same H H' → H' t = some (.lst ((List.range (x.cps.size + 1)).map fun i => V.int (standN x ws i : Nat))) → Q (.ref t) H'
def stTe (K : PySem.W.Frag) : TE := tCB (rSum K) (tCons (tLc (iEnum K (tCons (tVar 1) tNil)) (gTup K 2 (gCons (gName 3) (gCons (gName 4) gNil))) (tB (tBM K "str" (fun x xs H Q => ∃ (a b : Str) (i : Int), x = .str a ∧ xs = [.str b, .int i] ∧ Q (.bl (Txt.startswith3 a b i)) H) (tVar 0) (tCons (tVar 4) (tCons (tVar 2) tNil)))) (tOp (fun x y H Q => ∃ k : Nat, x = .int 1 ∧ y = .int (k : Int) ∧ k ≤ 134217727 ∧ Q (.int (2 ^ k)) H) (tC (.int 1)) (tVar 3)) [3, 4]) tNil)
abbrev Nst : List Str := ["text", "words", "place", "at", "word"]
theorem sc_st : FnScope Nst ["text", "words"] (defScope s_standing) := ⟨rfl, rfl, rfl, by decide +kernel, rfl, by decide +kernel, by decide +kernel⟩
theorem ok_standing (T : TxtSt K mg f d) : FnOk P w K mg base CX0 1 f d ["text", "words"] spSt := by
  have sc := sc_st
  refine T.D_standing.F.ok sc (fun vs H Q E h => ?_) (fun cdv A1 outer s H vs Q E hr h => ?_)
  · obtain ⟨_, _, _, rfl, _⟩ := h; rfl
  · obtain ⟨x, r, ws, rfl, hr', xl, wl, k⟩ := h
    refine ⟨_, (pss_one (ps_ret (pe_lc (own := [("place", 2)]) (g := gName 2) (tt := tYes) (te := stTe K) rfl sc.nd (pi_range1 rfl T.n_range (pa_cons (pe_op op_add (pe_callB call_len (by rfl) T.n_len (by decide +kernel) (pa_cons (pv 0) pa_nil)) pe_int) pa_nil)) (blkOk_by (N := Nst) (sc := defScope s_standing) (own := [("place", 2)]) (by decide +kernel)) (fun _ _ _ _ _ => (pg_name (i := 2) sc.nd rfl (Or.inr rfl))) (fun _ _ _ _ _ => pts_nil) (fun _ _ _ _ _ => (pe_callB (cr_sum rfl) (by rfl) T.n_sum (by decide +kernel) (pa_cons (pe_lc (own := [("at", 3), ("word", 4)]) rfl sc.nd (pi_enum (by rfl) T.n_enumerate (pa_cons (pv 1) pa_nil)) (blkOk_by (own := [("at", 3), ("word", 4)]) (by rfl)) (fun _ _ _ _ _ => (pg_tup rfl (pgs_cons (pg_name (i := 3) sc.nd rfl (Or.inl rfl)) (pgs_cons (pg_name (i := 4) sc.nd rfl (Or.inl rfl)) pgs_nil)))) (fun _ _ _ _ _ => pts_one (pt_val (pe_bm PySem.F.plainAttrs_str PySem.F.slot_str_startswith PySem.F.type_str_startswith mt_startswith3 (pv 0) (pa_cons (pv 4) (pa_cons (pv 2) pa_nil))))) (fun _ _ _ _ _ => (pe_op op_oneShl pe_int (pv 3)))) pa_nil)))))), ?_⟩
    refine ⟨_, rfl, .str x, x.cps.size, rfl, ⟨by rw [sizeLine_eq]; show x.cps.size ≤ _; omega, rfl⟩, _, _, rfl, rfl, ?_⟩
    refine ⟨_, rfl, by omega, by omega, fun D hD => ?_⟩
    refine lc_range (lo := 0) (n := x.cps.size + 1) (fun j H' => Same H H' ∧ H' D = some (.lst ((List.range j).map fun i => V.int (standN x ws i : Nat)))) ⟨Same.upd hD, upd_same⟩ ?_ ?_
    · rintro j H2 hj ⟨s2, h2⟩
      refine ⟨rfl, tyes ?_⟩
      simp only [if_true]
      have lx : x.cps.toList.length = x.cps.size := Array.length_toList
      refine ⟨_, rfl, r, _, rfl, SqL.of (s2 _ _ hr'), fun F hF => ?_⟩
      refine lcs_it [some (.str x), some (.ref r), some (.int (0 + (j : Nat))), none, none] rfl walk_enum (fun i H' => Same H2 H' ∧ H' F = some (.lst ((((List.range i).filter fun k => Dag.fits x.cps.toList ((ws.getD k "").cps.toList) j).map fun k => (2 : Int) ^ k).map V.int))) ⟨Same.upd hF, upd_same⟩ (fun i H' _ z => SqL.of (z.1 _ _ (s2 _ _ hr'))) ?_ ?_
      · rintro i v H3 H3' hi ⟨s3, h3⟩ ⟨t1, u1, y, rfl, nt1, rfl, eu, hy⟩
        cases eu
        replace hy : (ws.map V.str)[i]? = some y := hy
        rw [List.getElem?_map] at hy
        obtain ⟨wd, hwd, rfl⟩ := Option.map_eq_some_iff.mp hy
        have il : i < ws.length := (List.getElem?_eq_some_iff.mp hwd).1
        have gd : ws.getD i "" = wd := by rw [List.getD_eq_getElem?_getD, hwd]; rfl
        refine ⟨t1, _, rfl, SqT.of upd_same, rfl, _, _, rfl, _, _, rfl, rfl, rfl, ?_⟩
        have s4 := s3.trans (Same.upd (o := .tup [.int (i : Nat), .str wd]) nt1)
        have h4 := Same.upd (o := .tup [.int (i : Nat), .str wd]) nt1 _ _ h3
        generalize upd H3 t1 (.tup [.int (i : Nat), .str wd]) = H4 at s4 h4 ⊢
        refine ⟨_, rfl, rfl, _, rfl, _, rfl, x, wd, _, rfl, rfl, _, rfl, ?_⟩
        rw [show ((0 : Int) + (j : Nat)) = ((j : Nat) : Int) by omega, sw_fits (by omega)]
        have rg : (List.range (i + 1)).filter (fun k => Dag.fits x.cps.toList ((ws.getD k "").cps.toList) j) = (List.range i).filter (fun k => Dag.fits x.cps.toList ((ws.getD k "").cps.toList) j) ++ if Dag.fits x.cps.toList wd.cps.toList j = true then [i] else [] := by
          rw [List.range_succ, List.filter_append, List.filter_cons, List.filter_nil, gd]
        rw [rg]
        by_cases c : Dag.fits x.cps.toList wd.cps.toList j = true
        · rw [c]
          simp only [if_true]
          refine ⟨_, rfl, i, rfl, rfl, by omega, _, h4, by
            rw [List.length_map, List.length_map, sizeLine_eq]
            have := List.length_filter_le (fun k => Dag.fits x.cps.toList ((ws.getD k "").cps.toList) j) (List.range i)
            rw [List.length_range] at this
            omega, fun b o z => ?_, ?_⟩
          · rw [upd_ne (ne_of_none z hF)]
            exact s4 _ _ z
          · rw [upd_same, List.map_append, List.map_append]
            rfl
        · have cf : Dag.fits x.cps.toList wd.cps.toList j = false := by simpa using c
          rw [cf, if_neg (by decide), List.append_nil]
          exact ⟨s4, h4⟩
      · rintro H3 ⟨s3, h3⟩
        rw [List.length_map] at h3
        refine ⟨F, _, rfl, SqL.of h3, ?_⟩
        rw [Dag.mask_sum]
        have nFD : D ≠ F := ne_of_none h2 hF
        refine ⟨_, s3 _ _ h2, by rw [List.length_map, List.length_range, sizeLine_eq]; omega, fun b o z => ?_, ?_⟩
        · rw [upd_ne (ne_of_none z hD)]
          exact s3 _ _ (s2 _ _ z)
        · rw [upd_same, List.range_succ, List.map_append]
          rfl
    · rintro H2 ⟨s2, h2⟩
      exact k D H2 hD s2 h2
end
end Kx

namespace Kx
open PySem L2 Own
abbrev s_ginit : Stmt := inClass (top 18) 0
abbrev s_gahead : Stmt := inClass (top 18) 2
abbrev s_gmoves : Stmt := inClass (top 18) 3
abbrev s_gways : Stmt := inClass (top 18) 4
/-- the sides of all columns -/
def sidesOf (sg : Str) (R : List Ed) : List Ed := (letters sg).map (fun c => (c, c, 0)) ++ R
theorem letters_len (sg : Str) : (letters sg).length = sg.cps.size := by unfold letters; rw [List.length_map, Array.length_toList]
theorem sides_len (sg : Str) (R : List Ed) : (sidesOf sg R).length = sg.cps.size + R.length := by unfold sidesOf; rw [List.length_append, List.length_map, letters_len]
theorem cols_len (sg : Str) (R : List Ed) : (colsV sg R).length = sg.cps.size + R.length := by unfold colsV; rw [List.length_append, List.length_map, List.length_map, letters_len, List.length_range]
theorem col_at {sg : Str} {R : List Ed} {i : Nat} {v : V} (h : (colsV sg R)[i]? = some v) : ∃ e, (sidesOf sg R)[i]? = some e ∧ ColIs R v e := by
  unfold colsV at h
  unfold sidesOf
  by_cases c : i < sg.cps.size
  · rw [List.getElem?_append_left (by rw [List.length_map, letters_len]; exact c), List.getElem?_map] at h
    obtain ⟨l, hl, rfl⟩ := Option.map_eq_some_iff.mp h
    exact ⟨(l, l, 0), by rw [List.getElem?_append_left (by rw [List.length_map, letters_len]; exact c), List.getElem?_map, hl]; rfl, .inl ⟨l, rfl, rfl⟩⟩
  · rw [List.getElem?_append_right (by rw [List.length_map, letters_len]; omega), List.length_map, letters_len, List.getElem?_map] at h
    obtain ⟨j, hj, rfl⟩ := Option.map_eq_some_iff.mp h
    have jl := (List.getElem?_eq_some_iff.mp hj)
    obtain ⟨jl, je⟩ := jl
    rw [List.length_range] at jl
    rw [List.getElem_range] at je
    subst je
    have hR : R[i - sg.cps.size]? = some (R[i - sg.cps.size]'jl) := List.getElem?_eq_getElem jl
    exact ⟨_, by rw [List.getElem?_append_right (by rw [List.length_map, letters_len]; omega), List.length_map, letters_len]; exact hR, .inr ⟨_, rfl, hR⟩⟩
/-- a grid at g -/
def GrAt (C : Addr) (H : Hp) (g : Addr) (sg : Str) (R : List Ed) (x y : Str) (kvs : List (L2.Key × V)) : Prop := ∃ (dx ca sa fa fb mv : Addr) (sv : List V),
  H g = some (.ins C dx [("columns", .ref ca), ("sides", .ref sa), ("width", .int (y.cps.size + 1 : Nat)), ("last", .int (x.cps.size * (y.cps.size + 1) + y.cps.size : Nat)), ("first", .ref fa), ("second", .ref fb), ("_moves", .ref mv)]) ∧
  H ca = some (.tup (colsV sg R)) ∧ H sa = some (.lst sv) ∧ Paired (EdT H) sv (sidesOf sg R) ∧
  H fa = some (.lst ((List.range (x.cps.size + 1)).map fun i => V.int (standN x ((sidesOf sg R).map (·.1)) i : Nat))) ∧ H fb = some (.lst ((List.range (y.cps.size + 1)).map fun i => V.int (standN y ((sidesOf sg R).map (·.2.1)) i : Nat))) ∧ H mv = some (.dK kvs)
/-- a grid whose found moves are kept at mv -/
def GrM (C : Addr) (H : Hp) (g mv : Addr) (sg : Str) (R : List Ed) (x y : Str) (kvs : List (L2.Key × V)) : Prop := ∃ (dx ca sa fa fb : Addr) (sv : List V),
  H g = some (.ins C dx [("columns", .ref ca), ("sides", .ref sa), ("width", .int (y.cps.size + 1 : Nat)), ("last", .int (x.cps.size * (y.cps.size + 1) + y.cps.size : Nat)), ("first", .ref fa), ("second", .ref fb), ("_moves", .ref mv)]) ∧
  H ca = some (.tup (colsV sg R)) ∧ H sa = some (.lst sv) ∧ Paired (EdT H) sv (sidesOf sg R) ∧
  H fa = some (.lst ((List.range (x.cps.size + 1)).map fun i => V.int (standN x ((sidesOf sg R).map (·.1)) i : Nat))) ∧ H fb = some (.lst ((List.range (y.cps.size + 1)).map fun i => V.int (standN y ((sidesOf sg R).map (·.2.1)) i : Nat))) ∧ H mv = some (.dK kvs)
structure GAd where
  C : Addr
  f : Addr
  d : FuncData
  fs : Addr
  ds : FuncData
  fa : Addr
  da : FuncData
  fm : Addr
  dm : FuncData
  fw : Addr
  dw : FuncData
structure TxtG (K : PySem.W.Frag) (mg : Str → Option Value) (G : GAd) : Prop where
  St : TxtSt K mg G.fs G.ds
  cl : Cls K G.C
  make : Mk K G.C G.f
  F : Fun K "__init__" "Grid.__init__" s_ginit G.f G.d
  b : Binds K G.d ["self", "edits", "x", "y"] []
  g : mg "Grid" = some (.ref G.C)
  a1 : NoAttr K G.C "columns"
  a2 : NoAttr K G.C "sides"
  a3 : NoAttr K G.C "width"
  a4 : NoAttr K G.C "last"
  a5 : NoAttr K G.C "first"
  a6 : NoAttr K G.C "second"
  a7 : NoAttr K G.C "_moves"
  n_len : mg "len" = none
theorem keepI {H : Hp} {g C dx : Addr} {fs fs' : List (Str × V)} (hg : H g = some (.ins C dx fs)) : ∀ b o, H b = some o → (∀ C dx fs, o ≠ .ins C dx fs) → (upd H g (.ins C dx fs')) b = some o := fun b o z n => by
  rw [upd_ne (fun e => by rw [e, hg] at z; exact n _ _ _ (Option.some.inj z).symm)]
  exact z
theorem nL {xs : List V} : ∀ C dx fs, HO.lst xs ≠ .ins C dx fs := fun _ _ _ z => by cases z
theorem nT {xs : List V} : ∀ C dx fs, HO.tup xs ≠ .ins C dx fs := fun _ _ _ z => by cases z
theorem But.fld {H H1 H2 : Hp} {g : Addr} {o : HO} (b : But g H H1) (s : Same H1 H2) : But g H (upd H2 g o) := fun c u e n => by
  rw [upd_ne n]
  exact s _ _ (b c u e n)
theorem EdAt.but {H H' : Hp} {C C' g dx m : Addr} {fs : List (Str × V)} {sg : Str} {R : List Ed} (b : But g H H') (hg : H g = some (.ins C' dx fs)) (n : m ≠ g) (h : EdAt C H m sg R) : EdAt C H' m sg R := by
  obtain ⟨d, r, rv, h1, h2, h3⟩ := h
  have t : ∀ b xs, H b = some (.tup xs) → H' b = some (.tup xs) := fun c xs e => b c _ e fun z => by rw [z, hg] at e; cases e
  exact ⟨d, r, rv, b _ _ h1 n, t _ _ h2, L2.Paired.mapP h3 fun _ _ z => z.keep t⟩
section
variable {P : Program} {w : World} {K : PySem.W.Frag} {mg : Str → Option Value} {base : Heap} {B : EdAd} {Z : ZAd} {G : GAd}
def spGi (Z : ZAd) (G : GAd) : Sp := fun vs H Q _ => ∃ (g dx m : Addr) (sg x y : Str) (R : List Ed), vs = [.ref g, .ref m, .str x, .str y] ∧ H g = some (.ins G.C dx []) ∧ EdAt Z.C H m sg R ∧ sg.cps.size ≤ 26 ∧ R.length ≤ 24 ∧ x.cps.size ≤ 1000 ∧ y.cps.size ≤ 1000 ∧
  ∀ mv H', H mv = none → But g H H' → GrM G.C H' g mv sg R x y [] → Q .non H'
abbrev Ngi : List Str := ["self", "edits", "x", "y", "column", "side"]
theorem sc_gi : FnScope Ngi ["self", "edits", "x", "y"] (defScope s_ginit) := ⟨rfl, rfl, rfl, by decide +kernel, rfl, by decide +kernel, by decide +kernel⟩
theorem ok_ginit (TZ : TxtZm K mg Z) (T : TxtG K mg G) : FnOk P w K mg base CX0 2 G.f G.d ["self", "edits", "x", "y"] (spGi Z G) := by
  have sc := sc_gi
  have G_all : FnOk P w K mg base CX0 1 Z.fa Z.da ["self"] (spAll Z) := ok_eall TZ
  have G_side : FnOk P w K mg base CX0 1 Z.fs Z.ds ["self", "column"] (spSd Z) := ok_eside TZ
  have G_st : FnOk P w K mg base CX0 1 G.fs G.ds ["text", "words"] spSt := ok_standing T.St
  refine T.F.ok sc (fun vs H Q E h => ?_) (fun cdv A1 outer s H vs Q E hr h => ?_)
  · obtain ⟨_, _, _, _, _, _, _, rfl, _⟩ := h; rfl
  · obtain ⟨g, dx, m, sg, x, y, R, rfl, hg, at0, sz, rl, xl, yl, k⟩ := h
    refine ⟨_, (pss_cons (ps_fld (pv 0) (pe_meth0 (pv 1) TZ.zz.cl TZ.M_all G_all (hr.mono (by decide)) TZ.b_all .nil pass0) rfl)
      (pss_cons (ps_fld (pv 0) (pe_lc (own := [("column", 4)]) (g := gName 4) (tt := tYes) (te := tMeth Z.C "side" (spSd Z) [] E0 (tVar 1) (tCons (tVar 4) tNil)) rfl sc.nd (pi_tup (pe_fld (pv 0) rfl)) (blkOk_by (N := Ngi) (sc := defScope s_ginit) (own := [("column", 4)]) (by decide +kernel)) (fun _ _ _ _ _ => (pg_name (i := 4) sc.nd rfl (Or.inl rfl))) (fun _ _ _ _ _ => pts_nil) (fun _ _ _ _ _ => (pe_meth (pv 1) TZ.zz.cl TZ.M_side G_side (hr.mono (by decide)) TZ.b_side .nil pass0 (pa_cons (pv 4) pa_nil)))) rfl)
      (pss_cons (ps_fld (pv 0) (pe_op op_add (pe_callB call_len (by rfl) T.n_len (by decide +kernel) (pa_cons (pv 3) pa_nil)) pe_int) rfl)
      (pss_cons (ps_fld (pv 0) (pe_op op_sub (pe_op op_mulN (pe_op op_add (pe_callB call_len (by rfl) T.n_len (by decide +kernel) (pa_cons (pv 2) pa_nil)) pe_int) (pe_fld (pv 0) rfl)) pe_int) rfl)
      (pss_cons (ps_fld (pv 0) (pe_call G_st (hr.mono (by decide)) rfl T.St.D_standing.g T.St.D_standing.F.kp T.St.D_standing.b .nil pass0 (pa_cons (pv 2) (pa_cons (pe_lc (own := [("side", 5)]) (g := gName 5) (tt := tYes) (te := tOp (rIxT K) (tVar 5) (tC (.int 0))) rfl sc.nd (pi_list (pe_fld (pv 0) rfl)) (blkOk_by (N := Ngi) (sc := defScope s_ginit) (own := [("side", 5)]) (by decide +kernel)) (fun _ _ _ _ _ => (pg_name (i := 5) sc.nd rfl (Or.inl rfl))) (fun _ _ _ _ _ => pts_nil) (fun _ _ _ _ _ => (pe_ix ix_tup (pv 5) pe_int (fun _ _ => rfl)))) pa_nil))) rfl)
      (pss_cons (ps_fld (pv 0) (pe_call G_st (hr.mono (by decide)) rfl T.St.D_standing.g T.St.D_standing.F.kp T.St.D_standing.b .nil pass0 (pa_cons (pv 3) (pa_cons (pe_lc (own := [("side", 5)]) (g := gName 5) (tt := tYes) (te := tOp (rIxT K) (tVar 5) (tC (.int 1))) rfl sc.nd (pi_list (pe_fld (pv 0) rfl)) (blkOk_by (N := Ngi) (sc := defScope s_ginit) (own := [("side", 5)]) (by decide +kernel)) (fun _ _ _ _ _ => (pg_name (i := 5) sc.nd rfl (Or.inl rfl))) (fun _ _ _ _ _ => pts_nil) (fun _ _ _ _ _ => (pe_ix ix_tup (pv 5) pe_int (fun _ _ => rfl)))) pa_nil))) rfl)
      (pss_one (ps_fld (pv 0) pe_dnewK rfl)))))))), ?_⟩
    obtain ⟨dm, rm, rvm, e1, e2, e3⟩ := id at0
    have gm : m ≠ g := fun z => by
      rw [z, hg] at e1
      exact nomatch (HO.ins.inj (Option.some.inj e1)).2.2
    -- columns
    refine ⟨_, rfl, m, dm, _, rfl, e1, rfl, m, sg, R, rfl, at0, sz, rl, fun ca H1 nca s1 hca => ?_⟩
    refine ⟨_, rfl, g, G.C, dx, [], rfl, s1 _ _ hg, T.cl, T.a1, (by show 0 < 1000; decide), ?_⟩
    have b2 : But g H (upd H1 g (.ins G.C dx (putF "columns" (.ref ca) []))) := But.fld (fun b o e n => e) s1
    have g2 : (upd H1 g (.ins G.C dx (putF "columns" (.ref ca) []))) g = some (.ins G.C dx [("columns", .ref ca)]) := upd_same
    have c2 := keepI (fs' := putF "columns" (.ref ca) []) (s1 _ _ hg) _ _ hca (by intro _ _ _ z; cases z)
    generalize upd H1 g (.ins G.C dx (putF "columns" (.ref ca) [])) = H2 at b2 g2 c2 ⊢
    clear hca nca s1
    have at2 := at0.but b2 hg gm
    -- sides
    refine ⟨_, rfl, g, G.C, dx, _, _, rfl, g2, T.cl, T.a1, rfl, ca, rfl, ⟨_, SqT.of c2⟩, fun D hD => ?_⟩
    refine lcs_it [some (.ref g), some (.ref m), some (.str x), some (.str y), none, none] rfl walk_tup (fun i H' => Same H2 H' ∧ ∃ acc, H' D = some (.lst acc) ∧ acc.length = i ∧ Paired (EdT H') acc ((sidesOf sg R).take i)) ⟨Same.upd hD, [], upd_same, rfl, .nil⟩ (fun i H' _ z => SqT.of (z.1 _ _ c2)) ?_ ?_
    · rintro i v _ H3 hi ⟨s3, acc, hacc, hl, pa⟩ ⟨rfl, hv⟩
      obtain ⟨e, he, ci⟩ := col_at hv
      have il : i < (sidesOf sg R).length := (List.getElem?_eq_some_iff.mp he).1
      rw [sides_len] at il
      obtain ⟨dm3, _, _, e13, _⟩ := id (at2.keep s3)
      refine ⟨rfl, tyes ?_⟩
      simp only [if_true]
      refine ⟨_, rfl, m, dm3, _, rfl, e13, rfl, _, rfl, m, sg, R, v, e, rfl, at2.keep s3, ci, fun u H4 s4 et => ?_⟩
      have hacc4 := s4 _ _ hacc
      have kt : ∀ b xs, H4 b = some (.tup xs) → (upd H4 D (.lst (acc ++ [u]))) b = some (.tup xs) := fun b xs y => by
        rw [upd_ne (ne_of y hacc4 (by intro z; cases z))]; exact y
      refine ⟨acc, hacc4, by rw [sizeLine_eq]; omega, fun b o z => ?_, acc ++ [u], upd_same, by rw [List.length_append, hl]; rfl, ?_⟩
      · rw [upd_ne (ne_of_none z hD)]
        exact s4 _ _ (s3 _ _ z)
      · rw [List.take_add_one, he]
        exact psnoc (L2.Paired.mapP pa fun _ _ z => z.keep fun b xs y => kt b xs (s4 _ _ y)) (et.keep kt)
    rintro H3 ⟨s3, sv, hsv, hl3, pa⟩
    rw [cols_len, ← sides_len, List.take_length] at pa
    refine ⟨_, rfl, g, G.C, dx, _, rfl, s3 _ _ g2, T.cl, T.a2, (by show 1 < 1000; decide), ?_⟩
    have b4 : But g H (upd H3 g (.ins G.C dx (putF "sides" (.ref D) [("columns", .ref ca)]))) := b2.fld s3
    have g4 : (upd H3 g (.ins G.C dx (putF "sides" (.ref D) [("columns", .ref ca)]))) g = some (.ins G.C dx [("columns", .ref ca), ("sides", .ref D)]) := upd_same
    have kk := keepI (fs' := putF "sides" (.ref D) [("columns", .ref ca)]) (s3 _ _ g2)
    have c4 := kk _ _ (s3 _ _ c2) (by intro _ _ _ z; cases z)
    have d4 := kk _ _ hsv (by intro _ _ _ z; cases z)
    have pa4 : Paired (EdT (upd H3 g (.ins G.C dx (putF "sides" (.ref D) [("columns", .ref ca)])))) sv (sidesOf sg R) := L2.Paired.mapP pa fun _ _ z => z.keep fun b xs e => kk b _ e (by intro _ _ _ z; cases z)
    generalize upd H3 g (.ins G.C dx (putF "sides" (.ref D) [("columns", .ref ca)])) = H4 at b4 g4 c4 d4 pa4 ⊢
    clear kk pa hsv s3 b2 g2 c2 at2 hD
    -- width
    refine ⟨_, rfl, .str y, y.cps.size, rfl, ⟨by rw [sizeLine_eq]; show y.cps.size ≤ _; omega, rfl⟩, _, _, rfl, rfl, ?_⟩
    refine ⟨_, rfl, g, G.C, dx, _, rfl, g4, T.cl, T.a3, (by show 2 < 1000; decide), ?_⟩
    have w0 : ((y.cps.size : Nat) : Int) + 1 = ((y.cps.size + 1 : Nat) : Int) := rfl
    have el : (((x.cps.size + 1) * (y.cps.size + 1) : Nat) : Int) - 1 = ((x.cps.size * (y.cps.size + 1) + y.cps.size : Nat) : Int) := by
      rw [Nat.add_mul]
      omega
    dsimp only
    have b5 : But g H (upd H4 g (.ins G.C dx (putF "width" (.int (((y.cps.size : Nat) : Int) + 1)) [("columns", .ref ca), ("sides", .ref D)]))) := b4.fld (Same.refl _)
    have g5 : (upd H4 g (.ins G.C dx (putF "width" (.int (((y.cps.size : Nat) : Int) + 1)) [("columns", .ref ca), ("sides", .ref D)]))) g = some (.ins G.C dx [("columns", .ref ca), ("sides", .ref D), ("width", .int (y.cps.size + 1 : Nat))]) := upd_same
    have kk5 := keepI (fs' := putF "width" (.int (((y.cps.size : Nat) : Int) + 1)) [("columns", .ref ca), ("sides", .ref D)]) g4
    have c5 := kk5 _ _ c4 nT
    have d5 := kk5 _ _ d4 nL
    have pa5 : Paired (EdT (upd H4 g (.ins G.C dx (putF "width" (.int (((y.cps.size : Nat) : Int) + 1)) [("columns", .ref ca), ("sides", .ref D)])))) sv (sidesOf sg R) := L2.Paired.mapP pa4 fun _ _ z => z.keep fun b xs e => kk5 b _ e nT
    clear kk5
    generalize upd H4 g (.ins G.C dx (putF "width" (.int (((y.cps.size : Nat) : Int) + 1)) [("columns", .ref ca), ("sides", .ref D)])) = H5 at b5 g5 c5 d5 pa5 ⊢
    -- last
    refine ⟨_, rfl, .str x, x.cps.size, rfl, ⟨by rw [sizeLine_eq]; show x.cps.size ≤ _; omega, rfl⟩, _, _, rfl, rfl, _, rfl, g, G.C, dx, _, _, rfl, g5, T.cl, T.a3, rfl, x.cps.size + 1, y.cps.size + 1, rfl, rfl, by omega, _, _, rfl, rfl, ?_⟩
    refine ⟨_, rfl, g, G.C, dx, _, rfl, g5, T.cl, T.a4, (by show 3 < 1000; decide), ?_⟩
    dsimp only
    have b6 : But g H (upd H5 g (.ins G.C dx (putF "last" (.int ((((x.cps.size + 1) * (y.cps.size + 1) : Nat) : Int) - 1)) [("columns", .ref ca), ("sides", .ref D), ("width", .int (y.cps.size + 1 : Nat))]))) := b5.fld (Same.refl _)
    have g6 : (upd H5 g (.ins G.C dx (putF "last" (.int ((((x.cps.size + 1) * (y.cps.size + 1) : Nat) : Int) - 1)) [("columns", .ref ca), ("sides", .ref D), ("width", .int (y.cps.size + 1 : Nat))]))) g = some (.ins G.C dx [("columns", .ref ca), ("sides", .ref D), ("width", .int (y.cps.size + 1 : Nat)), ("last", .int (x.cps.size * (y.cps.size + 1) + y.cps.size : Nat))]) := by
      rw [upd_same, el]
      rfl
    have kk6 := keepI (fs' := putF "last" (.int ((((x.cps.size + 1) * (y.cps.size + 1) : Nat) : Int) - 1)) [("columns", .ref ca), ("sides", .ref D), ("width", .int (y.cps.size + 1 : Nat))]) g5
    have c6 := kk6 _ _ c5 nT
    have d6 := kk6 _ _ d5 nL
    have pa6 : Paired (EdT (upd H5 g (.ins G.C dx (putF "last" (.int ((((x.cps.size + 1) * (y.cps.size + 1) : Nat) : Int) - 1)) [("columns", .ref ca), ("sides", .ref D), ("width", .int (y.cps.size + 1 : Nat))])))) sv (sidesOf sg R) := L2.Paired.mapP pa5 fun _ _ z => z.keep fun b xs e => kk6 b _ e nT
    clear kk6
    generalize upd H5 g (.ins G.C dx (putF "last" (.int ((((x.cps.size + 1) * (y.cps.size + 1) : Nat) : Int) - 1)) [("columns", .ref ca), ("sides", .ref D), ("width", .int (y.cps.size + 1 : Nat))])) = H6 at b6 g6 c6 d6 pa6 ⊢
    -- first
    refine ⟨_, rfl, _, rfl, g, G.C, dx, _, _, rfl, g6, T.cl, T.a2, rfl, D, rfl, ⟨_, SqL.of d6⟩, fun F6 hF6 => ?_⟩
    refine lcs_it [some (.ref g), some (.ref m), some (.str x), some (.str y), none, none] rfl walk_list (fun i H' => Same H6 H' ∧ H' F6 = some (.lst ((((sidesOf sg R).map ((·.1))).take i).map V.str))) ⟨Same.upd hF6, upd_same⟩ (fun i H' _ z => SqL.of (z.1 _ _ d6)) ?_ ?_
    · rintro i v _ H' hi ⟨s3, hacc⟩ ⟨rfl, hv⟩
      obtain ⟨e, he, a, rfl, ha⟩ := pat pa6 hv
      have il : i < (sidesOf sg R).length := (List.getElem?_eq_some_iff.mp he).1
      rw [sides_len] at il
      refine ⟨rfl, tyes ?_⟩
      simp only [if_true]
      refine ⟨_, rfl, a, _, 0, _, rfl, rfl, SqT.of (s3 _ _ ha), atI_nat (j := 0) rfl, _, hacc, by rw [List.length_map, List.length_take, List.length_map, sides_len, sizeLine_eq]; omega, fun b o z => ?_, ?_⟩
      · rw [upd_ne (ne_of_none z hF6)]
        exact s3 _ _ z
      · rw [upd_same, List.take_add_one, List.getElem?_map, he]
        rw [Option.map_some, Option.toList_some, List.map_append]
        rfl
    rintro H6a ⟨s6a, hw6⟩
    rw [hl3, cols_len, ← sides_len sg R, ← List.length_map (as := sidesOf sg R) ((·.1)), List.take_length] at hw6
    refine ⟨x, F6, _, rfl, hw6, by omega, by rw [List.length_map, sides_len]; omega, fun fa H8 nfa s8 hfa => ?_⟩
    have sm8 : Same H6 H8 := s6a.trans s8
    refine ⟨_, rfl, g, G.C, dx, _, rfl, sm8 _ _ g6, T.cl, T.a5, (by show 4 < 1000; decide), ?_⟩
    have b9 : But g H (upd H8 g (.ins G.C dx (putF "first" (.ref fa) [("columns", .ref ca), ("sides", .ref D), ("width", .int (y.cps.size + 1 : Nat)), ("last", .int (x.cps.size * (y.cps.size + 1) + y.cps.size : Nat))]))) := b6.fld sm8
    have g9 : (upd H8 g (.ins G.C dx (putF "first" (.ref fa) [("columns", .ref ca), ("sides", .ref D), ("width", .int (y.cps.size + 1 : Nat)), ("last", .int (x.cps.size * (y.cps.size + 1) + y.cps.size : Nat))]))) g = some (.ins G.C dx [("columns", .ref ca), ("sides", .ref D), ("width", .int (y.cps.size + 1 : Nat)), ("last", .int (x.cps.size * (y.cps.size + 1) + y.cps.size : Nat)), ("first", .ref fa)]) := upd_same
    have kk9 := keepI (fs' := putF "first" (.ref fa) [("columns", .ref ca), ("sides", .ref D), ("width", .int (y.cps.size + 1 : Nat)), ("last", .int (x.cps.size * (y.cps.size + 1) + y.cps.size : Nat))]) (sm8 _ _ g6)
    have c9 := kk9 _ _ (sm8 _ _ c6) nT
    have d9 := kk9 _ _ (sm8 _ _ d6) nL
    have hfa9 := kk9 _ _ hfa nL
    have pa9 : Paired (EdT (upd H8 g (.ins G.C dx (putF "first" (.ref fa) [("columns", .ref ca), ("sides", .ref D), ("width", .int (y.cps.size + 1 : Nat)), ("last", .int (x.cps.size * (y.cps.size + 1) + y.cps.size : Nat))])))) sv (sidesOf sg R) := L2.Paired.mapP pa6 fun _ _ z => z.keep fun b xs e => kk9 b _ (sm8 _ _ e) nT
    clear kk9
    generalize upd H8 g (.ins G.C dx (putF "first" (.ref fa) [("columns", .ref ca), ("sides", .ref D), ("width", .int (y.cps.size + 1 : Nat)), ("last", .int (x.cps.size * (y.cps.size + 1) + y.cps.size : Nat))])) = H9 at *
    -- second
    refine ⟨_, rfl, _, rfl, g, G.C, dx, _, _, rfl, g9, T.cl, T.a2, rfl, D, rfl, ⟨_, SqL.of d9⟩, fun F9 hF9 => ?_⟩
    refine lcs_it [some (.ref g), some (.ref m), some (.str x), some (.str y), none, none] rfl walk_list (fun i H' => Same H9 H' ∧ H' F9 = some (.lst ((((sidesOf sg R).map ((·.2.1))).take i).map V.str))) ⟨Same.upd hF9, upd_same⟩ (fun i H' _ z => SqL.of (z.1 _ _ d9)) ?_ ?_
    · rintro i v _ H' hi ⟨s3, hacc⟩ ⟨rfl, hv⟩
      obtain ⟨e, he, a, rfl, ha⟩ := pat pa9 hv
      have il : i < (sidesOf sg R).length := (List.getElem?_eq_some_iff.mp he).1
      rw [sides_len] at il
      refine ⟨rfl, tyes ?_⟩
      simp only [if_true]
      refine ⟨_, rfl, a, _, 1, _, rfl, rfl, SqT.of (s3 _ _ ha), atI_nat (j := 1) rfl, _, hacc, by rw [List.length_map, List.length_take, List.length_map, sides_len, sizeLine_eq]; omega, fun b o z => ?_, ?_⟩
      · rw [upd_ne (ne_of_none z hF9)]
        exact s3 _ _ z
      · rw [upd_same, List.take_add_one, List.getElem?_map, he]
        rw [Option.map_some, Option.toList_some, List.map_append]
        rfl
    rintro H9a ⟨s9a, hw9⟩
    rw [hl3, cols_len, ← sides_len sg R, ← List.length_map (as := sidesOf sg R) ((·.2.1)), List.take_length] at hw9
    refine ⟨y, F9, _, rfl, hw9, by omega, by rw [List.length_map, sides_len]; omega, fun fb H11 nfb s11 hfb => ?_⟩
    have sm11 : Same H9 H11 := s9a.trans s11
    refine ⟨_, rfl, g, G.C, dx, _, rfl, sm11 _ _ g9, T.cl, T.a6, (by show 5 < 1000; decide), ?_⟩
    have b12 : But g H (upd H11 g (.ins G.C dx (putF "second" (.ref fb) [("columns", .ref ca), ("sides", .ref D), ("width", .int (y.cps.size + 1 : Nat)), ("last", .int (x.cps.size * (y.cps.size + 1) + y.cps.size : Nat)), ("first", .ref fa)]))) := b9.fld sm11
    have g12 : (upd H11 g (.ins G.C dx (putF "second" (.ref fb) [("columns", .ref ca), ("sides", .ref D), ("width", .int (y.cps.size + 1 : Nat)), ("last", .int (x.cps.size * (y.cps.size + 1) + y.cps.size : Nat)), ("first", .ref fa)]))) g = some (.ins G.C dx [("columns", .ref ca), ("sides", .ref D), ("width", .int (y.cps.size + 1 : Nat)), ("last", .int (x.cps.size * (y.cps.size + 1) + y.cps.size : Nat)), ("first", .ref fa), ("second", .ref fb)]) := upd_same
    have kk12 := keepI (fs' := putF "second" (.ref fb) [("columns", .ref ca), ("sides", .ref D), ("width", .int (y.cps.size + 1 : Nat)), ("last", .int (x.cps.size * (y.cps.size + 1) + y.cps.size : Nat)), ("first", .ref fa)]) (sm11 _ _ g9)
    have c12 := kk12 _ _ (sm11 _ _ c9) nT
    have d12 := kk12 _ _ (sm11 _ _ d9) nL
    have hfb12 := kk12 _ _ hfb nL
    have hfa12 := kk12 _ _ (sm11 _ _ hfa9) nL
    have pa12 : Paired (EdT (upd H11 g (.ins G.C dx (putF "second" (.ref fb) [("columns", .ref ca), ("sides", .ref D), ("width", .int (y.cps.size + 1 : Nat)), ("last", .int (x.cps.size * (y.cps.size + 1) + y.cps.size : Nat)), ("first", .ref fa)])))) sv (sidesOf sg R) := L2.Paired.mapP pa9 fun _ _ z => z.keep fun b xs e => kk12 b _ (sm11 _ _ e) nT
    clear kk12
    generalize upd H11 g (.ins G.C dx (putF "second" (.ref fb) [("columns", .ref ca), ("sides", .ref D), ("width", .int (y.cps.size + 1 : Nat)), ("last", .int (x.cps.size * (y.cps.size + 1) + y.cps.size : Nat)), ("first", .ref fa)])) = H12 at *
    -- _moves
    intro mv hmv
    have sm13 : Same H12 (upd H12 mv (.dK [])) := Same.upd hmv
    refine ⟨_, rfl, g, G.C, dx, _, rfl, sm13 _ _ g12, T.cl, T.a7, (by show 6 < 1000; decide), ?_⟩
    have kk := keepI (fs' := putF "_moves" (.ref mv) [("columns", .ref ca), ("sides", .ref D), ("width", .int (y.cps.size + 1 : Nat)), ("last", .int (x.cps.size * (y.cps.size + 1) + y.cps.size : Nat)), ("first", .ref fa), ("second", .ref fb)]) (sm13 _ _ g12)
    have Hmv : H mv = none := by
      cases e : H mv with
      | none => rfl
      | some o =>
        by_cases z : mv = g
        · rw [z, g12] at hmv; cases hmv
        · rw [b12 _ _ e z] at hmv; cases hmv
    refine k mv _ Hmv (b12.fld sm13) ⟨dx, ca, D, fa, fb, sv, upd_same, kk _ _ (sm13 _ _ c12) nT, kk _ _ (sm13 _ _ d12) nL, L2.Paired.mapP pa12 fun _ _ z => z.keep fun b xs e => kk b _ (sm13 _ _ e) nT, kk _ _ (sm13 _ _ hfa12) nL, kk _ _ (sm13 _ _ hfb12) nL, kk _ _ upd_same (fun _ _ _ z => by cases z)⟩
end
end Kx

namespace Kx
open PySem L2 Own
abbrev Mv := Nat × Int × Nat × Nat
def MvT (H : Hp) (v : V) (q : Mv) : Prop := ∃ a, v = .ref a ∧ H a = some (.tup [.int q.1, .int q.2.1, .int q.2.2.1, .int q.2.2.2])
theorem MvT.keep {H H' : Hp} (s : ∀ b xs, H b = some (.tup xs) → H' b = some (.tup xs)) {v : V} {q : Mv} (h : MvT H v q) : MvT H' v q := by
  obtain ⟨a, e, h⟩ := h
  exact ⟨a, e, s _ _ h⟩
def mvOf (W : Nat) (p : Ed × Nat) : Mv := (p.1.1.cps.size * W + p.1.2.1.cps.size, p.1.2.2, p.1.1.cps.size, p.2)
def bitOn (f : Nat) (p : Ed × Nat) : Bool := decide (f / 2 ^ p.2 % 2 = 1)
/-- the columns of a set, told by bits -/
def movesOf (S : List Ed) (W f : Nat) : List Mv := (S.zipIdx.filter (bitOn f)).map (mvOf W)
structure TxtGm (K : PySem.W.Frag) (mg : Str → Option Value) (G : GAd) : Prop where
  gg : TxtG K mg G
  M_moves : Meth K G.C "moves" G.fm
  F_moves : Fun K "moves" "Grid.moves" s_gmoves G.fm G.dm
  b_moves : Binds K G.dm ["self", "fitting"] []
  M_ahead : Meth K G.C "ahead" G.fa
  F_ahead : Fun K "ahead" "Grid.ahead" s_gahead G.fa G.da
  b_ahead : Binds K G.da ["self", "place"] []
  n_len : mg "len" = none
  n_enumerate : mg "enumerate" = none
  n_divmod : mg "divmod" = none
def mvTe (K : PySem.W.Frag) : TE := tTup (tCons (tOp (rI0 fun i j => V.int (i + j)) (tOp (fun x y H Q => ∃ n m : Nat, x = V.int n ∧ y = V.int m ∧ n ≤ 4294967296 ∧ Q (V.int ((n * m : Nat) : Int)) H) (lenT K (tVar 3)) (tFld K (tVar 0) "width")) (lenT K (tVar 4))) (tCons (tVar 5) (tCons (lenT K (tVar 3)) (tCons (tVar 2) tNil))))
def mvTt (K : PySem.W.Frag) : TT := fun σ H Q => (tOp (fun x y H Q => ∃ n : Nat, x = .int (n : Int) ∧ y = .int 1 ∧ Q (.int ((n % 2 : Nat) : Int)) H) (tOp (fun x y H Q => ∃ (i : Int) (k : Nat), x = .int i ∧ y = .int (k : Int) ∧ Q (.int (i / 2 ^ k)) H) (tVar 1) (tVar 2)) (tC (.int 1))) σ H fun x H' => ∃ k, TruV K x H' k ∧ Q k H'
section
variable {P : Program} {w : World} {K : PySem.W.Frag} {mg : Str → Option Value} {base : Heap} {B : EdAd} {Z : ZAd} {G : GAd}
def spMv (G : GAd) : Sp := fun vs H Q _ => ∃ (g : Addr) (sg x y : Str) (R : List Ed) (kvs : List (L2.Key × V)) (f : Nat), vs = [.ref g, .int (f : Nat)] ∧ GrAt G.C H g sg R x y kvs ∧ sg.cps.size ≤ 26 ∧ OkRows sg R ∧ y.cps.size ≤ 1000 ∧
  ∀ t mvs H', H t = none → Same H H' → H' t = some (.lst mvs) → Paired (MvT H') mvs (movesOf (sidesOf sg R) (y.cps.size + 1) f) → Q (.ref t) H'
abbrev Nmv : List Str := ["self", "fitting", "column", "u", "v", "weight"]
theorem sc_mv : FnScope Nmv ["self", "fitting"] (defScope s_gmoves) := ⟨rfl, rfl, rfl, by decide +kernel, rfl, by decide +kernel, by decide +kernel⟩
theorem ok_moves (T : TxtGm K mg G) : FnOk P w K mg base CX0 1 G.fm G.dm ["self", "fitting"] (spMv G) := by
  have sc := sc_mv
  refine T.F_moves.ok sc (fun vs H Q E h => ?_) (fun cdv A1 outer s H vs Q E hr h => ?_)
  · obtain ⟨_, _, _, _, _, _, _, rfl, _⟩ := h; rfl
  · obtain ⟨g, sg, x, y, R, kvs, f, rfl, ga, sz, ok, yl, k⟩ := h
    refine ⟨_, (pss_one (ps_ret (pe_lc (own := [("column", 2), ("u", 3), ("v", 4), ("weight", 5)]) (g := gTup K 2 (gCons (gName 2) (gCons (gTup K 3 (gCons (gName 3) (gCons (gName 4) (gCons (gName 5) gNil)))) gNil))) (tt := mvTt K) (te := mvTe K) rfl sc.nd (pi_enum (by rfl) T.n_enumerate (pa_cons (pe_fld (pv 0) rfl) pa_nil)) (blkOk_by (N := Nmv) (sc := defScope s_gmoves) (own := [("column", 2), ("u", 3), ("v", 4), ("weight", 5)]) (by decide +kernel)) (fun _ _ _ _ _ => (pg_tup rfl (pgs_cons (pg_name (i := 2) sc.nd rfl (Or.inl rfl)) (pgs_cons (pg_tup rfl (pgs_cons (pg_name (i := 3) sc.nd rfl (Or.inl rfl)) (pgs_cons (pg_name (i := 4) sc.nd rfl (Or.inl rfl)) (pgs_cons (pg_name (i := 5) sc.nd rfl (Or.inl rfl)) pgs_nil)))) pgs_nil)))) (fun _ _ _ _ _ => pts_one (pt_truth (pe_op op_odd (pe_op op_shrN (pv 1) (pv 2)) pe_int) (fun _ => rfl))) (fun _ _ _ _ _ => (pe_tup (pa_cons (pe_op op_add (pe_op op_mulN (pe_callB call_len (by rfl) T.n_len (by decide +kernel) (pa_cons (pv 3) pa_nil)) (pe_fld (pv 0) rfl)) (pe_callB call_len (by rfl) T.n_len (by decide +kernel) (pa_cons (pv 4) pa_nil))) (pa_cons (pv 5) (pa_cons (pe_callB call_len (by rfl) T.n_len (by decide +kernel) (pa_cons (pv 3) pa_nil)) (pa_cons (pv 2) pa_nil))))))))), ?_⟩
    obtain ⟨dx, ca, sa, fa, fb, mv, sv, hg, _, hsa, pS, _⟩ := ga
    have lS : sv.length = (sidesOf sg R).length := Paired.length pS
    have l50 : (sidesOf sg R).length ≤ 50 := by rw [sides_len]; have := ok.le; omega
    have short : ∀ e ∈ sidesOf sg R, e.1.cps.size ≤ 3 ∧ e.2.1.cps.size ≤ 3 := fun e he => by
      unfold sidesOf at he
      rcases List.mem_append.mp he with h | h
      · obtain ⟨l, hl, rfl⟩ := List.mem_map.mp h
        unfold letters at hl
        obtain ⟨c, _, rfl⟩ := List.mem_map.mp hl
        exact ⟨by show 1 ≤ 3; decide, by show 1 ≤ 3; decide⟩
      · exact ⟨(ok.ok e h).l1, (ok.ok e h).l2⟩
    generalize sidesOf sg R = S at *
    refine ⟨_, rfl, g, G.C, dx, _, _, rfl, hg, T.gg.cl, T.gg.a2, rfl, sa, sv, rfl, SqL.of hsa, fun D hD => ?_⟩
    refine lcs_it [some (.ref g), some (.int (f : Nat)), none, none, none, none] rfl walk_enum (fun i H' => Same H H' ∧ ∃ acc, H' D = some (.lst acc) ∧ acc.length ≤ i ∧ Paired (MvT H') acc (((S.zipIdx.take i).filter (bitOn f)).map (mvOf (y.cps.size + 1)))) ⟨Same.upd hD, [], upd_same, Nat.le_refl _, .nil⟩ (fun i H' _ z => SqL.of (z.1 _ _ hsa)) ?_ ?_
    · rintro i v H1 H1' hi ⟨s1, acc, hacc, hl, pa⟩ ⟨t1, u1, yv, rfl, nt1, rfl, eu, hy⟩
      cases eu
      obtain ⟨e, he, a, rfl, ha⟩ := pat pS hy
      have il : i < S.length := (List.getElem?_eq_some_iff.mp he).1
      obtain ⟨sh1, sh2⟩ := short e (List.mem_of_getElem? he)
      have s2 := s1.trans (Same.upd (o := .tup [.int (i : Nat), .ref a]) nt1)
      have hacc2 := Same.upd (o := .tup [.int (i : Nat), .ref a]) nt1 _ _ hacc
      have pa2 : Paired (MvT (upd H1 t1 (.tup [.int (i : Nat), .ref a]))) acc (((S.zipIdx.take i).filter (bitOn f)).map (mvOf (y.cps.size + 1))) := L2.Paired.mapP pa fun _ _ z => z.keep fun b xs e => Same.upd nt1 _ _ e
      refine ⟨t1, _, rfl, SqT.of upd_same, rfl, _, _, rfl, _, _, rfl, a, _, rfl, SqT.of (s2 _ _ ha), rfl, _, _, rfl, _, _, rfl, _, _, rfl, rfl, rfl, ?_⟩
      generalize upd H1 t1 (.tup [.int (i : Nat), .ref a]) = H2 at s2 hacc2 pa2 ⊢
      have tk : S.zipIdx.take (i + 1) = S.zipIdx.take i ++ [(e, i)] := by
        rw [List.take_add_one, List.getElem?_zipIdx, he]
        simp
      rw [tk, List.filter_append, List.map_append]
      refine ⟨rfl, _, rfl, _, rfl, _, i, rfl, rfl, f / 2 ^ i, congrArg V.int (by rw [Int.natCast_ediv, Int.natCast_pow]; rfl), rfl, _, rfl, ?_⟩
      have m2 : f / 2 ^ i % 2 < 2 := Nat.mod_lt _ (by decide)
      by_cases c : f / 2 ^ i % 2 = 1
      · have e1 : (((f / 2 ^ i % 2 : Nat) : Int) != 0) = true := by rw [c]; rfl
        have e2 : List.filter (bitOn f) [(e, i)] = [(e, i)] := by
          rw [List.filter_cons, show bitOn f (e, i) = true from decide_eq_true c]
          rfl
        rw [e1, e2]
        simp only [if_true]
        refine ⟨_, rfl, .str e.1, e.1.cps.size, rfl, ⟨by rw [sizeLine_eq]; show e.1.cps.size ≤ _; omega, rfl⟩, _, rfl, g, G.C, dx, _, _, rfl, s2 _ _ hg, T.gg.cl, T.gg.a3, rfl, e.1.cps.size, y.cps.size + 1, rfl, rfl, by omega, _, rfl, .str e.2.1, e.2.1.cps.size, rfl, ⟨by rw [sizeLine_eq]; show e.2.1.cps.size ≤ _; omega, rfl⟩, _, _, rfl, rfl, ?_⟩
        refine ⟨_, rfl, _, rfl, .str e.1, e.1.cps.size, rfl, ⟨by rw [sizeLine_eq]; show e.1.cps.size ≤ _; omega, rfl⟩, _, rfl, by show 4 ≤ sizeLine; decide, fun q hq => ?_⟩
        have hacc3 := Same.upd (o := .tup [.int ((e.1.cps.size * (y.cps.size + 1) : Nat) + (e.2.1.cps.size : Nat)), .int e.2.2, .int (e.1.cps.size : Nat), .int (i : Nat)]) hq _ _ hacc2
        refine ⟨acc, hacc3, by rw [sizeLine_eq]; omega, fun b o z => ?_, acc ++ [.ref q], upd_same, by rw [List.length_append]; exact Nat.succ_le_succ hl, ?_⟩
        · rw [upd_ne (ne_of_none z hD)]
          exact Same.upd hq _ _ (s2 _ _ z)
        · refine psnoc (L2.Paired.mapP pa2 fun _ _ z => z.keep fun b xs y => ?_) ⟨q, rfl, ?_⟩
          · rw [upd_ne (ne_of (Same.upd hq _ _ y) hacc3 (by intro z; cases z))]
            exact Same.upd hq _ _ y
          · rw [upd_ne (ne_of (upd_same : (upd H2 q _) q = some (.tup _)) hacc3 (by intro z; cases z)), upd_same]
            rfl
      · have c0 : f / 2 ^ i % 2 = 0 := by omega
        have e1 : (((f / 2 ^ i % 2 : Nat) : Int) != 0) = false := by rw [c0]; rfl
        have e2 : List.filter (bitOn f) [(e, i)] = [] := by
          rw [List.filter_cons, show bitOn f (e, i) = false from decide_eq_false c]
          rfl
        rw [e1, e2, List.map_nil, List.append_nil]
        exact ⟨s2, acc, hacc2, by omega, pa2⟩
    · rintro H1 ⟨s1, acc, hacc, hl, pa⟩
      rw [lS, List.take_of_length_le (by rw [List.length_zipIdx]; exact Nat.le_refl _)] at pa
      exact k D acc H1 hD s1 hacc pa
end
end Kx

namespace Kx
open PySem L2 Own
section
variable {C g mv : Addr} {H H' : Hp} {sg x y : Str} {R : List Ed} {kvs : List (L2.Key × V)}
theorem GrAt.m (h : GrAt C H g sg R x y kvs) : ∃ mv, GrM C H g mv sg R x y kvs := by
  obtain ⟨dx, ca, sa, fa, fb, mv, sv, h⟩ := h
  exact ⟨mv, dx, ca, sa, fa, fb, sv, h⟩
theorem GrM.a (h : GrM C H g mv sg R x y kvs) : GrAt C H g sg R x y kvs := by
  obtain ⟨dx, ca, sa, fa, fb, sv, h⟩ := h
  exact ⟨dx, ca, sa, fa, fb, mv, sv, h⟩
theorem GrM.keep (s : Same H H') (h : GrM C H g mv sg R x y kvs) : GrM C H' g mv sg R x y kvs := by
  obtain ⟨dx, ca, sa, fa, fb, sv, h1, h2, h3, h4, h5, h6, h7⟩ := h
  exact ⟨dx, ca, sa, fa, fb, sv, s _ _ h1, s _ _ h2, s _ _ h3, L2.Paired.mapP h4 fun _ _ z => z.keep fun b xs e => s _ _ e, s _ _ h5, s _ _ h6, s _ _ h7⟩
theorem GrM.put {kvs' : List (L2.Key × V)} (h : GrM C H g mv sg R x y kvs) : GrM C (upd H mv (.dK kvs')) g mv sg R x y kvs' := by
  obtain ⟨dx, ca, sa, fa, fb, sv, h1, h2, h3, h4, h5, h6, h7⟩ := h
  have k : ∀ {b o}, H b = some o → (∀ kvs, o ≠ .dK kvs) → (upd H mv (.dK kvs')) b = some o := fun {b o} e n => by
    rw [upd_ne (fun z => by rw [z, h7] at e; exact n _ (Option.some.inj e).symm)]
    exact e
  exact ⟨dx, ca, sa, fa, fb, sv, k h1 (fun _ z => by cases z), k h2 (fun _ z => by cases z), k h3 (fun _ z => by cases z), L2.Paired.mapP h4 fun _ _ z => z.keep fun b xs e => k e (fun _ z => by cases z), k h5 (fun _ z => by cases z), k h6 (fun _ z => by cases z), upd_same⟩
end
/-- what is kept is right -/
def Kept (H : Hp) (S : List Ed) (W : Nat) (kvs : List (L2.Key × V)) : Prop := ∀ kv ∈ kvs, ∃ (f : Nat) (l : Addr) (ms : List V), kv.1 = .inl (f : Nat) ∧ kv.2 = .ref l ∧ H l = some (.lst ms) ∧ Paired (MvT H) ms (movesOf S W f)
theorem Kept.keep {H H' : Hp} {S : List Ed} {W : Nat} {kvs : List (L2.Key × V)} (s : ∀ b o, H b = some o → (∀ kvs, o ≠ .dK kvs) → H' b = some o) (h : Kept H S W kvs) : Kept H' S W kvs := fun kv hk => by
  obtain ⟨f, l, ms, h1, h2, h3, h4⟩ := h kv hk
  exact ⟨f, l, ms, h1, h2, s _ _ h3 (fun _ z => by cases z), L2.Paired.mapP h4 fun _ _ z => z.keep fun b xs e => s _ _ e (fun _ z => by cases z)⟩
/-- the columns that stand at a place, by their bits -/
def fitAt (sg : Str) (R : List Ed) (x y : Str) (p : Nat) : Nat := standN x ((sidesOf sg R).map (·.1)) (p / (y.cps.size + 1)) &&& standN y ((sidesOf sg R).map (·.2.1)) (p % (y.cps.size + 1))
def shiftM (p : Nat) (q : Mv) : Mv := (p + q.1, q.2)
theorem val_mem {kvs : List (L2.Key × V)} {k : L2.Key} {v : V} (h : valV kvs k = some v) : (k, v) ∈ kvs := by
  unfold valV at h
  obtain ⟨kv, hf, rfl⟩ := Option.map_eq_some_iff.mp h
  have e : kv.1 = k := by simpa using List.find?_some hf
  have m := List.mem_of_find?_eq_some hf
  rw [← e]
  exact m
section
variable {P : Program} {w : World} {K : PySem.W.Frag} {mg : Str → Option Value} {base : Heap} {G : GAd}
/-- all stands, but for the dict at mv -/
def spAh (G : GAd) : Sp := fun vs H Q _ => ∃ (g mv : Addr) (sg x y : Str) (R : List Ed) (kvs : List (L2.Key × V)) (p : Nat), vs = [.ref g, .int (p : Nat)] ∧ GrM G.C H g mv sg R x y kvs ∧ Kept H (sidesOf sg R) (y.cps.size + 1) kvs ∧ kvs.length ≤ 1000000 ∧ sg.cps.size ≤ 26 ∧ OkRows sg R ∧ x.cps.size ≤ 1000 ∧ y.cps.size ≤ 1000 ∧ p ≤ x.cps.size * (y.cps.size + 1) + y.cps.size ∧
  ∀ t ts kvs' H', But mv H H' → GrM G.C H' g mv sg R x y kvs' → Kept H' (sidesOf sg R) (y.cps.size + 1) kvs' → kvs'.length ≤ kvs.length + 1 → H t = none → H' t = some (.lst ts) → Paired (MvT H') ts ((movesOf (sidesOf sg R) (y.cps.size + 1) (fitAt sg R x y p)).map (shiftM p)) → Q (.ref t) H'
abbrev Nah : List Str := ["self", "place", "i", "j", "fitting", "more", "weight", "signs", "column"]
theorem sc_ah : FnScope Nah ["self", "place"] (defScope s_gahead) := ⟨rfl, rfl, rfl, by decide +kernel, rfl, by decide +kernel, by decide +kernel⟩
theorem ok_ahead (T : TxtGm K mg G) : FnOk P w K mg base CX0 2 G.fa G.da ["self", "place"] (spAh G) := by
  have sc := sc_ah
  have G_mv : FnOk P w K mg base CX0 1 G.fm G.dm ["self", "fitting"] (spMv G) := ok_moves T
  refine T.F_ahead.ok sc (fun vs H Q E h => ?_) (fun cdv A1 outer s H vs Q E hr h => ?_)
  · obtain ⟨_, _, _, _, _, _, _, _, rfl, _⟩ := h; rfl
  · obtain ⟨g, mv, sg, x, y, R, kvs, p, rfl, ga, kp, lk, sz, ok, xl, yl, pl, k⟩ := h
    have hu1 : (A1.deeper (PyProof.Rows.envOfC "Grid.ahead" (defScope s_gahead) s.heap.objs.size G.fa cdv)).units + 1 < cLine := by have := hr.un; omega
    refine ⟨_, (pss_cons (ps_asg (pe_callB call_divmod (by rfl) T.n_divmod (by decide +kernel) (pa_cons (pv 1) (pa_cons (pe_fld (pv 0) rfl) pa_nil))) (pg_tup rfl (pgs_cons (pg_name (i := 2) sc.nd rfl (Or.inl rfl)) (pgs_cons (pg_name (i := 3) sc.nd rfl (Or.inl rfl)) pgs_nil))))
      (pss_cons (ps_set (i := 4) sc.nd rfl (Or.inl rfl) (pe_op op_and (pe_ix ix_list (pe_fld (pv 0) rfl) (pv 2) (fun _ _ => rfl)) (pe_ix ix_list (pe_fld (pv 0) rfl) (pv 3) (fun _ _ => rfl))))
      (C8.pss_cut (ps_if (pt_cmp (pc_dnotin hu1 (pv 4) (pe_fld (pv 0) rfl))) (pss_one (ps_dput hu1 (pe_fld (pv 0) rfl) (pv 4) (pe_meth (pv 0) T.gg.cl T.M_moves G_mv (hr.mono (by decide)) T.b_moves .nil pass0 (pa_cons (pv 4) pa_nil)) rfl)) pss_nil)
      (pss_one (ps_ret (pe_lc (own := [("more", 5), ("weight", 6), ("signs", 7), ("column", 8)]) (g := gTup K 4 (gCons (gName 5) (gCons (gName 6) (gCons (gName 7) (gCons (gName 8) gNil))))) (tt := tYes) (te := tTup (tCons (tOp (rI0 fun i j => V.int (i + j)) (tVar 1) (tVar 5)) (tCons (tVar 6) (tCons (tVar 7) (tCons (tVar 8) tNil))))) rfl sc.nd (pi_list (pe_dget hu1 (pe_fld (pv 0) rfl) (pv 4) (fun _ _ => rfl))) (blkOk_by (N := Nah) (sc := defScope s_gahead) (own := [("more", 5), ("weight", 6), ("signs", 7), ("column", 8)]) (by decide +kernel)) (fun _ _ _ _ _ => (pg_tup rfl (pgs_cons (pg_name (i := 5) sc.nd rfl (Or.inl rfl)) (pgs_cons (pg_name (i := 6) sc.nd rfl (Or.inl rfl)) (pgs_cons (pg_name (i := 7) sc.nd rfl (Or.inl rfl)) (pgs_cons (pg_name (i := 8) sc.nd rfl (Or.inl rfl)) pgs_nil)))))) (fun _ _ _ _ _ => pts_nil) (fun _ _ _ _ _ => (pe_tup (pa_cons (pe_op op_add (pv 1) (pv 5)) (pa_cons (pv 6) (pa_cons (pv 7) (pa_cons (pv 8) pa_nil)))))))))))), ?_⟩
    obtain ⟨dx, ca, sa, fa, fb, sv, hg, hca, hsa, pS, hfa, hfb, hmv⟩ := id ga
    have W0 : 0 < y.cps.size + 1 := Nat.succ_pos _
    refine ⟨_, rfl, _, rfl, g, G.C, dx, _, _, rfl, hg, T.gg.cl, T.gg.a3, rfl, (p : Nat), (y.cps.size + 1 : Nat), rfl, ⟨by omega, by omega⟩, fun t0 ht0 => ?_⟩
    refine ⟨t0, _, rfl, SqT.of upd_same, rfl, _, _, rfl, _, _, rfl, rfl, ?_⟩
    have s1 : Same H (upd H t0 (.tup [.int (((p : Nat) : Int) / ((y.cps.size + 1 : Nat) : Int)), .int (((p : Nat) : Int) % ((y.cps.size + 1 : Nat) : Int))])) := Same.upd ht0
    generalize upd H t0 (.tup [.int (((p : Nat) : Int) / ((y.cps.size + 1 : Nat) : Int)), .int (((p : Nat) : Int) % ((y.cps.size + 1 : Nat) : Int))]) = H1 at s1 ⊢
    rw [← Int.natCast_ediv, ← Int.natCast_emod]
    have li : p / (y.cps.size + 1) < x.cps.size + 1 := Nat.div_lt_of_lt_mul (by rw [Nat.mul_add, Nat.mul_comm (y.cps.size + 1) x.cps.size]; omega)
    have lj : p % (y.cps.size + 1) < y.cps.size + 1 := Nat.mod_lt _ W0
    have hi : ((List.range (x.cps.size + 1)).map fun i => V.int (standN x ((sidesOf sg R).map (·.1)) i : Nat))[p / (y.cps.size + 1)]? = some (.int (standN x ((sidesOf sg R).map (·.1)) (p / (y.cps.size + 1)) : Nat)) := by rw [List.getElem?_map, List.getElem?_range li]; rfl
    have hj : ((List.range (y.cps.size + 1)).map fun i => V.int (standN y ((sidesOf sg R).map (·.2.1)) i : Nat))[p % (y.cps.size + 1)]? = some (.int (standN y ((sidesOf sg R).map (·.2.1)) (p % (y.cps.size + 1)) : Nat)) := by rw [List.getElem?_map, List.getElem?_range lj]; rfl
    refine ⟨_, rfl, g, G.C, dx, _, _, rfl, s1 _ _ hg, T.gg.cl, T.gg.a5, rfl, _, rfl, fa, _, _, _, rfl, rfl, SqL.of (s1 _ _ hfa), atI_nat hi, _, rfl, g, G.C, dx, _, _, rfl, s1 _ _ hg, T.gg.cl, T.gg.a6, rfl, _, rfl, fb, _, _, _, rfl, rfl, SqL.of (s1 _ _ hfb), atI_nat hj, _, _, rfl, rfl, ?_⟩
    refine ⟨fun σ H' => ∃ (kvs' : List (L2.Key × V)) (l : Addr) (ms : List V), σ = [some (.ref g), some (.int (p : Nat)), some (.int (p / (y.cps.size + 1) : Nat)), some (.int (p % (y.cps.size + 1) : Nat)), some (.int (fitAt sg R x y p : Nat)), none, none, none, none] ∧ But mv H H' ∧ GrM G.C H' g mv sg R x y kvs' ∧ Kept H' (sidesOf sg R) (y.cps.size + 1) kvs' ∧ kvs'.length ≤ kvs.length + 1 ∧ valV kvs' (.inl (fitAt sg R x y p : Nat)) = some (.ref l) ∧ H' l = some (.lst ms) ∧ Paired (MvT H') ms (movesOf (sidesOf sg R) (y.cps.size + 1) (fitAt sg R x y p)), ?_, ?_⟩
    · refine ⟨_, rfl, _, rfl, g, G.C, dx, _, _, rfl, s1 _ _ hg, T.gg.cl, T.gg.a7, rfl, mv, _, rfl, DGet.k (k := .inl (fitAt sg R x y p : Nat)) (s1 _ _ hmv), _, rfl, ?_⟩
      cases hv : valV kvs (.inl (fitAt sg R x y p : Nat)) with
      | some v =>
        obtain ⟨f, l, ms, k1, k2, k3, k4⟩ := kp _ (val_mem hv)
        have ef : fitAt sg R x y p = f := Int.ofNat.inj (Sum.inl.inj k1)
        dsimp only at k2
        subst k2
        rw [← ef] at k4
        exact iteF ⟨kvs, l, ms, rfl, fun b o e _ => s1 _ _ e, ga.keep s1, kp.keep fun b o e _ => s1 _ _ e, Nat.le_succ _, hv, s1 _ _ k3, L2.Paired.mapP k4 fun _ _ z => z.keep fun b xs e => s1 _ _ e⟩
      | none =>
        refine iteT ?_
        refine ⟨_, rfl, g, dx, _, rfl, s1 _ _ hg, rfl, _, rfl, g, sg, x, y, R, kvs, fitAt sg R x y p, rfl, (ga.keep s1).a, sz, ok, yl, fun t ms H3 nt s3 ht pm => ?_⟩
        have s13 := s1.trans s3
        have hmv3 := s13 _ _ hmv
        refine ⟨_, rfl, g, G.C, dx, _, _, rfl, s13 _ _ hg, T.gg.cl, T.gg.a7, rfl, _, rfl, mv, _, rfl, DPut.k (k := .inl (fitAt sg R x y p : Nat)) hmv3 (by rw [sizeLine_eq]; omega), ?_⟩
        have nd : ∀ b o, H3 b = some o → (∀ kvs, o ≠ .dK kvs) → (upd H3 mv (.dK (putK kvs (.inl (fitAt sg R x y p : Nat)) (.ref t)))) b = some o := fun b o e n => by
          rw [upd_ne (fun z => by rw [z, hmv3] at e; exact n _ (Option.some.inj e).symm)]
          exact e
        have ht4 := nd _ _ ht (fun _ z => by cases z)
        have pm4 : Paired (MvT (upd H3 mv (.dK (putK kvs (.inl (fitAt sg R x y p : Nat)) (.ref t))))) ms (movesOf (sidesOf sg R) (y.cps.size + 1) (fitAt sg R x y p)) := L2.Paired.mapP pm fun _ _ z => z.keep fun b xs e => nd _ _ e (fun _ z => by cases z)
        refine ⟨_, t, ms, rfl, fun b o e n => ?_, (ga.keep s13).put, ?_, by rw [putK_new _ hv, List.length_append]; exact Nat.le_refl _, by rw [valV_put, if_pos rfl], ht4, pm4⟩
        · rw [upd_ne n]
          exact s13 _ _ e
        · rw [putK_new _ hv] at *
          intro kv hk
          rcases List.mem_append.mp hk with hk | hk
          · exact (kp.keep fun b o e n => nd b o (s13 _ _ e) n) kv hk
          · rw [List.mem_singleton.mp hk]
            exact ⟨_, t, ms, rfl, rfl, ht4, pm4⟩
    · rintro σ H2 ⟨kvs2, l, ms, rfl, b2, ga2, kp2, lk2, hv2, hl2, pm2⟩
      obtain ⟨dx2, _, _, _, _, _, hg2, _, _, _, _, _, hmv2⟩ := id ga2
      have lms : ms.length ≤ 50 := by
        rw [Paired.length pm2]
        unfold movesOf
        rw [List.length_map]
        have a := List.length_filter_le (bitOn (fitAt sg R x y p)) (sidesOf sg R).zipIdx
        rw [List.length_zipIdx, sides_len] at a
        have := ok.le
        omega
      refine ⟨_, rfl, g, G.C, dx2, _, _, rfl, hg2, T.gg.cl, T.gg.a7, rfl, _, rfl, mv, .ref l, rfl, by rw [← hv2]; exact DGet.k (k := .inl (fitAt sg R x y p : Nat)) hmv2, l, rfl, ⟨_, SqL.of hl2⟩, fun D hD => ?_⟩
      refine lcs_it [some (.ref g), some (.int (p : Nat)), some (.int (p / (y.cps.size + 1) : Nat)), some (.int (p % (y.cps.size + 1) : Nat)), some (.int (fitAt sg R x y p : Nat)), none, none, none, none] rfl walk_list (fun i H' => Same H2 H' ∧ ∃ acc, H' D = some (.lst acc) ∧ acc.length = i ∧ Paired (MvT H') acc (((movesOf (sidesOf sg R) (y.cps.size + 1) (fitAt sg R x y p)).take i).map (shiftM p))) ⟨Same.upd hD, [], upd_same, rfl, .nil⟩ (fun i H' _ z => SqL.of (z.1 _ _ hl2)) ?_ ?_
      · rintro i v _ H3 hi ⟨s3, acc, hacc, hl, pa⟩ ⟨rfl, hv⟩
        obtain ⟨q0, hq0, a, rfl, ha⟩ := pat pm2 hv
        refine ⟨a, _, rfl, SqT.of (s3 _ _ ha), rfl, _, _, rfl, _, _, rfl, _, _, rfl, _, _, rfl, rfl, rfl, tyes ?_⟩
        simp only [if_true]
        refine ⟨_, rfl, _, rfl, _, _, rfl, rfl, _, rfl, _, rfl, _, rfl, by show 4 ≤ sizeLine; decide, fun q hq => ?_⟩
        have e1 : (upd H3 q (.tup [.int ((p : Nat) + (q0.1 : Nat)), .int q0.2.1, .int (q0.2.2.1 : Nat), .int (q0.2.2.2 : Nat)])) q = some (.tup [.int ((p + q0.1 : Nat) : Int), .int q0.2.1, .int (q0.2.2.1 : Nat), .int (q0.2.2.2 : Nat)]) := upd_same
        have hacc4 := Same.upd (o := .tup [.int ((p : Nat) + (q0.1 : Nat)), .int q0.2.1, .int (q0.2.2.1 : Nat), .int (q0.2.2.2 : Nat)]) hq _ _ hacc
        have il : i < ms.length := hi
        refine ⟨acc, hacc4, by rw [sizeLine_eq]; omega, fun b o z => ?_, acc ++ [.ref q], upd_same, by rw [List.length_append, hl]; rfl, ?_⟩
        · rw [upd_ne (ne_of_none z hD)]
          exact Same.upd hq _ _ (s3 _ _ z)
        · rw [List.take_add_one, hq0, List.map_append]
          refine psnoc (L2.Paired.mapP pa fun _ _ z => z.keep fun b xs y => ?_) ⟨q, rfl, ?_⟩
          · rw [upd_ne (ne_of (Same.upd hq _ _ y) hacc4 (by intro z; cases z))]
            exact Same.upd hq _ _ y
          · rw [upd_ne (ne_of e1 hacc4 (by intro z; cases z))]
            exact e1
      · rintro H3 ⟨s3, acc, hacc, hl, pa⟩
        rw [Paired.length pm2, List.take_length] at pa
        refine k D acc kvs2 H3 (fun b o e n => s3 _ _ (b2 _ _ e n)) (ga2.keep s3) (kp2.keep fun b o e _ => s3 _ _ e) lk2 ?_ hacc pa
        cases e : H D with
        | none => rfl
        | some o =>
          by_cases z : D = mv
          · rw [z, hmv2] at hD; cases hD
          · rw [b2 _ _ e z] at hD; cases hD
end
end Kx

namespace Kx
open PySem L2 Own
/-- a side in plain lists -/
def toL (e : Ed) : List Nat × List Nat × Int := (e.1.cps.toList, e.2.1.cps.toList, e.2.2)
section
variable {sg x y : Str} {R : List Ed} {p : Nat}
theorem bit_fits {e : Ed} {k : Nat} (h : (sidesOf sg R)[k]? = some e) : bitOn (fitAt sg R x y p) (e, k) = (Dag.fits x.cps.toList e.1.cps.toList (p / (y.cps.size + 1)) && Dag.fits y.cps.toList e.2.1.cps.toList (p % (y.cps.size + 1))) := by
  have kl : k < (sidesOf sg R).length := (List.getElem?_eq_some_iff.mp h).1
  have g1 : ((sidesOf sg R).map (·.1)).getD k ("" : Str) = e.1 := by rw [List.getD_eq_getElem?_getD, List.getElem?_map, h]; rfl
  have g2 : ((sidesOf sg R).map (·.2.1)).getD k ("" : Str) = e.2.1 := by rw [List.getD_eq_getElem?_getD, List.getElem?_map, h]; rfl
  unfold bitOn fitAt standN
  rw [List.length_map, List.length_map, Dag.both_bit _ _ kl, g1, g2]
  by_cases c : (Dag.fits x.cps.toList e.1.cps.toList (p / (y.cps.size + 1)) && Dag.fits y.cps.toList e.2.1.cps.toList (p % (y.cps.size + 1))) = true
  · rw [if_pos c, c]; rfl
  · rw [if_neg c]
    have : (Dag.fits x.cps.toList e.1.cps.toList (p / (y.cps.size + 1)) && Dag.fits y.cps.toList e.2.1.cps.toList (p % (y.cps.size + 1))) = false := by simpa using c
    rw [this]; rfl
theorem filter_zip {α : Type} {q : α × Nat → Bool} {r : α → Bool} : ∀ (l : List α) (n : Nat), (∀ k e, l[k]? = some e → q (e, n + k) = r e) → ((l.zipIdx n).filter q).map Prod.fst = l.filter r
  | [], _, _ => rfl
  | a :: l, n, h => by
    have h0 := h 0 a rfl
    have ih := filter_zip l (n + 1) fun k e he => by
      have := h (k + 1) e he
      rwa [show n + (k + 1) = n + 1 + k by omega] at this
    rw [List.zipIdx_cons, List.filter_cons, List.filter_cons]
    rw [Nat.add_zero] at h0
    rw [h0]
    cases r a with
    | true => simp only [if_true, List.map_cons, ih]
    | false => simpa using ih
theorem edges_eq : ((movesOf (sidesOf sg R) (y.cps.size + 1) (fitAt sg R x y p)).map (shiftM p)).map (fun q => (q.1, q.2.1)) = Dag.edges ((sidesOf sg R).map toL) x.cps.toList y.cps.toList p := by
  have ly : y.cps.toList.length = y.cps.size := Array.length_toList
  have e := filter_zip (q := bitOn (fitAt sg R x y p)) (r := fun e : Ed => Dag.fits x.cps.toList e.1.cps.toList (p / (y.cps.size + 1)) && Dag.fits y.cps.toList e.2.1.cps.toList (p % (y.cps.size + 1))) (sidesOf sg R) 0 fun k e he => by
    rw [Nat.zero_add]
    exact bit_fits he
  unfold Dag.edges movesOf
  rw [List.filter_map, List.map_map, List.map_map, List.map_map, ly]
  have f : ((fun e : List Nat × List Nat × Int => Dag.fits x.cps.toList e.1 (p / (y.cps.size + 1)) && Dag.fits y.cps.toList e.2.1 (p % (y.cps.size + 1))) ∘ toL) = fun e : Ed => Dag.fits x.cps.toList e.1.cps.toList (p / (y.cps.size + 1)) && Dag.fits y.cps.toList e.2.1.cps.toList (p % (y.cps.size + 1)) := rfl
  rw [f, ← e, List.map_map]
  refine List.map_congr_left fun z _ => ?_
  have l1 : z.1.1.cps.toList.length = z.1.1.cps.size := Array.length_toList
  have l2 : z.1.2.1.cps.toList.length = z.1.2.1.cps.size := Array.length_toList
  show (p + (z.1.1.cps.size * (y.cps.size + 1) + z.1.2.1.cps.size), z.1.2.2) = (p + z.1.1.cps.toList.length * (y.cps.size + 1) + z.1.2.1.cps.toList.length, z.1.2.2)
  rw [l1, l2, Nat.add_assoc]
end
end Kx

/-! least weights within a limit, each with the last step -/
namespace Dag
/-- a weight, and the last step: from where, by which column -/
abbrev Nd := Int × Option (Nat × Nat)
def inL (lim : Option Int) (w : Int) : Bool := match lim with
  | none => true
  | some k => decide (w ≤ k)
/-- one edge tried: (to, weight, column) -/
def relaxS (lim : Option Int) (p : Nat) (b : Int) (st : Nat → Option Nd) (e : Nat × Int × Nat) : Nat → Option Nd := fun q =>
  if q = e.1 ∧ inL lim (b + e.2.1) = true then (match st q with
    | none => some (b + e.2.1, some (p, e.2.2))
    | some w => if b + e.2.1 < w.1 then some (b + e.2.1, some (p, e.2.2)) else some w) else st q
variable (E : Nat → List (Nat × Int × Nat)) (lim : Option Int)
def turnS (st : Nat → Option Nd) (p : Nat) : Nat → Option Nd := match st p with
  | none => st
  | some b => (E p).foldl (relaxS lim p b.1) st
def initS : Nat → Option Nd := fun q => if q = 0 then some (0, none) else none
def runS : Nat → Nat → Option Nd
  | 0 => initS
  | n + 1 => turnS E lim (runS n) n
/-- the edges without their columns -/
def plainE : Nat → List (Nat × Int) := fun p => (E p).map fun e => (e.1, e.2.1)
/-- a weight within the limit -/
def cutL (o : Option Int) : Option Int := o.filter (inL lim)
variable {E} {lim}
theorem fold_otherS {p : Nat} {b : Int} {q : Nat} : ∀ (L : List (Nat × Int × Nat)) (st : Nat → Option Nd), (∀ e ∈ L, q ≠ e.1) → L.foldl (relaxS lim p b) st q = st q
  | [], _, _ => rfl
  | e :: L, st, h => by
    rw [List.foldl_cons, fold_otherS L _ fun e' he => h e' (List.mem_cons_of_mem _ he)]
    unfold relaxS
    rw [if_neg fun z => h e List.mem_cons_self z.1]
theorem inL_mono {a b : Int} (h : a ≤ b) (hb : inL lim b = true) : inL lim a = true := by
  unfold inL at *
  cases lim with
  | none => rfl
  | some k => exact decide_eq_true (by have := of_decide_eq_true hb; omega)
theorem cut_none {w : Int} (h : ¬ inL lim w = true) : cutL lim (some w) = none := by
  unfold cutL
  rw [Option.filter_some, if_neg h]
theorem cut_some {w : Int} (h : inL lim w = true) : cutL lim (some w) = some w := by
  unfold cutL
  rw [Option.filter_some, if_pos h]
/-- one edge: the weights stay the plain ones, cut -/
theorem relax_cut {p : Nat} {b : Int} {e : Nat × Int × Nat} {st : Nat → Option Nd} {wt : Nat → Option Int} (h : ∀ q, (st q).map (·.1) = cutL lim (wt q)) : ∀ q, (relaxS lim p b st e q).map (·.1) = cutL lim (relax b wt (e.1, e.2.1) q) := fun q => by
  have hq := h q
  unfold relaxS relax
  by_cases c : q = e.1
  · rw [if_pos c]
    by_cases l : inL lim (b + e.2.1) = true
    · rw [if_pos ⟨c, l⟩]
      cases hw : wt q with
      | none =>
        rw [hw] at hq
        have : st q = none := by cases hs : st q with
          | none => rfl
          | some _ => rw [hs] at hq; cases hq
        rw [this]
        show some _ = _
        rw [cut_some l]
      | some w =>
        rw [hw] at hq
        dsimp only
        by_cases lw : inL lim w = true
        · rw [cut_some lw] at hq
          cases hs : st q with
          | none => rw [hs] at hq; cases hq
          | some nd =>
            rw [hs] at hq
            have e1 : nd.1 = w := Option.some.inj hq
            dsimp only
            rw [e1]
            by_cases lt : b + e.2.1 < w
            · rw [if_pos lt, if_pos lt, cut_some l]; rfl
            · rw [if_neg lt, if_neg lt, cut_some lw, ← e1]; rfl
        · rw [cut_none lw] at hq
          have : st q = none := by cases hs : st q with
            | none => rfl
            | some _ => rw [hs] at hq; cases hq
          rw [this]
          have lt : b + e.2.1 < w := by
            refine Decidable.byContradiction fun z => lw (inL_mono (by omega) l)
          rw [if_pos lt, cut_some l]; rfl
    · rw [if_neg fun z => l z.2, hq]
      cases hw : wt q with
      | none => rw [cut_none l]; rfl
      | some w =>
        dsimp only
        by_cases lt : b + e.2.1 < w
        · rw [if_pos lt, cut_none l, cut_none fun z => l (inL_mono (by omega) z)]
        · rw [if_neg lt]
  · rw [if_neg c, if_neg fun z => c z.1, hq]
theorem fold_cut {p : Nat} {b : Int} : ∀ (L : List (Nat × Int × Nat)) {st : Nat → Option Nd} {wt : Nat → Option Int}, (∀ q, (st q).map (·.1) = cutL lim (wt q)) → ∀ q, (L.foldl (relaxS lim p b) st q).map (·.1) = cutL lim ((L.map fun e => (e.1, e.2.1)).foldl (relax b) wt q)
  | [], _, _, h => h
  | e :: L, _, _, h => fold_cut L (relax_cut h)
/-- edges tried from above the limit change nothing within it -/
theorem fold_far {b : Int} (hb : ¬ inL lim b = true) : ∀ (L : List (Nat × Int)) {wt : Nat → Option Int}, (∀ e ∈ L, 0 ≤ e.2) → ∀ q, cutL lim (L.foldl (relax b) wt q) = cutL lim (wt q)
  | [], _, _, _ => rfl
  | e :: L, wt, h, q => by
    rw [List.foldl_cons, fold_far hb L (fun e' he => h e' (List.mem_cons_of_mem _ he))]
    have e0 := h e List.mem_cons_self
    have l : ¬ inL lim (b + e.2) = true := fun z => hb (inL_mono (by omega) z)
    unfold relax
    by_cases c : q = e.1
    · rw [if_pos c]
      cases hw : wt q with
      | none => rw [cut_none l]; rfl
      | some w =>
        dsimp only
        by_cases lt : b + e.2 < w
        · rw [if_pos lt, cut_none l, cut_none fun z => l (inL_mono (by omega) z)]
        · rw [if_neg lt]
    · rw [if_neg c]
theorem runS_cut (h0 : inL lim 0 = true) (pos : ∀ p e, e ∈ E p → 0 ≤ e.2.1) : ∀ n q, (runS E lim n q).map (·.1) = cutL lim (run (plainE E) n q)
  | 0, q => by
    show (initS q).map _ = cutL lim (init q)
    unfold initS init
    by_cases h : q = 0
    · rw [if_pos h, if_pos h, cut_some h0]; rfl
    · rw [if_neg h, if_neg h]; rfl
  | n + 1, q => by
    have ih := runS_cut h0 pos n
    show (turnS E lim (runS E lim n) n q).map _ = cutL lim (turn (plainE E) (run (plainE E) n) n q)
    unfold turnS turn
    have hn := ih n
    cases hw : run (plainE E) n n with
    | none =>
      rw [hw] at hn
      have : runS E lim n n = none := by cases hs : runS E lim n n with
        | none => rfl
        | some _ => rw [hs] at hn; cases hn
      rw [this]
      exact ih q
    | some b =>
      rw [hw] at hn
      dsimp only
      by_cases l : inL lim b = true
      · rw [cut_some l] at hn
        cases hs : runS E lim n n with
        | none => rw [hs] at hn; cases hn
        | some nd =>
          rw [hs] at hn
          have e1 : nd.1 = b := Option.some.inj hn
          dsimp only
          rw [e1]
          exact fold_cut (E n) ih q
      · rw [cut_none l] at hn
        have : runS E lim n n = none := by cases hs : runS E lim n n with
          | none => rfl
          | some _ => rw [hs] at hn; cases hn
        rw [this]
        dsimp only
        rw [ih q]
        refine (fold_far l _ (fun e he => ?_) q).symm
        obtain ⟨e', h', rfl⟩ := List.mem_map.mp he
        exact pos n e' h'
/-! ### steps -/
/-- what a node says is so: a start, or a step from a place that stays -/
def StepOk (E : Nat → List (Nat × Int × Nat)) (st : Nat → Option Nd) (n q : Nat) : Nd → Prop
  | (w, none) => q = 0 ∧ w = 0
  | (w, some (p, c)) => p < n ∧ ∃ cost b, (q, cost, c) ∈ E p ∧ (st p).map (·.1) = some b ∧ w = b + cost
theorem fold_step {p n : Nat} {b : Int} (hpn : p < n) (G : List (Nat × Int × Nat)) (sub : ∀ e ∈ G, e ∈ E p) : ∀ (L : List (Nat × Int × Nat)) {st : Nat → Option Nd} {s0 : Nat → Option Nd}, (∀ e ∈ L, e ∈ E p) → (s0 p).map (·.1) = some b → (∀ q nd, st q = some nd → StepOk E s0 n q nd) → ∀ q nd, L.foldl (relaxS lim p b) st q = some nd → StepOk E s0 n q nd
  | [], _, _, _, _, h => h
  | e :: L, st, s0, hL, h0, h => fold_step hpn G sub L (fun e' he => hL e' (List.mem_cons_of_mem _ he)) h0 fun q nd hq => by
    unfold relaxS at hq
    by_cases c : q = e.1 ∧ inL lim (b + e.2.1) = true
    · rw [if_pos c] at hq
      have new : StepOk E s0 n q (b + e.2.1, some (p, e.2.2)) := ⟨hpn, e.2.1, b, by rw [c.1]; exact hL e List.mem_cons_self, h0, rfl⟩
      cases hs : st q with
      | none =>
        rw [hs] at hq
        rw [← Option.some.inj hq]
        exact new
      | some nd' =>
        rw [hs] at hq
        dsimp only at hq
        by_cases lt : b + e.2.1 < nd'.1
        · rw [if_pos lt] at hq
          rw [← Option.some.inj hq]
          exact new
        · rw [if_neg lt] at hq
          exact h q nd (hs.trans hq)
    · rw [if_neg c] at hq
      exact h q nd hq
theorem StepOk.mono {st st' : Nat → Option Nd} {n n' q : Nat} {nd : Nd} (l : n ≤ n') (s : ∀ p, p < n → st' p = st p) (h : StepOk E st n q nd) : StepOk E st' n' q nd := by
  obtain ⟨w, o⟩ := nd
  cases o with
  | none => exact h
  | some pc =>
    obtain ⟨p, c⟩ := pc
    obtain ⟨hp, cost, b, h1, h2, h3⟩ := h
    exact ⟨by omega, cost, b, h1, by rw [s p hp]; exact h2, h3⟩
/-- a place that has been done stays as it is -/
theorem run_stay (fw : ∀ p e, e ∈ E p → p < e.1) {n q : Nat} (h : q ≤ n) : runS E lim (n + 1) q = runS E lim n q := by
  show turnS E lim (runS E lim n) n q = _
  unfold turnS
  cases hb : runS E lim n n with
  | none => rfl
  | some b => exact fold_otherS (E n) _ fun e he z => by have := fw n e he; omega
theorem run_stays (fw : ∀ p e, e ∈ E p → p < e.1) {n m q : Nat} (h : q ≤ n) (l : n ≤ m) : runS E lim m q = runS E lim n q := by
  induction m with
  | zero => rw [Nat.le_zero.mp l]
  | succ m ih =>
    by_cases e : n = m + 1
    · rw [e]
    · rw [run_stay fw (by omega), ih (by omega)]
theorem runS_step (fw : ∀ p e, e ∈ E p → p < e.1) : ∀ n q nd, runS E lim n q = some nd → StepOk E (runS E lim n) n q nd
  | 0, q, nd, h => by
    have h : initS q = some nd := h
    unfold initS at h
    by_cases c : q = 0
    · rw [if_pos c] at h
      rw [← Option.some.inj h]
      exact ⟨c, rfl⟩
    · rw [if_neg c] at h
      cases h
  | n + 1, q, nd, h => by
    have ih := runS_step fw n
    have st : ∀ p, p < n → runS E lim (n + 1) p = runS E lim n p := fun p hp => run_stay fw (by omega)
    have h' : turnS E lim (runS E lim n) n q = some nd := h
    unfold turnS at h'
    cases hb : runS E lim n n with
    | none =>
      rw [hb] at h'
      exact (ih q nd h').mono (Nat.le_succ n) st
    | some b =>
      rw [hb] at h'
      have hn : (runS E lim (n + 1) n).map (·.1) = some b.1 := by rw [run_stay fw (Nat.le_refl n), hb]; rfl
      exact fold_step (s0 := runS E lim (n + 1)) (Nat.lt_succ_self n) (E n) (fun _ h => h) (E n) (fun _ h => h) hn (fun q nd hq => (ih q nd hq).mono (Nat.le_succ n) st) q nd h'
/-- a row of columns from the start -/
inductive Row (E : Nat → List (Nat × Int × Nat)) : Nat → Int → List Nat → Prop
  | start : Row E 0 0 []
  | step {p q c : Nat} {w cost : Int} {cs : List Nat} : Row E p w cs → (q, cost, c) ∈ E p → Row E q (w + cost) (cs ++ [c])
/-- what lies behind a place, the last one first -/
def back (st : Nat → Option Nd) : Nat → Nat → List Nat
  | 0, _ => []
  | f + 1, q => match st q with
    | some (_, some (p, c)) => c :: back st f p
    | _ => []
theorem back_row (fw : ∀ p e, e ∈ E p → p < e.1) {n : Nat} : ∀ (f q : Nat) (w : Int), q < f → (runS E lim n q).map (·.1) = some w → Row E q w (back (runS E lim n) f q).reverse
  | 0, _, _, h, _ => absurd h (Nat.not_lt_zero _)
  | f + 1, q, w, h, hw => by
    cases hs : runS E lim n q with
    | none => rw [hs] at hw; cases hw
    | some nd =>
      have ok := runS_step fw n q nd hs
      rw [hs] at hw
      have e1 : nd.1 = w := Option.some.inj hw
      unfold back
      rw [hs]
      obtain ⟨w', o⟩ := nd
      obtain rfl : w' = w := e1
      cases o with
      | none =>
        obtain ⟨rfl, rfl⟩ := ok
        exact .start
      | some pc =>
        obtain ⟨p, c⟩ := pc
        obtain ⟨hp, cost, b, h1, h2, rfl⟩ := ok
        dsimp only
        rw [List.reverse_cons]
        have := fw p _ h1
        exact .step (back_row fw f p b (by omega) h2) h1
end Dag

namespace Kx
open PySem L2 Own
structure TxtGw (K : PySem.W.Frag) (mg : Str → Option Value) (G : GAd) : Prop where
  gm : TxtGm K mg G
  M_ways : Meth K G.C "ways_within" G.fw
  F_ways : Fun K "ways_within" "Grid.ways_within" s_gways G.fw G.dw
  b_ways : Binds K G.dw ["self", "limit"] []
  n_range : mg "range" = none
theorem GrM.keep2 {C g mv : Addr} {H H' : Hp} {sg x y : Str} {R : List Ed} {kvs : List (L2.Key × V)} (n : ∀ b o, H b = some o → (∀ kvs, o ≠ .dK kvs) → H' b = some o) (m : ∀ o, H mv = some o → H' mv = some o) (h : GrM C H g mv sg R x y kvs) : GrM C H' g mv sg R x y kvs := by
  obtain ⟨dx, ca, sa, fa, fb, sv, h1, h2, h3, h4, h5, h6, h7⟩ := h
  exact ⟨dx, ca, sa, fa, fb, sv, n _ _ h1 (fun _ z => by cases z), n _ _ h2 (fun _ z => by cases z), n _ _ h3 (fun _ z => by cases z), L2.Paired.mapP h4 fun _ _ z => z.keep fun b xs e => n _ _ e (fun _ z => by cases z), n _ _ h5 (fun _ z => by cases z), n _ _ h6 (fun _ z => by cases z), m _ h7⟩
theorem putK_short (c : List (L2.Key × V)) (k : L2.Key) (x : V) : (putK c k x).length ≤ c.length + 1 := by
  unfold putK
  split
  · rw [List.length_map]; exact Nat.le_succ _
  · rw [List.length_append]; exact Nat.le_refl _
theorem sides_ne {sg : Str} {R : List Ed} (ok : OkRows sg R) : ∀ e ∈ (sidesOf sg R).map toL, e.1 ≠ [] ∨ e.2.1 ≠ [] := fun e he => by
  obtain ⟨e0, h0, rfl⟩ := List.mem_map.mp he
  unfold sidesOf at h0
  rcases List.mem_append.mp h0 with h | h
  · obtain ⟨l, hl, rfl⟩ := List.mem_map.mp h
    unfold letters at hl
    obtain ⟨c, _, rfl⟩ := List.mem_map.mp hl
    exact .inl (fun z => nomatch z)
  · refine Decidable.byContradiction fun z => (ok.ok e0 h).ne ?_
    have z1 : e0.1.cps.toList = [] := Decidable.byContradiction fun y => z (.inl y)
    have z2 : e0.2.1.cps.toList = [] := Decidable.byContradiction fun y => z (.inr y)
    have e := Array.toList_inj.mp (z1.trans z2.symm)
    obtain ⟨⟨a⟩, ⟨b⟩, c⟩ := e0
    exact congrArg Str.mk e
theorem fold_other {b : Int} {q : Nat} : ∀ (L : List (Nat × Int)) (wt : Nat → Option Int), (∀ e ∈ L, q ≠ e.1) → L.foldl (Dag.relax b) wt q = wt q
  | [], _, _ => rfl
  | e :: L, wt, h => by
    rw [List.foldl_cons, fold_other L _ fun e' he => h e' (List.mem_cons_of_mem _ he)]
    unfold Dag.relax
    rw [if_neg (h e List.mem_cons_self)]
/-- a weight, or none -/
def wtV : Option Int → V
  | none => .non
  | some w => .int w
/-- the edges of the grid, with their columns -/
def movesE (sg : Str) (R : List Ed) (x y : Str) (p : Nat) : List (Nat × Int × Nat) := ((movesOf (sidesOf sg R) (y.cps.size + 1) (fitAt sg R x y p)).map (shiftM p)).map fun q => (q.1, q.2.1, q.2.2.2)
abbrev lastP (x y : Str) : Nat := x.cps.size * (y.cps.size + 1) + y.cps.size
abbrev edgesP (sg : Str) (R : List Ed) (x y : Str) : Nat → List (Nat × Int) := Dag.edges ((sidesOf sg R).map toL) x.cps.toList y.cps.toList
theorem movesE_plain {sg x y : Str} {R : List Ed} : Dag.plainE (movesE sg R x y) = edgesP sg R x y := funext fun p => by
  unfold Dag.plainE movesE edgesP
  rw [← edges_eq, List.map_map]
  rfl
theorem mem_plain {sg x y : Str} {R : List Ed} {p : Nat} {e : Nat × Int × Nat} (h : e ∈ movesE sg R x y p) : (e.1, e.2.1) ∈ edgesP sg R x y p := by
  rw [← movesE_plain]
  exact List.mem_map.mpr ⟨e, h, rfl⟩
theorem movesE_fw {sg x y : Str} {R : List Ed} (ok : OkRows sg R) : ∀ p e, e ∈ movesE sg R x y p → p < e.1 := fun p e h => Dag.edges_fw (sides_ne ok) p e.1 e.2.1 (mem_plain h)
theorem movesE_pos {sg x y : Str} {R : List Ed} (ok : OkRows sg R) : ∀ p e, e ∈ movesE sg R x y p → 0 ≤ e.2.1 := fun p e h => by
  obtain ⟨u, v, hm, _⟩ := Dag.mem_edges.mp (mem_plain h)
  obtain ⟨e0, h0, ee⟩ := List.mem_map.mp hm
  have : e.2.1 = e0.2.2 := ((Prod.mk.inj (Prod.mk.inj ee).2).2).symm
  rw [this]
  unfold sidesOf at h0
  rcases List.mem_append.mp h0 with h | h
  · obtain ⟨l, _, rfl⟩ := List.mem_map.mp h
    exact Int.le_refl _
  · exact (ok.ok e0 h).w0
theorem movesE_len {sg x y : Str} {R : List Ed} (sz : sg.cps.size ≤ 26) (ok : OkRows sg R) (p : Nat) : (movesE sg R x y p).length ≤ 50 := by
  have e := congrArg List.length (congrFun (movesE_plain (sg := sg) (x := x) (y := y) (R := R)) p)
  unfold Dag.plainE at e
  rw [List.length_map] at e
  rw [e]
  unfold edgesP Dag.edges
  rw [List.length_map]
  refine Nat.le_trans (List.length_filter_le _ _) ?_
  rw [List.length_map, sides_len]
  have := ok.le
  omega
/-- the last steps, as they are kept -/
def StAt (H : Hp) (o : Option V) : Option Dag.Nd → Prop
  | none => o = none
  | some (_, none) => o = some .non
  | some (_, some (p, c)) => ∃ a, o = some (.ref a) ∧ H a = some (.tup [.int (p : Nat), .int (c : Nat)])
theorem StAt.keep {H H' : Hp} {o : Option V} {nd : Option Dag.Nd} (s : ∀ b xs, H b = some (.tup xs) → H' b = some (.tup xs)) (h : StAt H o nd) : StAt H' o nd := by
  match nd, h with
  | none, h => exact h
  | some (_, none), h => exact h
  | some (_, some (p, c)), ⟨a, e, h⟩ => exact ⟨a, e, s _ _ h⟩
/-- weights and last steps in two dicts -/
def TwoD (H : Hp) (wk sk : List (L2.Key × V)) (st : Nat → Option Dag.Nd) : Prop := (∀ q : Nat, valV wk (.inl (q : Nat)) = (st q).map fun nd => V.int nd.1) ∧ (∀ q : Nat, StAt H (valV sk (.inl (q : Nat))) (st q)) ∧ ∀ kv ∈ wk, ∃ q : Nat, kv.1 = .inl (q : Nat)
theorem TwoD.keep {H H' : Hp} {wk sk : List (L2.Key × V)} {st : Nat → Option Dag.Nd} (s : ∀ b xs, H b = some (.tup xs) → H' b = some (.tup xs)) (h : TwoD H wk sk st) : TwoD H' wk sk st := ⟨h.1, fun q => (h.2.1 q).keep s, h.2.2⟩
theorem TwoD.ext {H : Hp} {wk sk : List (L2.Key × V)} {st st' : Nat → Option Dag.Nd} (e : ∀ q, st' q = st q) (h : TwoD H wk sk st) : TwoD H wk sk st' := ⟨fun q => by rw [e q]; exact h.1 q, fun q => by rw [e q]; exact h.2.1 q, h.2.2⟩
theorem put_mem {c : List (L2.Key × V)} {k : L2.Key} {x : V} {kv : L2.Key × V} (h : kv ∈ putK c k x) : kv.1 = k ∨ ∃ kv' ∈ c, kv'.1 = kv.1 := by
  unfold putK at h
  split at h
  · obtain ⟨kv', h', rfl⟩ := List.mem_map.mp h
    refine .inr ⟨kv', h', ?_⟩
    split <;> simp_all
  · rcases List.mem_append.mp h with h | h
    · exact .inr ⟨kv, h, rfl⟩
    · rw [List.mem_singleton.mp h]
      exact .inl rfl
/-- a place's weight and step put -/
theorem TwoD.put {H H' : Hp} {wk sk : List (L2.Key × V)} {st st' : Nat → Option Dag.Nd} {q0 p c : Nat} {w : Int} {a : Addr} (h : TwoD H wk sk st) (s : ∀ b xs, H b = some (.tup xs) → H' b = some (.tup xs)) (ha : H' a = some (.tup [.int (p : Nat), .int (c : Nat)]))
    (e : ∀ q, st' q = if q = q0 then some (w, some (p, c)) else st q) : TwoD H' (putK wk (.inl (q0 : Nat)) (.int w)) (putK sk (.inl (q0 : Nat)) (.ref a)) st' := by
  refine ⟨fun q => ?_, fun q => ?_, fun kv hk => ?_⟩
  · rw [valV_put, e q]
    by_cases c0 : q = q0
    · rw [c0, if_pos rfl, if_pos rfl]; rfl
    · have n0 : ¬ (Sum.inl ((q : Nat) : Int) : L2.Key) = .inl (q0 : Nat) := fun z => c0 (Int.ofNat.inj (Sum.inl.inj z))
      rw [if_neg n0, if_neg c0]
      exact h.1 q
  · rw [valV_put, e q]
    by_cases c0 : q = q0
    · rw [c0, if_pos rfl, if_pos rfl]; exact ⟨a, rfl, ha⟩
    · have n0 : ¬ (Sum.inl ((q : Nat) : Int) : L2.Key) = .inl (q0 : Nat) := fun z => c0 (Int.ofNat.inj (Sum.inl.inj z))
      rw [if_neg n0, if_neg c0]
      exact (h.2.1 q).keep s
  · rcases put_mem hk with h1 | ⟨kv', h1, e1⟩
    · exact ⟨q0, h1⟩
    · rw [← e1]; exact h.2.2 kv' h1
theorem within_or {σ : L2.St} {H : Hp} {lim : Option Int} {w : Int} {i j : Nat} {F : Bool → Hp → Prop} (h1 : σ[i]? = some (some (wtV lim))) (h2 : σ[j]? = some (some (.int w))) (q : F (Dag.inL lim w) H) :
    tOr (tTest (tOp (fun x y H Q => y = V.non ∧ Q (V.bl (decide (x = V.non))) H) (tVar i) (tC V.non))) (tTest (tOp (rI0 fun i j => V.bl (decide (i ≤ j))) (tVar j) (tVar i))) σ H F := by
  cases lim with
  | none => exact ⟨_, h1, rfl, _, rfl, iteT q⟩
  | some k => exact ⟨_, h1, rfl, _, rfl, iteF ⟨_, h2, _, h1, _, _, rfl, rfl, _, rfl, q⟩⟩
/-- none, or greater -/
def lessO (w : Int) : Option Int → Bool
  | none => true
  | some v => decide (w < v)
theorem new_or {σ : L2.St} {H : Hp} {w : Int} {i j k : Nat} {q : Nat} {wa : Addr} {wk : List (L2.Key × V)} {o : Option Int} {F : Bool → Hp → Prop} (h1 : σ[i]? = some (some (.int (q : Nat)))) (h2 : σ[j]? = some (some (.ref wa))) (h3 : σ[k]? = some (some (.int w)))
    (hw : H wa = some (.dK wk)) (hv : valV wk (.inl (q : Nat)) = o.map V.int) (g : F (lessO w o) H) :
    tOr (tB (tDNotIn (tVar i) (tVar j))) (tTest (tOp (rI0 fun i j => V.bl (decide (i < j))) (tVar k) (tDGet (tVar j) (tVar i)))) σ H F := by
  refine ⟨_, h1, _, h2, wa, _, rfl, DGet.k (k := .inl (q : Nat)) hw, _, rfl, ?_⟩
  rw [hv]
  cases o with
  | none => exact iteT g
  | some v => exact iteF ⟨_, h3, _, h2, _, h1, wa, .int v, rfl, (by rw [show some (V.int v) = valV wk (.inl (q : Nat)) from hv.symm]; exact DGet.k (k := .inl (q : Nat)) hw), _, _, rfl, rfl, _, rfl, g⟩
section
variable {P : Program} {w : World} {K : PySem.W.Frag} {mg : Str → Option Value} {base : Heap} {G : GAd}
def spWw (G : GAd) : Sp := fun vs H Q _ => ∃ (g mv : Addr) (sg x y : Str) (R : List Ed) (lim : Option Int), vs = [.ref g, wtV lim] ∧ GrM G.C H g mv sg R x y [] ∧ sg.cps.size ≤ 26 ∧ OkRows sg R ∧ x.cps.size ≤ 100 ∧ y.cps.size ≤ 100 ∧
  ∀ t wa sa wk sk kvs H', But mv H H' → GrM G.C H' g mv sg R x y kvs → H' t = some (.tup [.ref wa, .ref sa]) → H' wa = some (.dK wk) → H' sa = some (.dK sk) → TwoD H' wk sk (Dag.runS (movesE sg R x y) lim (lastP x y + 1)) → wk.length ≤ 1000000 → sk.length ≤ 1000000 → Q (.ref t) H'
abbrev Nww : List Str := ["self", "limit", "weights", "steps", "place", "to", "more", "_", "column", "weight"]
theorem sc_ww : FnScope Nww ["self", "limit"] (defScope s_gways) := ⟨rfl, rfl, rfl, by decide +kernel, rfl, by decide +kernel, by decide +kernel⟩
theorem ok_ways (T : TxtGw K mg G) : FnOk P w K mg base CX0 3 G.fw G.dw ["self", "limit"] (spWw G) := by
  have sc := sc_ww
  have G_ah : FnOk P w K mg base CX0 2 G.fa G.da ["self", "place"] (spAh G) := ok_ahead T.gm
  refine T.F_ways.ok sc (fun vs H Q E h => ?_) (fun cdv A1 outer s H vs Q E hr h => ?_)
  · obtain ⟨_, _, _, _, _, _, _, rfl, _⟩ := h; rfl
  · obtain ⟨g, mv, sg, x, y, R, lim, rfl, ga, sz, ok, xl, yl, k⟩ := h
    have hu1 : (A1.deeper (PyProof.Rows.envOfC "Grid.ways_within" (defScope s_gways) s.heap.objs.size G.fw cdv)).units + 1 < cLine := by have := hr.un; omega
    refine ⟨_, (pss_cons (ps_set (i := 2) sc.nd rfl (Or.inl rfl) (pe_disp (pps_cons pe_int pe_int pps_nil) (by rfl) (by rfl) (fun z => by cases z) (by decide)))
      (pss_cons (ps_set (i := 3) sc.nd rfl (Or.inl rfl) (pe_disp (pps_cons pe_int pe_non pps_nil) (by rfl) (by rfl) (fun z => by cases z) (by decide)))
      (pss_cons (ps_for PassesOwn.never rfl (pi_range1 rfl T.n_range (pa_cons (pe_op op_add (pe_fld (pv 0) rfl) pe_int) pa_nil)) (pg_name (i := 4) sc.nd rfl (Or.inl rfl))
      (pss_one (ps_if (pt_cmp (pc_din hu1 (pv 4) (pv 2))) (pss_one (ps_for PassesOwn.never rfl (pi_list (pe_meth (pv 0) T.gm.gg.cl T.gm.M_ahead G_ah (hr.mono (by decide)) T.gm.b_ahead .nil pass0 (pa_cons (pv 4) pa_nil))) (pg_tup rfl (pgs_cons (pg_name (i := 5) sc.nd rfl (Or.inl rfl)) (pgs_cons (pg_name (i := 6) sc.nd rfl (Or.inl rfl)) (pgs_cons (pg_name (i := 7) sc.nd rfl (Or.inl rfl)) (pgs_cons (pg_name (i := 8) sc.nd rfl (Or.inl rfl)) pgs_nil)))))
      (pss_cons (ps_set (i := 9) sc.nd rfl (Or.inl rfl) (pe_op op_add (pe_dget hu1 (pv 2) (pv 4) (fun _ _ => rfl)) (pv 6)))
      (pss_one (ps_if (PW.pt (pw_and (PW.pt (pw_or (pt_cmpR op_isN (pv 1) pe_non (nomark _)) (pw_or1 (pt_cmpR op_le (pv 9) (pv 1) (nomark _))))) (pw_and1 (PW.pt (pw_or (pt_cmp (pc_dnotin hu1 (pv 5) (pv 2))) (pw_or1 (pt_cmpR op_lt (pv 9) (pe_dget hu1 (pv 2) (pv 5) (fun _ _ => rfl)) (nomark _)))))))) (pss_cons (ps_dput hu1 (pv 2) (pv 5) (pv 9) rfl)
      (pss_one (ps_dput hu1 (pv 3) (pv 5) (pe_tup (pa_cons (pv 4) (pa_cons (pv 8) pa_nil))) rfl))) pss_nil))))) pss_nil)))
      (pss_one (ps_ret (pe_tup (pa_cons (pv 2) (pa_cons (pv 3) pa_nil)))))))), ?_⟩
    obtain ⟨dx0, ca0, sa0, fa0, fb0, sv0, hg0, _, _, _, _, _, hmv0⟩ := id ga
    refine fun wa hwa => ⟨upd_same, [(.inl 0, .int 0)], rfl, by show 1 ≤ 15; decide, ?_⟩
    rw [upd_upd]
    refine fun sa hsa => ⟨upd_same, [(.inl 0, .non)], rfl, by show 1 ≤ 15; decide, ?_⟩
    rw [upd_upd]
    have hw1 : (upd (upd H wa (.dK [(.inl 0, .int 0)])) sa (.dK [(.inl 0, .non)])) wa = some (.dK [(.inl 0, .int 0)]) := Same.upd hsa _ _ upd_same
    have hs1 : (upd (upd H wa (.dK [(.inl 0, .int 0)])) sa (.dK [(.inl 0, .non)])) sa = some (.dK [(.inl 0, .non)]) := upd_same
    have s1 : Same H (upd (upd H wa (.dK [(.inl 0, .int 0)])) sa (.dK [(.inl 0, .non)])) := (Same.upd hwa).trans (Same.upd hsa)
    have nws : wa ≠ sa := fun z => by rw [← z, upd_same] at hsa; cases hsa
    have nwm : wa ≠ mv := fun z => by rw [z, hmv0] at hwa; cases hwa
    have nsm : sa ≠ mv := fun z => by rw [z, Same.upd hwa _ _ hmv0] at hsa; cases hsa
    have Hsa : H sa = none := by
      cases e : H sa with
      | none => rfl
      | some o => rw [Same.upd hwa _ _ e] at hsa; cases hsa
    have ga1 := ga.keep s1
    show tSeq _ _ _ _ (upd (upd H wa (.dK [(.inl 0, .int 0)])) sa (.dK [(.inl 0, .non)]))
    generalize upd (upd H wa (.dK [(.inl 0, .int 0)])) sa (.dK [(.inl 0, .non)]) = H1 at hw1 hs1 s1 ga1 ⊢
    have lE := movesE_len (x := x) (y := y) sz ok
    obtain ⟨dx1, _, _, _, _, _, hg1, _⟩ := id ga1
    have lp : lastP x y ≤ 11000 := by
      have : x.cps.size * (y.cps.size + 1) ≤ 100 * 101 := Nat.mul_le_mul xl (by omega)
      unfold lastP
      omega
    have lp' : x.cps.size * (y.cps.size + 1) + y.cps.size ≤ 11000 := lp
    refine ⟨_, rfl, g, G.C, dx1, _, _, rfl, hg1, T.gm.gg.cl, T.gm.gg.a4, rfl, _, _, rfl, rfl, ?_⟩
    refine ⟨_, rfl, by omega, by omega, ?_⟩
    refine for_range (lo := 0) (n := lastP x y + 1) (fun i σ H' => (∃ o4 o5 o6 o7 o8 o9 : Option V, σ = [some (.ref g), some (wtV lim), some (.ref wa), some (.ref sa), o4, o5, o6, o7, o8, o9]) ∧ ∃ (kvs wk sk : List (L2.Key × V)), But mv H H' ∧ GrM G.C H' g mv sg R x y kvs ∧ Kept H' (sidesOf sg R) (y.cps.size + 1) kvs ∧ kvs.length ≤ i ∧ H' wa = some (.dK wk) ∧ H' sa = some (.dK sk) ∧ TwoD H' wk sk (Dag.runS (movesE sg R x y) lim i) ∧ wk.length ≤ 1 + 50 * i ∧ sk.length ≤ 1 + 50 * i)
      ⟨⟨_, _, _, _, _, _, rfl⟩, [], _, _, fun b o e _ => s1 _ _ e, ga1, fun kv hk => (nomatch hk), Nat.le_refl _, hw1, hs1, ⟨fun q => ?_, fun q => ?_, fun kv hk => ?_⟩, Nat.le_refl _, Nat.le_refl _⟩ ?_ ?_
    · show _ = (Dag.initS q).map _
      unfold Dag.initS
      by_cases h : q = 0
      · subst h
        rfl
      · rw [if_neg h]
        have n0 : ¬ (Sum.inl (0 : Int) : L2.Key) = .inl (q : Nat) := fun z => h (by have := Sum.inl.inj z; omega)
        unfold valV
        rw [List.find?_cons, decide_eq_false n0]
        rfl
    · show StAt _ _ (Dag.initS q)
      unfold Dag.initS
      by_cases h : q = 0
      · subst h
        rfl
      · rw [if_neg h]
        have n0 : ¬ (Sum.inl (0 : Int) : L2.Key) = .inl (q : Nat) := fun z => h (by have := Sum.inl.inj z; omega)
        unfold valV
        rw [List.find?_cons, decide_eq_false n0]
        rfl
    · rw [List.mem_singleton.mp hk]
      exact ⟨0, rfl⟩
    · rintro i σ H2 hi ⟨⟨o4, o5, o6, o7, o8, o9, rfl⟩, kvs, wk, sk, b2, ga2, kp2, lk2, hw2, hs2, tw2, lw2, ls2⟩
      rw [show (0 : Int) + ((i : Nat) : Int) = (i : Nat) by omega]
      refine ⟨_, rfl, _, rfl, wa, _, rfl, DGet.k (k := .inl (i : Nat)) hw2, _, rfl, ?_⟩
      rw [tw2.1 i]
      have run1 : Dag.runS (movesE sg R x y) lim (i + 1) = Dag.turnS (movesE sg R x y) lim (Dag.runS (movesE sg R x y) lim i) i := rfl
      cases hb : Dag.runS (movesE sg R x y) lim i i with
      | none =>
        refine iteF ⟨⟨_, _, _, _, _, _, rfl⟩, kvs, wk, sk, b2, ga2, kp2, by omega, hw2, hs2, tw2.ext fun q => ?_, by omega, by omega⟩
        rw [run1]
        unfold Dag.turnS
        rw [hb]
      | some b =>
        obtain ⟨b, bs⟩ := b
        refine iteT ?_
        obtain ⟨dx2, _, _, _, _, _, hg2, _, _, _, _, _, hmv2⟩ := id ga2
        refine ⟨_, rfl, g, dx2, _, rfl, hg2, rfl, _, rfl, g, mv, sg, x, y, R, kvs, i, rfl, ga2, kp2, by omega, sz, ok, by omega, by omega, by show i ≤ lastP x y; omega, fun t ts kvs3 H3 b3 ga3 kp3 lk3 nt ht pm => ?_⟩
        refine ⟨t, rfl, ⟨_, SqL.of ht⟩, ?_⟩
        have hE : ((movesOf (sidesOf sg R) (y.cps.size + 1) (fitAt sg R x y i)).map (shiftM i)).map (fun q => (q.1, q.2.1, q.2.2.2)) = movesE sg R x y i := rfl
        generalize (movesOf (sidesOf sg R) (y.cps.size + 1) (fitAt sg R x y i)).map (shiftM i) = mm at pm hE
        have hw3 := b3 _ _ hw2 nwm
        have hs3 := b3 _ _ hs2 nsm
        have tw3 : TwoD H3 wk sk (Dag.runS (movesE sg R x y) lim i) := tw2.keep fun b' xs e => b3 _ _ e (ne_of e hmv2 (by intro z; cases z))
        have fwE : ∀ e ∈ movesE sg R x y i, i ≠ e.1 := fun e he z => by
          have := movesE_fw ok i e he
          omega
        have lm : mm.length ≤ 50 := by
          have := lE i
          rw [← hE, List.length_map] at this
          exact this
        refine for_it walk_list (fun j σ H' => (∃ o5 o6 o7 o8 o9 : Option V, σ = [some (.ref g), some (wtV lim), some (.ref wa), some (.ref sa), some (.int (i : Nat)), o5, o6, o7, o8, o9]) ∧ ∃ (wk' sk' : List (L2.Key × V)), (∀ b o, H3 b = some o → b ≠ wa → b ≠ sa → H' b = some o) ∧ H' wa = some (.dK wk') ∧ H' sa = some (.dK sk') ∧ TwoD H' wk' sk' (((movesE sg R x y i).take j).foldl (Dag.relaxS lim i b) (Dag.runS (movesE sg R x y) lim i)) ∧ wk'.length ≤ 1 + 50 * i + j ∧ sk'.length ≤ 1 + 50 * i + j)
          ⟨⟨_, _, _, _, _, rfl⟩, wk, sk, fun b o e _ _ => e, hw3, hs3, tw3, by omega, by omega⟩ (fun j σ H' _ ⟨_, _, _, kk, _⟩ => SqL.of (kk _ _ ht (ne_of ht hw3 (by intro z; cases z)) (ne_of ht hs3 (by intro z; cases z)))) ?_ ?_
        · rintro j v σ _ H4 hj ⟨⟨o5, o6, o7, o8, o9, rfl⟩, wk4, sk4, kk4, hw4, hs4, tw4, lw4, ls4⟩ ⟨rfl, hx⟩
          obtain ⟨q0, hq0, a, rfl, ha⟩ := pat pm hx
          have ha4 := kk4 _ _ ha (ne_of ha hw3 (by intro z; cases z)) (ne_of ha hs3 (by intro z; cases z))
          have hej : (movesE sg R x y i)[j]? = some (q0.1, q0.2.1, q0.2.2.2) := by
            rw [← hE, List.getElem?_map, hq0]
            rfl
          have jl : j < mm.length := (List.getElem?_eq_some_iff.mp hq0).1
          have hvi : valV wk4 (.inl (i : Nat)) = some (.int b) := by
            rw [tw4.1 i, Dag.fold_otherS _ _ fun e he => fwE e (List.mem_of_mem_take he), hb]
            rfl
          have tk : (movesE sg R x y i).take (j + 1) = (movesE sg R x y i).take j ++ [(q0.1, q0.2.1, q0.2.2.2)] := by rw [List.take_add_one, hej]; rfl
          have fl : ∀ q, ((movesE sg R x y i).take (j + 1)).foldl (Dag.relaxS lim i b) (Dag.runS (movesE sg R x y) lim i) q = Dag.relaxS lim i b (((movesE sg R x y i).take j).foldl (Dag.relaxS lim i b) (Dag.runS (movesE sg R x y) lim i)) (q0.1, q0.2.1, q0.2.2.2) q := fun q => by
            rw [tk, List.foldl_append]
            rfl
          generalize ((movesE sg R x y i).take j).foldl (Dag.relaxS lim i b) (Dag.runS (movesE sg R x y) lim i) = F at tw4 fl
          refine ⟨a, _, rfl, SqT.of ha4, rfl, _, _, rfl, _, _, rfl, _, _, rfl, _, _, rfl, rfl, ?_⟩
          refine ⟨_, rfl, _, rfl, wa, .int b, rfl, by rw [← hvi]; exact DGet.k (k := .inl (i : Nat)) hw4, _, rfl, _, _, rfl, rfl, ?_⟩
          -- nothing to be done
          have stay : (∀ q, Dag.relaxS lim i b F (q0.1, q0.2.1, q0.2.2.2) q = F q) → (∃ o5' o6' o7' o8' o9' : Option V, [some (V.ref g), some (wtV lim), some (V.ref wa), some (V.ref sa), some (V.int (i : Nat)), some (V.int (q0.1 : Nat)), some (V.int q0.2.1), some (V.int (q0.2.2.1 : Nat)), some (V.int (q0.2.2.2 : Nat)), some (V.int (b + q0.2.1))] = [some (.ref g), some (wtV lim), some (.ref wa), some (.ref sa), some (.int (i : Nat)), o5', o6', o7', o8', o9']) ∧ ∃ (wk' sk' : List (L2.Key × V)), (∀ b o, H3 b = some o → b ≠ wa → b ≠ sa → H4 b = some o) ∧ H4 wa = some (.dK wk') ∧ H4 sa = some (.dK sk') ∧ TwoD H4 wk' sk' (((movesE sg R x y i).take (j + 1)).foldl (Dag.relaxS lim i b) (Dag.runS (movesE sg R x y) lim i)) ∧ wk'.length ≤ 1 + 50 * i + (j + 1) ∧ sk'.length ≤ 1 + 50 * i + (j + 1) := fun same =>
            ⟨⟨_, _, _, _, _, rfl⟩, wk4, sk4, kk4, hw4, hs4, tw4.ext fun q => (fl q).trans (same q), by omega, by omega⟩
          refine within_or (i := 1) (j := 9) (w := b + q0.2.1) (lim := lim) rfl rfl ?_
          by_cases cl : Dag.inL lim (b + q0.2.1) = true
          · rw [cl]
            refine iteT (new_or (i := 5) (j := 2) (k := 9) (w := b + q0.2.1) (q := q0.1) (o := (F q0.1).map (·.1)) rfl rfl rfl hw4 (by rw [tw4.1 q0.1, Option.map_map]; rfl) ?_)
            by_cases cn : (lessO (b + q0.2.1) ((F q0.1).map (·.1))) = true
            · rw [cn]
              refine iteT ?_
              have rl : ∀ q, Dag.relaxS lim i b F (q0.1, q0.2.1, q0.2.2.2) q = if q = q0.1 then some (b + q0.2.1, some (i, q0.2.2.2)) else F q := fun q => by
                unfold Dag.relaxS
                by_cases h : q = q0.1
                · rw [h, if_pos ⟨rfl, cl⟩, if_pos rfl]
                  cases hF : F q0.1 with
                  | none => rfl
                  | some nd =>
                    rw [hF] at cn
                    have : b + q0.2.1 < nd.1 := of_decide_eq_true cn
                    dsimp only
                    rw [if_pos this]
                · rw [if_neg h, if_neg fun z => h z.1]
              refine ⟨_, rfl, _, rfl, _, rfl, wa, _, rfl, DPut.k (k := .inl (q0.1 : Nat)) hw4 (by rw [sizeLine_eq]; omega), ?_⟩
              have hs5 : (upd H4 wa (.dK (putK wk4 (.inl (q0.1 : Nat)) (.int (b + q0.2.1))))) sa = some (.dK sk4) := by rw [upd_ne nws.symm]; exact hs4
              have hw5 : (upd H4 wa (.dK (putK wk4 (.inl (q0.1 : Nat)) (.int (b + q0.2.1))))) wa = some (.dK (putK wk4 (.inl (q0.1 : Nat)) (.int (b + q0.2.1)))) := upd_same
              refine ⟨_, rfl, _, rfl, by show 2 ≤ sizeLine; decide, fun qa hqa => ?_⟩
              have hs6 := Same.upd (o := .tup [.int (i : Nat), .int (q0.2.2.2 : Nat)]) hqa _ _ hs5
              have hw6 := Same.upd (o := .tup [.int (i : Nat), .int (q0.2.2.2 : Nat)]) hqa _ _ hw5
              refine ⟨_, rfl, _, rfl, sa, _, rfl, DPut.k (k := .inl (q0.1 : Nat)) hs6 (by rw [sizeLine_eq]; omega), ⟨_, _, _, _, _, rfl⟩, putK wk4 (.inl (q0.1 : Nat)) (.int (b + q0.2.1)), putK sk4 (.inl (q0.1 : Nat)) (.ref qa), fun b' o e n1 n2 => ?_, ?_, upd_same, TwoD.put tw4 (fun b' xs e => ?_) ?_ fun q => (fl q).trans (rl q), ?_, ?_⟩
              · rw [upd_ne n2]
                refine Same.upd hqa _ _ ?_
                rw [upd_ne n1]
                exact kk4 _ _ e n1 n2
              · rw [upd_ne nws]
                exact hw6
              · rw [upd_ne (ne_of e hs4 (by intro z; cases z))]
                refine Same.upd hqa _ _ ?_
                rw [upd_ne (ne_of e hw4 (by intro z; cases z))]
                exact e
              · rw [upd_ne (ne_of (upd_same : (upd (upd H4 wa _) qa (.tup [.int (i : Nat), .int (q0.2.2.2 : Nat)])) qa = _) hs6 (by intro z; cases z))]
                exact upd_same
              · have := putK_short wk4 (.inl (q0.1 : Nat)) (.int (b + q0.2.1))
                omega
              · have := putK_short sk4 (.inl (q0.1 : Nat)) (.ref qa)
                omega
            · rw [show (lessO (b + q0.2.1) ((F q0.1).map (·.1))) = false by simpa using cn]
              refine iteF (stay fun q => ?_)
              unfold Dag.relaxS
              by_cases h : q = q0.1
              · rw [h, if_pos ⟨rfl, cl⟩]
                cases hF : F q0.1 with
                | none => rw [hF] at cn; exact absurd rfl cn
                | some nd =>
                  rw [hF] at cn
                  have : ¬ b + q0.2.1 < nd.1 := fun z => cn (decide_eq_true z)
                  dsimp only
                  rw [if_neg this]
              · rw [if_neg fun z => h z.1]
          · rw [show Dag.inL lim (b + q0.2.1) = false by simpa using cl]
            refine iteF (iteF (stay fun q => ?_))
            unfold Dag.relaxS
            rw [if_neg fun z => cl z.2]
        · rintro σ H4 ⟨⟨o5, o6, o7, o8, o9, rfl⟩, wk4, sk4, kk4, hw4, hs4, tw4, lw4, ls4⟩
          have nd : ∀ b o, H3 b = some o → (∀ kvs, o ≠ .dK kvs) → H4 b = some o := fun b o e n => kk4 b o e (fun z => by rw [z, hw3] at e; exact n _ (Option.some.inj e).symm) (fun z => by rw [z, hs3] at e; exact n _ (Option.some.inj e).symm)
          have lts : ts.length = (movesE sg R x y i).length := by
            rw [← hE, List.length_map]
            exact Paired.length pm
          have lEi := lE i
          refine ⟨⟨_, _, _, _, _, _, rfl⟩, kvs3, wk4, sk4, fun b' o e n => ?_, ga3.keep2 nd (fun o e => kk4 _ _ e nwm.symm nsm.symm), kp3.keep nd, by omega, hw4, hs4, tw4.ext fun q => ?_, by omega, by omega⟩
          · exact kk4 _ _ (b3 _ _ (b2 _ _ e n) n) (fun z => by rw [z, hwa] at e; cases e) (fun z => by rw [z, Hsa] at e; cases e)
          · rw [lts, List.take_length, run1]
            unfold Dag.turnS
            rw [hb]
    · rintro σ H2 ⟨⟨o4, o5, o6, o7, o8, o9, rfl⟩, kvs, wk, sk, b2, ga2, kp2, lk2, hw2, hs2, tw2, lw2, ls2⟩
      refine ⟨_, rfl, _, rfl, by show 2 ≤ sizeLine; decide, fun t ht => ?_⟩
      exact k t wa sa wk sk kvs _ (fun b o e n => Same.upd ht _ _ (b2 _ _ e n)) (ga2.keep (Same.upd ht)) upd_same (Same.upd ht _ _ hw2) (Same.upd ht _ _ hs2) (tw2.keep fun b xs e => Same.upd ht _ _ e) (by omega) (by omega)
end
end Kx

namespace Kx
open PySem L2 Own
/-- the sides as what stands in a row -/
abbrev SdP (sg : Str) (R : List Ed) : List Nat → List Nat → Int → Prop := Dag.Sd ((sidesOf sg R).map toL)
/-- a row of columns, by their places; the two texts and the weight that it tells -/
inductive Tells (S : List Ed) : List Nat → List Nat → List Nat → Int → Prop
  | nil : Tells S [] [] [] 0
  | snoc {cs a b : List Nat} {w : Int} {c : Nat} {e : Ed} : Tells S cs a b w → S[c]? = some e → Tells S (cs ++ [c]) (a ++ e.1.cps.toList) (b ++ e.2.1.cps.toList) (w + e.2.2)
theorem Tells.ch {S : List Ed} {cs a b : List Nat} {w : Int} (h : Tells S cs a b w) : Dag.Ch (Dag.Sd (S.map toL)) a b w := by
  induction h with
  | nil => exact .nil
  | snoc _ he ih => exact .snoc ih (List.mem_map.mpr ⟨_, List.mem_of_getElem? he, rfl⟩)
theorem Tells.cols {S : List Ed} {cs a b : List Nat} {w : Int} (h : Tells S cs a b w) : ∀ c ∈ cs, ∃ e, S[c]? = some e := by
  induction h with
  | nil => exact fun c hc => (nomatch hc)
  | snoc _ he ih =>
    intro c hc
    rcases List.mem_append.mp hc with h | h
    · exact ih c h
    · rw [List.mem_singleton.mp h]; exact ⟨_, he⟩
section
variable {sg x y : Str} {R : List Ed}
theorem mem_moves {p : Nat} {e : Nat × Int × Nat} (h : e ∈ movesE sg R x y p) : ∃ s : Ed, (sidesOf sg R)[e.2.2]? = some s ∧ Dag.fits x.cps.toList s.1.cps.toList (p / (y.cps.size + 1)) = true ∧ Dag.fits y.cps.toList s.2.1.cps.toList (p % (y.cps.size + 1)) = true ∧ e.1 = p + s.1.cps.size * (y.cps.size + 1) + s.2.1.cps.size ∧ e.2.1 = s.2.2 := by
  obtain ⟨q, hq, rfl⟩ := List.mem_map.mp h
  obtain ⟨m, hm, rfl⟩ := List.mem_map.mp hq
  obtain ⟨⟨s, k⟩, hz, rfl⟩ := List.mem_map.mp hm
  obtain ⟨hz, hb⟩ := List.mem_filter.mp hz
  have hk : (sidesOf sg R)[k]? = some s := by
    have := List.mem_zipIdx_iff_getElem?.mp hz
    exact this
  rw [bit_fits hk, Bool.and_eq_true] at hb
  exact ⟨s, hk, hb.1, hb.2, by show p + (s.1.cps.size * (y.cps.size + 1) + s.2.1.cps.size) = _; omega, rfl⟩
theorem row_tells {q : Nat} {w : Int} {cs : List Nat} (h : Dag.Row (movesE sg R x y) q w cs) : ∃ i j, q = i * (y.cps.size + 1) + j ∧ i ≤ x.cps.toList.length ∧ j ≤ y.cps.toList.length ∧ Tells (sidesOf sg R) cs (x.cps.toList.take i) (y.cps.toList.take j) w := by
  have ly : y.cps.toList.length = y.cps.size := Array.length_toList
  induction h with
  | start => exact ⟨0, 0, by omega, Nat.zero_le _, Nat.zero_le _, .nil⟩
  | step _ he ih =>
    obtain ⟨i, j, rfl, hi, hj, tl⟩ := ih
    obtain ⟨s, h1, h2, h3, h4, h5⟩ := mem_moves he
    obtain ⟨d1, d2⟩ := Dag.div_at (W := y.cps.size + 1) (i := i) (j := j) (by omega)
    rw [d1] at h2
    rw [d2] at h3
    obtain ⟨l1, t1⟩ := Dag.fits_take hi h2
    obtain ⟨l2, t2⟩ := Dag.fits_take hj h3
    have e1 : s.1.cps.toList.length = s.1.cps.size := Array.length_toList
    have e2 : s.2.1.cps.toList.length = s.2.1.cps.size := Array.length_toList
    refine ⟨i + s.1.cps.toList.length, j + s.2.1.cps.toList.length, ?_, l1, l2, ?_⟩
    · dsimp only at h4
      rw [h4, Nat.add_mul, e1, e2]
      omega
    · rw [t1, t2]
      dsimp only at h5 h1
      rw [h5]
      exact .snoc tl h1
/-- no place behind the last one is come to -/
theorem run_in (ok : OkRows sg R) {lim : Option Int} {n q : Nat} {nd : Dag.Nd} (h : Dag.runS (movesE sg R x y) lim n q = some nd) : ∃ i j, q = i * (y.cps.size + 1) + j ∧ i ≤ x.cps.size ∧ j ≤ y.cps.size := by
  have r := Dag.back_row (movesE_fw ok) (n := n) (q + 1) q nd.1 (Nat.lt_succ_self q) (by rw [h]; rfl)
  obtain ⟨i, j, e, hi, hj, _⟩ := row_tells r
  rw [Array.length_toList] at hi hj
  exact ⟨i, j, e, hi, hj⟩
theorem run_last (ok : OkRows sg R) {lim : Option Int} (h0 : Dag.inL lim 0 = true) : ∃ r, Dag.LO (Dag.Ch (SdP sg R) x.cps.toList y.cps.toList) r ∧ (Dag.runS (movesE sg R x y) lim (lastP x y + 1) (lastP x y)).map (·.1) = Dag.cutL lim r := by
  have gl := Dag.grid_least (x := x.cps.toList) (y := y.cps.toList) (sides_ne ok)
  have lx : x.cps.toList.length = x.cps.size := Array.length_toList
  have ly : y.cps.toList.length = y.cps.size := Array.length_toList
  rw [lx, ly] at gl
  refine ⟨_, gl, ?_⟩
  rw [Dag.runS_cut h0 (movesE_pos ok), movesE_plain]
/-- the columns behind the last place tell the two texts -/
theorem last_tells (ok : OkRows sg R) {lim : Option Int} {w : Int} (h : (Dag.runS (movesE sg R x y) lim (lastP x y + 1) (lastP x y)).map (·.1) = some w) :
    Tells (sidesOf sg R) (Dag.back (Dag.runS (movesE sg R x y) lim (lastP x y + 1)) (lastP x y + 1) (lastP x y)).reverse x.cps.toList y.cps.toList w := by
  have r := Dag.back_row (movesE_fw ok) (n := lastP x y + 1) (lastP x y + 1) (lastP x y) w (Nat.lt_succ_self _) h
  obtain ⟨i, j, e, hi, hj, tl⟩ := row_tells r
  have lx : x.cps.toList.length = x.cps.size := Array.length_toList
  have ly : y.cps.toList.length = y.cps.size := Array.length_toList
  have d := Dag.div_at (W := y.cps.size + 1) (i := x.cps.size) (j := y.cps.size) (by omega)
  have d' := Dag.div_at (W := y.cps.size + 1) (i := i) (j := j) (by omega)
  have e' : x.cps.size * (y.cps.size + 1) + y.cps.size = i * (y.cps.size + 1) + j := e
  rw [e', d'.1, d'.2] at d
  rw [d.1, d.2, List.take_of_length_le (by omega), List.take_of_length_le (by omega)] at tl
  exact tl
end
end Kx

namespace Kx
open PySem L2 Own
/-- r is the least weight of x and y -/
def IsW (sg : Str) (R : List Ed) (x y : Str) (r : Option Int) : Prop := Dag.LO (Dag.Ch (SdP sg R) x.cps.toList y.cps.toList) r
section
variable {sg sg' x y x' y' : Str} {R R' : List Ed} {r r' : Option Int} {u v : List Nat} {c : Int}
theorem sdP_iff : SdP sg R u v c ↔ (∃ a ∈ sg.cps.toList, u = [a] ∧ v = [a] ∧ c = 0) ∨ ∃ e ∈ R, toL e = (u, v, c) := by
  show (u, v, c) ∈ (sidesOf sg R).map toL ↔ _
  unfold sidesOf letters
  rw [List.map_append, List.mem_append, List.map_map, List.map_map, List.mem_map, List.mem_map]
  refine or_congr ⟨?_, ?_⟩ Iff.rfl
  · rintro ⟨a, ha, e⟩
    have e1 := (Prod.mk.inj e).1
    have e2 := (Prod.mk.inj (Prod.mk.inj e).2)
    exact ⟨a, ha, e1.symm, e2.1.symm, e2.2.symm⟩
  · rintro ⟨a, ha, rfl, rfl, rfl⟩
    exact ⟨a, ha, rfl⟩
theorem IsW.one (h : IsW sg R x y r) (h' : IsW sg R x y r') : r = r' := Dag.LO.one h h'
theorem IsW.flip (h : IsW sg R x y r) : IsW sg (R.map flipE) y x r := by
  have go : ∀ u v c, SdP sg R u v c ↔ SdP sg (R.map flipE) v u c := fun u v c => by
    rw [sdP_iff, sdP_iff]
    refine or_congr ⟨fun ⟨a, h, e1, e2, e3⟩ => ⟨a, h, e2, e1, e3⟩, fun ⟨a, h, e1, e2, e3⟩ => ⟨a, h, e2, e1, e3⟩⟩ ⟨fun ⟨e, he, h⟩ => ⟨flipE e, List.mem_map_of_mem he, ?_⟩, fun ⟨e', he', h⟩ => ?_⟩
    · have e1 := (Prod.mk.inj h).1
      have e2 := (Prod.mk.inj (Prod.mk.inj h).2)
      show (e.2.1.cps.toList, e.1.cps.toList, e.2.2) = _
      rw [e1, e2.1, e2.2]
    · obtain ⟨e, he, rfl⟩ := List.mem_map.mp he'
      have h : (e.2.1.cps.toList, e.1.cps.toList, e.2.2) = (v, u, c) := h
      have e1 := (Prod.mk.inj h).1
      have e2 := (Prod.mk.inj (Prod.mk.inj h).2)
      exact ⟨e, he, by show (e.1.cps.toList, e.2.1.cps.toList, e.2.2) = _; rw [e1, e2.1, e2.2]⟩
  exact Dag.LO.iff h fun w => ⟨fun z => z.flip fun u v c s => (go u v c).mp s, fun z => z.flip fun u v c s => (go v u c).mpr s⟩
theorem IsW.same (h : IsW sg R x y r) (hs : ∀ c, c ∈ sg.cps.toList ↔ c ∈ sg'.cps.toList) (hr : ∀ e, e ∈ R ↔ e ∈ R') : IsW sg' R' x y r := by
  have go : ∀ u v c, SdP sg R u v c ↔ SdP sg' R' u v c := fun u v c => by
    rw [sdP_iff, sdP_iff]
    exact or_congr (exists_congr fun a => and_congr_left fun _ => hs a) (exists_congr fun e => and_congr_left fun _ => hr e)
  exact Dag.LO.iff h fun w => ⟨fun z => z.mono fun u v c s => (go u v c).mp s, fun z => z.mono fun u v c s => (go u v c).mpr s⟩
/-- an edit, k times as dear -/
def timesE (k : Int) (e : Ed) : Ed := (e.1, e.2.1, e.2.2 * k)
theorem IsW.times {k : Int} (k0 : 0 ≤ k) (h : IsW sg R x y r) : IsW sg (R.map (timesE k)) x y (r.map (· * k)) := by
  have up : ∀ u v c, SdP sg R u v c → SdP sg (R.map (timesE k)) u v (c * k) := fun u v c s => by
    rw [sdP_iff] at s ⊢
    rcases s with ⟨a, h, e1, e2, rfl⟩ | ⟨e, he, h⟩
    · exact .inl ⟨a, h, e1, e2, Int.zero_mul _⟩
    · refine .inr ⟨timesE k e, List.mem_map_of_mem he, ?_⟩
      have e1 := (Prod.mk.inj h).1
      have e2 := (Prod.mk.inj (Prod.mk.inj h).2)
      show (e.1.cps.toList, e.2.1.cps.toList, e.2.2 * k) = _
      rw [e1, e2.1, e2.2]
  have down : ∀ u v c, SdP sg (R.map (timesE k)) u v c → ∃ c0, SdP sg R u v c0 ∧ c = c0 * k := fun u v c s => by
    rw [sdP_iff] at s
    rcases s with ⟨a, h, e1, e2, rfl⟩ | ⟨e', he', h⟩
    · exact ⟨0, sdP_iff.mpr (.inl ⟨a, h, e1, e2, rfl⟩), (Int.zero_mul _).symm⟩
    · obtain ⟨e, he, rfl⟩ := List.mem_map.mp he'
      have h : (e.1.cps.toList, e.2.1.cps.toList, e.2.2 * k) = (u, v, c) := h
      have e1 := (Prod.mk.inj h).1
      have e2 := (Prod.mk.inj (Prod.mk.inj h).2)
      exact ⟨e.2.2, sdP_iff.mpr (.inr ⟨e, he, by show (e.1.cps.toList, e.2.1.cps.toList, e.2.2) = _; rw [e1, e2.1]⟩), e2.2.symm⟩
  cases r with
  | none =>
    intro w z
    obtain ⟨w0, h0, _⟩ := z.untimes down
    exact h w0 h0
  | some w =>
    refine ⟨h.1.times up, fun w' z => ?_⟩
    obtain ⟨w0, h0, rfl⟩ := z.untimes down
    exact Int.mul_le_mul_of_nonneg_right (h.2 w0 h0) k0
theorem IsW.le {w : Int} (h : IsW sg R x y r) (c : Dag.Ch (SdP sg R) x.cps.toList y.cps.toList w) : ∃ w', r = some w' ∧ w' ≤ w := by
  cases r with
  | none => exact absurd c (h w)
  | some w' => exact ⟨w', rfl, h.2 w c⟩
theorem IsW.ch {w : Int} (h : IsW sg R x y (some w)) : Dag.Ch (SdP sg R) x.cps.toList y.cps.toList w := h.1
theorem app_cps (a b : Str) : (a ++ b : Str).cps.toList = a.cps.toList ++ b.cps.toList := Array.toList_append
end
end Kx

namespace Kx
open PySem L2 Own
theorem PenAt.neT {H : Hp} {p c n : _} (hp : PenAt H p c n) {a : Addr} {xs : List V} (e : H a = Option.some (.tup xs)) : a ≠ p := by
  obtain ⟨ns, q, l, h, _⟩ := hp
  exact ne_of e h (by intro z; cases z)
theorem edsB {p c n : _} {H H' : Hp} (pn : PenAt H p c n) (s : SameBut p H H') {rv : List V} {R : List Ed} (h : Paired (EdT H) rv R) : Paired (EdT H') rv R := L2.Paired.mapP h fun _ _ z => z.keep fun b xs e => s _ _ e (pn.neT e)
theorem edsS {H H' : Hp} (s : Same H H') {rv : List V} {R : List Ed} (h : Paired (EdT H) rv R) : Paired (EdT H') rv R := L2.Paired.mapP h fun _ _ z => z.keep fun b xs e => s _ _ e
/-- a store to a list -/
theorem edsL {H : Hp} {r : Addr} {l l' : List V} (hr : H r = some (.lst l)) {rv : List V} {R : List Ed} (h : Paired (EdT H) rv R) : Paired (EdT (upd H r (.lst l'))) rv R := L2.Paired.mapP h fun _ _ z => z.keep fun b xs e => by
  rw [upd_ne (ne_of e hr (by intro z; cases z))]; exact e
/-- one made, and put behind a list -/
theorem edsN {H : Hp} {q D : Addr} {acc : List V} {R : List Ed} {e : Ed} (hq : H q = none) (hD : H D = some (.lst acc)) (h : Paired (EdT H) acc R) :
    Paired (EdT (upd (upd H q (.tup [.str e.1, .str e.2.1, .int e.2.2])) D (.lst (acc ++ [.ref q])))) (acc ++ [.ref q]) (R ++ [e]) := by
  have hD2 := Same.upd (o := .tup [.str e.1, .str e.2.1, .int e.2.2]) hq _ _ hD
  exact psnoc (edsL hD2 (edsS (Same.upd hq) h)) ⟨q, rfl, by rw [upd_ne (ne_of (upd_same : upd H q (.tup [.str e.1, .str e.2.1, .int e.2.2]) q = _) hD2 (by intro z; cases z))]; exact upd_same⟩
theorem put2 {H H2 : Hp} {q D : Addr} {o o' : HO} (s : Same H H2) (hD : H D = none) (hq : H2 q = none) : Same H (upd (upd H2 q o) D o') := fun b x z => by
  rw [upd_ne (ne_of_none z hD)]
  exact Same.upd hq _ _ (s _ _ z)
theorem papp {α β : Type} {F : α → β → Prop} : ∀ {l1 l2 : List α} {m1 m2 : List β}, Paired F l1 m1 → Paired F l2 m2 → Paired F (l1 ++ l2) (m1 ++ m2)
  | _, _, _, _, .nil, h => h
  | _, _, _, _, .cons r t, h => .cons r (papp t h)
theorem OkRows.nil {sg : Str} : OkRows sg [] := ⟨fun _ h => (nomatch h), List.nodup_nil, Nat.zero_le _⟩
end Kx

/-! least weights of walks in a grid, gone through by its diagonals -/
namespace Dag
def tri : Nat → Nat
  | 0 => 0
  | t + 1 => tri t + (t + 1)
def idx (i j : Nat) : Nat := tri (i + j) + i
def diag : Nat → Nat × Nat
  | 0 => (0, 0)
  | n + 1 => if (diag n).2 = 0 then (0, (diag n).1 + 1) else ((diag n).1 + 1, (diag n).2 - 1)
theorem diag_tri : ∀ T i, i ≤ T → diag (tri T + i) = (i, T - i)
  | 0, i, h => by
    obtain rfl := Nat.le_zero.mp h
    rfl
  | T + 1, 0, _ => by
    have h := diag_tri T T (Nat.le_refl T)
    show diag (tri T + T + 1) = _
    unfold diag
    rw [h, Nat.sub_self, if_pos rfl]
    rfl
  | T + 1, i + 1, h => by
    have h' := diag_tri (T + 1) i (by omega)
    show diag (tri (T + 1) + i + 1) = _
    unfold diag
    rw [h', if_neg (by show ¬ T + 1 - i = 0; omega)]
    exact Prod.ext rfl (by show T + 1 - i - 1 = T + 1 - (i + 1); omega)
theorem diag_idx (i j : Nat) : diag (idx i j) = (i, j) := by
  unfold idx
  rw [diag_tri (i + j) i (Nat.le_add_right i j), Nat.add_sub_cancel_left]
theorem idx_inj {i j i' j' : Nat} (h : idx i j = idx i' j') : i = i' ∧ j = j' := by
  have := congrArg diag h
  rw [diag_idx, diag_idx] at this
  exact ⟨(Prod.mk.inj this).1, (Prod.mk.inj this).2⟩
theorem tri_mono {a b : Nat} (h : a ≤ b) : tri a ≤ tri b := by
  induction b with
  | zero => rw [Nat.le_zero.mp h]; exact Nat.le_refl _
  | succ b ih =>
    by_cases e : a = b + 1
    · rw [e]; exact Nat.le_refl _
    · have := ih (by omega)
      show _ ≤ tri b + (b + 1)
      omega
theorem idx_lt {i j t : Nat} (h : i + j < t) : idx i j < tri t := by
  have := tri_mono (show i + j + 1 ≤ t by omega)
  have e : tri (i + j + 1) = tri (i + j) + (i + j + 1) := rfl
  unfold idx
  omega
theorem idx_idx {i j i' j' : Nat} (h : i + j < i' + j') : idx i j < idx i' j' := by
  have := idx_lt h
  have e : idx i' j' = tri (i' + j') + i' := rfl
  omega
/-- what fits at a place: a sign that stands on both sides, then the rows -/
def fitP (L : List (List Nat × List Nat × Int)) (x y : List Nat) (p : Nat × Nat) : List ((Nat × Nat) × Int) :=
  (if (∃ c, x[p.1]? = some c ∧ y[p.2]? = some c) then [((p.1 + 1, p.2 + 1), 0)] else []) ++
  (L.filter fun e => fits x e.1 p.1 && fits y e.2.1 p.2).map fun e => ((p.1 + e.1.length, p.2 + e.2.1.length), e.2.2)
def diagE (L : List (List Nat × List Nat × Int)) (x y : List Nat) (n : Nat) : List (Nat × Int) := (fitP L x y (diag n)).map fun e => (idx e.1.1 e.1.2, e.2)
variable {L : List (List Nat × List Nat × Int)} {x y : List Nat}
theorem mem_fitP {p : Nat × Nat} {e : (Nat × Nat) × Int} : e ∈ fitP L x y p ↔ (∃ c, x[p.1]? = some c ∧ y[p.2]? = some c ∧ e = ((p.1 + 1, p.2 + 1), 0)) ∨ ∃ u v w, (u, v, w) ∈ L ∧ fits x u p.1 = true ∧ fits y v p.2 = true ∧ e = ((p.1 + u.length, p.2 + v.length), w) := by
  unfold fitP
  rw [List.mem_append, List.mem_map]
  refine or_congr ⟨fun h => ?_, fun ⟨c, h1, h2, h3⟩ => ?_⟩ ⟨?_, ?_⟩
  · by_cases c : ∃ c, x[p.1]? = some c ∧ y[p.2]? = some c
    · rw [if_pos c] at h
      obtain ⟨c, h1, h2⟩ := c
      exact ⟨c, h1, h2, List.mem_singleton.mp h⟩
    · rw [if_neg c] at h
      cases h
  · rw [if_pos ⟨c, h1, h2⟩]
    exact List.mem_singleton.mpr h3
  · rintro ⟨⟨u, v, w⟩, hm, rfl⟩
    obtain ⟨hm, hf⟩ := List.mem_filter.mp hm
    rw [Bool.and_eq_true] at hf
    exact ⟨u, v, w, hm, hf.1, hf.2, rfl⟩
  · rintro ⟨u, v, w, hm, h1, h2, rfl⟩
    exact ⟨(u, v, w), List.mem_filter.mpr ⟨hm, by rw [h1, h2]; rfl⟩, rfl⟩
theorem fits_one {x : List Nat} {c i : Nat} : fits x [c] i = true ↔ x[i]? = some c := by
  unfold fits
  rw [decide_eq_true_eq, List.length_singleton]
  constructor
  · intro h
    have : ((x.drop i).take 1)[0]? = some c := by rw [h]; rfl
    rw [List.getElem?_take_of_lt (by decide), List.getElem?_drop, Nat.add_zero] at this
    exact this
  · intro h
    obtain ⟨l, e⟩ := List.getElem?_eq_some_iff.mp h
    rw [List.drop_eq_getElem_cons l, List.take_succ_cons, List.take_zero, e]
variable (ne : ∀ e ∈ L, e.1 ≠ [] ∨ e.2.1 ≠ [])
include ne
theorem fit_more {p : Nat × Nat} {e : (Nat × Nat) × Int} (h : e ∈ fitP L x y p) : p.1 + p.2 < e.1.1 + e.1.2 := by
  rcases mem_fitP.mp h with ⟨c, _, _, rfl⟩ | ⟨u, v, w, hm, _, _, rfl⟩
  · show p.1 + p.2 < p.1 + 1 + (p.2 + 1)
    omega
  · show p.1 + p.2 < p.1 + u.length + (p.2 + v.length)
    rcases ne _ hm with z | z
    · have := List.length_pos_iff.mpr z
      dsimp only at this
      omega
    · have := List.length_pos_iff.mpr z
      dsimp only at this
      omega
theorem idx_diag : ∀ n, idx (diag n).1 (diag n).2 = n
  | 0 => rfl
  | n + 1 => by
    have h := idx_diag n
    unfold diag
    by_cases c : (diag n).2 = 0
    · rw [if_pos c]
      rw [c] at h
      unfold idx at h ⊢
      dsimp only
      rw [Nat.zero_add, Nat.add_zero]
      rw [Nat.add_zero] at h
      show tri (diag n).1 + ((diag n).1 + 1) = _
      omega
    · rw [if_neg c]
      unfold idx at h ⊢
      dsimp only
      rw [show (diag n).1 + 1 + ((diag n).2 - 1) = (diag n).1 + (diag n).2 by omega]
      omega
theorem diagE_fw : ∀ p q c, (q, c) ∈ diagE L x y p → p < q := fun p q c h => by
  obtain ⟨e, he, e1⟩ := List.mem_map.mp h
  have m := fit_more ne he
  have e2 := (Prod.mk.inj e1).1
  rw [← e2]
  have := idx_idx m
  rw [idx_diag ne p] at this
  exact this
variable {S : List Nat → List Nat → Int → Prop} (hS : ∀ u v c, S u v c ↔ (∃ a, u = [a] ∧ v = [a] ∧ c = 0 ∧ a ∈ x) ∨ (u, v, c) ∈ L)
include hS
theorem diag_ch {q : Nat} {w : Int} (h : Walk (diagE L x y) q w) : ∃ i j, q = idx i j ∧ i ≤ x.length ∧ j ≤ y.length ∧ Ch S (x.take i) (y.take j) w := by
  induction h with
  | start => exact ⟨0, 0, rfl, Nat.zero_le _, Nat.zero_le _, .nil⟩
  | step _ he ih =>
    obtain ⟨i, j, rfl, hi, hj, ch⟩ := ih
    obtain ⟨e, he', e1⟩ := List.mem_map.mp he
    rw [diag_idx] at he'
    obtain ⟨rfl, rfl⟩ := Prod.mk.inj e1
    rcases mem_fitP.mp he' with ⟨c, h1, h2, rfl⟩ | ⟨u, v, w, hm, h1, h2, rfl⟩
    · dsimp only at h1 h2
      obtain ⟨l1, t1⟩ := fits_take hi (fits_one.mpr h1)
      obtain ⟨l2, t2⟩ := fits_take hj (fits_one.mpr h2)
      rw [List.length_singleton] at l1 l2 t1 t2
      refine ⟨i + 1, j + 1, rfl, l1, l2, ?_⟩
      rw [t1, t2]
      exact .snoc ch ((hS _ _ _).mpr (.inl ⟨c, rfl, rfl, rfl, List.mem_of_getElem? h1⟩))
    · obtain ⟨l1, t1⟩ := fits_take hi h1
      obtain ⟨l2, t2⟩ := fits_take hj h2
      refine ⟨i + u.length, j + v.length, rfl, l1, l2, ?_⟩
      rw [t1, t2]
      exact .snoc ch ((hS _ _ _).mpr (.inr hm))
theorem ch_diag {a b : List Nat} {w : Int} (h : Ch S a b w) : a <+: x → b <+: y → Walk (diagE L x y) (idx a.length b.length) w := by
  induction h with
  | nil => intro _ _; exact .start
  | snoc _ s ih =>
    rename_i xs ys u v w c _
    intro ha hb
    have pa := (List.prefix_append xs u).trans ha
    have pb := (List.prefix_append ys v).trans hb
    refine .step (ih pa pb) (List.mem_map.mpr ⟨((xs.length + u.length, ys.length + v.length), c), ?_, by rw [List.length_append, List.length_append]⟩)
    rw [diag_idx]
    rcases (hS _ _ _).mp s with ⟨z, rfl, rfl, rfl, _⟩ | hm
    · exact mem_fitP.mpr (.inl ⟨z, fits_one.mp (fits_pre ha), fits_one.mp (fits_pre hb), rfl⟩)
    · exact mem_fitP.mpr (.inr ⟨u, v, c, hm, fits_pre ha, fits_pre hb, rfl⟩)
/-- the last place holds the least weight, once the diagonals ahead are done -/
theorem diag_least : LO (Ch S x y) (run (diagE L x y) (tri (x.length + y.length)) (idx x.length y.length)) :=
  (run_Wb (diagE_fw ne) _ _).iff fun w => by
    constructor
    · intro h
      have wk : Walk (diagE L x y) (idx x.length y.length) w := by
        rcases h with ⟨z, rfl⟩ | ⟨p, c, w', _, hw, he, rfl⟩
        · rw [z]; exact .start
        · exact .step hw he
      obtain ⟨i, j, e, hi, hj, ch⟩ := diag_ch ne hS wk
      obtain ⟨rfl, rfl⟩ := idx_inj e
      rw [List.take_length, List.take_length] at ch
      exact ch
    · intro h
      have wk := ch_diag ne hS h List.prefix_rfl List.prefix_rfl
      generalize hq : idx x.length y.length = q at wk
      cases wk with
      | start => exact .inl ⟨rfl, rfl⟩
      | step hw he =>
        rename_i p w' c
        refine .inr ⟨p, c, w', ?_, hw, he, rfl⟩
        obtain ⟨i, j, rfl, hi, hj, _⟩ := diag_ch ne hS hw
        obtain ⟨e, he', e1⟩ := List.mem_map.mp he
        rw [diag_idx] at he'
        have m := fit_more ne he'
        have e2 := (Prod.mk.inj e1).1
        rw [← hq] at e2
        obtain ⟨z1, z2⟩ := idx_inj e2
        rw [z1, z2] at m
        exact idx_lt m
end Dag

namespace Kx
open PySem L2 Own
abbrev s__law_fits : Stmt := top 44
structure TxtFi (K : PySem.W.Frag) (mg : Str → Option Value) (f : Addr) (d : FuncData) : Prop where
  D_fits : DefT K mg "_law_fits" "_law_fits" s__law_fits ["rows", "x", "y", "i", "j"] f d
  n_len : mg "len" = none
  n_range : mg "range" = none
theorem cut_at {x : Str} {i k : Nat} (h : i ≤ x.cps.size) : (cutS x (some ((i : Nat) : Int)) (some (((i : Nat) : Int) + (k : Nat)))).cps.toList = (x.cps.toList.drop i).take k := by
  have l : x.length = x.cps.size := rfl
  have e1 : HT.sIx x.length 0 (some ((i : Nat) : Int)) = min i x.length := HT.sIx_nat ..
  have e2 : HT.sIx x.length x.length (some (((i : Nat) : Int) + (k : Nat))) = min (i + k) x.length := by
    rw [← Int.natCast_add]; exact HT.sIx_nat ..
  show ((x.cps.toList.drop (HT.sIx x.length 0 (some ((i : Nat) : Int)))).take (HT.sIx x.length x.length (some (((i : Nat) : Int) + (k : Nat))) - HT.sIx x.length 0 (some ((i : Nat) : Int)))).toArray.toList = _
  rw [e1, e2, Nat.min_eq_left (by omega : i ≤ x.length)]
  show (x.cps.toList.drop i).take _ = _
  by_cases c : i + k ≤ x.length
  · rw [Nat.min_eq_left c, Nat.add_sub_cancel_left]
  · have ld : (x.cps.toList.drop i).length = x.length - i := by rw [List.length_drop, Array.length_toList, l]
    rw [Nat.min_eq_right (by omega : x.length ≤ i + k), List.take_of_length_le (by omega), List.take_of_length_le (by omega)]
theorem str_ext {a b : Str} (h : a.cps.toList = b.cps.toList) : a = b := by
  obtain ⟨⟨a⟩⟩ := a
  obtain ⟨⟨b⟩⟩ := b
  exact congrArg (fun l => Str.mk ⟨l⟩) h
theorem cut_fits {x u : Str} {i : Nat} (h : i ≤ x.cps.size) : V.str (cutS x (some ((i : Nat) : Int)) (some (((i : Nat) : Int) + (u.cps.size : Nat)))) = V.str u ↔ Dag.fits x.cps.toList u.cps.toList i = true := by
  have lu : u.cps.toList.length = u.cps.size := Array.length_toList
  unfold Dag.fits
  rw [decide_eq_true_eq, lu, ← cut_at h]
  exact ⟨fun e => by rw [V.str.inj e], fun e => congrArg V.str (str_ext e)⟩
/-- a column that fits: it, the place behind, the weight -/
abbrev Fi := V × (Nat × Nat) × Int
def FiT (H : Hp) (v : V) (q : Fi) : Prop := ∃ a b, v = .ref a ∧ H a = some (.tup [q.1, .ref b, .int q.2.2]) ∧ H b = some (.tup [.int (q.2.1.1 : Nat), .int (q.2.1.2 : Nat)])
theorem FiT.keep {H H' : Hp} (s : ∀ b xs, H b = some (.tup xs) → H' b = some (.tup xs)) {v : V} {q : Fi} (h : FiT H v q) : FiT H' v q := by
  obtain ⟨a, b, e, h1, h2⟩ := h
  exact ⟨a, b, e, s _ _ h1, s _ _ h2⟩
def sgnF (x y : List Nat) (i j : Nat) : List Fi := match x[i]? with
  | none => []
  | some c => if y[j]? = some c then [(.str (Froz.sing c), (i + 1, j + 1), 0)] else []
def rowF (x y : List Nat) (i j : Nat) (L : List (Ed × Nat)) : List Fi := (L.filter fun q => Dag.fits x q.1.1.cps.toList i && Dag.fits y q.1.2.1.cps.toList j).map fun q => (V.int (q.2 : Nat), (i + q.1.1.cps.size, j + q.1.2.1.cps.size), q.1.2.2)
def fitE (R : List Ed) (x y : List Nat) (i j : Nat) : List Fi := sgnF x y i j ++ rowF x y i j R.zipIdx
theorem fitE_plain {R : List Ed} {x y : List Nat} {i j : Nat} : (fitE R x y i j).map (·.2) = Dag.fitP (R.map toL) x y (i, j) := by
  unfold fitE Dag.fitP
  rw [List.map_append]
  congr 1
  · unfold sgnF
    dsimp only
    cases hx : x[i]? with
    | none => rw [if_neg fun ⟨c, h, _⟩ => (by cases h)]; rfl
    | some c =>
      dsimp only
      by_cases e : y[j]? = some c
      · rw [if_pos e, if_pos ⟨c, rfl, e⟩]; rfl
      · rw [if_neg e, if_neg fun ⟨c', h1, h2⟩ => e (by rw [Option.some.inj h1]; exact h2)]; rfl
  · unfold rowF
    rw [List.map_map, List.filter_map, List.map_map]
    have z : ∀ (l : List Ed) (n : Nat), ((l.zipIdx n).filter fun q => Dag.fits x q.1.1.cps.toList i && Dag.fits y q.1.2.1.cps.toList j).map Prod.fst = l.filter fun e => Dag.fits x e.1.cps.toList i && Dag.fits y e.2.1.cps.toList j := fun l => by
      induction l with
      | nil => intro _; rfl
      | cons e l ih =>
        intro n
        rw [List.zipIdx_cons, List.filter_cons, List.filter_cons]
        dsimp only
        cases Dag.fits x e.1.cps.toList i && Dag.fits y e.2.1.cps.toList j with
        | true => rw [if_pos rfl, if_pos rfl, List.map_cons, ih]
        | false => rw [if_neg (by decide), if_neg (by decide), ih]
    show _ = ((R.filter fun e => Dag.fits x e.1.cps.toList i && Dag.fits y e.2.1.cps.toList j)).map _
    rw [← z R 0, List.map_map]
    refine List.map_congr_left fun q _ => ?_
    have l1 : q.1.1.cps.toList.length = q.1.1.cps.size := Array.length_toList
    have l2 : q.1.2.1.cps.toList.length = q.1.2.1.cps.size := Array.length_toList
    show ((i + q.1.1.cps.size, j + q.1.2.1.cps.size), q.1.2.2) = ((i + q.1.1.cps.toList.length, j + q.1.2.1.cps.toList.length), q.1.2.2)
    rw [l1, l2]
section
variable {P : Program} {w : World} {K : PySem.W.Frag} {mg : Str → Option Value} {base : Heap} {f : Addr} {d : FuncData}
def spFi : Sp := fun vs H Q _ => ∃ (r : Addr) (rv : List V) (R : List Ed) (x y : Str) (i j : Nat), vs = [.ref r, .str x, .str y, .int (i : Nat), .int (j : Nat)] ∧ H r = some (.lst rv) ∧ Paired (EdT H) rv R ∧ R.length ≤ 100 ∧ (∀ e ∈ R, e.1.cps.size ≤ 3 ∧ e.2.1.cps.size ≤ 3) ∧ x.cps.size ≤ 1000 ∧ y.cps.size ≤ 1000 ∧ i ≤ x.cps.size ∧ j ≤ y.cps.size ∧
  ∀ t fv H', H t = none → Same H H' → H' t = some (.lst fv) → Paired (FiT H') fv (fitE R x.cps.toList y.cps.toList i j) → Q (.ref t) H'
abbrev Nfi : List Str := ["rows", "x", "y", "i", "j", "found", "k", "u", "v", "price"]
theorem sc_fi : FnScope Nfi ["rows", "x", "y", "i", "j"] (defScope s__law_fits) := ⟨rfl, rfl, rfl, by decide +kernel, rfl, by decide +kernel, by decide +kernel⟩
/-- one made, and put behind a list -/
theorem fiN {H : Hp} {q b D : Addr} {acc : List V} {R : List Fi} {e : Fi} (hb : H b = none) (hq : upd H b (.tup [.int (e.2.1.1 : Nat), .int (e.2.1.2 : Nat)]) q = none) (hD : H D = some (.lst acc)) (h : Paired (FiT H) acc R) :
    Paired (FiT (upd (upd (upd H b (.tup [.int (e.2.1.1 : Nat), .int (e.2.1.2 : Nat)])) q (.tup [e.1, .ref b, .int e.2.2])) D (.lst (acc ++ [.ref q])))) (acc ++ [.ref q]) (R ++ [e]) := by
  have hD2 := Same.upd (o := .tup [e.1, .ref b, .int e.2.2]) hq _ _ (Same.upd (o := .tup [.int (e.2.1.1 : Nat), .int (e.2.1.2 : Nat)]) hb _ _ hD)
  have up : ∀ c xs, upd (upd H b (.tup [.int (e.2.1.1 : Nat), .int (e.2.1.2 : Nat)])) q (.tup [e.1, .ref b, .int e.2.2]) c = some (.tup xs) → upd (upd (upd H b (.tup [.int (e.2.1.1 : Nat), .int (e.2.1.2 : Nat)])) q (.tup [e.1, .ref b, .int e.2.2])) D (.lst (acc ++ [.ref q])) c = some (.tup xs) := fun c xs z => by
    rw [upd_ne (ne_of z hD2 (by intro z; cases z))]; exact z
  exact psnoc (L2.Paired.mapP h fun _ _ z => z.keep fun c xs z => up _ _ (Same.upd hq _ _ (Same.upd hb _ _ z))) ⟨q, b, rfl, up _ _ upd_same, up _ _ (Same.upd hq _ _ upd_same)⟩
theorem ok_fits (T : TxtFi K mg f d) : FnOk P w K mg base CX0 1 f d ["rows", "x", "y", "i", "j"] spFi := by
  have sc := sc_fi
  refine T.D_fits.F.ok sc (fun vs H Q E h => ?_) (fun cdv A1 outer s H vs Q E hr h => ?_)
  · obtain ⟨_, _, _, _, _, _, _, rfl, _⟩ := h; rfl
  · obtain ⟨r, rv, R, x, y, i, j, rfl, hrv, pR, rl, le3, xl, yl, ix, jy, k⟩ := h
    refine ⟨_, (pss_cons (ps_set (i := 5) sc.nd rfl (Or.inl rfl) (pe_lst pa_nil))
      (C8.pss_cut (ps_if (PW.pt (pw_and (pt_cmpR op_eq (pe_slice sl_str (pv 1) (po_some (pv 3)) (po_some (pe_op op_add (pv 3) pe_int))) (pe_slice sl_str (pv 2) (po_some (pv 4)) (po_some (pe_op op_add (pv 4) pe_int))) (nomark _)) (pw_and1 (pt_cmpR op_lt (pv 3) (pe_callB call_len (by rfl) T.n_len (by decide +kernel) (pa_cons (pv 1) pa_nil)) (nomark _))))) (pss_one (ps_expr (pe_bm PySem.F.plainAttrs_list PySem.F.slot_list_append PySem.F.type_list_append mt_append (pv 5) (pa_cons (pe_tup (pa_cons (pe_ix ix_str (pv 1) (pv 3) (fun _ _ => rfl)) (pa_cons (pe_tup (pa_cons (pe_op op_add (pv 3) pe_int) (pa_cons (pe_op op_add (pv 4) pe_int) pa_nil))) (pa_cons pe_int pa_nil)))) pa_nil)))) pss_nil)
      (pss_cons (ps_for PassesOwn.never rfl (pi_range1 rfl T.n_range (pa_cons (pe_callB call_len (by rfl) T.n_len (by decide +kernel) (pa_cons (pv 0) pa_nil)) pa_nil)) (pg_name (i := 6) sc.nd rfl (Or.inl rfl))
      (pss_cons (ps_asg (pe_ix ix_list (pv 0) (pv 6) (fun _ _ => rfl)) (pg_tup rfl (pgs_cons (pg_name (i := 7) sc.nd rfl (Or.inl rfl)) (pgs_cons (pg_name (i := 8) sc.nd rfl (Or.inl rfl)) (pgs_cons (pg_name (i := 9) sc.nd rfl (Or.inl rfl)) pgs_nil)))))
      (pss_one (ps_if (PW.pt (pw_and (pt_cmpR op_eq (pe_slice sl_str (pv 1) (po_some (pv 3)) (po_some (pe_op op_add (pv 3) (pe_callB call_len (by rfl) T.n_len (by decide +kernel) (pa_cons (pv 7) pa_nil))))) (pv 7) (nomark _)) (pw_and1 (pt_cmpR op_eq (pe_slice sl_str (pv 2) (po_some (pv 4)) (po_some (pe_op op_add (pv 4) (pe_callB call_len (by rfl) T.n_len (by decide +kernel) (pa_cons (pv 8) pa_nil))))) (pv 8) (nomark _))))) (pss_one (ps_expr (pe_bm PySem.F.plainAttrs_list PySem.F.slot_list_append PySem.F.type_list_append mt_append (pv 5) (pa_cons (pe_tup (pa_cons (pv 6) (pa_cons (pe_tup (pa_cons (pe_op op_add (pv 3) (pe_callB call_len (by rfl) T.n_len (by decide +kernel) (pa_cons (pv 7) pa_nil))) (pa_cons (pe_op op_add (pv 4) (pe_callB call_len (by rfl) T.n_len (by decide +kernel) (pa_cons (pv 8) pa_nil))) pa_nil))) (pa_cons (pv 9) pa_nil)))) pa_nil)))) pss_nil))))
      (pss_one (ps_ret (pv 5)))))), ?_⟩
    have lR : rv.length = R.length := Paired.length pR
    refine ⟨by show 0 ≤ sizeLine; decide, fun D hD => ?_⟩
    refine ⟨fun σ H' => ∃ acc, σ = [some (.ref r), some (.str x), some (.str y), some (.int (i : Nat)), some (.int (j : Nat)), some (.ref D), none, none, none, none] ∧ Same H H' ∧ H' D = some (.lst acc) ∧ acc.length ≤ 1 ∧ Paired (FiT H') acc (sgnF x.cps.toList y.cps.toList i j), ?_, ?_⟩
    · have c1 : (cutS x (some ((i : Nat) : Int)) (some (((i : Nat) : Int) + 1))).cps.toList = (x.cps.toList.drop i).take 1 := cut_at (k := 1) ix
      have c2 : (cutS y (some ((j : Nat) : Int)) (some (((j : Nat) : Int) + 1))).cps.toList = (y.cps.toList.drop j).take 1 := cut_at (k := 1) jy
      have hsx : ∀ c, x.cps.toList[i]? = some c → (x.cps.toList.drop i).take 1 = [c] := fun c h => by
        obtain ⟨l, e⟩ := List.getElem?_eq_some_iff.mp h
        rw [List.drop_eq_getElem_cons l, List.take_succ_cons, List.take_zero, e]
      have hsy : ∀ c, (y.cps.toList.drop j).take 1 = [c] → y.cps.toList[j]? = some c := fun c h => by
        have : ((y.cps.toList.drop j).take 1)[0]? = some c := by rw [h]; rfl
        rw [List.getElem?_take_of_lt (by decide), List.getElem?_drop, Nat.add_zero] at this
        exact this
      have hsy' : ∀ c, y.cps.toList[j]? = some c → (y.cps.toList.drop j).take 1 = [c] := fun c h => by
        obtain ⟨l, e⟩ := List.getElem?_eq_some_iff.mp h
        rw [List.drop_eq_getElem_cons l, List.take_succ_cons, List.take_zero, e]
      refine ⟨_, rfl, _, rfl, _, rfl, _, rfl, _, _, rfl, rfl, _, rfl, x, rfl, by rw [sizeLine_eq]; show x.cps.size ≤ _; omega, ?_⟩
      refine ⟨_, rfl, _, rfl, _, rfl, _, rfl, _, _, rfl, rfl, _, rfl, y, rfl, by rw [sizeLine_eq]; show y.cps.size ≤ _; omega, rfl, _, rfl, ?_⟩
      have none_ : sgnF x.cps.toList y.cps.toList i j = [] → ∃ acc, [some (V.ref r), some (V.str x), some (V.str y), some (V.int (i : Nat)), some (V.int (j : Nat)), some (V.ref D), none, none, none, none] = [some (.ref r), some (.str x), some (.str y), some (.int (i : Nat)), some (.int (j : Nat)), some (.ref D), none, none, none, none] ∧ Same H (upd H D (.lst [])) ∧ (upd H D (.lst [])) D = some (.lst acc) ∧ acc.length ≤ 1 ∧ Paired (FiT (upd H D (.lst []))) acc (sgnF x.cps.toList y.cps.toList i j) := fun e => ⟨[], rfl, Same.upd hD, upd_same, Nat.zero_le _, by rw [e]; exact .nil⟩
      by_cases c : V.str (cutS x (some ((i : Nat) : Int)) (some (((i : Nat) : Int) + 1))) = V.str (cutS y (some ((j : Nat) : Int)) (some (((j : Nat) : Int) + 1)))
      · have ce : (cutS x (some ((i : Nat) : Int)) (some (((i : Nat) : Int) + 1))).cps.toList = (cutS y (some ((j : Nat) : Int)) (some (((j : Nat) : Int) + 1))).cps.toList := by rw [V.str.inj c]
        rw [c1, c2] at ce
        refine ifT c ⟨_, rfl, _, rfl, .str x, x.cps.size, rfl, ⟨by rw [sizeLine_eq]; show x.cps.size ≤ _; omega, rfl⟩, _, _, rfl, rfl, _, rfl, ?_⟩
        by_cases lt : ((i : Nat) : Int) < (x.cps.size : Nat)
        · have lt' : i < x.cps.toList.length := by rw [Array.length_toList]; omega
          have hx : x.cps.toList[i]? = some x.cps.toList[i] := List.getElem?_eq_getElem lt'
          have hy := hsy _ (ce.symm.trans (hsx _ hx))
          have sg : sgnF x.cps.toList y.cps.toList i j = [(V.str (Froz.sing x.cps.toList[i]), (i + 1, j + 1), 0)] := by
            unfold sgnF
            rw [hx]
            dsimp only
            rw [if_pos hy]
          refine ifT lt ⟨_, rfl, .inl ⟨rfl, _, SqL.of upd_same⟩, _, rfl, _, rfl, x, _, _, rfl, rfl, by rw [sizeLine_eq]; show x.cps.size ≤ _; omega, atI_nat hx, _, rfl, _, _, rfl, rfl, _, rfl, _, _, rfl, rfl, by show 2 ≤ sizeLine; decide, fun b hb => ⟨by show 3 ≤ sizeLine; decide, fun q hq => ?_⟩⟩
          refine ⟨D, _, _, rfl, rfl, Same.upd hq _ _ (Same.upd hb _ _ upd_same), by show 0 < sizeLine; decide, _, rfl, put2 ((Same.upd hD).trans (Same.upd hb)) hD hq, upd_same, Nat.le_refl _, ?_⟩
          rw [sg]
          exact fiN (e := (V.str (Froz.sing x.cps.toList[i]), (i + 1, j + 1), 0)) hb hq upd_same .nil
        · refine ifF lt (none_ ?_)
          unfold sgnF
          rw [List.getElem?_eq_none (by rw [Array.length_toList]; omega)]
      · refine ifF c (iteF (none_ ?_))
        unfold sgnF
        cases hx : x.cps.toList[i]? with
        | none => rfl
        | some a =>
          dsimp only
          refine if_neg fun hy => c (congrArg V.str (str_ext ?_))
          rw [c1, c2, hsx a hx, hsy' a hy]
    · rintro σ H1 ⟨acc, rfl, s1, hacc, la, pa⟩
      refine ⟨_, rfl, .ref r, rv.length, rfl, .inl ⟨_, SqL.of (s1 _ _ hrv), rfl⟩, ?_⟩
      refine ⟨_, rfl, by omega, by omega, ?_⟩
      rw [Int.toNat_natCast]
      refine for_it walk_range (fun n σ H' => ∃ (acc : List V) (o6 o7 o8 o9 : Option V), σ = [some (.ref r), some (.str x), some (.str y), some (.int (i : Nat)), some (.int (j : Nat)), some (.ref D), o6, o7, o8, o9] ∧ Same H H' ∧ H' D = some (.lst acc) ∧ acc.length ≤ 1 + n ∧ Paired (FiT H') acc (sgnF x.cps.toList y.cps.toList i j ++ rowF x.cps.toList y.cps.toList i j (R.zipIdx.take n))) ⟨acc, _, _, _, _, rfl, s1, hacc, la, by show Paired _ _ (_ ++ []); rw [List.append_nil]; exact pa⟩ (fun _ _ _ _ _ => trivial) ?_ ?_
      · rintro n v σ _ H2 hn ⟨acc, o6, o7, o8, o9, rfl, s2, hacc, la, pa⟩ ⟨rfl, ev⟩
        have ev : v = .int (n : Nat) := by rw [ev]; show V.int (0 + ((n : Nat) : Int)) = _; rw [Int.zero_add]
        subst ev
        have nl : n < R.length := by omega
        obtain ⟨e, he, a, ea, ha⟩ := pat pR (List.getElem?_eq_getElem (show n < rv.length by omega))
        have em := List.mem_of_getElem? he
        obtain ⟨l1, l2⟩ := le3 e em
        have hz : R.zipIdx[n]? = some (e, n) := by rw [List.getElem?_zipIdx, he, Nat.zero_add]; rfl
        have tk : R.zipIdx.take (n + 1) = R.zipIdx.take n ++ [(e, n)] := by rw [List.take_add_one, hz]; rfl
        have rf : rowF x.cps.toList y.cps.toList i j (R.zipIdx.take (n + 1)) = rowF x.cps.toList y.cps.toList i j (R.zipIdx.take n) ++ (if (Dag.fits x.cps.toList e.1.cps.toList i && Dag.fits y.cps.toList e.2.1.cps.toList j) = true then [((V.int (n : Nat), (i + e.1.cps.size, j + e.2.1.cps.size), e.2.2) : Fi)] else []) := by
          rw [tk]
          unfold rowF
          rw [List.filter_append, List.map_append]
          congr 1
          rw [List.filter_cons]
          by_cases c : (Dag.fits x.cps.toList e.1.cps.toList i && Dag.fits y.cps.toList e.2.1.cps.toList j) = true
          · rw [if_pos c, if_pos c]; rfl
          · rw [if_neg c, if_neg c]; rfl
        rw [rf]
        have hr2 := s2 _ _ hrv
        refine ⟨_, rfl, _, rfl, r, rv, _, _, rfl, rfl, SqL.of hr2, atI_nat (List.getElem?_eq_getElem (by omega)), ?_⟩
        rw [ea]
        refine ⟨a, _, rfl, SqT.of (s2 _ _ ha), rfl, _, _, rfl, _, _, rfl, _, _, rfl, rfl, ?_⟩
        refine ⟨_, rfl, _, rfl, _, rfl, _, rfl, _, rfl, .str e.1, e.1.cps.size, rfl, ⟨by rw [sizeLine_eq]; show e.1.cps.size ≤ _; omega, rfl⟩, _, _, rfl, rfl, _, rfl, x, rfl, by rw [sizeLine_eq]; show x.cps.size ≤ _; omega, _, rfl, rfl, _, rfl, ?_⟩
        by_cases c1 : V.str (cutS x (some ((i : Nat) : Int)) (some (((i : Nat) : Int) + (e.1.cps.size : Nat)))) = V.str e.1
        · have f1 := (cut_fits ix).mp c1
          refine ifT c1 ⟨_, rfl, _, rfl, _, rfl, _, rfl, _, rfl, .str e.2.1, e.2.1.cps.size, rfl, ⟨by rw [sizeLine_eq]; show e.2.1.cps.size ≤ _; omega, rfl⟩, _, _, rfl, rfl, _, rfl, y, rfl, by rw [sizeLine_eq]; show y.cps.size ≤ _; omega, _, rfl, rfl, _, rfl, ?_⟩
          by_cases c2 : V.str (cutS y (some ((j : Nat) : Int)) (some (((j : Nat) : Int) + (e.2.1.cps.size : Nat)))) = V.str e.2.1
          · have f2 := (cut_fits jy).mp c2
            rw [f1, f2, if_pos (by rfl)]
            refine ifT c2 ⟨_, rfl, .inl ⟨rfl, _, SqL.of hacc⟩, _, rfl, _, rfl, ?_⟩
            refine ⟨_, rfl, .str e.1, e.1.cps.size, rfl, ⟨by rw [sizeLine_eq]; show e.1.cps.size ≤ _; omega, rfl⟩, _, _, rfl, rfl, _, rfl, _, rfl, .str e.2.1, e.2.1.cps.size, rfl, ⟨by rw [sizeLine_eq]; show e.2.1.cps.size ≤ _; omega, rfl⟩, _, _, rfl, rfl, by show 2 ≤ sizeLine; decide, fun b hb => ⟨_, rfl, by show 3 ≤ sizeLine; decide, fun q hq => ?_⟩⟩
            refine ⟨D, acc, _, rfl, rfl, Same.upd hq _ _ (Same.upd hb _ _ hacc), by rw [sizeLine_eq]; omega, _, _, _, _, _, rfl, put2 (s2.trans (Same.upd hb)) hD hq, upd_same, by rw [List.length_append]; exact Nat.succ_le_succ la, ?_⟩
            rw [← List.append_assoc]
            exact fiN (e := (V.int (n : Nat), (i + e.1.cps.size, j + e.2.1.cps.size), e.2.2)) hb hq hacc pa
          · have f2 : ¬ Dag.fits y.cps.toList e.2.1.cps.toList j = true := fun z => c2 ((cut_fits jy).mpr z)
            refine ifF c2 ⟨acc, _, _, _, _, rfl, s2, hacc, by omega, ?_⟩
            rw [if_neg (by rw [f1]; simpa using f2), List.append_nil]
            exact pa
        · have f1 : ¬ Dag.fits x.cps.toList e.1.cps.toList i = true := fun z => c1 ((cut_fits ix).mpr z)
          refine ifF c1 (iteF ⟨acc, _, _, _, _, rfl, s2, hacc, by omega, ?_⟩)
          rw [if_neg (by simp [f1]), List.append_nil]
          exact pa
      · rintro σ H2 ⟨acc, o6, o7, o8, o9, rfl, s2, hacc, la, pa⟩
        rw [List.take_of_length_le (by rw [List.length_zipIdx]; omega)] at pa
        exact ⟨_, rfl, k D acc H2 hD s2 hacc pa⟩
end
end Kx

/-! a display {k: v} of one pair whose key is a tuple of numbers and texts -/
namespace Own
open PySem PySem.Spec PyProof.Rows L2
def tDispT (tk tv : TE) : TE := fun σ H Q => ∀ D, H D = none → tk σ (upd H D (.dT [])) fun x H1 => tv σ H1 fun y H2 => ∃ (k : List L2.Key) (b : Addr), x = .ref b ∧ H2 D = some (.dT []) ∧ H2 b = some (.tup (k.map kV)) ∧ Q (.ref D) (upd H2 D (.dT [(k, y)]))
theorem pe_dispT {X : Cx} {pos : Pos} {k v : Expr} {tk tv : TE} (hu : X.A.units + 1 < cLine) (hk : PE X k tk) (hv : PE X v tv) : PE X (.Dict [some k] [v] pos) (tDispT tk tv) := by
  refine ⟨fun pins s σ H Q I h => ?_⟩
  have fresh := I.hok.fresh (Nat.le_refl s.heap.objs.size)
  have J := I.laid (a := s.heap.objs.size) (o := .dT []) (h' := s.heap.push { cls := .type "dict", data := .dict #[] }) (t' := s.toks) (fun _ _ q => Heap.get?_push_of_some _ q) (Nat.le_refl _) (dt_empty s.heap I.big)
  have both : PPs X pos [some k] [v] [(tk, tv)] := pps_cons hk hv pps_nil
  have one := pairTrees_length [some k] [v] X.env pos rfl rfl
  rw [arm_eval_Dict, zip_pairTrees [some k] [v] X.env pos rfl rfl, dictDisplay_pairs (pairTrees [some k] [v] X.env pos) (by intro e; rw [e] at one; cases one) (by rw [one]; show 1 < 17; decide)]
  refine wpAny_bind (wpAny_standAt (wpAny_bind (wpAny_subDictH (knd := tupleKind (mixKind X.prog X.w)) (Q := fun d s' => wpAny (model X.prog X.w) X.A (pure (Value.ref d)) _ X.xe s') (show X.A.units < cLine by omega) (by rw [one]; show 1 ≤ 15; decide) ?_)))
  refine thn (both.run pins _ σ _ (fun ps G => match ps with
    | [(x, y)] => ∃ (k : List L2.Key) (b : Addr), x = .ref b ∧ G s.heap.objs.size = some (.dT []) ∧ G b = some (.tup (k.map kV)) ∧ Q (.ref s.heap.objs.size) (upd G s.heap.objs.size (.dT [(k, y)]))
    | _ => False) J (h _ fresh)) ?_
  rintro ws t ⟨ps, G, IG, rel, q⟩
  match ps, rel, q with
  | [(x, y)], rel, ⟨kk, b, ex, hD, hb, q⟩ =>
    subst ex
    cases rel with
    | @cons _ u _ us r tl =>
      cases tl
      obtain ⟨u1, u2⟩ := u
      obtain ⟨r1, r2⟩ := r
      obtain rfl : u1 = Value.ref b := r1
      obtain ⟨z, hd, xs, rr, dh⟩ := dt_of IG.hok hD
      cases rr
      have nbD : b ≠ s.heap.objs.size := fun e => by rw [e, hD] at hb; cases hb
      refine ⟨[(kk, b, u2)], ⟨rfl, rfl, key_of IG.hok hb, trivial⟩, dh, fun h' tk' dd sb => wpAny_pure ⟨.ref _, _, ?_, rfl, q⟩⟩
      obtain ⟨o, es, ep, h1, h2, h3, h4, h5, h6⟩ := dd
      exact d_write IG (by rw [hD]; exact True.intro) sb ⟨o, h1⟩ ⟨by show 1 ≤ sizeLine; decide, hd, _, .cons ⟨rfl, by rw [upd_ne nbD]; exact hb, r2⟩ .nil, o, es, ep, h1, h2, h3, h4, h6⟩
end Own

namespace Kx
open PySem L2 Own
abbrev s__law_least : Stmt := top 45
abbrev s__law_weight : Stmt := top 42
structure LeAd where
  fi : Addr
  fl : Addr
  fw : Addr
  di : FuncData
  dl : FuncData
  dw : FuncData
structure TxtLe (K : PySem.W.Frag) (mg : Str → Option Value) (A : LeAd) : Prop where
  Fi : TxtFi K mg A.fi A.di
  D_least : DefT K mg "_law_least" "_law_least" s__law_least ["rows", "x", "y"] A.fl A.dl
  D_weight : DefT K mg "_law_weight" "_law_weight" s__law_weight ["rows", "x", "y"] A.fw A.dw
/-- the law's own edges -/
abbrev lawE (R : List Ed) (x y : Str) : Nat → List (Nat × Int) := Dag.diagE (R.map toL) x.cps.toList y.cps.toList
/-- the place (i, j) as a key -/
abbrev plK (i j : Nat) : List L2.Key := [.inl (i : Nat), .inl (j : Nat)]
theorem plK_inj {i j i' j' : Nat} (h : plK i j = plK i' j') : i = i' ∧ j = j' := by
  have h1 := List.cons.inj h
  have h2 := List.cons.inj h1.2
  exact ⟨Int.ofNat.inj (Sum.inl.inj h1.1), Int.ofNat.inj (Sum.inl.inj h2.1)⟩
/-- a dict of places with their weights -/
def PlD (fk : List (List L2.Key × V)) (wt : Nat → Option Int) : Prop := (∀ i j : Nat, valV fk (plK i j) = (wt (Dag.idx i j)).map V.int) ∧ ∀ kv ∈ fk, ∃ i j, kv.1 = plK i j
theorem rows_ne {sg : Str} {R : List Ed} (ok : OkRows sg R) : ∀ e ∈ R.map toL, e.1 ≠ [] ∨ e.2.1 ≠ [] := fun e he => sides_ne ok e (by
  unfold sidesOf
  rw [List.map_append]
  exact List.mem_append_right _ he)
theorem put_memT {c : List (List L2.Key × V)} {k : List L2.Key} {x : V} {kv : List L2.Key × V} (h : kv ∈ putK c k x) : kv.1 = k ∨ ∃ kv' ∈ c, kv'.1 = kv.1 := by
  unfold putK at h
  split at h
  · obtain ⟨kv', h', rfl⟩ := List.mem_map.mp h
    refine .inr ⟨kv', h', ?_⟩
    split <;> simp_all
  · rcases List.mem_append.mp h with h | h
    · exact .inr ⟨kv, h, rfl⟩
    · rw [List.mem_singleton.mp h]
      exact .inl rfl
theorem putT_short (c : List (List L2.Key × V)) (k : List L2.Key) (x : V) : (putK c k x).length ≤ c.length + 1 := by
  unfold putK
  split
  · rw [List.length_map]; exact Nat.le_succ _
  · rw [List.length_append]; exact Nat.le_refl _
theorem PlD.ext {fk : List (List L2.Key × V)} {wt wt' : Nat → Option Int} (e : ∀ q, wt' q = wt q) (h : PlD fk wt) : PlD fk wt' := ⟨fun i j => by rw [e]; exact h.1 i j, h.2⟩
theorem PlD.put {fk : List (List L2.Key × V)} {wt wt' : Nat → Option Int} {a b : Nat} {w : Int} (h : PlD fk wt) (e : ∀ q, wt' q = if q = Dag.idx a b then some w else wt q) : PlD (putK fk (plK a b) (.int w)) wt' := by
  refine ⟨fun i j => ?_, fun kv hk => ?_⟩
  · rw [valV_put, e]
    by_cases c : plK i j = plK a b
    · obtain ⟨rfl, rfl⟩ := plK_inj c
      rw [if_pos rfl, if_pos rfl]; rfl
    · rw [if_neg c, if_neg fun z => c (by obtain ⟨rfl, rfl⟩ := Dag.idx_inj z; rfl)]
      exact h.1 i j
  · rcases put_memT hk with h1 | ⟨kv', h1, e1⟩
    · exact ⟨a, b, h1⟩
    · rw [← e1]; exact h.2 kv' h1
section
variable {P : Program} {w : World} {K : PySem.W.Frag} {mg : Str → Option Value} {base : Heap} {A : LeAd}
/-- what is come to lies in the grid -/
theorem law_in {sg : Str} {R : List Ed} (ok : OkRows sg R) {x y : Str} {n q : Nat} {w : Int} (h : Dag.run (lawE R x y) n q = some w) : ∃ i j, q = Dag.idx i j ∧ i ≤ x.cps.size ∧ j ≤ y.cps.size := by
  have lo := Dag.run_Wb (Dag.diagE_fw (x := x.cps.toList) (y := y.cps.toList) (rows_ne ok)) n q
  have lo : Dag.LO (Dag.Wb (lawE R x y) n q) (Dag.run (lawE R x y) n q) := lo
  rw [h] at lo
  have wk : Dag.Walk (lawE R x y) q w := by
    rcases lo.1 with ⟨z, rfl⟩ | ⟨p, c, w', _, hw, he, rfl⟩
    · rw [z]; exact .start
    · exact .step hw he
  obtain ⟨i, j, e, hi, hj, _⟩ := Dag.diag_ch (S := fun u v c => (∃ a, u = [a] ∧ v = [a] ∧ c = 0 ∧ a ∈ x.cps.toList) ∨ (u, v, c) ∈ R.map toL) (rows_ne ok) (fun _ _ _ => Iff.rfl) wk
  rw [Array.length_toList] at hi hj
  exact ⟨i, j, e, hi, hj⟩
def spLe : Sp := fun vs H Q _ => ∃ (r : Addr) (rv : List V) (R : List Ed) (sg x y : Str), vs = [.ref r, .str x, .str y] ∧ H r = some (.lst rv) ∧ Paired (EdT H) rv R ∧ OkRows sg R ∧ x.cps.size ≤ 50 ∧ y.cps.size ≤ 50 ∧
  ∀ D fk H', H D = none → Same H H' → H' D = some (.dT fk) → PlD fk (Dag.run (lawE R x y) (Dag.tri (x.cps.size + y.cps.size))) → fk.length ≤ 1000000 → Q (.ref D) H'
abbrev Nle : List Str := ["rows", "x", "y", "found", "total", "i", "here", "column", "place", "price"]
theorem sc_le : FnScope Nle ["rows", "x", "y"] (defScope s__law_least) := ⟨rfl, rfl, rfl, by decide +kernel, rfl, by decide +kernel, by decide +kernel⟩
theorem ok_least (T : TxtLe K mg A) : FnOk P w K mg base CX0 2 A.fl A.dl ["rows", "x", "y"] spLe := by
  have sc := sc_le
  have G_fi : FnOk P w K mg base CX0 1 A.fi A.di ["rows", "x", "y", "i", "j"] spFi := ok_fits T.Fi
  refine T.D_least.F.ok sc (fun vs H Q E h => ?_) (fun cdv A1 outer s H vs Q E hr h => ?_)
  · obtain ⟨_, _, _, _, _, _, rfl, _⟩ := h; rfl
  · obtain ⟨r, rv, R, sg, x, y, rfl, hrv, pR, ok, xl, yl, k⟩ := h
    have hu1 : (A1.deeper (PyProof.Rows.envOfC "_law_least" (defScope s__law_least) s.heap.objs.size A.fl cdv)).units + 1 < cLine := by have := hr.un; omega
    refine ⟨_, (pss_cons (ps_set (i := 3) sc.nd rfl (Or.inl rfl) (pe_dispT hu1 (pe_tup (pa_cons pe_int (pa_cons pe_int pa_nil))) pe_int))
      (pss_cons (ps_for PassesOwn.never rfl (pi_range1 rfl T.Fi.n_range (pa_cons (pe_op op_add (pe_callB call_len (by rfl) T.Fi.n_len (by decide +kernel) (pa_cons (pv 1) pa_nil)) (pe_callB call_len (by rfl) T.Fi.n_len (by decide +kernel) (pa_cons (pv 2) pa_nil))) pa_nil)) (pg_name (i := 4) sc.nd rfl (Or.inl rfl))
      (pss_one (ps_for PassesOwn.never rfl (pi_range1 rfl T.Fi.n_range (pa_cons (pe_op op_add (pv 4) pe_int) pa_nil)) (pg_name (i := 5) sc.nd rfl (Or.inl rfl))
      (pss_cons (ps_set (i := 6) sc.nd rfl (Or.inl rfl) (pe_dget2 hu1 (pv 3) (pe_tup (pa_cons (pv 5) (pa_cons (pe_op op_sub (pv 4) (pv 5)) pa_nil))) pe_non ⟨by rfl, by rfl, by rfl, by rfl⟩))
      (pss_one (ps_for PassesOwn.never rfl (pi_list (pe_ifExp (pt_cmpR op_notN (pv 6) pe_non (nomark _)) (pe_call G_fi (hr.mono (by decide)) rfl T.Fi.D_fits.g T.Fi.D_fits.F.kp T.Fi.D_fits.b .nil pass0 (pa_cons (pv 0) (pa_cons (pv 1) (pa_cons (pv 2) (pa_cons (pv 5) (pa_cons (pe_op op_sub (pv 4) (pv 5)) pa_nil)))))) (pe_lst pa_nil))) (pg_tup rfl (pgs_cons (pg_name (i := 7) sc.nd rfl (Or.inl rfl)) (pgs_cons (pg_name (i := 8) sc.nd rfl (Or.inl rfl)) (pgs_cons (pg_name (i := 9) sc.nd rfl (Or.inl rfl)) pgs_nil))))
      (pss_one (ps_if (PW.pt (pw_or (pt_cmp (pc_dnotin hu1 (pv 8) (pv 3))) (pw_or1 (pt_cmpR op_lt (pe_op op_add (pv 6) (pv 9)) (pe_dget hu1 (pv 3) (pv 8) (fun _ _ => rfl)) (nomark _))))) (pss_one (ps_dput hu1 (pv 3) (pv 8) (pe_op op_add (pv 6) (pv 9)) rfl)) pss_nil))))))))
      (pss_one (ps_ret (pv 3))))), ?_⟩
    have lR : rv.length = R.length := Paired.length pR
    have rl := ok.le
    have lE : ∀ n, (lawE R x y n).length ≤ 30 := fun n => by
      show (Dag.diagE (R.map toL) x.cps.toList y.cps.toList n).length ≤ 30
      unfold Dag.diagE Dag.fitP
      rw [List.length_map, List.length_append, List.length_map]
      have h1 := List.length_filter_le (fun e : List Nat × List Nat × Int => Dag.fits x.cps.toList e.1 (Dag.diag n).1 && Dag.fits y.cps.toList e.2.1 (Dag.diag n).2) (R.map toL)
      rw [List.length_map] at h1
      split
      · rw [List.length_singleton]; omega
      · rw [List.length_nil]; omega
    have tb : ∀ t, t ≤ 100 → Dag.tri t ≤ 6000 := fun t ht => Nat.le_trans (Dag.tri_mono ht) (by decide +kernel)
    -- the start
    refine fun D hD => ⟨by show 2 ≤ sizeLine; decide, fun b hb => ⟨plK 0 0, b, rfl, Same.upd hb _ _ upd_same, upd_same, ?_⟩⟩
    have s1 : Same H (upd (upd (upd H D (.dT [])) b (.tup [.int 0, .int 0])) D (.dT [(plK 0 0, .int 0)])) := put2 (Same.upd hD) hD hb
    have hD1 : (upd (upd (upd H D (.dT [])) b (.tup [.int 0, .int 0])) D (.dT [(plK 0 0, .int 0)])) D = some (.dT [(plK 0 0, .int 0)]) := upd_same
    generalize upd (upd (upd H D (.dT [])) b (.tup [.int 0, .int 0])) D (.dT [(plK 0 0, .int 0)]) = H1 at s1 hD1 ⊢
    refine ⟨_, rfl, .str x, x.cps.size, rfl, ⟨by rw [sizeLine_eq]; show x.cps.size ≤ _; omega, rfl⟩, _, rfl, .str y, y.cps.size, rfl, ⟨by rw [sizeLine_eq]; show y.cps.size ≤ _; omega, rfl⟩, _, _, rfl, rfl, ?_⟩
    refine ⟨_, rfl, by omega, by omega, ?_⟩
    rw [← Int.natCast_add, Int.toNat_natCast]
    refine for_it walk_range (fun T σ H' => (∃ o4 o5 o6 o7 o8 o9 : Option V, σ = [some (.ref r), some (.str x), some (.str y), some (.ref D), o4, o5, o6, o7, o8, o9]) ∧ ∃ fk, Same H H' ∧ H' D = some (.dT fk) ∧ PlD fk (Dag.run (lawE R x y) (Dag.tri T)) ∧ fk.length ≤ 1 + 30 * Dag.tri T) ⟨⟨_, _, _, _, _, _, rfl⟩, _, s1, hD1, ⟨fun i j => ?_, fun kv hk => ?_⟩, Nat.le_add_right 1 _⟩ (fun _ _ _ _ _ => trivial) ?_ ?_
    · show _ = (Dag.init (Dag.idx i j)).map V.int
      unfold Dag.init
      by_cases c : plK i j = plK 0 0
      · obtain ⟨rfl, rfl⟩ := plK_inj c
        rfl
      · rw [if_neg fun z => c (by obtain ⟨rfl, rfl⟩ := Dag.idx_inj (i' := 0) (j' := 0) z; rfl)]
        unfold valV
        rw [List.find?_cons, decide_eq_false fun z => c z.symm]
        rfl
    · rw [List.mem_singleton.mp hk]
      exact ⟨0, 0, rfl⟩
    · rintro T v σ _ H2 hT ⟨⟨o4, o5, o6, o7, o8, o9, rfl⟩, fk, s2, hD2, pd2, lf2⟩ ⟨rfl, ev⟩
      have ev : v = .int (T : Nat) := by rw [ev]; show V.int (0 + ((T : Nat) : Int)) = _; rw [Int.zero_add]
      subst ev
      have hT' : T < x.cps.size + y.cps.size := hT
      refine ⟨_, rfl, _, _, rfl, rfl, ?_⟩
      refine ⟨_, rfl, by omega, by omega, ?_⟩
      rw [show ((T : Nat) : Int) + 1 = ((T + 1 : Nat) : Int) from rfl, Int.toNat_natCast]
      refine for_it walk_range (fun i σ H' => (∃ o5 o6 o7 o8 o9 : Option V, σ = [some (.ref r), some (.str x), some (.str y), some (.ref D), some (.int (T : Nat)), o5, o6, o7, o8, o9]) ∧ ∃ fk, Same H H' ∧ H' D = some (.dT fk) ∧ PlD fk (Dag.run (lawE R x y) (Dag.tri T + i)) ∧ fk.length ≤ 1 + 30 * (Dag.tri T + i)) ⟨⟨_, _, _, _, _, rfl⟩, fk, s2, hD2, pd2, lf2⟩ (fun _ _ _ _ _ => trivial) ?_ ?_
      · rintro i v σ _ H3 hi ⟨⟨o5, o6, o7, o8, o9, rfl⟩, fk, s3, hD3, pd3, lf3⟩ ⟨rfl, ev⟩
        have ev : v = .int (i : Nat) := by rw [ev]; show V.int (0 + ((i : Nat) : Int)) = _; rw [Int.zero_add]
        subst ev
        have hi' : i ≤ T := by omega
        have hs : ((T : Nat) : Int) - ((i : Nat) : Int) = ((T - i : Nat) : Int) := by omega
        have run1 : Dag.run (lawE R x y) (Dag.tri T + (i + 1)) = Dag.turn (lawE R x y) (Dag.run (lawE R x y) (Dag.tri T + i)) (Dag.tri T + i) := rfl
        have hix : Dag.tri T + i = Dag.idx i (T - i) := by unfold Dag.idx; rw [show i + (T - i) = T by omega]
        have hdg : Dag.diag (Dag.tri T + i) = (i, T - i) := Dag.diag_tri T i hi'
        have hE : lawE R x y (Dag.tri T + i) = (fitE R x.cps.toList y.cps.toList i (T - i)).map fun e => (Dag.idx e.2.1.1 e.2.1.2, e.2.2) := by
          show (Dag.fitP (R.map toL) x.cps.toList y.cps.toList (Dag.diag (Dag.tri T + i))).map _ = _
          rw [hdg, ← fitE_plain, List.map_map]
          rfl
        have lfi := lE (Dag.tri T + i)
        have tb1 := tb T (by omega)
        generalize hn : Dag.tri T + i = n at run1 hix hdg hE lfi pd3 lf3
        have en : Dag.tri T + (i + 1) = n + 1 := by omega
        rw [en] at run1 ⊢
        refine ⟨_, rfl, D, rfl, .inr ⟨fk, .inl hD3⟩, _, rfl, _, rfl, _, rfl, _, _, rfl, rfl, by show 2 ≤ sizeLine; decide, ?_⟩
        dsimp only
        rw [hs]
        intro bk hbk
        refine ⟨_, DGet.t (k := plK i (T - i)) (Same.upd hbk _ _ hD3) upd_same, ?_⟩
        rw [pd3.1, ← hix]
        have s4 : Same H (upd H3 bk (.tup [.int (i : Nat), .int (T - i : Nat)])) := s3.trans (Same.upd hbk)
        have hD4 := Same.upd (o := .tup [.int (i : Nat), .int (T - i : Nat)]) hbk _ _ hD3
        generalize upd H3 bk (.tup [.int (i : Nat), .int (T - i : Nat)]) = H4 at s4 hD4 ⊢
        cases hb0 : Dag.run (lawE R x y) n n with
        | none =>
          refine ⟨_, rfl, rfl, _, rfl, iteF ⟨by show 0 ≤ sizeLine; decide, fun e0 he0 => ⟨e0, rfl, ⟨_, SqL.of upd_same⟩, ?_⟩⟩⟩
          refine for_it walk_list (fun m σ H' => σ = [some (.ref r), some (.str x), some (.str y), some (.ref D), some (.int (T : Nat)), some (.int (i : Nat)), some .non, o7, o8, o9] ∧ H' = upd H4 e0 (.lst [])) ⟨rfl, rfl⟩ (fun m σ H' _ z => by rw [z.2]; exact SqL.of upd_same) (fun m v σ Ha Hb hm => absurd hm (Nat.not_lt_zero _)) ?_
          rintro σ _ ⟨rfl, rfl⟩
          refine ⟨⟨_, _, _, _, _, rfl⟩, fk, s4.trans (Same.upd he0), Same.upd he0 _ _ hD4, pd3.ext fun q => ?_, by omega⟩
          rw [run1]
          unfold Dag.turn
          rw [hb0]
        | some b0 =>
          obtain ⟨i', j', e1, ix, jy⟩ := law_in ok hb0
          rw [hix] at e1
          obtain ⟨rfl, rfl⟩ := Dag.idx_inj e1
          refine ⟨_, rfl, rfl, _, rfl, iteT ?_⟩
          refine ⟨_, rfl, _, rfl, _, rfl, _, rfl, _, rfl, _, rfl, _, _, rfl, rfl, r, rv, R, x, y, i, T - i, congrArg (fun z => [V.ref r, V.str x, V.str y, V.int (i : Nat), V.int z]) hs, s4 _ _ hrv, edsS s4 pR, by omega, fun e he => ⟨(ok.ok e he).l1, (ok.ok e he).l2⟩, by omega, by omega, ix, jy, fun t fv H5 ht s5 hfv pf => ⟨t, rfl, ⟨_, SqL.of hfv⟩, ?_⟩⟩
          have hD5 := s5 _ _ hD4
          have lfv : fv.length = (lawE R x y n).length := by rw [hE, List.length_map]; exact Paired.length pf
          refine for_it walk_list (fun m σ H' => (∃ o7 o8 o9 : Option V, σ = [some (.ref r), some (.str x), some (.str y), some (.ref D), some (.int (T : Nat)), some (.int (i : Nat)), some (.int b0), o7, o8, o9]) ∧ ∃ fk, (∀ b o, H5 b = some o → b ≠ D → H' b = some o) ∧ H' D = some (.dT fk) ∧ PlD fk (((lawE R x y n).take m).foldl (Dag.relax b0) (Dag.run (lawE R x y) n)) ∧ fk.length ≤ 1 + 30 * n + m) ⟨⟨_, _, _, rfl⟩, fk, fun _ _ z _ => z, hD5, pd3, by omega⟩ (fun m σ H' _ z => by obtain ⟨_, _, z, _⟩ := z; exact SqL.of (z _ _ hfv (ne_of hfv hD5 (by intro z; cases z)))) ?_ ?_
          · rintro m v σ _ H6 hm ⟨⟨o7, o8, o9, rfl⟩, fk, kk, hD6, pd6, lf6⟩ ⟨rfl, hx⟩
            obtain ⟨e, he, a, b, rfl, ha, hb⟩ := pat pf hx
            have ha6 := kk _ _ ha (ne_of ha hD5 (by intro z; cases z))
            have hb6 := kk _ _ hb (ne_of hb hD5 (by intro z; cases z))
            have hm' : m < fv.length := hm
            have hej : (lawE R x y n)[m]? = some (Dag.idx e.2.1.1 e.2.1.2, e.2.2) := by rw [hE, List.getElem?_map, he]; rfl
            have tk : (lawE R x y n).take (m + 1) = (lawE R x y n).take m ++ [(Dag.idx e.2.1.1 e.2.1.2, e.2.2)] := by rw [List.take_add_one, hej]; rfl
            have fl : ∀ q, ((lawE R x y n).take (m + 1)).foldl (Dag.relax b0) (Dag.run (lawE R x y) n) q = Dag.relax b0 (((lawE R x y n).take m).foldl (Dag.relax b0) (Dag.run (lawE R x y) n)) (Dag.idx e.2.1.1 e.2.1.2, e.2.2) q := fun q => by
              rw [tk, List.foldl_append]
              rfl
            generalize ((lawE R x y n).take m).foldl (Dag.relax b0) (Dag.run (lawE R x y) n) = F at pd6 fl
            refine ⟨a, _, rfl, SqT.of ha6, rfl, _, _, rfl, _, _, rfl, _, _, rfl, rfl, ?_⟩
            have stay : (∀ q, Dag.relax b0 F (Dag.idx e.2.1.1 e.2.1.2, e.2.2) q = F q) → (∃ o7' o8' o9' : Option V, [some (V.ref r), some (V.str x), some (V.str y), some (V.ref D), some (V.int (T : Nat)), some (V.int (i : Nat)), some (V.int b0), some e.1, some (V.ref b), some (V.int e.2.2)] = [some (.ref r), some (.str x), some (.str y), some (.ref D), some (.int (T : Nat)), some (.int (i : Nat)), some (.int b0), o7', o8', o9']) ∧ ∃ fk', (∀ b o, H5 b = some o → b ≠ D → H6 b = some o) ∧ H6 D = some (.dT fk') ∧ PlD fk' (((lawE R x y n).take (m + 1)).foldl (Dag.relax b0) (Dag.run (lawE R x y) n)) ∧ fk'.length ≤ 1 + 30 * n + (m + 1) := fun same => ⟨⟨_, _, _, rfl⟩, fk, kk, hD6, pd6.ext fun q => (fl q).trans (same q), by omega⟩
            have store : (∀ q, Dag.relax b0 F (Dag.idx e.2.1.1 e.2.1.2, e.2.2) q = if q = Dag.idx e.2.1.1 e.2.1.2 then some (b0 + e.2.2) else F q) → (∃ o7' o8' o9' : Option V, [some (V.ref r), some (V.str x), some (V.str y), some (V.ref D), some (V.int (T : Nat)), some (V.int (i : Nat)), some (V.int b0), some e.1, some (V.ref b), some (V.int e.2.2)] = [some (.ref r), some (.str x), some (.str y), some (.ref D), some (.int (T : Nat)), some (.int (i : Nat)), some (.int b0), o7', o8', o9']) ∧ ∃ fk', (∀ b o, H5 b = some o → b ≠ D → (upd H6 D (.dT (putK fk (plK e.2.1.1 e.2.1.2) (.int (b0 + e.2.2))))) b = some o) ∧ (upd H6 D (.dT (putK fk (plK e.2.1.1 e.2.1.2) (.int (b0 + e.2.2))))) D = some (.dT fk') ∧ PlD fk' (((lawE R x y n).take (m + 1)).foldl (Dag.relax b0) (Dag.run (lawE R x y) n)) ∧ fk'.length ≤ 1 + 30 * n + (m + 1) := fun put =>
              ⟨⟨_, _, _, rfl⟩, _, fun b o z nb => by rw [upd_ne nb]; exact kk _ _ z nb, upd_same, pd6.put fun q => (fl q).trans (put q), by have := putT_short fk (plK e.2.1.1 e.2.1.2) (.int (b0 + e.2.2)); omega⟩
            refine ⟨_, rfl, _, rfl, D, _, rfl, DGet.t (k := plK e.2.1.1 e.2.1.2) hD6 hb6, _, rfl, ?_⟩
            rw [pd6.1]
            cases hF : F (Dag.idx e.2.1.1 e.2.1.2) with
            | none =>
              refine iteT (iteT ⟨_, rfl, _, rfl, _, _, rfl, rfl, _, rfl, _, rfl, D, _, rfl, DPut.t (k := plK e.2.1.1 e.2.1.2) hD6 hb6 (by rw [sizeLine_eq]; omega), store fun q => ?_⟩)
              unfold Dag.relax
              by_cases c : q = Dag.idx e.2.1.1 e.2.1.2
              · rw [if_pos c, if_pos c, c, hF]
              · rw [if_neg c, if_neg c]
            | some v0 =>
              have hv : valV fk (plK e.2.1.1 e.2.1.2) = some (.int v0) := by rw [pd6.1, hF]; rfl
              refine iteF ⟨_, rfl, _, rfl, _, _, rfl, rfl, _, rfl, _, rfl, D, .int v0, rfl, (by rw [← hv]; exact DGet.t (k := plK e.2.1.1 e.2.1.2) hD6 hb6), _, _, rfl, rfl, _, rfl, ?_⟩
              by_cases lt : b0 + e.2.2 < v0
              · refine ifT lt ⟨_, rfl, _, rfl, _, _, rfl, rfl, _, rfl, _, rfl, D, _, rfl, DPut.t (k := plK e.2.1.1 e.2.1.2) hD6 hb6 (by rw [sizeLine_eq]; omega), store fun q => ?_⟩
                unfold Dag.relax
                by_cases c : q = Dag.idx e.2.1.1 e.2.1.2
                · rw [if_pos c, if_pos c, c, hF]
                  dsimp only
                  rw [if_pos lt]
                · rw [if_neg c, if_neg c]
              · refine ifF lt (stay fun q => ?_)
                unfold Dag.relax
                by_cases c : q = Dag.idx e.2.1.1 e.2.1.2
                · rw [if_pos c, c, hF]
                  dsimp only
                  rw [if_neg lt]
                · rw [if_neg c]
          · rintro σ H6 ⟨⟨o7, o8, o9, rfl⟩, fk, kk, hD6, pd6, lf6⟩
            have hDH : H D = none := hD
            refine ⟨⟨_, _, _, _, _, rfl⟩, fk, fun b o z => kk _ _ (s5 _ _ (s4 _ _ z)) (ne_of_none z hD), hD6, pd6.ext fun q => ?_, by omega⟩
            rw [run1, lfv, List.take_length]
            unfold Dag.turn
            rw [hb0]
      · rintro σ H3 ⟨⟨o5, o6, o7, o8, o9, rfl⟩, fk, s3, hD3, pd3, lf3⟩
        exact ⟨⟨_, _, _, _, _, _, rfl⟩, fk, s3, hD3, pd3, lf3⟩
    · rintro σ H2 ⟨⟨o4, o5, o6, o7, o8, o9, rfl⟩, fk, s2, hD2, pd2, lf2⟩
      have := tb (x.cps.size + y.cps.size) (by omega)
      exact ⟨_, rfl, k D fk H2 hD s2 hD2 pd2 (by omega)⟩
def spLw : Sp := fun vs H Q _ => ∃ (r : Addr) (rv : List V) (R : List Ed) (sg x y : Str), vs = [.ref r, .str x, .str y] ∧ H r = some (.lst rv) ∧ Paired (EdT H) rv R ∧ OkRows sg R ∧ x.cps.size ≤ 50 ∧ y.cps.size ≤ 50 ∧ (∀ c ∈ x.cps.toList, c ∈ sg.cps.toList) ∧
  ∀ o H', Same H H' → IsW sg R x y o → Q (wtV o) H'
theorem sc_lw : FnScope ["rows", "x", "y"] ["rows", "x", "y"] (defScope s__law_weight) := ⟨rfl, rfl, rfl, by decide +kernel, rfl, by decide +kernel, by decide +kernel⟩
theorem ok_lweight (T : TxtLe K mg A) : FnOk P w K mg base CX0 3 A.fw A.dw ["rows", "x", "y"] spLw := by
  have sc := sc_lw
  have G_le : FnOk P w K mg base CX0 2 A.fl A.dl ["rows", "x", "y"] spLe := ok_least T
  refine T.D_weight.F.ok sc (fun vs H Q E h => ?_) (fun cdv A1 outer s H vs Q E hr h => ?_)
  · obtain ⟨_, _, _, _, _, _, rfl, _⟩ := h; rfl
  · obtain ⟨r, rv, R, sg, x, y, rfl, hrv, pR, ok, xl, yl, sx, k⟩ := h
    have hu1 : (A1.deeper (PyProof.Rows.envOfC "_law_weight" (defScope s__law_weight) s.heap.objs.size A.fw cdv)).units + 1 < cLine := by have := hr.un; omega
    refine ⟨_, (pss_one (ps_ret (pe_dget2 hu1 (pe_call G_le (hr.mono (by decide)) rfl T.D_least.g T.D_least.F.kp T.D_least.b .nil pass0 (pa_cons (pv 0) (pa_cons (pv 1) (pa_cons (pv 2) pa_nil)))) (pe_tup (pa_cons (pe_callB call_len (by rfl) T.Fi.n_len (by decide +kernel) (pa_cons (pv 1) pa_nil)) (pa_cons (pe_callB call_len (by rfl) T.Fi.n_len (by decide +kernel) (pa_cons (pv 2) pa_nil)) pa_nil))) pe_non ⟨by rfl, by rfl, by rfl, by rfl⟩))), ?_⟩
    refine ⟨_, rfl, _, rfl, _, rfl, r, rv, R, sg, x, y, rfl, hrv, pR, ok, xl, yl, fun D fk H1 hD s1 hD1 pd lf => ⟨D, rfl, .inr ⟨fk, .inl hD1⟩, ?_⟩⟩
    refine ⟨_, rfl, .str x, x.cps.size, rfl, ⟨by rw [sizeLine_eq]; show x.cps.size ≤ _; omega, rfl⟩, _, rfl, .str y, y.cps.size, rfl, ⟨by rw [sizeLine_eq]; show y.cps.size ≤ _; omega, rfl⟩, by show 2 ≤ sizeLine; decide, fun b hb => ?_⟩
    refine ⟨_, DGet.t (k := plK x.cps.size y.cps.size) (Same.upd hb _ _ hD1) upd_same, ?_⟩
    rw [pd.1]
    have lo := Dag.diag_least (x := x.cps.toList) (y := y.cps.toList) (S := fun u v c => (∃ a, u = [a] ∧ v = [a] ∧ c = 0 ∧ a ∈ x.cps.toList) ∨ (u, v, c) ∈ R.map toL) (rows_ne ok) (fun _ _ _ => Iff.rfl)
    rw [Array.length_toList, Array.length_toList] at lo
    have lo : Dag.LO _ (Dag.run (lawE R x y) (Dag.tri (x.cps.size + y.cps.size)) (Dag.idx x.cps.size y.cps.size)) := lo
    have iw : IsW sg R x y (Dag.run (lawE R x y) (Dag.tri (x.cps.size + y.cps.size)) (Dag.idx x.cps.size y.cps.size)) := by
      refine lo.iff fun w => ⟨fun h => h.mono fun u v c z => ?_, fun h => ?_⟩
      · rw [sdP_iff]
        rcases z with ⟨a, h1, h2, h3, h4⟩ | z
        · exact .inl ⟨a, sx a h4, h1, h2, h3⟩
        · obtain ⟨e, he, h⟩ := List.mem_map.mp z
          exact .inr ⟨e, he, h⟩
      · have go : ∀ {a b : List Nat} {w : Int}, Dag.Ch (SdP sg R) a b w → a <+: x.cps.toList → Dag.Ch (fun u v c => (∃ a, u = [a] ∧ v = [a] ∧ c = 0 ∧ a ∈ x.cps.toList) ∨ (u, v, c) ∈ R.map toL) a b w := by
          intro a b w h
          induction h with
          | nil => intro _; exact .nil
          | snoc _ s ih =>
            rename_i xs ys u v w c _
            intro hp
            refine .snoc (ih ((List.prefix_append xs u).trans hp)) ?_
            rw [sdP_iff] at s
            rcases s with ⟨a, _, rfl, rfl, rfl⟩ | ⟨e, he, h⟩
            · refine .inl ⟨a, rfl, rfl, rfl, hp.subset ?_⟩
              exact List.mem_append_right _ (List.mem_singleton.mpr rfl)
            · exact .inr (List.mem_map.mpr ⟨e, he, h⟩)
        exact go h List.prefix_rfl
    have := k _ _ (s1.trans (Same.upd (o := .tup [.int (x.cps.size : Nat), .int (y.cps.size : Nat)]) hb)) iw
    show Q _ _
    cases hr : Dag.run (lawE R x y) (Dag.tri (x.cps.size + y.cps.size)) (Dag.idx x.cps.size y.cps.size) with
    | none => rw [hr] at this; exact this
    | some v => rw [hr] at this; exact this
end
end Kx

/-! places with numbers: what makes them right -/
namespace Kx
open PySem L2 Own
abbrev Pl := List ((Int × Int) × Int)
def plKI (p : Int × Int) : List L2.Key := [.inl p.1, .inl p.2]
theorem plKI_inj {p q : Int × Int} (h : plKI p = plKI q) : p = q := by
  have h1 := List.cons.inj h
  have h2 := List.cons.inj h1.2
  exact Prod.ext (Sum.inl.inj h1.1) (Sum.inl.inj h2.1)
def kvP (P : Pl) : List (List L2.Key × V) := P.map fun q => (plKI q.1, .int q.2)
def lookP (P : Pl) (p : Int × Int) : Option Int := (P.find? fun q => decide (q.1 = p)).map (·.2)
theorem kvP_len (P : Pl) : (kvP P).length = P.length := List.length_map _
theorem kvP_keys (P : Pl) : (kvP P).map (·.1) = (P.map (·.1)).map plKI := by
  unfold kvP
  rw [List.map_map, List.map_map]
  rfl
theorem kvP_nd {P : Pl} : ((kvP P).map (·.1)).Nodup ↔ (P.map (·.1)).Nodup := by
  rw [kvP_keys]
  refine ⟨fun h => ?_, fun h => ?_⟩
  · exact (List.pairwise_map.mp h).imp fun z e => z (by rw [e])
  · exact List.Pairwise.map _ (fun a b ne e => ne (plKI_inj e)) h
theorem valP {P : Pl} {p : Int × Int} : valV (kvP P) (plKI p) = (lookP P p).map V.int := by
  unfold valV kvP lookP
  rw [List.find?_map, Option.map_map, Option.map_map]
  have e : ((fun kv : List L2.Key × V => decide (kv.1 = plKI p)) ∘ fun q : (Int × Int) × Int => (plKI q.1, V.int q.2)) = fun q => decide (q.1 = p) := funext fun q => by
    show decide (plKI q.1 = plKI p) = _
    rw [decide_eq_decide]
    exact ⟨plKI_inj, fun z => by rw [z]⟩
  rw [e]
  rfl
theorem mem_lookP {P : Pl} {p : Int × Int} {n : Int} (h : lookP P p = some n) : (p, n) ∈ P := by
  unfold lookP at h
  obtain ⟨q, hq, rfl⟩ := Option.map_eq_some_iff.mp h
  have e : q.1 = p := by simpa using List.find?_some hq
  rw [← e]
  exact List.mem_of_find?_eq_some hq
theorem lookP_mem {P : Pl} (nd : (P.map (·.1)).Nodup) {p : Int × Int} {n : Int} (h : (p, n) ∈ P) : lookP P p = some n := by
  induction P with
  | nil => cases h
  | cons q P ih =>
    obtain ⟨nq, nd⟩ := List.nodup_cons.mp nd
    unfold lookP
    rw [List.find?_cons]
    by_cases e : q.1 = p
    · rcases List.mem_cons.mp h with h | h
      · rw [← h, decide_eq_true rfl]; rfl
      · exact absurd (List.mem_map.mpr ⟨(p, n), h, e.symm⟩) nq
    · rw [decide_eq_false e]
      rcases List.mem_cons.mp h with h | h
      · exact absurd (by rw [← h]) e
      · exact ih nd h
theorem lookP_none {P : Pl} {p : Int × Int} : lookP P p = none ↔ ∀ q ∈ P, q.1 ≠ p := by
  unfold lookP
  rw [Option.map_eq_none_iff, List.find?_eq_none]
  simp
/-- a place of the grid, its number not below 0 -/
def InP (x y : Str) (q : (Int × Int) × Int) : Prop := 0 ≤ q.1.1 ∧ q.1.1 ≤ x.cps.size ∧ 0 ≤ q.1.2 ∧ q.1.2 ≤ y.cps.size ∧ 0 ≤ q.2
abbrev fitL (R : List Ed) (x y : Str) (i j : Nat) : List ((Nat × Nat) × Int) := Dag.fitP (R.map toL) x.cps.toList y.cps.toList (i, j)
/-- a place's turn is kept -/
def Shut (R : List Ed) (x y : Str) (k : Int) (P : Pl) (q : (Int × Int) × Int) : Prop := ∀ e ∈ fitL R x y q.1.1.toNat q.1.2.toNat, q.2 + e.2 ≤ k → ∃ m, lookP P (((e.1.1 : Nat) : Int), ((e.1.2 : Nat) : Int)) = some m ∧ m ≤ q.2 + e.2
def Right (R : List Ed) (x y : Str) (k : Int) (P : Pl) : Prop := lookP P (0, 0) = some 0 ∧ lookP P (((x.cps.size : Nat) : Int), ((y.cps.size : Nat) : Int)) = none ∧ ∀ q ∈ P, InP x y q ∧ Shut R x y k P q
section
variable {sg x y : Str} {R : List Ed} {k : Int}
theorem fit_in {i j : Nat} (hi : i ≤ x.cps.size) (hj : j ≤ y.cps.size) {e : (Nat × Nat) × Int} (h : e ∈ fitL R x y i j) : e.1.1 ≤ x.cps.size ∧ e.1.2 ≤ y.cps.size := by
  have lx : x.cps.toList.length = x.cps.size := Array.length_toList
  have ly : y.cps.toList.length = y.cps.size := Array.length_toList
  rcases Dag.mem_fitP.mp h with ⟨c, h1, h2, rfl⟩ | ⟨u, v, w, _, h1, h2, rfl⟩
  · have a := (List.getElem?_eq_some_iff.mp h1).1
    have b := (List.getElem?_eq_some_iff.mp h2).1
    dsimp only at a b ⊢
    omega
  · have a := (Dag.fits_take (by dsimp only; omega) h1).1
    have b := (Dag.fits_take (by dsimp only; omega) h2).1
    dsimp only at a b ⊢
    omega
theorem edge_fit (sx : ∀ c ∈ x.cps.toList, c ∈ sg.cps.toList) {i j q : Nat} {c : Int} (hj : j ≤ y.cps.size) : (q, c) ∈ edgesP sg R x y (i * (y.cps.size + 1) + j) ↔ ∃ e ∈ fitL R x y i j, q = e.1.1 * (y.cps.size + 1) + e.1.2 ∧ c = e.2 := by
  have ly : y.cps.toList.length = y.cps.size := Array.length_toList
  obtain ⟨d1, d2⟩ := Dag.div_at (W := y.cps.size + 1) (i := i) (j := j) (by omega)
  unfold edgesP
  rw [Dag.mem_edges, ly, d1, d2]
  constructor
  · rintro ⟨u, v, hm, h1, h2, rfl⟩
    have hm : SdP sg R u v c := hm
    rw [sdP_iff] at hm
    rcases hm with ⟨a, ha, rfl, rfl, rfl⟩ | ⟨e, he, ee⟩
    · refine ⟨((i + 1, j + 1), 0), Dag.mem_fitP.mpr (.inl ⟨a, Dag.fits_one.mp h1, Dag.fits_one.mp h2, rfl⟩), ?_, rfl⟩
      dsimp only [List.length_singleton]
      rw [Nat.add_mul]
      omega
    · refine ⟨((i + u.length, j + v.length), c), Dag.mem_fitP.mpr (.inr ⟨u, v, c, List.mem_map.mpr ⟨e, he, ee⟩, h1, h2, rfl⟩), ?_, rfl⟩
      dsimp only
      rw [Nat.add_mul]
      omega
  · rintro ⟨e, he, rfl, rfl⟩
    rcases Dag.mem_fitP.mp he with ⟨a, h1, h2, rfl⟩ | ⟨u, v, w, hm, h1, h2, rfl⟩
    · refine ⟨[a], [a], ?_, Dag.fits_one.mpr h1, Dag.fits_one.mpr h2, ?_⟩
      · show SdP sg R [a] [a] 0
        rw [sdP_iff]
        exact .inl ⟨a, sx a (List.mem_of_getElem? h1), rfl, rfl, rfl⟩
      · dsimp only [List.length_singleton]
        rw [Nat.add_mul]
        omega
    · refine ⟨u, v, ?_, h1, h2, ?_⟩
      · show SdP sg R u v w
        rw [sdP_iff]
        obtain ⟨e, he, ee⟩ := List.mem_map.mp hm
        exact .inr ⟨e, he, ee⟩
      · dsimp only
        rw [Nat.add_mul]
        omega
theorem plain_mem {p q : Nat} {c : Int} : (q, c) ∈ edgesP sg R x y p ↔ ∃ e ∈ movesE sg R x y p, e.1 = q ∧ e.2.1 = c := by
  rw [← movesE_plain]
  unfold Dag.plainE
  rw [List.mem_map]
  exact ⟨fun ⟨e, he, ee⟩ => ⟨e, he, congrArg Prod.fst ee, congrArg Prod.snd ee⟩, fun ⟨e, he, e1, e2⟩ => ⟨e, he, by rw [e1, e2]⟩⟩
/-! ### the numbers of places -/
abbrev Nm1 := List (Nat × Int)
def lookM (M : Nm1) (p : Nat) : Option Int := (M.find? fun q => decide (q.1 = p)).map (·.2)
def toM (W : Nat) (P : Pl) : Nm1 := P.map fun q => ((q.1.1 * (W : Int) + q.1.2).toNat, q.2)
def shutM (sg : Str) (R : List Ed) (x y : Str) (k : Int) (M : Nm1) (q : Nat × Int) : Prop := ∀ e ∈ movesE sg R x y q.1, q.2 + e.2.1 ≤ k → ∃ m, lookM M e.1 = some m ∧ m ≤ q.2 + e.2.1
def Low (sg : Str) (R : List Ed) (x y : Str) (k : Int) (M : Nm1) : Prop := lookM M 0 = some 0 ∧ ∀ q ∈ M, q.1 ≠ lastP x y ∧ shutM sg R x y k M q
theorem num_of {q : (Int × Int) × Int} (h : InP x y q) : ∃ i j : Nat, q.1 = (((i : Nat) : Int), ((j : Nat) : Int)) ∧ i ≤ x.cps.size ∧ j ≤ y.cps.size ∧ (q.1.1 * ((y.cps.size + 1 : Nat) : Int) + q.1.2).toNat = i * (y.cps.size + 1) + j ∧ q.1.1.toNat = i ∧ q.1.2.toNat = j := by
  obtain ⟨h1, h2, h3, h4, _⟩ := h
  obtain ⟨⟨a, b⟩, n⟩ := q
  obtain ⟨i, rfl⟩ := Int.eq_ofNat_of_zero_le h1
  obtain ⟨j, rfl⟩ := Int.eq_ofNat_of_zero_le h3
  refine ⟨i, j, rfl, by dsimp only at h2; omega, by dsimp only at h4; omega, ?_, rfl, rfl⟩
  show ((i : Int) * ((y.cps.size + 1 : Nat) : Int) + (j : Int)).toNat = _
  rw [← Int.natCast_mul, ← Int.natCast_add]
  exact Int.toNat_natCast _
theorem look_num {P : Pl} (hP : ∀ q ∈ P, InP x y q) {i j : Nat} (hj : j ≤ y.cps.size) : lookM (toM (y.cps.size + 1) P) (i * (y.cps.size + 1) + j) = lookP P (((i : Nat) : Int), ((j : Nat) : Int)) := by
  unfold lookM toM lookP
  rw [List.find?_map, Option.map_map]
  have e : P.find? ((fun q : Nat × Int => decide (q.1 = i * (y.cps.size + 1) + j)) ∘ fun q : (Int × Int) × Int => ((q.1.1 * ((y.cps.size + 1 : Nat) : Int) + q.1.2).toNat, q.2)) = P.find? fun q => decide (q.1 = (((i : Nat) : Int), ((j : Nat) : Int))) := by
    have go : ∀ L : Pl, (∀ q ∈ L, InP x y q) → L.find? ((fun q : Nat × Int => decide (q.1 = i * (y.cps.size + 1) + j)) ∘ fun q : (Int × Int) × Int => ((q.1.1 * ((y.cps.size + 1 : Nat) : Int) + q.1.2).toNat, q.2)) = L.find? fun q => decide (q.1 = (((i : Nat) : Int), ((j : Nat) : Int))) := fun L => by
      induction L with
      | nil => intro _; rfl
      | cons q L ih =>
        intro hL
        rw [List.find?_cons, List.find?_cons, ih fun q' hq => hL q' (List.mem_cons_of_mem _ hq)]
        have d : ((fun q : Nat × Int => decide (q.1 = i * (y.cps.size + 1) + j)) ∘ fun q : (Int × Int) × Int => ((q.1.1 * ((y.cps.size + 1 : Nat) : Int) + q.1.2).toNat, q.2)) q = decide (q.1 = (((i : Nat) : Int), ((j : Nat) : Int))) := by
          show decide ((q.1.1 * ((y.cps.size + 1 : Nat) : Int) + q.1.2).toNat = _) = _
          obtain ⟨a, b, e1, _, hb, e2, _⟩ := num_of (hL q List.mem_cons_self)
          rw [e2, e1, decide_eq_decide]
          constructor
          · intro z
            have d := Dag.div_at (W := y.cps.size + 1) (i := a) (j := b) (by omega)
            have d' := Dag.div_at (W := y.cps.size + 1) (i := i) (j := j) (by omega)
            rw [z, d'.1, d'.2] at d
            rw [d.1, d.2]
          · intro z
            have z1 := Int.ofNat.inj (congrArg Prod.fst z)
            have z2 := Int.ofNat.inj (congrArg Prod.snd z)
            rw [z1, z2]
        rw [d]
    exact go P hP
  rw [e]
  rfl
theorem shut_iff (sx : ∀ c ∈ x.cps.toList, c ∈ sg.cps.toList) {P : Pl} (hP : ∀ q ∈ P, InP x y q) {q : (Int × Int) × Int} (hq : InP x y q) : shutM sg R x y k (toM (y.cps.size + 1) P) ((q.1.1 * ((y.cps.size + 1 : Nat) : Int) + q.1.2).toNat, q.2) ↔ Shut R x y k P q := by
  obtain ⟨i, j, e1, hi, hj, e2, e3, e4⟩ := num_of hq
  unfold shutM Shut
  rw [e2, e3, e4]
  constructor
  · intro h e he hk
    obtain ⟨e', he', e5, e6⟩ := plain_mem.mp ((edge_fit sx hj).mpr ⟨e, he, rfl, rfl⟩)
    obtain ⟨m, h1, h2⟩ := h e' he' (by dsimp only; rw [e6]; exact hk)
    rw [e5, look_num hP (fit_in hi hj he).2] at h1
    exact ⟨m, h1, by dsimp only at h2; rw [e6] at h2; exact h2⟩
  · intro h e he hk
    obtain ⟨e', he', e5, e6⟩ := (edge_fit (j := j) sx hj).mp (plain_mem.mpr ⟨e, he, rfl, rfl⟩)
    obtain ⟨m, h1, h2⟩ := h e' he' (by dsimp only at hk; rw [← e6]; exact hk)
    refine ⟨m, ?_, by rw [e6]; exact h2⟩
    rw [e5, look_num hP (fit_in hi hj he').2]
    exact h1
theorem right_low (sx : ∀ c ∈ x.cps.toList, c ∈ sg.cps.toList) {P : Pl} (hP : ∀ q ∈ P, InP x y q) : Low sg R x y k (toM (y.cps.size + 1) P) ↔ Right R x y k P := by
  have l0 : lookM (toM (y.cps.size + 1) P) 0 = lookP P (0, 0) := by
    have := look_num (i := 0) (j := 0) hP (Nat.zero_le _)
    rw [Nat.zero_mul] at this
    exact this
  unfold Low Right
  rw [l0]
  refine and_congr Iff.rfl ⟨fun h => ⟨lookP_none.mpr fun q hq e => ?_, fun q hq => ⟨hP q hq, (shut_iff sx hP (hP q hq)).mp (h _ (List.mem_map.mpr ⟨q, hq, rfl⟩)).2⟩⟩, fun ⟨h1, h2⟩ m hm => ?_⟩
  · refine (h _ (List.mem_map.mpr ⟨q, hq, rfl⟩)).1 ?_
    obtain ⟨i, j, e1, _, _, e2, _⟩ := num_of (hP q hq)
    rw [e1] at e
    have z1 := Int.ofNat.inj (congrArg Prod.fst e)
    have z2 := Int.ofNat.inj (congrArg Prod.snd e)
    show (q.1.1 * ((y.cps.size + 1 : Nat) : Int) + q.1.2).toNat = _
    rw [e2, z1, z2]
  · obtain ⟨q, hq, rfl⟩ := List.mem_map.mp hm
    refine ⟨fun e => ?_, (shut_iff sx hP (hP q hq)).mpr (h2 q hq).2⟩
    obtain ⟨i, j, e1, _, hj, e2, _⟩ := num_of (hP q hq)
    have e : i * (y.cps.size + 1) + j = lastP x y := e2.symm.trans e
    have d := Dag.div_at (W := y.cps.size + 1) (i := i) (j := j) (by omega)
    have d' := Dag.div_at (W := y.cps.size + 1) (i := x.cps.size) (j := y.cps.size) (by omega)
    rw [e] at d
    have d'' : lastP x y / (y.cps.size + 1) = x.cps.size ∧ lastP x y % (y.cps.size + 1) = y.cps.size := d'
    refine lookP_none.mp h1 q hq ?_
    rw [e1, ← d.1, ← d.2, d''.1, d''.2]
/-! ### what is told -/
theorem walk_pos {E : Nat → List (Nat × Int)} (pos : ∀ p e, e ∈ E p → 0 ≤ e.2) {q : Nat} {w : Int} (h : Dag.Walk E q w) : 0 ≤ w := by
  induction h with
  | start => exact Int.le_refl _
  | step _ he ih => have := pos _ _ he; dsimp only at this; omega
abbrev stK (sg : Str) (R : List Ed) (x y : Str) (k : Int) : Nat → Option Dag.Nd := Dag.runS (movesE sg R x y) (some k) (lastP x y + 1)
def wK (sg : Str) (R : List Ed) (x y : Str) (k : Int) (q : Nat) : Option Int := (stK sg R x y k q).map (·.1)
theorem wK_cut (ok : OkRows sg R) (k0 : 0 ≤ k) (q : Nat) : wK sg R x y k q = Dag.cutL (some k) (Dag.run (edgesP sg R x y) (lastP x y + 1) q) := by
  unfold wK stK
  rw [Dag.runS_cut (lim := some k) (decide_eq_true k0) (movesE_pos ok), movesE_plain]
theorem cut_eq {o : Option Int} {w : Int} : Dag.cutL (some k) o = some w ↔ o = some w ∧ w ≤ k := by
  cases o with
  | none => exact ⟨(fun z => nomatch z), (fun z => nomatch z.1)⟩
  | some v =>
    by_cases c : v ≤ k
    · rw [Dag.cut_some (lim := some k) (decide_eq_true c)]
      exact ⟨fun z => ⟨z, by rw [← Option.some.inj z]; exact c⟩, fun z => z.1⟩
    · rw [Dag.cut_none (lim := some k) fun z => c (of_decide_eq_true z)]
      exact ⟨(fun z => nomatch z), fun z => absurd (by rw [Option.some.inj z.1]; exact z.2) c⟩
theorem edge_pos (ok : OkRows sg R) : ∀ p e, e ∈ edgesP sg R x y p → 0 ≤ e.2 := fun p e he => by
  obtain ⟨e', he', e1, e2⟩ := plain_mem.mp he
  rw [← e2]
  exact movesE_pos ok p e' he'
theorem edge_fw (ok : OkRows sg R) : ∀ p q c, (q, c) ∈ edgesP sg R x y p → p < q := fun p q c he => by
  obtain ⟨e', he', e1, e2⟩ := plain_mem.mp he
  rw [← e1]
  exact movesE_fw ok p e' he'
theorem wK_in (ok : OkRows sg R) {q : Nat} {w : Int} (h : wK sg R x y k q = some w) : ∃ i j, q = i * (y.cps.size + 1) + j ∧ i ≤ x.cps.size ∧ j ≤ y.cps.size := by
  obtain ⟨nd, hn, _⟩ := Option.map_eq_some_iff.mp h
  exact run_in ok hn
theorem le_last {i j : Nat} (hi : i ≤ x.cps.size) (hj : j ≤ y.cps.size) : i * (y.cps.size + 1) + j ≤ lastP x y := by
  have := Nat.mul_le_mul_right (y.cps.size + 1) hi
  unfold lastP
  omega
theorem wK_walk (ok : OkRows sg R) (k0 : 0 ≤ k) {q : Nat} {w : Int} (h : wK sg R x y k q = some w) : Dag.Walk (edgesP sg R x y) q w ∧ 0 ≤ w ∧ w ≤ k := by
  obtain ⟨i, j, rfl, hi, hj⟩ := wK_in ok h
  rw [wK_cut ok k0, cut_eq] at h
  have lo := Dag.run_least (edge_fw (x := x) (y := y) ok) (n := lastP x y + 1) (q := i * (y.cps.size + 1) + j) (by have := le_last (x := x) (y := y) hi hj; omega)
  rw [h.1] at lo
  exact ⟨lo.1, walk_pos (edge_pos ok) lo.1, h.2⟩
theorem walk_wK (ok : OkRows sg R) (k0 : 0 ≤ k) {q : Nat} {w : Int} (hq : q ≤ lastP x y) (h : Dag.Walk (edgesP sg R x y) q w) (hw : w ≤ k) : ∃ m, wK sg R x y k q = some m ∧ m ≤ w := by
  have lo := Dag.run_least (edge_fw (x := x) (y := y) ok) (n := lastP x y + 1) (q := q) (by omega)
  cases hr : Dag.run (edgesP sg R x y) (lastP x y + 1) q with
  | none => rw [hr] at lo; exact absurd h (lo w)
  | some m =>
    rw [hr] at lo
    have l := lo.2 w h
    refine ⟨m, ?_, l⟩
    rw [wK_cut ok k0, cut_eq]
    exact ⟨hr, by omega⟩
theorem wK_start (ok : OkRows sg R) (k0 : 0 ≤ k) : wK sg R x y k 0 = some 0 := by
  obtain ⟨m, h, l⟩ := walk_wK (x := x) (y := y) ok k0 (Nat.zero_le _) .start k0
  have := (wK_walk ok k0 h).2.1
  rw [h, show m = 0 by omega]
/-- what is told out of the places in order -/
def toldP (sg : Str) (R : List Ed) (x y : Str) (k : Int) (ys : List Nat) : Pl := ys.map fun p => ((((p / (y.cps.size + 1) : Nat) : Int), ((p % (y.cps.size + 1) : Nat) : Int)), (wK sg R x y k p).getD 0)
theorem told_nd {ys : List Nat} (nd : ys.Nodup) : ((toldP sg R x y k ys).map (·.1)).Nodup := by
  unfold toldP
  rw [List.map_map]
  refine List.Pairwise.map _ (fun a b ne e => ne ?_) nd
  have z1 := Int.ofNat.inj (congrArg Prod.fst e)
  have z2 := Int.ofNat.inj (congrArg Prod.snd e)
  rw [← Nat.div_add_mod a (y.cps.size + 1), ← Nat.div_add_mod b (y.cps.size + 1), z1, z2]
theorem told_look {ys : List Nat} (nd : ys.Nodup) (hys : ∀ q, q ∈ ys ↔ (wK sg R x y k q).isSome) {i j : Nat} (hj : j ≤ y.cps.size) : lookP (toldP sg R x y k ys) (((i : Nat) : Int), ((j : Nat) : Int)) = wK sg R x y k (i * (y.cps.size + 1) + j) := by
  obtain ⟨d1, d2⟩ := Dag.div_at (W := y.cps.size + 1) (i := i) (j := j) (by omega)
  cases h : wK sg R x y k (i * (y.cps.size + 1) + j) with
  | some w =>
    refine lookP_mem (told_nd nd) (List.mem_map.mpr ⟨i * (y.cps.size + 1) + j, (hys _).mpr (by rw [h]; rfl), ?_⟩)
    rw [d1, d2, h]
    rfl
  | none =>
    refine lookP_none.mpr fun q hq e => ?_
    obtain ⟨p, hp, rfl⟩ := List.mem_map.mp hq
    have z1 := Int.ofNat.inj (congrArg Prod.fst e)
    have z2 := Int.ofNat.inj (congrArg Prod.snd e)
    have : p = i * (y.cps.size + 1) + j := by
      rw [← Nat.div_add_mod p (y.cps.size + 1), z1, z2, Nat.mul_comm]
    have hp := (hys p).mp hp
    rw [this, h] at hp
    cases hp
theorem told_in (ok : OkRows sg R) (k0 : 0 ≤ k) {ys : List Nat} (hys : ∀ q, q ∈ ys ↔ (wK sg R x y k q).isSome) : ∀ q ∈ toldP sg R x y k ys, InP x y q := fun q hq => by
  obtain ⟨p, hp, rfl⟩ := List.mem_map.mp hq
  obtain ⟨w, hw⟩ := Option.isSome_iff_exists.mp ((hys p).mp hp)
  obtain ⟨i, j, rfl, hi, hj⟩ := wK_in ok hw
  obtain ⟨d1, d2⟩ := Dag.div_at (W := y.cps.size + 1) (i := i) (j := j) (by omega)
  have w0 := (wK_walk ok k0 hw).2.1
  unfold InP
  dsimp only
  rw [d1, d2, hw]
  refine ⟨by omega, by omega, by omega, by omega, w0⟩
theorem right_told (ok : OkRows sg R) (sx : ∀ c ∈ x.cps.toList, c ∈ sg.cps.toList) (k0 : 0 ≤ k) {ys : List Nat} (nd : ys.Nodup) (hys : ∀ q, q ∈ ys ↔ (wK sg R x y k q).isSome) (far : wK sg R x y k (lastP x y) = none) : Right R x y k (toldP sg R x y k ys) := by
  refine ⟨?_, ?_, fun q hq => ⟨told_in ok k0 hys q hq, ?_⟩⟩
  · have := told_look nd hys (i := 0) (j := 0) (Nat.zero_le _)
    rw [Nat.zero_mul] at this
    exact this.trans (wK_start ok k0)
  · rw [told_look nd hys (Nat.le_refl _)]
    exact far
  · obtain ⟨p, hp, rfl⟩ := List.mem_map.mp hq
    obtain ⟨w, hw⟩ := Option.isSome_iff_exists.mp ((hys p).mp hp)
    obtain ⟨i, j, rfl, hi, hj⟩ := wK_in ok hw
    obtain ⟨d1, d2⟩ := Dag.div_at (W := y.cps.size + 1) (i := i) (j := j) (by omega)
    intro e he hk
    dsimp only at he hk ⊢
    rw [d1, d2, Int.toNat_natCast, Int.toNat_natCast] at he
    rw [hw] at hk ⊢
    obtain ⟨e1, e2⟩ := fit_in hi hj he
    obtain ⟨wa, w0, wk⟩ := wK_walk ok k0 hw
    have st : Dag.Walk (edgesP sg R x y) (e.1.1 * (y.cps.size + 1) + e.1.2) (w + e.2) := .step wa ((edge_fit sx hj).mpr ⟨e, he, rfl, rfl⟩)
    obtain ⟨m, h1, h2⟩ := walk_wK ok k0 (le_last e1 e2) st hk
    exact ⟨m, by rw [told_look nd hys e2]; exact h1, h2⟩
end
end Kx

/-! zip over a text and a tuple -/
namespace Own
open PySem PySem.Spec PyProof.Rows L2 PySem.Froz
/-- an iterator that is drawn from by zip: n items; At i k: k of them have come from the one at i; keep: what else it rests on -/
structure Draws (P : Program) (w : World) (n : Nat) (itm : Nat → Value → Prop) (At : Addr → Nat → Heap → Prop) (rest : Addr → Prop) : Prop where
  keep : ∀ i k h h', At i k h → (∀ b o, b = i ∨ rest b → h.get? b = some o → h'.get? b = some o) → At i k h'
  has : ∀ i k h, At i k h → ∃ o, h.get? i = some o ∧ ∀ v, o.data ≠ .cell v
  item : ∀ (A : Around) (E : Value → Shared → Prop) (s : Shared) (Q : Value → Shared → Prop) i k, k < n → At i k s.heap → ¬ rest i → (∀ v h' tk, itm k v → At i (k + 1) h' → Heap.SameBut i s.heap h' → Q v { s with heap := h', toks := tk }) →
    wpAny (model P w) A (Builtin.SmallTypes.nextOf (.ref i)) Q E s
  stop : ∀ (A : Around) (E : Value → Shared → Prop) (s : Shared) (Q : Value → Shared → Prop) i, A.handled = none → At i n s.heap → (∀ h' e, Heap.ExtBut i s.heap h' → (∃ o, h'.get? e = some o ∧ o.cls = .type "StopIteration") → E (.ref e) { s with heap := h' }) →
    wpAny (model P w) A (Builtin.SmallTypes.nextOf (.ref i)) Q E s
/-- a text's letters -/
theorem draws_text (P : Program) (w : World) (x : Str) (u : Tok) : Draws P w x.cps.size (fun k v => ∃ c t, x.cps[k]? = some c ∧ v = .str (sing c) t) (fun i k h => h.get? i = some (itObj x u k)) (fun _ => False) where
  keep := fun i k h h' e kk => kk i _ (.inl rfl) e
  has := fun i k h e => ⟨_, e, fun v z => nomatch z⟩
  item := fun A E s Q i k lt ho _ q => by
    obtain ⟨c, hc⟩ : ∃ c, x.cps[k]? = some c := ⟨_, Array.getElem?_eq_getElem lt⟩
    have hT : s.TypeIs (.ref i) "str_ascii_iterator" := ⟨_, ho, rfl⟩
    have hd : (itObj x u k).data = .fields #[.str x u, .int k 0] := rfl
    unfold Builtin.SmallTypes.nextOf
    refine wpAny_bind (wpAny_callSpecial?_slot (name := Str.ofString "__next__") hT F.slot_str_ascii_iterator_next
      (wpAny_call_entry F.slot_str_ascii_iterator_next hT F.entry_str_ascii_iterator_next ?_ (F.args_str_ascii_iterator_next_1 _)))
    refine wpAny_bind (m := field (.ref i) 0) (wpAny_field ho hd (x := .str x u) rfl ?_)
    refine wpAny_bind (m := field (.ref i) 1) (wpAny_field ho hd (x := .int k 0) rfl ?_)
    simp only [Int.toNat_natCast, hc]
    refine wpAny_bind (wpAny_setField ho hd (by simp) (wpAny_bind (wpAny_mkStr (wpAny_pure ⟨_, rfl, wpAny_pure (q _ _ _ ⟨c, _, hc, rfl⟩ ?_ (Heap.SameBut.update ..))⟩) (by show 1 ≤ sizeLine; decide))))
    have e := upd_const (Obj.mapFields (fun vs => vs.setIfInBounds 1 (rawInt ((k : Int) + 1)))) ho
    show (s.heap.update i (Obj.mapFields (fun vs => vs.setIfInBounds 1 (rawInt ((k : Int) + 1))))).get? i = _
    rw [e, it_step x u k]
    exact get_upd _ ho rfl
  stop := fun A E s Q i hh ho q => by
    have hc : x.cps[x.cps.size]? = none := by simp
    have hT : s.TypeIs (.ref i) "str_ascii_iterator" := ⟨_, ho, rfl⟩
    have hd : (itObj x u x.cps.size).data = .fields #[.str x u, .int x.cps.size 0] := rfl
    unfold Builtin.SmallTypes.nextOf
    refine wpAny_bind (wpAny_callSpecial?_slot (name := Str.ofString "__next__") hT F.slot_str_ascii_iterator_next
      (wpAny_call_entry F.slot_str_ascii_iterator_next hT F.entry_str_ascii_iterator_next ?_ (F.args_str_ascii_iterator_next_1 _)))
    refine wpAny_bind (m := field (.ref i) 0) (wpAny_field ho hd (x := .str x u) rfl ?_)
    refine wpAny_bind (m := field (.ref i) 1) (wpAny_field ho hd (x := .int x.cps.size 0) rfl ?_)
    simp only [Int.toNat_natCast, hc]
    refine wpAny_bind (wpAny_rule (wpAny_bind (wpAny_setField ho hd (by simp) (wpAny_bind (wpAny_letGo ?_)))))
    refine wpAny_bind (m := newExc (.type "StopIteration") []) ?_
    simp only [newExc, newTuple]
    refine wpAny_bind (wpAny_newObj_type ?_ (by size_fits))
    refine wpAny_bind (m := firstArgMember _ _) (wpAny_of_eq (a := Value.none) (by first | rfl | (simp only [firstArgMember]; rfl)) (wpAny_newObj_type ?_ (by size_fits)))
    simp only [raiseNew]
    refine wpAny_bind (wpAny_handled ?_)
    first | rw [show A.in1.handled = none from hh] | rw [hh]
    exact wpAny_bind (wpAny_pure (wpAny_throw (q _ _ (((Heap.SameBut.update ..).extBut.push _).push _) ⟨_, Heap.get?_push_size _ rfl, rfl⟩)))
/-- a tuple's items -/
theorem draws_tup (P : Program) (w : World) (l : Addr) (items : Array Value) : Draws P w items.size (fun k v => items[k]? = some v) (fun i k h => h.IsTupleIter i l k ∧ h.IsTuple l items ∧ l ≠ i) (fun b => b = l) where
  keep := fun i k h h' e kk => ⟨e.1.at fun o z => kk i o (.inl rfl) z, (by
    obtain ⟨_, ⟨o, z, r⟩, _⟩ := e
    exact ⟨o, kk l o (.inr rfl) z, r⟩), e.2.2⟩
  has := fun i k h e => by
    obtain ⟨⟨o, z, _, d⟩, _⟩ := e
    exact ⟨o, z, fun v y => by rw [d] at y; cases y⟩
  item := fun A E s Q i k lt ho _ q => RZ.nextOf_tuple_item ho.1 ho.2.1 (Array.getElem?_eq_getElem lt) fun h' it sb => q _ h' s.toks (Array.getElem?_eq_getElem lt) ⟨it, (by
    obtain ⟨o, z, r⟩ := ho.2.1
    exact ⟨o, (sb.2 l ho.2.2).trans z, r⟩), ho.2.2⟩ sb
  stop := fun A E s Q i hh ho q => RZ.nextOf_tuple_end hh ho.1 ho.2.1 (by simp) q
/-- the places of a zip's turning are unlike; what its sources rest on is elsewhere -/
structure Far (z TI TO i1 i2 : Addr) (r1 r2 : Addr → Prop) : Prop where
  a : TI ≠ z
  b : TO ≠ z
  c : i1 ≠ z
  d : i2 ≠ z
  e : TI ≠ TO
  f : TI ≠ i1
  g : TI ≠ i2
  h : TO ≠ i1
  i : TO ≠ i2
  j : i1 ≠ i2
  r : ∀ q, r1 q ∨ r2 q → q ≠ z ∧ q ≠ TO ∧ q ≠ i1 ∧ q ≠ i2
section
variable {P : Program} {w : World} {A : Around} {E : Value → Shared → Prop} {s : Shared} {n1 n2 k : Nat} {it1 it2 : Nat → Value → Prop} {At1 At2 : Addr → Nat → Heap → Prop} {r1 r2 : Addr → Prop} {z TI TO i1 i2 : Addr} {x0 y0 : Value}
/-- both have an item -/
theorem zip_item (D1 : Draws P w n1 it1 At1 r1) (D2 : Draws P w n2 it2 At2 r2) (F : Far z TI TO i1 i2 r1 r2) (hz : IsZip s.heap z TI TO .none) (hI : IsPair s.heap TI (.ref i1) (.ref i2)) (hO : IsPair s.heap TO x0 y0) (h1 : At1 i1 k s.heap) (h2 : At2 i2 k s.heap) (l1 : k < n1) (l2 : k < n2)
    {Q : Value → Shared → Prop} (q : ∀ (h' : Heap) tk v1 v2, it1 k v1 → it2 k v2 → IsZip h' z TI TO (rawInt s.heap.objs.size) → IsPair h' TO v1 v2 → At1 i1 (k + 1) h' → At2 i2 (k + 1) h' → IsPair h' s.heap.objs.size v1 v2 →
      (∀ c o, c ≠ z → c ≠ TO → c ≠ i1 → c ≠ i2 → s.heap.get? c = some o → h'.get? c = some o) → Q (.ref s.heap.objs.size) { s with heap := h', toks := tk }) :
    wpAny (model P w) A (Builtin.«zip.__next__» ⟨[.ref z], []⟩) (fun fin s' => ∃ v, fin = .done (.ret v) ∧ Q v s') E s := by
  have n1r : ¬ r1 i1 := fun z => (F.r i1 (.inl z)).2.2.1 rfl
  have n2r : ¬ r2 i2 := fun z => (F.r i2 (.inr z)).2.2.2 rfl
  refine wpAny_bind (m := field (.ref z) 2) (wpAny_field hz rfl (x := .bool false) rfl ?_)
  refine wpAny_bind (m := field (.ref z) 3) (wpAny_field hz rfl (x := .ref TI) rfl ?_)
  refine wpAny_bind (wpAny_seqItems hI rfl ?_)
  refine wpAny_bind (m := Builtin.SmallTypes.ownedTupleIsFree (.ref z)) ?_
  unfold Builtin.SmallTypes.ownedTupleIsFree
  refine wpAny_bind (wpAny_field hz rfl (x := .none) rfl (wpAny_pure ?_))
  simp only [if_true]
  refine wpAny_bind (wpAny_rule (wpAny_bind (wpAny_field hz rfl (x := .ref TO) rfl (wpAny_bind (wpAny_setField_rec hz (by simp) fun ha za sa => ?_)))))
  replace za : IsZip ha z TI TO .ellipsis := za
  refine wpAny_bind ?_
  simp only [List.zipIdx_cons, List.zipIdx_nil, List.forIn_cons, List.forIn_nil]
  -- the first
  refine wpAny_bind (wpAny_bind (wpAny_onRaise (wpAny_bind (m := Builtin.SmallTypes.nextOf (.ref i1)) ?_)))
  refine D1.item _ _ { s with heap := ha } _ i1 k l1 (D1.keep _ _ _ _ h1 fun b o hb e => (sa.2 b (hb.elim (fun e => e ▸ F.c) fun r => (F.r b (.inl r)).1)).trans e) n1r fun v1 hb tb p1 a1 sb => wpAny_pure ?_
  have Ob : IsPair hb TO x0 y0 := (sb.2 TO F.h).trans ((sa.2 TO F.b).trans hO)
  refine wpAny_bind (wpAny_seqItems Ob rfl (wpAny_bind (wpAny_updateSeq_pair Ob fun hc Oc sc => wpAny_bind (wpAny_letGo (wpAny_pure ?_)))))
  replace Oc : IsPair hc TO v1 y0 := Oc
  -- the second
  refine wpAny_bind (wpAny_bind (wpAny_onRaise (wpAny_bind (m := Builtin.SmallTypes.nextOf (.ref i2)) ?_)))
  have h2c : At2 i2 k hc := D2.keep _ _ _ _ h2 fun b o hb e => by
    have f : b ≠ z ∧ b ≠ TO ∧ b ≠ i1 := hb.elim (fun e => by rw [e]; exact ⟨F.d, F.i.symm, F.j.symm⟩) fun r => have g := F.r b (.inr r); ⟨g.1, g.2.1, g.2.2.1⟩
    exact (sc.2 b f.2.1).trans ((sb.2 b f.2.2).trans ((sa.2 b f.1).trans e))
  refine D2.item _ _ { s with heap := hc, toks := tb } _ i2 k l2 h2c n2r fun v2 hd td p2 a2 sd => wpAny_pure ?_
  have Od : IsPair hd TO v1 y0 := (sd.2 TO F.i).trans Oc
  refine wpAny_bind (wpAny_seqItems Od rfl (wpAny_bind (wpAny_updateSeq_pair Od fun he Oe se => wpAny_bind (wpAny_letGo (wpAny_pure (wpAny_pure ?_))))))
  replace Oe : IsPair he TO v1 v2 := Oe
  refine wpAny_bind (wpAny_seqItems Oe rfl (wpAny_bind (wpAny_newTuple ?_)))
  have sz : he.objs.size = s.heap.objs.size := by rw [se.1, sd.1, sc.1, sb.1, sa.1]
  -- what stands as before
  have kp : ∀ c o, c ≠ z → c ≠ TO → c ≠ i1 → c ≠ i2 → s.heap.get? c = some o → he.get? c = some o := fun c o c1 c2 c3 c4 e => (se.2 c c2).trans ((sd.2 c c4).trans ((sc.2 c c2).trans ((sb.2 c c3).trans ((sa.2 c c1).trans e))))
  have ze : IsZip he z TI TO .ellipsis := (se.2 z F.b.symm).trans ((sd.2 z F.d.symm).trans ((sc.2 z F.b.symm).trans ((sb.2 z F.c.symm).trans za)))
  have a1e : At1 i1 (k + 1) he := D1.keep _ _ _ _ a1 fun b o hb e => by
    have f : b ≠ TO ∧ b ≠ i2 := hb.elim (fun e => by rw [e]; exact ⟨F.h.symm, F.j⟩) fun r => have g := F.r b (.inl r); ⟨g.2.1, g.2.2.2⟩
    exact (se.2 b f.1).trans ((sd.2 b f.2).trans ((sc.2 b f.1).trans e))
  have a2e : At2 i2 (k + 1) he := D2.keep _ _ _ _ a2 fun b o hb e => by
    have f : b ≠ TO := hb.elim (fun e => by rw [e]; exact F.i.symm) fun r => (F.r b (.inr r)).2.1
    exact (se.2 b f).trans e
  refine wpAny_bind (m := Builtin.SmallTypes.ownedTupleHandOut (.ref z) (.ref he.objs.size)) ?_
  unfold Builtin.SmallTypes.ownedTupleHandOut
  have zf : IsZip (he.push { cls := .type "tuple", data := .seq #[v1, v2] }) z TI TO .ellipsis := Heap.get?_push_of_some _ ze
  refine wpAny_bind (wpAny_setField_rec zf (by simp) fun hg zg sg => ?_)
  replace zg : IsZip hg z TI TO (rawInt he.objs.size) := zg
  refine wpAny_setField_rec zg (by simp) fun hh zh sh => ?_
  replace zh : IsZip hh z TI TO (rawInt he.objs.size) := zh
  have up : ∀ c o, c ≠ z → he.get? c = some o → hh.get? c = some o := fun c o c1 e => (sh.2 c c1).trans ((sg.2 c c1).trans (Heap.get?_push_of_some _ e))
  have zlt : z < he.objs.size := Heap.lt_size ze
  have new : IsPair hh he.objs.size v1 v2 := (sh.2 _ (Nat.ne_of_gt zlt)).trans ((sg.2 _ (Nat.ne_of_gt zlt)).trans (Heap.get?_push_size _ rfl))
  rw [sz] at zh new
  refine wpAny_pure ⟨_, rfl, ?_⟩
  show Q (.ref he.objs.size) _
  rw [sz]
  refine q hh _ v1 v2 p1 p2 zh (up _ _ F.b Oe) (D1.keep _ _ _ _ a1e fun b o hb e => up b o (hb.elim (fun e => e ▸ F.c) fun r => (F.r b (.inl r)).1) e) (D2.keep _ _ _ _ a2e fun b o hb e => up b o (hb.elim (fun e => e ▸ F.d) fun r => (F.r b (.inr r)).1) e) new fun c o c1 c2 c3 c4 e => up c o c1 (kp c o c1 c2 c3 c4 e)
/-- the first is at its end -/
theorem zip_stop (D1 : Draws P w n1 it1 At1 r1) (F : Far z TI TO i1 i2 r1 r2) (hh : A.handled = none) (hz : IsZip s.heap z TI TO .none) (hI : IsPair s.heap TI (.ref i1) (.ref i2)) (h1 : At1 i1 n1 s.heap)
    {Q : Fin → Shared → Prop} (q : ∀ (h' : Heap) e, (∀ c o, c ≠ z → c ≠ TO → c ≠ i1 → c ≠ i2 → s.heap.get? c = some o → h'.get? c = some o) → (∃ o, h'.get? e = some o ∧ o.cls = .type "StopIteration") → E (.ref e) { s with heap := h' }) :
    wpAny (model P w) A (Builtin.«zip.__next__» ⟨[.ref z], []⟩) Q E s := by
  refine wpAny_bind (m := field (.ref z) 2) (wpAny_field hz rfl (x := .bool false) rfl ?_)
  refine wpAny_bind (m := field (.ref z) 3) (wpAny_field hz rfl (x := .ref TI) rfl ?_)
  refine wpAny_bind (wpAny_seqItems hI rfl ?_)
  refine wpAny_bind (m := Builtin.SmallTypes.ownedTupleIsFree (.ref z)) ?_
  unfold Builtin.SmallTypes.ownedTupleIsFree
  refine wpAny_bind (wpAny_field hz rfl (x := .none) rfl (wpAny_pure ?_))
  simp only [if_true]
  refine wpAny_bind (wpAny_rule (wpAny_bind (wpAny_field hz rfl (x := .ref TO) rfl (wpAny_bind (wpAny_setField_rec hz (by simp) fun ha za sa => ?_)))))
  replace za : IsZip ha z TI TO .ellipsis := za
  refine wpAny_bind ?_
  simp only [List.zipIdx_cons, List.zipIdx_nil, List.forIn_cons, List.forIn_nil]
  refine wpAny_bind (wpAny_bind (wpAny_onRaise (wpAny_bind (m := Builtin.SmallTypes.nextOf (.ref i1)) ?_)))
  refine D1.stop _ _ { s with heap := ha } _ i1 hh (D1.keep _ _ _ _ h1 fun b o hb e => (sa.2 b (hb.elim (fun e => e ▸ F.c) fun r => (F.r b (.inl r)).1)).trans e) fun hb e kb ⟨o, ho, co⟩ => ?_
  have zb : IsZip hb z TI TO .ellipsis := kb z _ F.c.symm za
  have ne : e ≠ z := fun x => by
    rw [x, zb] at ho
    cases ho
    simp at co
  exact wpAny_setField_rec zb (by simp) fun hc zc sc => q hc e (fun c o c1 _ c3 _ x => (sc.2 c c1).trans (kb c o c3 ((sa.2 c c1).trans x))) ⟨o, (sc.2 e ne).trans ho, co⟩
end
end Own

namespace Own
open PySem PySem.Spec PyProof.Rows L2 PySem.Froz
abbrev zs1 (h : Heap) (x : Str) (u : Tok) : Heap := h.push (itObj x u 0)
abbrev zs2 (h : Heap) (x : Str) (u : Tok) (l : Addr) : Heap := (zs1 h x u).push { cls := .type "tuple_iterator", data := .fields #[.ref l, .int 0 0] }
abbrev zs3 (h : Heap) (x : Str) (u : Tok) (l : Addr) : Heap := (zs2 h x u l).push { cls := .type "tuple", data := .seq #[.ref h.objs.size, .ref (zs1 h x u).objs.size] }
abbrev zs4 (h : Heap) (x : Str) (u : Tok) (l : Addr) : Heap := (zs3 h x u l).push { cls := .type "tuple", data := .seq #[.none, .none] }
abbrev zs5 (h : Heap) (x : Str) (u : Tok) (l : Addr) : Heap := (zs4 h x u l).push { cls := .type "zip", data := .fields #[.none, .bool false, .bool false, .ref (zs2 h x u l).objs.size, .ref (zs3 h x u l).objs.size] }
theorem zip_made (x : Str) (u : Tok) (l : Addr) (ys : Array Value) (ha : x.cps.all (· < 128) = true) :
    Meets (Builtin.«zip.__new__» ⟨[.type "zip", .str x u, .ref l], []⟩) (fun _ R s => s.heap.IsTuple l ys ∧ R (.ok (.ret (.ref (zs4 s.heap x u l).objs.size))) { s with heap := zs5 s.heap x u l }) :=
  .of_wp fun prog w A R s h => by
    obtain ⟨hp, g, d, tk, os⟩ := s
    obtain ⟨hl, h⟩ := h
    have hsub := sub_zip
    have hL : Heap.IsTuple (Shared.heap ⟨hp.push { cls := .type "str_ascii_iterator", data := .fields #[.str x u, .int 0 0] }, g, d, tk, os⟩) l ys := Heap.IsTuple.push hl _
    wp_walk using wpAny_pyIter_ascii (x := x) (t := u) ha, wpAny_pyIter_tuple hL
    exact ⟨_, rfl, h⟩
section
variable {P : Program} {w : World} {A : Around} {E : Value → Shared → Prop} {s : Shared} {n1 n2 k : Nat} {it1 it2 : Nat → Value → Prop} {At1 At2 : Addr → Nat → Heap → Prop} {r1 r2 : Addr → Prop} {z TI TO i1 i2 : Addr} {x0 y0 : Value}
theorem call_zipS {x : Str} {u : Tok} {l : Addr} {ys : Array Value} {Q : Value → Shared → Prop} (ha : x.cps.all (· < 128) = true) (hl : s.heap.IsTuple l ys)
    (q : ∀ h', IsZip h' (s.heap.objs.size + 4) (s.heap.objs.size + 2) (s.heap.objs.size + 3) .none → IsPair h' (s.heap.objs.size + 2) (.ref s.heap.objs.size) (.ref (s.heap.objs.size + 1)) → IsPair h' (s.heap.objs.size + 3) .none .none →
      h'.get? s.heap.objs.size = some (itObj x u 0) → h'.IsTupleIter (s.heap.objs.size + 1) l 0 → (∀ c o, s.heap.get? c = some o → h'.get? c = some o) → Q (.ref (s.heap.objs.size + 4)) { s with heap := h' }) :
    wpAny (model P w) A (call (.type "zip") [.str x u, .ref l]) Q E s := by
  refine callType_new F.called_zip (by decide) (F.typeCall_zip_2 _ _) (F.newCall_zip_2 _ _) (fun obj => F.args_object_init_3 obj _ _) F.entry_zip_new (zip_made x u l ys ha) ⟨hl, ?_⟩
  have e1 : (zs1 s.heap x u).objs.size = s.heap.objs.size + 1 := Heap.size_push ..
  have e2 : (zs2 s.heap x u l).objs.size = s.heap.objs.size + 2 := by rw [Heap.size_push, e1]
  have e3 : (zs3 s.heap x u l).objs.size = s.heap.objs.size + 3 := by rw [Heap.size_push, e2]
  have e4 : (zs4 s.heap x u l).objs.size = s.heap.objs.size + 4 := by rw [Heap.size_push, e3]
  have up : ∀ {h : Heap} {o : Obj} {c : Addr} {v : Obj}, h.get? c = some v → (h.push o).get? c = some v := fun e => Heap.get?_push_of_some _ e
  have g5 : (zs5 s.heap x u l).get? (zs4 s.heap x u l).objs.size = some _ := Heap.get?_push_size _ rfl
  have g4 : (zs5 s.heap x u l).get? (zs3 s.heap x u l).objs.size = some _ := up (Heap.get?_push_size _ rfl)
  have g3 : (zs5 s.heap x u l).get? (zs2 s.heap x u l).objs.size = some _ := up (up (Heap.get?_push_size _ rfl))
  have g2 : (zs5 s.heap x u l).get? (zs1 s.heap x u).objs.size = some _ := up (up (up (Heap.get?_push_size _ rfl)))
  have g1 : (zs5 s.heap x u l).get? s.heap.objs.size = some (itObj x u 0) := up (up (up (up (Heap.get?_push_size _ rfl))))
  rw [e1] at g2 g3
  rw [e2] at g3 g5
  rw [e3] at g4 g5
  rw [e4] at g5
  show _ ∧ _
  rw [e4]
  exact ⟨⟨_, g5, rfl⟩, q _ g5 g3 g4 g1 ⟨_, g2, rfl, rfl⟩ fun c o e => up (up (up (up (up e))))⟩
theorem next_item (D1 : Draws P w n1 it1 At1 r1) (D2 : Draws P w n2 it2 At2 r2) (F : Far z TI TO i1 i2 r1 r2) (hz : IsZip s.heap z TI TO .none) (hI : IsPair s.heap TI (.ref i1) (.ref i2)) (hO : IsPair s.heap TO x0 y0) (h1 : At1 i1 k s.heap) (h2 : At2 i2 k s.heap) (l1 : k < n1) (l2 : k < n2)
    {Q : Option Value → Shared → Prop} (q : ∀ (h' : Heap) tk v1 v2, it1 k v1 → it2 k v2 → IsZip h' z TI TO (rawInt s.heap.objs.size) → IsPair h' TO v1 v2 → At1 i1 (k + 1) h' → At2 i2 (k + 1) h' → IsPair h' s.heap.objs.size v1 v2 →
      (∀ c o, c ≠ z → c ≠ TO → c ≠ i1 → c ≠ i2 → s.heap.get? c = some o → h'.get? c = some o) → Q (some (.ref s.heap.objs.size)) { s with heap := h', toks := tk }) : wpAny (model P w) A (pyNext (.ref z)) Q E s := by
  have hT : s.TypeIs (.ref z) "zip" := ⟨_, hz, rfl⟩
  unfold pyNext
  exact wpAny_bind (wpAny_attempt (wpAny_callSpecial?_slot (name := Str.ofString "__next__") hT PySem.F.slot_zip_next
    (wpAny_call_entry PySem.F.slot_zip_next hT PySem.F.entry_zip_next (zip_item D1 D2 F hz hI hO h1 h2 l1 l2 fun h' tk v1 v2 b1 b2 b3 b4 b5 b6 b7 b8 => wpAny_pure (q h' tk v1 v2 b1 b2 b3 b4 b5 b6 b7 b8)) (PySem.F.args_zip_next_1 _))))
theorem next_stop (D1 : Draws P w n1 it1 At1 r1) (F : Far z TI TO i1 i2 r1 r2) (hh : A.handled = none) (hz : IsZip s.heap z TI TO .none) (hI : IsPair s.heap TI (.ref i1) (.ref i2)) (h1 : At1 i1 n1 s.heap)
    {Q : Option Value → Shared → Prop} (q : ∀ h', (∀ c o, c ≠ z → c ≠ TO → c ≠ i1 → c ≠ i2 → s.heap.get? c = some o → h'.get? c = some o) → Q none { s with heap := h' }) : wpAny (model P w) A (pyNext (.ref z)) Q E s := by
  have hT : s.TypeIs (.ref z) "zip" := ⟨_, hz, rfl⟩
  unfold pyNext
  refine wpAny_bind (wpAny_attempt (wpAny_callSpecial?_slot (name := Str.ofString "__next__") hT PySem.F.slot_zip_next
    (wpAny_call_entry PySem.F.slot_zip_next hT PySem.F.entry_zip_next ?_ (PySem.F.args_zip_next_1 _))))
  refine zip_stop D1 F (show A.in1.handled = none from hh) hz hI h1 fun h' e kk ⟨o, ho, co⟩ => ?_
  exact wpAny_bind (wpAny_isInstance (T := "StopIteration") (b := true) ⟨o, ho, co⟩ isSubtype_stop (wpAny_pure (q h' kk)))
end
end Own

namespace Own
open PySem PySem.Spec PyProof.Rows L2 PySem.Froz
/-- the text y and the tuple at b, that is no shorter, item by item in new pairs -/
def Itzs (K : PySem.W.Frag) (y : Str) (b : Addr) : It :=
  ⟨fun i H => ∃ (ys : List V) (v : V), i < y.cps.size ∧ SqT K H b ys ∧ ys[i]? = some v,
    fun i H v H' => ∃ T c x, v = .ref T ∧ H T = none ∧ H' = upd H T (.tup [.str (sing c), x]) ∧ y.cps[i]? = some c ∧ ∀ ys, SqT K H b ys → ys[i]? = some x,
    fun i H => i = y.cps.size ∧ ∃ ys : List V, SqT K H b ys⟩
/-- the objects of such a walk -/
def ZipSt (y : Str) (u : Tok) (b z TI TO i1 i2 : Addr) (i : Nat) (h : Heap) : Prop :=
  IsZip h z TI TO .none ∧ IsPair h TI (.ref i1) (.ref i2) ∧ (∃ p q, IsPair h TO p q) ∧ h.get? i1 = some (itObj y u i) ∧ h.IsTupleIter i2 b i
theorem turn_zips {P : Program} {w : World} {K : PySem.W.Frag} {elts : List Expr} {kk : Nat} {tpos : Pos} {y : Str} {u : Tok} {b z TI TO i1 i2 : Addr} (F : Far z TI TO i1 i2 (fun _ => False) (fun q => q = b)) :
    Turn P w K (.Tuple elts kk tpos) (Itzs K y b) [z, TI, TO, i1, i2] z (ZipSt y u b z TI TO i1 i2) where
  mem := List.mem_cons_self
  obj := fun i h ⟨hz, hI, ⟨p, q, hO⟩, h1, ⟨o, h2, _, d2⟩⟩ c hc => by
    simp only [List.mem_cons, List.not_mem_nil, or_false] at hc
    rcases hc with rfl | rfl | rfl | rfl | rfl
    · exact ⟨_, hz, fun v e => nomatch e⟩
    · exact ⟨_, hI, fun v e => nomatch e⟩
    · exact ⟨_, hO, fun v e => nomatch e⟩
    · exact ⟨_, h1, fun v e => nomatch e⟩
    · exact ⟨_, h2, fun v e => by rw [d2] at e; cases e⟩
  keep := fun i h h' ⟨hz, hI, ⟨p, q, hO⟩, h1, h2⟩ k =>
    ⟨k z (by simp) _ hz, k TI (by simp) _ hI, ⟨p, q, k TO (by simp) _ hO⟩, k i1 (by simp) _ h1, h2.at fun o e => k i2 (by simp) o e⟩
  item := fun X hP hw hK hc i pins s σ H E I hf ⟨hz, hI, ⟨p, q, hO⟩, h1, h2⟩ ⟨ys, v, hi, hq, hv⟩ => by
    subst hP hw hK
    obtain ⟨its, rv, hb, _⟩ := I.tuple hq
    obtain ⟨r, hr, rr⟩ := rv.get hv
    have hi2 : i < its.toArray.size := by rw [List.size_toArray]; exact (List.getElem?_eq_some_iff.mp hr).1
    have zlt : z < s.heap.objs.size := Heap.lt_size hz
    have far := F.r b (.inr rfl)
    refine next_item (draws_text X.prog X.w y u) (draws_tup X.prog X.w b its.toArray) F hz hI hO h1 ⟨h2, hb, far.2.2.2⟩ hi hi2 fun h' tk v1 v2 ⟨c, t, hc1, e1⟩ e2 z' O' a1 a2 T' kp => ?_
    have e3 : v2 = r := by
      have q : its.toArray[i]? = some r := by simpa using hr
      rw [q] at e2
      exact (Option.some.inj e2).symm
    subst e1 e3
    refine ⟨_, rfl, wpAny_letOwnedTupleGo_zip (s := { s with heap := h', toks := tk }) z' fun h3 z3 sb => ?_⟩
    have kp3 : ∀ c o, c ∉ [z, TI, TO, i1, i2] → s.heap.get? c = some o → h3.get? c = some o := fun c o hn e => by
      simp only [List.mem_cons, List.not_mem_nil, or_false, not_or] at hn
      exact (sb.2 c hn.1).trans (kp c o hn.1 hn.2.2.1 hn.2.2.2.1 hn.2.2.2.2 e)
    have T3 : h3.get? s.heap.objs.size = some { cls := .type "tuple", data := .seq #[.str (sing c) t, v2] } := (sb.2 _ (Nat.ne_of_gt zlt)).trans T'
    have new : ObjOk X.prog X.w (upd H s.heap.objs.size (.tup [.str (sing c), v])) h3 s.heap.objs.size (.tup [.str (sing c), v]) :=
      ⟨by show 2 ≤ sizeLine; decide, [.str (sing c) t, v2], .cons ⟨t, rfl⟩ (.cons rr .nil), ⟨_, T3, rfl, _, rfl⟩⟩
    have J : Inv X pins σ (upd H s.heap.objs.size (.tup [.str (sing c), v])) { s with heap := h3, toks := tk } := I.turnedNew (t' := tk) (ch := [z, TI, TO, i1, i2]) kp3 hf (Nat.le_refl _) new
    refine ⟨.ref s.heap.objs.size, _, J, rfl, ⟨_, c, v, rfl, I.hok.fresh (Nat.le_refl _), rfl, hc1, fun l hl => by rw [I.tuple_inj hl hq]; exact hv⟩, ⟨z3, ?_, ⟨_, _, (sb.2 _ F.b).trans O'⟩, (sb.2 _ F.c).trans a1, a2.1.at fun o e => (sb.2 _ F.d).trans e⟩, fun d hd => ?_⟩
    · exact (sb.2 _ F.a).trans (kp _ _ F.a F.e F.f F.g hI)
    · have lt : d < s.heap.objs.size := by
        simp only [List.mem_cons, List.not_mem_nil, or_false] at hd
        rcases hd with rfl | rfl | rfl | rfl | rfl
        · exact zlt
        · exact Heap.lt_size hI
        · exact Heap.lt_size hO
        · exact Heap.lt_size h1
        · obtain ⟨_, e, _⟩ := h2; exact Heap.lt_size e
      rw [upd_ne (Nat.ne_of_lt lt)]
      exact (hf d hd).1
  done := fun X hP hw hK hc i pins s σ H E I hf ⟨hz, hI, ⟨p, q, hO⟩, h1, h2⟩ ⟨hi, ys, hq⟩ => by
    subst hP hw hK hi
    exact next_stop (draws_text X.prog X.w y u) F (I.ok.hd hc) hz hI h1 fun h' kp => ⟨rfl, I.turnedL (t' := s.toks) (ch := [z, TI, TO, i1, i2]) (fun c o hn e => by
      simp only [List.mem_cons, List.not_mem_nil, or_false, not_or] at hn
      exact kp c o hn.1 hn.2.2.1 hn.2.2.2.1 hn.2.2.2.2 e) hf⟩
  self := fun A i s Q E st h => wpAny_pyIter_zip st.1 h
/-- zip(text, tuple) -/
def iZips (K : PySem.W.Frag) (ta : TA) : TI := fun σ H R => ta σ H fun vs H1 => ∃ (y : Str) (b : Addr) (ys : List V), vs = [.str y, .ref b] ∧ y.cps.all (· < 128) = true ∧ SqT K H1 b ys ∧ R (Itzs K y b) H1
theorem pi_zips {X : Cx} {e e2 : Expr} {ta : TA} {p pos tpos : Pos} {elts : List Expr} {kk : Nat} (hg : Gl X "zip") (hm : X.mg "zip" = none) (ha : PA X [e, e2] ta)
    (hs : starEach [e, e2] X.env = (false, eval e X.env) :: starEach [e2] X.env := by rfl) (hpl : (backTo pos (starEach [e2] X.env)).any (·.1) = false := by rfl) :
    PI X (.Tuple elts kk tpos) (.Call (.Name "zip" p) [e, e2] [] pos) (iZips X.K ta) := by
  refine ⟨fun pins s σ H R I h => Call_ (ld_blt I hg hm PyProof.Rows.boot_zip (PyProof.Rows.callWith_type1 (thn (ha.run pos pins s σ H _ I h) fun us s1 ⟨vs, H1, I1, r1, y, b, ys, ev, asc, hq, q⟩ => ?_) hs hpl))⟩
  subst ev
  cases r1 with
  | cons r rr =>
    cases rr with
    | cons r' r2 =>
      cases r2
      obtain ⟨u, rfl⟩ := r
      cases r'
      obtain ⟨its, rv, hb, _⟩ := I1.tuple hq
      have lt : b < s1.heap.objs.size := by
        obtain ⟨o, e, _⟩ := id hb
        exact Heap.lt_size e
      refine call_zipS asc (show s1.heap.IsTuple b its.toArray from hb) fun h' hz hI hO h1 h2 kp => wpAny_pyIter_zip hz ?_
      have J : Inv X pins σ H1 { s1 with heap := h' } := I1.kept (t' := s1.toks) kp
      have far : Far (s1.heap.objs.size + 4) (s1.heap.objs.size + 2) (s1.heap.objs.size + 3) s1.heap.objs.size (s1.heap.objs.size + 1) (fun _ => False) (fun q => q = b) := by
        have nn : ∀ {m n : Nat}, m ≠ n → (m : Addr) ≠ n := fun h => h
        refine ⟨nn (by omega), nn (by omega), nn (by omega), nn (by omega), nn (by omega), nn (by omega), nn (by omega), nn (by omega), nn (by omega), nn (by omega), fun q hq => ?_⟩
        rcases hq with f | e
        · exact f.elim
        · have lt' : q < s1.heap.objs.size := e.symm ▸ lt
          exact ⟨nn (Nat.ne_of_lt (Nat.lt_add_right _ lt')), nn (Nat.ne_of_lt (Nat.lt_add_right _ lt')), nn (Nat.ne_of_lt lt'), nn (Nat.ne_of_lt (Nat.lt_add_right _ lt'))⟩
      refine ⟨s1.heap.objs.size + 4, [s1.heap.objs.size + 4, s1.heap.objs.size + 2, s1.heap.objs.size + 3, s1.heap.objs.size, s1.heap.objs.size + 1], ZipSt y u b (s1.heap.objs.size + 4) (s1.heap.objs.size + 2) (s1.heap.objs.size + 3) s1.heap.objs.size (s1.heap.objs.size + 1), _, H1, rfl, J, turn_zips far, ⟨hz, hI, ⟨_, _, hO⟩, h1, h2⟩, fun c hc => ?_, q⟩
      have le : s1.heap.objs.size ≤ c := by
        simp only [List.mem_cons, List.not_mem_nil, or_false] at hc
        rcases hc with e | e | e | e | e <;> rw [e] <;> first | exact Nat.le_add_right _ _ | exact Nat.le_refl _
      exact I1.fpOk le (I1.hok.fresh le)
theorem walk_zips {K : PySem.W.Frag} {y : Str} {b : Addr} {ys : List V} (hl : y.cps.size ≤ ys.length) : L2.Walk (Itzs K y b) y.cps.size (fun H => SqT K H b ys) (YPair (fun i => (y.cps[i]?).map fun c => .str (sing c)) (fun i => ys[i]?)) := by
  refine ⟨fun i H hi q => ⟨ys, ys[i], hi, q, List.getElem?_eq_getElem (by omega)⟩, fun H q => ⟨rfl, ys, q⟩, fun i H x H' hi q ⟨T, c, v, e1, e2, e3, e4, e5⟩ => ⟨T, .str (sing c), v, e1, e2, e3, ?_, e5 ys q⟩⟩
  show (y.cps[i]?).map _ = _
  rw [e4]
  rfl
end Own

/-! enumerate over a text -/
namespace Own
open PySem PySem.Spec PyProof.Rows L2 PySem.Froz
/-- the letters of the text y, each in a new pair with its place -/
def Ites (y : Str) : It :=
  ⟨fun i _ => i < y.cps.size, fun i H v H' => ∃ T c, v = .ref T ∧ H T = none ∧ H' = upd H T (.tup [.int (i : Nat), .str (sing c)]) ∧ y.cps[i]? = some c, fun i _ => i = y.cps.size⟩
theorem turn_enumS {P : Program} {w : World} {K : PySem.W.Frag} {elts : List Expr} {kk : Nat} {tpos : Pos} (y : Str) (u : Tok) (e it : Addr) :
    Turn P w K (.Tuple elts kk tpos) (Ites y) [e, it] e (fun i h => (∃ old, IsEnum h e it ((i : Nat) : Int) old) ∧ h.IsStrIter it (strIterType y) y u i ∧ e ≠ it) where
  mem := List.mem_cons_self
  obj := fun i h ⟨⟨old, he⟩, ⟨o, ho, hc, hd⟩, _⟩ b hb => by
    rcases List.mem_cons.mp hb with rfl | hb
    · exact ⟨_, he, fun v q => nomatch q⟩
    · rw [List.mem_singleton.mp hb]
      exact ⟨o, ho, fun v q => by rw [hd] at q; cases q⟩
  keep := fun i h h' ⟨⟨old, he⟩, ⟨o, ho, r⟩, hne⟩ k => ⟨⟨old, k e (by simp) _ he⟩, ⟨o, k it (by simp) _ ho, r⟩, hne⟩
  item := fun X hP hw hK hc i pins s σ H E I hf ⟨⟨old, he⟩, hit, hne⟩ hi => by
    subst hP hw hK
    have elt : e < s.heap.objs.size := Heap.lt_size he
    have ilt : it < s.heap.objs.size := by
      obtain ⟨_, q, _⟩ := hit
      exact Heap.lt_size q
    have ef : e ∉ [it] := fun m => hne (List.mem_singleton.mp m)
    refine wpAny_pyNext_enum_itemD (Draws.text (A := X.A.in1) (I.ok.hd hc) it y u) he hit hi hne ef fun x h' tk ⟨c, t, hc1, ex⟩ ho hit' hT hz kk => ?_
    subst ex
    refine ⟨_, rfl, wpAny_letOwnedTupleGo_enum (s := { s with heap := h', toks := tk + 1 }) ho fun h2 he2 sb => ?_⟩
    have hT2 : h2.get? s.heap.objs.size = some { cls := .type "tuple", data := .seq #[.int i tk, .str (sing c) t] } := (sb.2 _ (Nat.ne_of_gt elt)).trans hT
    have new : ObjOk X.prog X.w (upd H s.heap.objs.size (.tup [.int (i : Nat), .str (sing c)])) h2 s.heap.objs.size (.tup [.int (i : Nat), .str (sing c)]) :=
      ⟨by show 2 ≤ sizeLine; decide, [.int i tk, .str (sing c) t], .cons ⟨_, rfl⟩ (.cons ⟨t, rfl⟩ .nil), ⟨_, hT2, rfl, _, rfl⟩⟩
    have kp : ∀ b o, b ∉ [e, it] → s.heap.get? b = some o → h2.get? b = some o := fun b o nb q => by
      simp only [List.mem_cons, List.not_mem_nil, or_false, not_or] at nb
      exact (sb.2 b nb.1).trans (kk b o nb.1 nb.2 q)
    have J := I.turnedNew (h' := h2) (t' := tk + 1) (ch := [e, it]) kp hf (Nat.le_refl _) new
    refine ⟨.ref s.heap.objs.size, _, J, rfl, ⟨_, c, rfl, I.hok.fresh (Nat.le_refl _), rfl, hc1⟩, ⟨⟨.str (sing c) t, ?_⟩, ?_, hne⟩, fun b hb => ?_⟩
    · have e1 : ((i + 1 : Nat) : Int) = (i : Int) + 1 := by omega
      rw [e1]
      exact he2
    · obtain ⟨o, q, r⟩ := hit'
      exact ⟨o, (sb.2 it (Ne.symm hne)).trans q, r⟩
    · have lt : b < s.heap.objs.size := by
        rcases List.mem_cons.mp hb with rfl | hb
        · exact elt
        · rw [List.mem_singleton.mp hb]
          exact ilt
      rw [upd_ne (Nat.ne_of_lt lt)]
      exact (hf b hb).1
  done := fun X hP hw hK hc i pins s σ H E I hf ⟨⟨old, he⟩, hit, hne⟩ hi => by
    subst hP hw hK
    have hi : i = y.cps.size := hi
    subst hi
    obtain ⟨f0, f1, f2, f3, f4, f5⟩ := hf it (by simp)
    exact wpAny_pyNext_enum_endD (Draws.text (A := X.A.in1) (I.ok.hd hc) it y u) he hit fun h' eb => ⟨rfl, I.turned (t' := s.toks) (fun b o nb q => eb b o nb q) f0 f1 f3 f4 f5⟩
  self := fun A i s Q E ⟨⟨_, he⟩, _⟩ h => wpAny_pyIter_enum he h
/-- enumerate(text) -/
def iEnumS (ta : TA) : TI := fun σ H R => ta σ H fun vs H1 => ∃ y : Str, vs = [.str y] ∧ R (Ites y) H1
theorem pi_enumS {X : Cx} {e : Expr} {ta : TA} {p pos tpos : Pos} {elts : List Expr} {kk : Nat} (hg : Gl X "enumerate") (hm : X.mg "enumerate" = none) (ha : PA X [e] ta) (hs : starEach [e] X.env = [(false, eval e X.env)] := by rfl) :
    PI X (.Tuple elts kk tpos) (.Call (.Name "enumerate" p) [e] [] pos) (iEnumS ta) := by
  refine ⟨fun pins s σ H R I h => Call_ (ld_blt I hg hm boot_enumerate (PyProof.Rows.callWith_type1 (thn (ha.run pos pins s σ H _ I h) fun us s1 ⟨vs, H1, I1, r1, y, ev, q⟩ => ?_) hs rfl))⟩
  subst ev
  obtain ⟨v, rfl, u, rfl⟩ := vals1 r1
  refine call_enumerate_str fun h' he hit hz kp => wpAny_pyIter_enum he ?_
  have J : Inv X pins σ H1 { s1 with heap := h' } := I1.kept (t' := s1.toks) kp
  refine ⟨s1.heap.objs.size + 1, [s1.heap.objs.size + 1, s1.heap.objs.size], _, _, H1, rfl, J, turn_enumS y u (s1.heap.objs.size + 1) s1.heap.objs.size, ⟨⟨.none, he⟩, hit, Nat.succ_ne_self _⟩, fun b hb => ?_, q⟩
  have le : s1.heap.objs.size ≤ b := by
    rcases List.mem_cons.mp hb with rfl | hb
    · exact Nat.le_add_right _ _
    · rw [List.mem_singleton.mp hb]
      exact Nat.le_refl _
  exact I1.fpOk le (I1.hok.fresh le)
theorem walk_enumS {y : Str} : L2.Walk (Ites y) y.cps.size (fun _ => True) (YPair (fun i => some (.int (i : Nat))) (fun i => (y.cps[i]?).map fun c => .str (sing c))) :=
  ⟨fun _ _ hi _ => hi, fun _ _ => rfl, fun i H x H' hi _ ⟨T, c, e1, e2, e3, e4⟩ => ⟨T, .int (i : Nat), .str (sing c), e1, e2, e3, rfl, by show (y.cps[i]?).map _ = _; rw [e4]; rfl⟩⟩
end Own

namespace Kx
open PySem L2 Own
abbrev s_check_text : Stmt := top 15
abbrev s_check_texts : Stmt := top 26
structure WAd where
  f1 : Addr
  f2 : Addr
  d1 : FuncData
  d2 : FuncData
structure TxtWo (K : PySem.W.Frag) (mg : Str → Option Value) (Y : WAd) : Prop where
  D_check_text : DefT K mg "check_text" "check_text" s_check_text ["signs", "text"] Y.f1 Y.d1
  D_check_texts : DefT K mg "check_texts" "check_texts" s_check_texts ["edits", "x", "y"] Y.f2 Y.d2
  n_enumerate : mg "enumerate" = none
section
variable {P : Program} {w : World} {K : PySem.W.Frag} {mg : Str → Option Value} {base : Heap} {B : EdAd} {Z : ZAd} {G : GAd} {Y : WAd}
def spCt : Sp := fun vs H Q _ => ∃ sg x : Str, vs = [.str sg, .str x] ∧ x.cps.size ≤ 1000 ∧ (∀ c ∈ x.cps.toList, c ∈ sg.cps.toList) ∧ ∀ H', Same H H' → Q .non H'
theorem sc_ct : FnScope ["signs", "text", "place", "letter"] ["signs", "text"] (defScope s_check_text) := ⟨rfl, rfl, rfl, by decide +kernel, rfl, by decide +kernel, by decide +kernel⟩
theorem ok_ct (T : TxtWo K mg Y) : FnOk P w K mg base CX0 1 Y.f1 Y.d1 ["signs", "text"] spCt := by
  have sc := sc_ct
  refine T.D_check_text.F.ok sc (fun vs H Q E h => ?_) (fun cdv A1 outer s H vs Q E hr h => ?_)
  · obtain ⟨_, _, rfl, _⟩ := h; rfl
  · obtain ⟨sg, x, rfl, xl, sub, k⟩ := h
    refine ⟨_, (pss_one (ps_for PassesOwn.never rfl (pi_enumS (by rfl) T.n_enumerate (pa_cons (pv 1) pa_nil)) (pg_tup rfl (pgs_cons (pg_name (i := 2) sc.nd rfl (Or.inl rfl)) (pgs_cons (pg_name (i := 3) sc.nd rfl (Or.inl rfl)) pgs_nil)))
      (pss_one (ps_if (pt_cmpR op_notIn_sign (pv 3) (pv 0) (by rfl)) pss_dead pss_nil)))), ?_⟩
    refine ⟨_, rfl, x, rfl, ?_⟩
    refine for_it walk_enumS (fun i σ H' => (∃ o2 o3 : Option V, σ = [some (.str sg), some (.str x), o2, o3]) ∧ Same H H') ⟨⟨_, _, rfl⟩, Same.refl _⟩ (fun _ _ _ _ _ => trivial) ?_ ?_
    · rintro i v σ H1 H1' hi ⟨⟨o2, o3, rfl⟩, s1⟩ ⟨t1, u1, v1, rfl, nt1, rfl, eu, ev1⟩
      cases eu
      obtain ⟨c, hc, rfl⟩ := Option.map_eq_some_iff.mp ev1
      have hct : x.cps.toList[i]? = some c := by rw [Array.getElem?_toList]; exact hc
      refine ⟨t1, _, rfl, SqT.of upd_same, rfl, _, _, rfl, _, _, rfl, rfl, ?_⟩
      refine ⟨_, rfl, _, rfl, c, sg, rfl, rfl, _, rfl, ?_⟩
      rw [decide_eq_true (sub c (List.mem_of_getElem? hct))]
      exact iteF ⟨⟨_, _, rfl⟩, s1.trans (Same.upd nt1)⟩
    · rintro σ H1 ⟨_, s1⟩
      exact k H1 s1
def spCts (Z : ZAd) : Sp := fun vs H Q _ => ∃ (m : Addr) (sg x y : Str) (R : List Ed), vs = [.ref m, .str x, .str y] ∧ EdAt Z.C H m sg R ∧ x.cps.size ≤ 1000 ∧ y.cps.size ≤ 1000 ∧ (∀ c ∈ x.cps.toList, c ∈ sg.cps.toList) ∧ (∀ c ∈ y.cps.toList, c ∈ sg.cps.toList) ∧ ∀ H', Same H H' → Q .non H'
theorem sc_cts : FnScope ["edits", "x", "y"] ["edits", "x", "y"] (defScope s_check_texts) := ⟨rfl, rfl, rfl, by decide +kernel, rfl, by decide +kernel, by decide +kernel⟩
theorem ok_cts (TZ : TxtZm K mg Z) (T : TxtWo K mg Y) : FnOk P w K mg base CX0 2 Y.f2 Y.d2 ["edits", "x", "y"] (spCts Z) := by
  have sc := sc_cts
  have G_ct : FnOk P w K mg base CX0 1 Y.f1 Y.d1 ["signs", "text"] spCt := ok_ct T
  refine T.D_check_texts.F.ok sc (fun vs H Q E h => ?_) (fun cdv A1 outer s H vs Q E hr h => ?_)
  · obtain ⟨_, _, _, _, _, rfl, _⟩ := h; rfl
  · obtain ⟨m, sg, x, y, R, rfl, at0, xl, yl, sx, sy, k⟩ := h
    refine ⟨_, (pss_cons (ps_expr (pe_call G_ct (hr.mono (by decide)) rfl T.D_check_text.g T.D_check_text.F.kp T.D_check_text.b .nil pass0 (pa_cons (pe_fld (pv 0) rfl) (pa_cons (pv 1) pa_nil))))
      (pss_one (ps_expr (pe_call G_ct (hr.mono (by decide)) rfl T.D_check_text.g T.D_check_text.F.kp T.D_check_text.b .nil pass0 (pa_cons (pe_fld (pv 0) rfl) (pa_cons (pv 2) pa_nil)))))), ?_⟩
    obtain ⟨dx, r, rv, h1, h2, h3⟩ := at0
    refine ⟨_, rfl, m, Z.C, dx, _, _, rfl, h1, TZ.zz.cl, TZ.zz.a1, rfl, _, rfl, sg, x, rfl, xl, sx, fun H1 s1 => ?_⟩
    exact ⟨_, rfl, m, Z.C, dx, _, _, rfl, s1 _ _ h1, TZ.zz.cl, TZ.zz.a1, rfl, _, rfl, sg, y, rfl, yl, sy, fun H2 s2 => k H2 (s1.trans s2)⟩
end
end Kx

/-! for k, v in d.items() of a locked dict whose keys are tuples; d.pop(k) of one -/
namespace Own
open PySem PySem.Spec PyProof.Rows L2
/-- what stands in a locked dict -/
theorem frz_both {X : Cx} {pins : List (Addr × Obj)} {σ : L2.St} {H : Hp} {s : Shared} {d : Addr} {o : Obj} {kvs : List (List L2.Key × V)} (I : Inv X pins σ H s) (h : H d = some (.frz o (.dT kvs))) :
    (d == sysModules) = false ∧ ∃ (es : Array DictEntry) (ep : Nat), s.heap.DictRaw d es ep ∧ o.data = .dict es ep ∧ es.size = kvs.length ∧
      ∀ (i : Nat) (k : List L2.Key) (v : V), kvs[i]? = some (k, v) → ∃ (en : DictEntry) (q : Addr), es[i]? = some en ∧ en.key = .ref q ∧ H q = some (.tup (k.map kV)) ∧ RelV v en.val := by
  obtain ⟨hd, z, hs, xs, pr, o', es, ep, ho, hx, hdt, he, _⟩ := I.hok d _ h
  obtain rfl : o = o' := Option.some.inj (hd.symm.trans ho)
  refine ⟨hs, es, ep, ⟨o, hd, hx, hdt⟩, hdt, (size_of_entries he).trans (Paired.length pr).symm, fun i k v e => ?_⟩
  obtain ⟨b, hb, e1, e2, e3⟩ := paired_get pr e
  have q := entry_at he i
  rw [hb] at q
  exact ⟨_, b.2.1, q, rfl, e2, e3⟩
/-- the pairs, each a new tuple of the key's own tuple and the value -/
def ItiT (d : Addr) (o : Obj) (kvs : List (List L2.Key × V)) : It :=
  ⟨fun i H => H d = some (.frz o (.dT kvs)) ∧ i < kvs.length,
   fun i H x H' => ∃ T k v q, kvs[i]? = some (k, v) ∧ x = .ref T ∧ H q = some (.tup (k.map kV)) ∧ H T = none ∧ H' = upd H T (.tup [.ref q, v]),
   fun i H => H d = some (.frz o (.dT kvs)) ∧ kvs.length ≤ i⟩
section
variable {P : Program} {w : World} {K : PySem.W.Frag} {d : Addr} {o : Obj} {es : Array DictEntry} {ep : Nat}
theorem turn_itemsT {kvs : List (List L2.Key × V)} {elts : List Expr} {kk : Nat} {tpos : Pos} (it : Addr) (hod : o.data = .dict es ep) :
    Turn P w K (.Tuple elts kk tpos) (ItiT d o kvs) [it] it (fun i h => ∃ a b, IsItemIter h it d i kvs.length ep a b) := by
  refine { mem := List.mem_singleton.mpr rfl, obj := ?_, keep := ?_, item := ?_, done := ?_, self := ?_ }
  · rintro i h ⟨a, b, e⟩ c hc
    rw [List.mem_singleton] at hc
    subst hc
    exact ⟨_, e, fun v z => nomatch z⟩
  · rintro i h h' ⟨a, b, e⟩ k
    exact ⟨a, b, k it (List.mem_singleton.mpr rfl) _ e⟩
  · rintro X rfl rfl rfl hc i pins s σ H E I hf ⟨a, b, e⟩ ⟨hd, hi⟩
    obtain ⟨hs, es', ep', raw, hdt, hsz, ent⟩ := frz_both I hd
    obtain ⟨rfl, rfl⟩ := dict_ep hod hdt
    obtain ⟨⟨k, v⟩, hkv⟩ : ∃ p, kvs[i]? = some p := ⟨kvs[i], List.getElem?_eq_getElem hi⟩
    obtain ⟨en, q, hen, hkey, hq, rv⟩ := ent i k v hkv
    rw [← hsz] at e
    have hi' : i < es'.size := by omega
    have he' : es'[i] = en := Option.some.inj ((Array.getElem?_eq_getElem hi').symm.trans hen)
    have below : it < s.heap.objs.size := Heap.lt_size e
    refine wpAny_pyNext_items_item_raw e raw hi' fun h1 out made _ kept => ?_
    rw [he', hkey] at out made
    refine ⟨_, rfl, wpAny_letOwnedTupleGo_items (s := { s with heap := h1 }) out fun h2 back sb => ?_⟩
    have there : h2.get? s.heap.objs.size = some { cls := .type "tuple", data := .seq #[.ref q, en.val] } := (sb.2 _ (Nat.ne_of_gt below)).trans made
    have ok : ObjOk X.prog X.w (upd H s.heap.objs.size (.tup [.ref q, v])) h2 s.heap.objs.size (.tup [.ref q, v]) :=
      ⟨by show 2 ≤ sizeLine; decide, [.ref q, en.val], .cons rfl (.cons rv .nil), ⟨_, there, rfl, _, rfl⟩⟩
    have J : Inv X pins σ (upd H s.heap.objs.size (.tup [.ref q, v])) { s with heap := h2 } :=
      I.turnedNew (t' := s.toks) (ch := [it]) (fun c ob hc e => (sb.2 c fun z => hc (List.mem_singleton.mpr z)).trans (kept c ob (fun z => hc (List.mem_singleton.mpr z)) e)) hf (Nat.le_refl _) ok
    rw [hsz] at back
    refine ⟨.ref s.heap.objs.size, _, J, rfl, ⟨_, k, v, q, hkv, rfl, hq, I.hok.fresh (Nat.le_refl _), rfl⟩, ⟨_, _, back⟩, fun c hc => ?_⟩
    rw [List.mem_singleton.mp hc, upd_ne (Nat.ne_of_lt below)]
    exact (hf it (List.mem_singleton.mpr rfl)).1
  · rintro X rfl rfl rfl hc i pins s σ H E I hf ⟨a, b, e⟩ ⟨hd, hi⟩
    obtain ⟨g0, g1, g2, g3, g4, g5⟩ := hf it (List.mem_singleton.mpr rfl)
    obtain ⟨hs, es', ep', raw, hdt, hsz, _⟩ := frz_both I hd
    obtain ⟨rfl, rfl⟩ := dict_ep hod hdt
    rw [← hsz] at e
    exact wpAny_pyNext_items_end_raw (I.ok.hd hc) e raw (by omega) fun h' eb => ⟨rfl, I.turned (t' := s.toks) (fun c ob hc q => eb c ob hc q) g0 g1 g3 g4 g5⟩
  · rintro A i s Q E ⟨a, b, e⟩ h
    exact PySem.W.kcp_self e h
end
def iItemsT (td : TE) : TI := fun σ H R => td σ H fun x H1 => ∃ d o kvs, x = .ref d ∧ H1 d = some (.frz o (.dT kvs)) ∧ R (ItiT d o kvs) H1
theorem pi_itemsT {X : Cx} {e : Expr} {td : TE} {apos cpos : Pos} {elts : List Expr} {kk : Nat} {tpos : Pos} (he : PE X e td) (hbase : attributeBase e "items" X.env (eval e X.env) = eval e X.env := by rfl) (hline : (apos.endLine == cpos.line) = true := by rfl) :
    PI X (.Tuple elts kk tpos) (.Call (.Attribute e "items" apos) [] [] cpos) (iItemsT td) := by
  refine ⟨fun pins s σ H R I h => ?_⟩
  refine wpAny_Call_method (T := "dict") (id := "dict.items") hbase rfl hline F.plainAttrs_dict F.slot_dict_items F.type_dict_items (thn (he.run pins s σ H _ I h) fun u s1 hx => ?_)
  obtain ⟨x, H1, I1, rx, d, o, kvs, ex, hd, q⟩ := hx
  subst ex
  cases rx
  obtain ⟨hs, es, ep, raw, hdt, hsz, _⟩ := frz_both I1 hd
  obtain ⟨ob, g1, g2, g3⟩ := id raw
  refine ⟨raw.typeIs, fun b z => ?_, ?_⟩
  · cases z
    exact ⟨ob, g1, g2.2.1⟩
  have J : Inv X pins σ H1 { s1 with heap := s1.heap.push { cls := .type "dict_items", data := .fields #[.ref d] } } := I1.kept (t' := s1.toks) fun b w z => Heap.get?_push_of_some _ z
  refine method_meetsIn F.slot_dict_items F.entry_dict_items rfl (PySem.evalArgs_none ⟨rfl, raw.typeIs, F.args_dict_items_1 _, _, meets_dict_items_raw d hs, ⟨es, ep, raw⟩, ?_⟩)
  refine wpAny_pyIter_items_raw (d := d) ⟨_, Heap.get?_push_size _ rfl, rfl, rfl⟩ (raw.push _) (pi_one (tk := s1.toks) J _ (turn_itemsT _ hdt) ⟨.none, .none, ?_⟩ q)
  rw [← hsz]
  exact Heap.get?_push_size _ rfl
theorem walk_itemsT {d : Addr} {o : Obj} {kvs : List (List L2.Key × V)} : L2.Walk (ItiT d o kvs) kvs.length (fun H => H d = some (.frz o (.dT kvs))) (fun i H x H' => ∃ T k v q, kvs[i]? = some (k, v) ∧ x = .ref T ∧ H q = some (.tup (k.map kV)) ∧ H T = none ∧ H' = upd H T (.tup [.ref q, v])) :=
  ⟨fun i H hi g => ⟨g, hi⟩, fun H g => ⟨g, Nat.le_refl _⟩, fun i H x H' _ _ y => y⟩
/-- d.pop(k), there -/
def rPop1 : V → List V → Hp → VK → Prop := fun x xs H Q => ∃ (a : Addr) (kvs : List (List L2.Key × V)) (k : List L2.Key) (b : Addr) (v : V), x = .ref a ∧ xs = [.ref b] ∧ H a = some (.dT kvs) ∧ H b = some (.tup (k.map kV)) ∧ valV kvs k = some v ∧ Q v (upd H a (.dT (dropK kvs k)))
theorem mt_pop1 {X : Cx} (hu : X.A.units + 1 < cLine) : MtR X "dict.pop" rPop1 := by
  intro pins s σ H x xs v us Q I rx rxs h
  obtain ⟨a, kvs, k, b, y, rfl, rfl, ha, hb, hv, q⟩ := h
  cases rx
  obtain ⟨u1, rfl, r1⟩ := vals1 rxs
  cases r1
  obtain ⟨z, hd, ys, rel, dd⟩ := dt_of I.hok ha
  obtain ⟨w', hw, rw'⟩ := RelO.some_of (v := y) (o := (atKey ys k).map (·.2)) (by rw [← hv]; exact rel.val k)
  obtain ⟨p, hp, rfl⟩ := Option.map_eq_some_iff.mp hw
  refine call_pop_heap (knd := tupleKind (mixKind X.prog X.w)) (k := k) (more := []) (.inl rfl) (PySem.F.args_dict_pop_2 _ _) (tupleKind_room_in1 hu) (key_of I.hok hb) hd dd hp (fun h' dd' sb => ?_) (by rw [← Paired.length rel]; exact z)
  obtain ⟨o, es, ep, hq, h2, h3, h4, _, h5⟩ := dd'
  refine ⟨y, upd H a (.dT (dropK kvs k)), d_write I (by rw [ha]; exact True.intro) sb ⟨o, hq⟩ ?_, rw', q⟩
  refine ⟨Nat.le_trans (dropK_le kvs k) z, hd, withoutH ys k, (show KT H (dropK kvs k) (withoutH ys k) from L2.DX.KT_drop k rel).keeps (fun c vs ec => ?_), o, es, ep, hq, h2, h3, h4, h5⟩
  rw [upd_ne (ne_of ec ha (fun z => nomatch z))]
  exact ec
end Own

/-! what is known of every dict at any place of a program: no key stands twice -/
namespace Own
open PySem PySem.Spec PyProof.Rows L2
def Dcts (H : Hp) : Prop := (∀ a kvs, Rd H a (.dK kvs) → (kvs.map (·.1)).Nodup) ∧ ∀ a kvs, Rd H a (.dT kvs) → (kvs.map (·.1)).Nodup
section
variable {X : Cx}
theorem dcts_of {pins : List (Addr × Obj)} {σ : L2.St} {H : Hp} {s : Shared} (I : Inv X pins σ H s) : Dcts H := by
  refine ⟨fun a kvs e => ?_, fun a kvs e => ?_⟩
  · obtain ⟨_, _, vs, rel, dd⟩ := dk_rd I.hok e
    have n : (vs.map (·.1)).Nodup := by
      obtain ⟨_, _, _, _, _, _, _, _, n⟩ := dd
      exact n
    rw [rel.keys]
    exact n
  · obtain ⟨_, _, xs, rel, dd⟩ := dt_rd I.hok e
    have n : (xs.map (·.1)).Nodup := by
      obtain ⟨_, _, _, _, _, _, _, _, n⟩ := dd
      exact n
    have go : ∀ {kvs : List (List L2.Key × V)} {xs : List (List L2.Key × Addr × Value)}, KT H kvs xs → kvs.map (·.1) = xs.map (·.1) := by
      intro kvs xs r
      induction r with
      | nil => rfl
      | cons h t ih => rw [List.map_cons, List.map_cons, ih, h.1]
    rw [go rel]
    exact n
def tKnowE (t : TE) : TE := fun σ H Q => Dcts H → t σ H Q
def tKnow (t : TS) : TS := fun D σ H => Dcts H → t D σ H
theorem pe_know {e : Expr} {t : TE} (h : PE X e t) : PE X e (tKnowE t) := ⟨fun pins s σ H Q I q => h.run pins s σ H Q I (q (dcts_of I))⟩
theorem ps_know {st : Stmt} {t : TS} (h : PS X st t) : PS X st (tKnow t) := ⟨fun pins s σ H D I q => h.run pins s σ H D I (q (dcts_of I))⟩
end
end Own

namespace Kx
open PySem L2 Own
abbrev s_gend : Stmt := inClass (top 18) 1
abbrev s_pnum : Stmt := top 20
abbrev s_low : Stmt := top 21
abbrev s_closed : Stmt := top 22
structure JAd where
  fe : Addr
  de : FuncData
  fp : Addr
  dp : FuncData
  fl : Addr
  dl : FuncData
  fc : Addr
  dc : FuncData
structure TxtJ (K : PySem.W.Frag) (mg : Str → Option Value) (B : EdAd) (G : GAd) (J : JAd) : Prop where
  tD : TxtD K mg B
  tG : TxtGw K mg G
  M_end : Meth K G.C "is_end" J.fe
  F_end : Fun K "is_end" "Grid.is_end" s_gend J.fe J.de
  b_end : Binds K J.de ["self", "place"] []
  D_pn : DefT K mg "paired_numbers" "paired_numbers" s_pnum ["places", "many", "width"] J.fp J.dp
  D_low : DefT K mg "are_low" "are_low" s_low ["ways", "numbers", "k"] J.fl J.dl
  D_cl : DefT K mg "is_closed" "is_closed" s_closed ["ways", "numbers", "place", "k"] J.fc J.dc
  n_list : mg "list" = none
section
variable {P : Program} {w : World} {K : PySem.W.Frag} {mg : Str → Option Value} {base : Heap} {B : EdAd} {Z : ZAd} {G : GAd} {J : JAd}
def spNatI : Sp := fun vs H Q _ => ∃ i : Int, vs = [.int i] ∧ Q (.bl (decide (0 ≤ i))) H
theorem ok_natI (T : TxtD K mg B) : FnOk P w K mg base CX0 2 B.f2 B.d2 ["value"] spNatI := by
  have sc := sc_is_natural
  have G_w : FnOk P w K mg base CX0 1 B.f1 B.d1 ["value"] spWhole := ok_is_whole T
  refine T.D_is_natural.F.ok sc (fun vs H Q E h => ?_) (fun cdv A1 outer s H vs Q E hr h => ?_)
  · obtain ⟨_, rfl, _⟩ := h; rfl
  · obtain ⟨i, rfl, q⟩ := h
    exact ⟨_, pss_one (ps_ret (pe_and (pe_call G_w (hr.mono (by decide)) rfl T.D_is_whole.g T.D_is_whole.F.kp T.D_is_whole.b .nil pass0 (pa_cons (pv 0) pa_nil)) (pe_one (pe_cmpR op_ge (pv 0) pe_int (nomark _))))), _, rfl, i, rfl, true, rfl, _, rfl, _, _, rfl, rfl, q⟩
def spEn (G : GAd) : Sp := fun vs H Q _ => ∃ (g mv : Addr) (sg x y : Str) (R : List Ed) (kvs : List (L2.Key × V)) (p : Nat), vs = [.ref g, .int (p : Nat)] ∧ GrM G.C H g mv sg R x y kvs ∧ Q (.bl (decide (p = lastP x y))) H
theorem sc_en : FnScope ["self", "place"] ["self", "place"] (defScope s_gend) := ⟨rfl, rfl, rfl, by decide +kernel, rfl, by decide +kernel, by decide +kernel⟩
theorem ok_gend (T : TxtJ K mg B G J) : FnOk P w K mg base CX0 1 J.fe J.de ["self", "place"] (spEn G) := by
  have sc := sc_en
  refine T.F_end.ok sc (fun vs H Q E h => ?_) (fun cdv A1 outer s H vs Q E hr h => ?_)
  · obtain ⟨_, _, _, _, _, _, _, _, rfl, _⟩ := h; rfl
  · obtain ⟨g, mv, sg, x, y, R, kvs, p, rfl, ga, k⟩ := h
    refine ⟨_, (pss_one (ps_ret (pe_cmpR op_eq (pv 1) (pe_fld (pv 0) rfl) (nomark _)))), ?_⟩
    obtain ⟨dx, _, _, _, _, _, hg, _⟩ := id ga
    refine ⟨_, rfl, _, rfl, g, G.C, dx, _, _, rfl, hg, T.tG.gm.gg.cl, T.tG.gm.gg.a4, rfl, rfl, ?_⟩
    have e : decide (V.int (p : Int) = V.int ((x.cps.size * (y.cps.size + 1) + y.cps.size : Nat) : Int)) = decide (p = lastP x y) := by
      rw [decide_eq_decide]
      exact ⟨fun z => Int.ofNat.inj (V.int.inj z), fun z => by rw [z]⟩
    show Q (.bl (decide (V.int (p : Int) = V.int ((x.cps.size * (y.cps.size + 1) + y.cps.size : Nat) : Int)))) H
    rw [e]
    exact k
/-! ### the numbers of places -/
def GoodP (m W : Nat) (q : (Int × Int) × Int) : Prop := 0 ≤ q.1.1 ∧ q.1.1 < m ∧ 0 ≤ q.1.2 ∧ q.1.2 < W ∧ 0 ≤ q.2
def kvM (M : Nm1) : List (L2.Key × V) := M.map fun q => (.inl (q.1 : Nat), .int q.2)
theorem kvM_len (M : Nm1) : (kvM M).length = M.length := List.length_map _
theorem kvM_keys (M : Nm1) : (kvM M).map (·.1) = (M.map fun q => ((q.1 : Nat) : Int)).map Sum.inl := by
  unfold kvM
  rw [List.map_map, List.map_map]
  rfl
theorem valM {M : Nm1} {p : Nat} : valV (kvM M) (.inl (p : Nat)) = (lookM M p).map V.int := by
  unfold valV kvM lookM
  rw [List.find?_map, Option.map_map, Option.map_map]
  have e : ((fun kv : L2.Key × V => decide (kv.1 = Sum.inl ((p : Nat) : Int))) ∘ fun q : Nat × Int => ((Sum.inl ((q.1 : Nat) : Int) : L2.Key), V.int q.2)) = fun q => decide (q.1 = p) := funext fun q => by
    show decide ((Sum.inl ((q.1 : Nat) : Int) : L2.Key) = Sum.inl ((p : Nat) : Int)) = _
    rw [decide_eq_decide]
    exact ⟨fun z => Int.ofNat.inj (Sum.inl.inj z), fun z => by rw [z]⟩
  rw [e]
  rfl
theorem put_num {M : Nm1} {p : Nat} {n : Int} (h : ∀ q ∈ M, q.1 ≠ p) : putK (kvM M) (.inl (p : Nat)) (.int n) = kvM (M ++ [(p, n)]) := by
  have e : valV (kvM M) (.inl (p : Nat)) = none := by
    rw [valM, Option.map_eq_none_iff]
    unfold lookM
    rw [Option.map_eq_none_iff, List.find?_eq_none]
    intro q hq
    simpa using h q hq
  rw [putK_new _ e]
  unfold kvM
  rw [List.map_append]
  rfl
def spPn : Sp := fun vs H Q _ => ∃ (a : Addr) (L : Pl) (m W : Nat), vs = [.ref a, .int (m : Nat), .int (W : Nat)] ∧ H a = some (.dT (kvP L)) ∧ (L.map (·.1)).Nodup ∧ L.length ≤ 1000000 ∧ m ≤ 1000 ∧ W ≤ 1000 ∧
  (∀ H', Same H H' → (∃ q ∈ L, ¬ GoodP m W q) → Q .non H') ∧ ∀ n H', H n = none → Same H H' → (∀ q ∈ L, GoodP m W q) → H' n = some (.dK (kvM (toM W L))) → Q (.ref n) H'
abbrev Npn : List Str := ["places", "many", "width", "numbers", "pair", "number", "i", "j"]
theorem sc_pn : FnScope Npn ["places", "many", "width"] (defScope s_pnum) := ⟨rfl, rfl, rfl, by decide +kernel, rfl, by decide +kernel, by decide +kernel⟩
theorem good_num {W i j : Nat} : (((i : Nat) : Int) * (W : Int) + ((j : Nat) : Int)) = ((i * W + j : Nat) : Int) := by
  rw [Int.natCast_add, Int.natCast_mul]
theorem num_inj {W : Nat} {p q : Int × Int} {m : Nat} {a b : Int} (h1 : GoodP m W (p, a)) (h2 : GoodP m W (q, b)) (e : (p.1 * (W : Int) + p.2).toNat = (q.1 * (W : Int) + q.2).toNat) : p = q := by
  obtain ⟨p1, p2⟩ := p
  obtain ⟨q1, q2⟩ := q
  obtain ⟨a1, _, a2, a3, _⟩ := h1
  obtain ⟨b1, _, b2, b3, _⟩ := h2
  obtain ⟨i, rfl⟩ := Int.eq_ofNat_of_zero_le a1
  obtain ⟨j, rfl⟩ := Int.eq_ofNat_of_zero_le a2
  obtain ⟨i', rfl⟩ := Int.eq_ofNat_of_zero_le b1
  obtain ⟨j', rfl⟩ := Int.eq_ofNat_of_zero_le b2
  dsimp only at e a3 b3
  rw [good_num, good_num, Int.toNat_natCast, Int.toNat_natCast] at e
  have d := Dag.div_at (W := W) (i := i) (j := j) (by omega)
  have d' := Dag.div_at (W := W) (i := i') (j := j') (by omega)
  rw [e, d'.1, d'.2] at d
  rw [d.1, d.2]
theorem ok_pnum (T : TxtJ K mg B G J) : FnOk P w K mg base CX0 3 J.fp J.dp ["places", "many", "width"] spPn := by
  have sc := sc_pn
  have G_n : FnOk P w K mg base CX0 2 B.f2 B.d2 ["value"] spNatI := ok_natI T.tD
  refine T.D_pn.F.ok sc (fun vs H Q E h => ?_) (fun cdv A1 outer s H vs Q E hr h => ?_)
  · obtain ⟨_, _, _, _, rfl, _⟩ := h; rfl
  · obtain ⟨a, L, m, W, rfl, ha, nd, lL, lm, lW, kN, kY⟩ := h
    have hu1 : (A1.deeper (PyProof.Rows.envOfC "paired_numbers" (defScope s_pnum) s.heap.objs.size J.fp cdv)).units + 1 < cLine := by have := hr.un; omega
    refine ⟨_, (pss_cons (ps_set (i := 3) sc.nd rfl (Or.inl rfl) pe_dnewK)
      (pss_cons (ps_lock (ps_for PassesOwn.never rfl (pi_itemsT (pv 0)) (pg_tup rfl (pgs_cons (pg_name (i := 4) sc.nd rfl (Or.inl rfl)) (pgs_cons (pg_name (i := 5) sc.nd rfl (Or.inl rfl)) pgs_nil)))
      (pss_cons (ps_asg (pv 4) (pg_tup rfl (pgs_cons (pg_name (i := 6) sc.nd rfl (Or.inl rfl)) (pgs_cons (pg_name (i := 7) sc.nd rfl (Or.inl rfl)) pgs_nil))))
      (pss_cons (ps_if (PW.pt (pw_or (pt_not (pt_val (pe_call G_n (hr.mono (by decide)) rfl T.tD.D_is_natural.g T.tD.D_is_natural.F.kp T.tD.D_is_natural.b .nil pass0 (pa_cons (pv 6) pa_nil)))) (pw_or (pt_cmpR op_ge (pv 6) (pv 1) (nomark _)) (pw_or (pt_not (pt_val (pe_call G_n (hr.mono (by decide)) rfl T.tD.D_is_natural.g T.tD.D_is_natural.F.kp T.tD.D_is_natural.b .nil pass0 (pa_cons (pv 7) pa_nil)))) (pw_or (pt_cmpR op_ge (pv 7) (pv 2) (nomark _)) (pw_or1 (pt_not (pt_val (pe_call G_n (hr.mono (by decide)) rfl T.tD.D_is_natural.g T.tD.D_is_natural.F.kp T.tD.D_is_natural.b .nil pass0 (pa_cons (pv 5) pa_nil)))))))))) (pss_one (ps_ret pe_non)) pss_nil)
      (pss_one (ps_dput hu1 (pv 3) (pe_op op_add (pe_op op_mul (pv 6) (pv 2)) (pv 7)) (pv 5) rfl))))))
      (pss_one (ps_ret (pv 3))))), ?_⟩
    refine fun N hN => ?_
    have hNa : N ≠ a := fun z => by rw [z, ha] at hN; cases hN
    refine ⟨a, .dT (kvP L), by rw [upd_ne hNa.symm]; exact ha, trivial, fun od => ?_⟩
    have hf : (upd (upd H N (.dK [])) a (.frz od (.dT (kvP L)))) a = some (.frz od (.dT (kvP L))) := upd_same
    have hNf : (upd (upd H N (.dK [])) a (.frz od (.dT (kvP L)))) N = some (.dK []) := by rw [upd_ne hNa]; exact upd_same
    have sf : ∀ b o, H b = some o → b ≠ a → (upd (upd H N (.dK [])) a (.frz od (.dT (kvP L)))) b = some o := fun b o z nb => by
      rw [upd_ne nb, upd_ne (ne_of_none z hN)]; exact z
    generalize upd (upd H N (.dK [])) a (.frz od (.dT (kvP L))) = Hf at hf hNf sf ⊢
    -- back
    have back : ∀ H', (∀ b o, Hf b = some o → b ≠ N → H' b = some o) → Same H (upd H' a (.dT (kvP L))) := fun H' s b o z => by
      by_cases e : b = a
      · rw [e] at z ⊢
        rw [ha] at z
        rw [upd_same]; exact z
      · rw [upd_ne e]
        exact s _ _ (sf _ _ z e) (ne_of_none z hN)
    refine ⟨_, rfl, a, od, kvP L, rfl, hf, ?_⟩
    refine for_it walk_itemsT (fun n σ H' => (∃ o4 o5 o6 o7 : Option V, σ = [some (.ref a), some (.int (m : Nat)), some (.int (W : Nat)), some (.ref N), o4, o5, o6, o7]) ∧ (∀ b o, Hf b = some o → b ≠ N → H' b = some o) ∧ H' N = some (.dK (kvM (toM W (L.take n)))) ∧ ∀ q ∈ L.take n, GoodP m W q) ⟨⟨_, _, _, _, rfl⟩, fun _ _ z _ => z, hNf, fun q hq => nomatch hq⟩ (fun n σ H' _ z => z.2.1 _ _ hf hNa.symm) ?_ ?_
    · rintro n v σ H2 _ hn ⟨⟨o4, o5, o6, o7, rfl⟩, s2, hN2, good⟩ ⟨t, kk, vv, qa, hk, rfl, hq, ht, rfl⟩
      unfold kvP at hk
      rw [List.getElem?_map] at hk
      obtain ⟨q, hq0, e⟩ := Option.map_eq_some_iff.mp hk
      obtain ⟨rfl, rfl⟩ := Prod.mk.inj e
      have qm := List.mem_of_getElem? hq0
      have s3 : ∀ b o, Hf b = some o → b ≠ N → (upd H2 t (.tup [.ref qa, .int q.2])) b = some o := fun b o z nb => Same.upd ht _ _ (s2 _ _ z nb)
      have hq3 : (upd H2 t (.tup [.ref qa, .int q.2])) qa = some (.tup [.int q.1.1, .int q.1.2]) := Same.upd ht _ _ hq
      have hN3 : (upd H2 t (.tup [.ref qa, .int q.2])) N = some (.dK (kvM (toM W (L.take n)))) := Same.upd ht _ _ hN2
      refine ⟨t, _, rfl, SqT.of upd_same, rfl, _, _, rfl, _, _, rfl, rfl, ?_⟩
      generalize upd H2 t (.tup [.ref qa, .int q.2]) = H3 at s3 hq3 hN3 ⊢
      refine ⟨_, rfl, qa, _, rfl, SqT.of hq3, rfl, _, _, rfl, _, _, rfl, rfl, ?_⟩
      have hf3 := s3 _ _ hf hNa.symm
      have bad : ¬ GoodP m W q → H3 a = some (.frz od (.dT (kvP L))) ∧ Q .non (upd H3 a (.dT (kvP L))) := fun z => ⟨hf3, kN _ (back H3 s3) ⟨q, qm, z⟩⟩
      refine ⟨_, rfl, q.1.1, rfl, _, rfl, ?_⟩
      by_cases c1 : 0 ≤ q.1.1
      case neg => exact ifTn c1 (iteT (bad fun z => c1 z.1))
      refine ifFn c1 ⟨_, rfl, _, rfl, _, _, rfl, rfl, _, rfl, ?_⟩
      by_cases c2 : (m : Int) ≤ q.1.1
      case pos => exact ifT c2 (iteT (bad fun z => by have := z.2.1; omega))
      refine ifF c2 ⟨_, rfl, q.1.2, rfl, _, rfl, ?_⟩
      by_cases c3 : 0 ≤ q.1.2
      case neg => exact ifTn c3 (iteT (bad fun z => c3 z.2.2.1))
      refine ifFn c3 ⟨_, rfl, _, rfl, _, _, rfl, rfl, _, rfl, ?_⟩
      by_cases c4 : (W : Int) ≤ q.1.2
      case pos => exact ifT c4 (iteT (bad fun z => by have := z.2.2.2.1; omega))
      refine ifF c4 ⟨_, rfl, q.2, rfl, _, rfl, ?_⟩
      by_cases c5 : 0 ≤ q.2
      case neg => exact ifTn c5 (bad fun z => c5 z.2.2.2.2)
      refine ifFn c5 ?_
      have gq : GoodP m W q := ⟨c1, by omega, c3, by omega, c5⟩
      obtain ⟨i, hi⟩ := Int.eq_ofNat_of_zero_le c1
      obtain ⟨j, hj⟩ := Int.eq_ofNat_of_zero_le c3
      have key : q.1.1 * (W : Int) + q.1.2 = ((i * W + j : Nat) : Int) := by rw [hi, hj]; exact good_num
      have key' : (q.1.1 * (W : Int) + q.1.2).toNat = i * W + j := by rw [key]; exact Int.toNat_natCast _
      have il : n < L.length := (List.getElem?_eq_some_iff.mp hq0).1
      refine ⟨_, rfl, _, rfl, _, rfl, _, rfl, _, _, rfl, rfl, .inr ⟨by omega, by omega⟩, _, rfl, _, _, rfl, rfl, N, _, rfl, DPut.k (k := .inl (q.1.1 * (W : Int) + q.1.2)) hN3 (by rw [kvM_len]; unfold toM; rw [List.length_map, List.length_take, sizeLine_eq]; omega), ⟨_, _, _, _, rfl⟩, fun b o z nb => by rw [upd_ne nb]; exact s3 _ _ z nb, ?_, fun q' hq' => ?_⟩
      · rw [upd_same, key, put_num]
        · rw [List.take_add_one, hq0, Option.toList_some]
          unfold toM
          rw [List.map_append, List.map_singleton, key']
        · intro q' hq' e
          unfold toM at hq'
          obtain ⟨r, hr, rfl⟩ := List.mem_map.mp hq'
          have e : (r.1.1 * (W : Int) + r.1.2).toNat = (q.1.1 * (W : Int) + q.1.2).toNat := by rw [key']; exact e
          have same := num_inj (p := r.1) (q := q.1) (good r hr) gq e
          obtain ⟨i', hi'⟩ := List.getElem?_of_mem hr
          have lt : i' < n := by
            have := (List.getElem?_eq_some_iff.mp hi').1
            rw [List.length_take] at this
            omega
          rw [List.getElem?_take_of_lt lt] at hi'
          have h1 : (L.map (·.1))[i']? = some q.1 := by rw [List.getElem?_map, hi', ← same]; rfl
          have h2 : (L.map (·.1))[n]? = some q.1 := by rw [List.getElem?_map, hq0]; rfl
          have := (List.getElem?_inj (by rw [List.length_map]; omega) nd).mp (h1.trans h2.symm)
          omega
      · rw [List.take_add_one, hq0, Option.toList_some] at hq'
        rcases List.mem_append.mp hq' with h | h
        · exact good q' h
        · rw [List.mem_singleton.mp h]; exact gq
    · rintro σ H2 ⟨⟨o4, o5, o6, o7, rfl⟩, s2, hN2, good⟩
      rw [kvP_len, List.take_length] at hN2 good
      refine ⟨s2 _ _ hf hNa.symm, _, rfl, kY N _ hN (back H2 s2) good ?_⟩
      rw [upd_ne hNa]
      exact hN2
def spIc (G : GAd) : Sp := fun vs H Q _ => ∃ (g mv nd : Addr) (sg x y : Str) (R : List Ed) (kvs : List (L2.Key × V)) (M : Nm1) (p : Nat) (k n : Int), vs = [.ref g, .ref nd, .int (p : Nat), .int k] ∧ GrM G.C H g mv sg R x y kvs ∧ Kept H (sidesOf sg R) (y.cps.size + 1) kvs ∧ kvs.length ≤ 900000 ∧ sg.cps.size ≤ 26 ∧ OkRows sg R ∧ x.cps.size ≤ 1000 ∧ y.cps.size ≤ 1000 ∧ p ≤ lastP x y ∧
  H nd = some (.dK (kvM M)) ∧ nd ≠ mv ∧ lookM M p = some n ∧
  ∀ kvs' H' b, But mv H H' → GrM G.C H' g mv sg R x y kvs' → Kept H' (sidesOf sg R) (y.cps.size + 1) kvs' → kvs'.length ≤ kvs.length + 1 → (b = true ↔ shutM sg R x y k M (p, n)) → Q (.bl b) H'
abbrev Nic : List Str := ["ways", "numbers", "place", "k", "number", "to", "weight", "_"]
theorem sc_ic : FnScope Nic ["ways", "numbers", "place", "k"] (defScope s_closed) := ⟨rfl, rfl, rfl, by decide +kernel, rfl, by decide +kernel, by decide +kernel⟩
theorem moves_eq {sg x y : Str} {R : List Ed} {p : Nat} : ((movesOf (sidesOf sg R) (y.cps.size + 1) (fitAt sg R x y p)).map (shiftM p)).map (fun q => (q.1, q.2.1, q.2.2.2)) = movesE sg R x y p := rfl
theorem ok_closed (T : TxtJ K mg B G J) : FnOk P w K mg base CX0 3 J.fc J.dc ["ways", "numbers", "place", "k"] (spIc G) := by
  have sc := sc_ic
  have G_ah : FnOk P w K mg base CX0 2 G.fa G.da ["self", "place"] (spAh G) := ok_ahead T.tG.gm
  refine T.D_cl.F.ok sc (fun vs H Q E h => ?_) (fun cdv A1 outer s H vs Q E hr h => ?_)
  · obtain ⟨_, _, _, _, _, _, _, _, _, _, _, _, rfl, _⟩ := h; rfl
  · obtain ⟨g, mv, nd, sg, x, y, R, kvs, M, p, kb, n, rfl, ga, kp, lk, sz, ok, xl, yl, pl, hnd, nm, hp, k⟩ := h
    have hu1 : (A1.deeper (PyProof.Rows.envOfC "is_closed" (defScope s_closed) s.heap.objs.size J.fc cdv)).units + 1 < cLine := by have := hr.un; omega
    refine ⟨_, (pss_cons (ps_set (i := 4) sc.nd rfl (Or.inl rfl) (pe_dget hu1 (pv 1) (pv 2) (fun _ _ => rfl)))
      (pss_cons (ps_for PassesOwn.never rfl (pi_list (pe_meth (pv 0) T.tG.gm.gg.cl T.tG.gm.M_ahead G_ah (hr.mono (by decide)) T.tG.gm.b_ahead .nil pass0 (pa_cons (pv 2) pa_nil))) (pg_tup rfl (pgs_cons (pg_name (i := 5) sc.nd rfl (Or.inl rfl)) (pgs_cons (pg_name (i := 6) sc.nd rfl (Or.inl rfl)) (pgs_cons (pg_name (i := 7) sc.nd rfl (Or.inl rfl)) (pgs_cons (pg_name (i := 7) sc.nd rfl (Or.inl rfl)) pgs_nil)))))
      (pss_one (ps_if (PW.pt (pw_or (pt_cmpR op_isN (pv 3) pe_non (nomark _)) (pw_or1 (pt_cmpR op_le (pe_op op_add (pv 4) (pv 6)) (pv 3) (nomark _))))) (pss_one (ps_if (PW.pt (pw_or (pt_cmp (pc_dnotin hu1 (pv 5) (pv 1))) (pw_or1 (pt_cmpR op_gt (pe_dget hu1 (pv 1) (pv 5) (fun _ _ => rfl)) (pe_op op_add (pv 4) (pv 6)) (nomark _))))) (pss_one (ps_ret pe_bl)) pss_nil)) pss_nil)))
      (pss_one (ps_ret pe_bl)))), ?_⟩
    refine ⟨_, rfl, _, rfl, nd, .int n, rfl, ?_, ?_⟩
    · have := DGet.k (k := .inl (p : Nat)) hnd
      rw [valM, hp] at this
      exact this
    obtain ⟨dx, _, _, _, _, _, hg, _⟩ := id ga
    refine ⟨_, rfl, g, dx, _, rfl, hg, rfl, _, rfl, g, mv, sg, x, y, R, kvs, p, rfl, ga, kp, by omega, sz, ok, xl, yl, pl, fun t ts kvs' H1 b1 ga1 kp1 lk1 nt ht pv1 => ⟨t, rfl, ⟨_, SqL.of ht⟩, ?_⟩⟩
    have hnd1 := b1 _ _ hnd nm
    have lts : ts.length = (movesE sg R x y p).length := by
      rw [← moves_eq, List.length_map]
      exact Paired.length pv1
    have fin : ∀ b, (b = true ↔ shutM sg R x y kb M (p, n)) → Q (.bl b) H1 := fun b hb => k kvs' H1 b b1 ga1 kp1 lk1 hb
    refine for_it walk_list (fun i σ H' => (∃ o5 o6 o7 : Option V, σ = [some (.ref g), some (.ref nd), some (.int (p : Nat)), some (.int kb), some (.int n), o5, o6, o7]) ∧ H' = H1 ∧ ∀ e ∈ (movesE sg R x y p).take i, n + e.2.1 ≤ kb → ∃ m, lookM M e.1 = some m ∧ m ≤ n + e.2.1) ⟨⟨_, _, _, rfl⟩, rfl, fun e he => nomatch he⟩ (fun i σ H' _ z => by rw [z.2.1]; exact SqL.of ht) ?_ ?_
    · rintro i v σ _ H2 hi ⟨⟨o5, o6, o7, rfl⟩, rfl, good⟩ ⟨rfl, hx⟩
      obtain ⟨q, hq, a, rfl, ha⟩ := pat pv1 hx
      have he : (movesE sg R x y p)[i]? = some (q.1, q.2.1, q.2.2.2) := by rw [← moves_eq, List.getElem?_map, hq]; rfl
      have em := List.mem_of_getElem? he
      have step : (n + q.2.1 ≤ kb → ∃ m, lookM M q.1 = some m ∧ m ≤ n + q.2.1) → ∀ e ∈ (movesE sg R x y p).take (i + 1), n + e.2.1 ≤ kb → ∃ m, lookM M e.1 = some m ∧ m ≤ n + e.2.1 := fun h e he' => by
        rw [List.take_add_one, he, Option.toList_some] at he'
        rcases List.mem_append.mp he' with z | z
        · exact good e z
        · rw [List.mem_singleton.mp z]; exact h
      refine ⟨a, _, rfl, SqT.of ha, rfl, _, _, rfl, _, _, rfl, _, _, rfl, _, _, rfl, rfl, ?_⟩
      refine ⟨_, rfl, rfl, _, rfl, iteF ⟨_, rfl, _, rfl, _, _, rfl, rfl, _, rfl, _, _, rfl, rfl, _, rfl, ?_⟩⟩
      by_cases c1 : n + q.2.1 ≤ kb
      case neg => exact ifF c1 ⟨⟨_, _, _, rfl⟩, rfl, step fun z => absurd z c1⟩
      refine ifT c1 ⟨_, rfl, _, rfl, nd, _, rfl, DGet.k (k := .inl (q.1 : Nat)) hnd1, _, rfl, ?_⟩
      rw [valM]
      cases hl : lookM M q.1 with
      | none =>
        refine iteT (iteT (fin false ⟨(fun z => nomatch z), fun z => ?_⟩))
        obtain ⟨m, hm, _⟩ := z _ em c1
        rw [hl] at hm
        cases hm
      | some m =>
        have dg : DGet H2 nd (.int (q.1 : Nat)) (some (.int m)) := by
          have := DGet.k (k := .inl (q.1 : Nat)) hnd1
          rw [valM, hl] at this
          exact this
        refine iteF ⟨_, rfl, _, rfl, nd, _, rfl, dg, _, rfl, _, rfl, _, _, rfl, rfl, _, _, rfl, rfl, _, rfl, ?_⟩
        by_cases c2 : n + q.2.1 < m
        · refine ifT c2 (fin false ⟨(fun z => nomatch z), fun z => ?_⟩)
          obtain ⟨m', hm, l⟩ := z _ em c1
          rw [hl] at hm
          cases hm
          dsimp only at l
          omega
        · exact ifF c2 ⟨⟨_, _, _, rfl⟩, rfl, step fun _ => ⟨m, hl, by omega⟩⟩
    · rintro σ H2 ⟨⟨o5, o6, o7, rfl⟩, rfl, good⟩
      rw [lts, List.take_length] at good
      exact fin true ⟨fun _ => good, fun _ => rfl⟩
def spLo (G : GAd) : Sp := fun vs H Q _ => ∃ (g mv nd : Addr) (sg x y : Str) (R : List Ed) (M : Nm1) (k : Int), vs = [.ref g, .ref nd, .int k] ∧ GrM G.C H g mv sg R x y [] ∧ sg.cps.size ≤ 26 ∧ OkRows sg R ∧ x.cps.size ≤ 100 ∧ y.cps.size ≤ 100 ∧
  H nd = some (.dK (kvM M)) ∧ nd ≠ mv ∧ (M.map (·.1)).Nodup ∧ M.length ≤ 100000 ∧ (∀ q ∈ M, q.1 ≤ lastP x y) ∧ ∀ H' b, But mv H H' → (b = true ↔ Low sg R x y k M) → Q (.bl b) H'
abbrev Nlo : List Str := ["ways", "numbers", "k", "place"]
theorem sc_lo : FnScope Nlo ["ways", "numbers", "k"] (defScope s_low) := ⟨rfl, rfl, rfl, by decide +kernel, rfl, by decide +kernel, by decide +kernel⟩
theorem lookM_mem {M : Nm1} (nd : (M.map (·.1)).Nodup) {q : Nat × Int} (h : q ∈ M) : lookM M q.1 = some q.2 := by
  induction M with
  | nil => cases h
  | cons r M ih =>
    obtain ⟨nq, nd⟩ := List.nodup_cons.mp nd
    unfold lookM
    rw [List.find?_cons]
    rcases List.mem_cons.mp h with rfl | h
    · rw [decide_eq_true rfl]; rfl
    · by_cases e : r.1 = q.1
      · exact absurd (List.mem_map.mpr ⟨q, h, e.symm⟩) nq
      · rw [decide_eq_false e]
        exact ih nd h
theorem ok_low (T : TxtJ K mg B G J) : FnOk P w K mg base CX0 4 J.fl J.dl ["ways", "numbers", "k"] (spLo G) := by
  have sc := sc_lo
  have G_en : FnOk P w K mg base CX0 1 J.fe J.de ["self", "place"] (spEn G) := ok_gend T
  have G_ic : FnOk P w K mg base CX0 3 J.fc J.dc ["ways", "numbers", "place", "k"] (spIc G) := ok_closed T
  refine T.D_low.F.ok sc (fun vs H Q E h => ?_) (fun cdv A1 outer s H vs Q E hr h => ?_)
  · obtain ⟨_, _, _, _, _, _, _, _, _, rfl, _⟩ := h; rfl
  · obtain ⟨g, mv, nd, sg, x, y, R, M, kb, rfl, ga, sz, ok, xl, yl, hnd, nm, ndM, lM, inM, k⟩ := h
    have hu1 : (A1.deeper (PyProof.Rows.envOfC "are_low" (defScope s_low) s.heap.objs.size J.fl cdv)).units + 1 < cLine := by have := hr.un; omega
    refine ⟨_, (pss_cons (ps_if (pt_cmpR op_ne (pe_dget1 hu1 (pv 1) pe_int ⟨by rfl, by rfl, by rfl, by rfl⟩) pe_int (nomark _)) (pss_one (ps_ret pe_bl)) pss_nil)
      (pss_cons (ps_for PassesOwn.never rfl (pi_list (pe_callTy (call_list_dK rfl) (by rfl) T.n_list (by decide +kernel) (pa_cons (pv 1) pa_nil))) (pg_name (i := 3) sc.nd rfl (Or.inl rfl))
      (pss_one (ps_if (PW.pt (pw_or (pt_val (pe_meth (pv 0) T.tG.gm.gg.cl T.M_end G_en (hr.mono (by decide)) T.b_end .nil pass0 (pa_cons (pv 3) pa_nil))) (pw_or1 (pt_not (pt_val (pe_call G_ic (hr.mono (by decide)) rfl T.D_cl.g T.D_cl.F.kp T.D_cl.b .nil pass0 (pa_cons (pv 0) (pa_cons (pv 1) (pa_cons (pv 3) (pa_cons (pv 2) pa_nil)))))))))) (pss_one (ps_ret pe_bl)) pss_nil)))
      (pss_one (ps_ret pe_bl)))), ?_⟩
    have hg0 := DGet.k (k := .inl ((0 : Nat) : Int)) hnd
    rw [valM] at hg0
    refine ⟨_, rfl, nd, rfl, .inl ⟨_, .inl hnd⟩, _, hg0, ?_⟩
    have s0 : But mv H H := fun b o z _ => z
    by_cases c0 : lookM M 0 = some 0
    case neg =>
      have no : Q (.bl false) H := k H false s0 ⟨(fun z => nomatch z), fun z => absurd z.1 c0⟩
      cases h0 : lookM M 0 with
      | none => exact ⟨rfl, _, rfl, iteT no⟩
      | some v =>
        refine ⟨rfl, _, rfl, ifTn (fun z => c0 ?_) no⟩
        rw [h0, V.int.inj z]
    rw [c0]
    refine ⟨rfl, _, rfl, ifFn rfl ?_⟩
    refine ⟨_, rfl, nd, kvM M, rfl, hnd, fun l hl => ?_⟩
    have hle : (upd H l (.lst ((kvM M).map fun kv => kV kv.1))) l = some (.lst ((kvM M).map fun kv => kV kv.1)) := upd_same
    have b1 : But mv H (upd H l (.lst ((kvM M).map fun kv => kV kv.1))) := fun b o z _ => Same.upd hl _ _ z
    have ga1 : GrM G.C (upd H l (.lst ((kvM M).map fun kv => kV kv.1))) g mv sg R x y [] := ga.keep (Same.upd hl)
    have hnd1 : (upd H l (.lst ((kvM M).map fun kv => kV kv.1))) nd = some (.dK (kvM M)) := Same.upd hl _ _ hnd
    have nlm : l ≠ mv := by
      obtain ⟨_, _, _, _, _, _, _, _, _, _, _, _, hmv⟩ := ga
      exact fun z => by rw [z, hmv] at hl; cases hl
    generalize upd H l (.lst ((kvM M).map fun kv => kV kv.1)) = H1 at hle b1 ga1 hnd1 ⊢
    refine ⟨l, rfl, ⟨_, SqL.of hle⟩, ?_⟩
    have lp : lastP x y ≤ 11000 := by
      have : x.cps.size * (y.cps.size + 1) ≤ 100 * 101 := Nat.mul_le_mul xl (by omega)
      unfold lastP
      omega
    refine for_it walk_list (fun i σ H' => (∃ o3 : Option V, σ = [some (.ref g), some (.ref nd), some (.int kb), o3]) ∧ But mv H1 H' ∧ ∃ kvs, GrM G.C H' g mv sg R x y kvs ∧ Kept H' (sidesOf sg R) (y.cps.size + 1) kvs ∧ kvs.length ≤ i ∧ ∀ q ∈ M.take i, q.1 ≠ lastP x y ∧ shutM sg R x y kb M q) ⟨⟨_, rfl⟩, fun b o z _ => z, [], ga1, fun kv hk => (nomatch hk), Nat.le_refl _, fun q hq => nomatch hq⟩ (fun i σ H' _ z => SqL.of (z.2.1 _ _ hle nlm)) ?_ ?_
    · rintro i v σ _ H2 hi ⟨⟨o3, rfl⟩, b2, kvs, ga2, kp2, lk2, good⟩ ⟨rfl, hx⟩
      unfold kvM at hx
      rw [List.map_map, List.getElem?_map] at hx
      obtain ⟨q, hq, rfl⟩ := Option.map_eq_some_iff.mp hx
      have qm := List.mem_of_getElem? hq
      have il : i < M.length := (List.getElem?_eq_some_iff.mp hq).1
      have b12 : But mv H H2 := fun b o z nb => b2 _ _ (b1 _ _ z nb) nb
      obtain ⟨dx, _, _, _, _, _, hg2, _⟩ := id ga2
      refine ⟨_, rfl, g, dx, _, rfl, hg2, rfl, _, rfl, g, mv, sg, x, y, R, kvs, q.1, rfl, ga2, _, rfl, ?_⟩
      by_cases c1 : q.1 = lastP x y
      · exact ifT c1 (iteT (k H2 false b12 ⟨(fun z => nomatch z), fun z => absurd c1 (z.2 q qm).1⟩))
      refine ifF c1 ⟨_, rfl, _, rfl, _, rfl, _, rfl, g, mv, nd, sg, x, y, R, kvs, M, q.1, kb, q.2, rfl, ga2, kp2, by omega, sz, ok, by omega, by omega, inM q qm, b2 _ _ hnd1 nm, nm, lookM_mem ndM qm, fun kvs' H3 b b3 ga3 kp3 lk3 hb => ?_⟩
      refine ⟨_, rfl, ?_⟩
      have b13 : But mv H1 H3 := fun c o z nb => b3 _ _ (b2 _ _ z nb) nb
      cases b with
      | false =>
        refine iteT (k H3 false (fun c o z nb => b3 _ _ (b12 _ _ z nb) nb) ⟨(fun z => nomatch z), fun z => ?_⟩)
        exact nomatch hb.mpr (z.2 q qm).2
      | true =>
        refine iteF ⟨⟨_, rfl⟩, b13, kvs', ga3, kp3, by omega, fun q' hq' => ?_⟩
        rw [List.take_add_one, hq, Option.toList_some] at hq'
        rcases List.mem_append.mp hq' with z | z
        · exact good q' z
        · rw [List.mem_singleton.mp z]
          exact ⟨c1, hb.mp rfl⟩
    · rintro σ H2 ⟨⟨o3, rfl⟩, b2, kvs, ga2, kp2, lk2, good⟩
      rw [List.length_map, kvM_len, List.take_length] at good
      exact k H2 true (fun b o z nb => b2 _ _ (b1 _ _ z nb) nb) ⟨fun _ => ⟨c0, good⟩, fun _ => rfl⟩
end
end Kx

/-! sorted(d) of a dict with whole numbers as keys, however many -/
namespace Own
open PySem PySem.Spec PyProof.Rows L2
theorem ints_of {us : List Value} : ∀ {ks : List Int}, (us.length = ks.length) → (∀ (j : Nat) (v : Value), us[j]? = some v → ∃ (x : Int) (t : Tok), ks[j]? = some x ∧ v = Value.int x t) → IntsAre us ks := fun {ks} h1 h2 => ints_each h1 h2
def rSortDN : List V → Hp → VK → Prop := fun vs H Q => ∃ (a : Addr) (kvs : List (L2.Key × V)) (ks : List Int), vs = [.ref a] ∧ Rd H a (.dK kvs) ∧ kvs.map (·.1) = ks.map Sum.inl ∧
  ∀ (ys : List Int) (p : Addr), ys.Perm ks → ys.Pairwise (· ≤ ·) → H p = none → Q (.ref p) (upd H p (.lst (ys.map V.int)))
theorem cr_sortDN {X : Cx} (hcalm : X.calm = true) : CallR X (.builtin "sorted") rSortDN := by
  intro pins s σ H vs us Q I r q
  obtain ⟨a, kvs, ks, rfl, hd, hks, q⟩ := q
  obtain ⟨u, rfl, rx⟩ := vals1 r
  cases rx
  obtain ⟨z, lo, ws, rel, dd⟩ := dk_rd I.hok hd
  obtain ⟨ep, hat⟩ := dd.dictAt
  have names : ws.map (·.1) = ks.map Sum.inl := rel.keys.symm.trans hks
  have len : ws.length = ks.length := by simpa using congrArg List.length names
  have lk : kvs.length = ks.length := by simpa using congrArg List.length hks
  have few : ws.length ≤ sizeLine := by rw [len, ← lk]; exact z
  refine Calls.call_function_entry kind_sorted plain_sorted entry_sorted (args_sorted1 _) ?_
  unfold Builtin.«sorted»
  refine wpAny_bind (m := checkCount "sorted" 1 1 _) (wpAny_pure ?_)
  refine wpAny_bind (PySem.W.kdu_collect (A := X.A.in1) (PySem.W.kdl_dict (knd := mixKind X.prog X.w) (kvs := ws) (ep := ep) lo) (I.ok.hd hcalm) hat few fun h1 tk acc kept got => ?_)
  have la : acc.toList.length = ks.length := by rw [Array.length_toList, got.1, len]
  have nums : IntsAre acc.toList ks := ints_of la fun j v e => by
    obtain ⟨k, x, e1, e2⟩ := got.2 j v (by rw [← Array.getElem?_toList]; exact e)
    have e3 : (ks.map Sum.inl)[j]? = some k := by rw [← names, List.getElem?_map, e1]; rfl
    rw [List.getElem?_map] at e3
    obtain ⟨y, e4, rfl⟩ := Option.map_eq_some_iff.mp e3
    rcases keyIs_shape (show keyIs (Sum.inl y) v = true from e2) with ⟨i, t, ek, ev⟩ | ⟨i, t, ek, ev⟩
    · cases ek
      exact ⟨y, t, e4, ev⟩
    · cases ek
  have J : Inv X pins σ H { s with heap := h1, toks := tk } := I.kept kept
  have la' : acc.toList.length ≤ sizeLine := by rw [la, ← len]; exact few
  refine wpAny_bind (wpAny_newList ?_ la')
  have there : (h1.push (seqObj "list" acc.toList.toArray 0)).get? h1.objs.size = some (seqObj "list" acc.toList.toArray 0) := Heap.get?_push_size _ rfl
  show wpAny _ _ _ _ _ { s with heap := h1.push (seqObj "list" acc.toList.toArray 0), toks := tk }
  refine wpAny_bind (wpAny_holding (wpAny_call_entry slot_list_sort ⟨_, there, rfl⟩ entry_list_sort
    (SrtO.list_sort_ord (s := { s with heap := h1.push (seqObj "list" acc.toList.toArray 0), toks := tk }) SrtO.swo_int there la' (fun h2 => SrtO.ints_sortable nums h2) fun out g1 g2 => ⟨_, rfl, ?_⟩) (args_list_sort _)))
  obtain ⟨k1, k2, k3⟩ := SrtO.ints_out nums g1 g2
  obtain ⟨ep', he'⟩ := sortedHeap_at (vs := acc.toList) (out := out.toArray) there
  have hlen : ((out.map SrtO.iv).map V.int).length ≤ sizeLine := by
    rw [List.length_map, k2.length_eq, ← lk]
    exact z
  refine wpAny_pure ⟨_, rfl, .ref h1.objs.size, upd H h1.objs.size (.lst ((out.map SrtO.iv).map V.int)), J.laid (t' := tk) (fun b o e => ?_) (Nat.le_refl _) ⟨hlen, out, ep', vals_of_ints k1, he'⟩, rfl, q _ _ k2 k3 (J.hok.fresh (Nat.le_refl _))⟩
  have low : b < h1.objs.size := Heap.lt_size e
  rw [sortedHeap_old (Nat.ne_of_lt low) (by rw [size_push']; exact Nat.lt_succ_of_lt low)]
  exact Heap.get?_push_of_some _ e
end Own

/-! {k: v for ..} whose keys are tuples of numbers and texts -/
namespace Own
open PySem PySem.Spec PyProof.Rows L2
/-- the pair put into the dict at D -/
def tPutT (tk tv : TE) (D : Addr) : TN := fun σ H Nx => tk σ H fun x H4 => tv σ H4 fun z H5 => ∃ (kvs : List (List L2.Key × V)) (k : List L2.Key) (b : Addr), x = .ref b ∧ H5 b = some (.tup (k.map kV)) ∧ H5 D = some (.dT kvs) ∧ kvs.length < sizeLine ∧ Nx (upd H5 D (.dT (putK kvs k z)))
def tDcT (wi : TI) (g : TG) (tt : TT) (tk tv : TE) (vs : List Nat) : TE := fun σ H Q => wi σ H fun J H1 => ∀ D, H1 D = none → tLoop g tt (tPutT tk tv D) vs J (wipe σ vs) (upd H1 D (.dT [])) (Q (.ref D))
section
variable {X : Cx}
theorem set_tup {pins : List (Addr × Obj)} {σ : L2.St} {H : Hp} {s : Shared} {E : Value → Shared → Prop} {D b : Addr} {kvs : List (List L2.Key × V)} {k : List L2.Key} {v : V} {r : Value} {Q : Unit → Shared → Prop} (hu : X.A.units < cLine) (I : Inv X pins σ H s) (hD : H D = some (.dT kvs)) (hz : kvs.length < sizeLine)
    (hb : H b = some (.tup (k.map kV))) (rv : RelV v r) (h : ∀ s', Inv X pins σ (upd H D (.dT (putK kvs k v))) s' → Q () s') : wpAny (model X.prog X.w) X.A (dictSet D (.ref b) r) Q E s := by
  obtain ⟨z, hd, xs, rel, dd⟩ := dt_of I.hok hD
  refine wpAny_dictSet_heap (knd := tupleKind (mixKind X.prog X.w)) (hsz := by rw [← Paired.length rel]; exact z) hu (key_of I.hok hb) dd fun h' made sb => h _ ?_
  obtain ⟨o, es, ep, g1, g2, g3, g4, _, g5⟩ := made
  have few : (putK kvs k v).length ≤ sizeLine := by have := length_putK kvs k v; omega
  refine d_write I (by rw [hD]; exact True.intro) sb ⟨o, g1⟩ ⟨few, hd, _, (rel.put k hb rv).keeps fun c ys ec => ?_, o, es, ep, g1, g2, g3, g4, g5⟩
  rw [upd_ne (ne_of ec hD (fun z => nomatch z))]
  exact ec
variable {kx vx tg iter : Expr} {ifs : List Expr} {scope : Scope} {pos : Pos} {own : List (Str × Nat)} {wi : TI} {g : TG} {tt : TT} {tk tv : TE}
theorem loop_t {Y : Cx} {D : Addr} {vs : List Nat} (hu : Y.A.units < cLine) (hc : Y.calm = true) (hx : Y.xe = fun _ _ => False) (pg : PG Y tg g) (pt : PTs Y ifs tt) (pk : PE Y kx tk) (pv : PE Y vx tv)
    {pins : List (Addr × Obj)} {s : Shared} {σ : L2.St} {H : Hp} {Nx : Hp → Prop} {R : Result → Shared → Prop} {J : It} {fp : List Addr} {it : Addr} {tn : Nat → Heap → Prop} (I : Inv Y pins σ H s) (T : Turn Y.prog Y.w Y.K tg J fp it tn) (st : tn 0 s.heap) (hf : ∀ b ∈ fp, FpOk Y pins H b)
    (h : tLoop g tt (tPutT tk tv D) vs J σ H Nx) (fin : ∀ s' H', Inv Y pins (wipe σ vs) H' s' → Nx H' → R (.ok .next) s') :
    codeAny (model Y.prog Y.w) Y.A (.compLoop (.DictComp kx vx [⟨tg, iter, ifs, 0⟩] scope pos) 0 (.ref it) (.ref D) Y.env) R s := by
  obtain ⟨W, ⟨m0, w0⟩, turn⟩ := h
  have ok : ∀ {H' : Hp}, (∀ b ∈ fp, H' b = none) → ∀ b ∈ fp, FpOk Y pins H' b := fun hn b hb => ⟨hn b hb, (hf b hb).2⟩
  refine compLoop_anyD (fun n z => ∃ i H', Inv Y pins (wipe σ vs) H' z ∧ tn i z.heap ∧ (∀ b ∈ fp, H' b = none) ∧ W i n H') ?_ m0 ⟨0, H, I.weak (wipe_length _ _) fun _ _ e => (wipe_some e).1, st, fun b hb => (hf b hb).1, w0⟩
  rintro n z ⟨i, H1, I1, st1, n1, w1⟩
  rcases turn i n H1 w1 with ⟨stop, nx⟩ | ⟨go, N1, back, step⟩
  · refine thnF (T.done Y rfl rfl rfl hc i pins z _ H1 (fun _ _ => False) I1 (ok n1) st1 stop) fun r z2 ⟨hr, I2⟩ => ?_
    rw [hr]
    exact fin z2 H1 I2 nx
  refine thnF (T.item Y rfl rfl rfl hc i pins z _ H1 (fun _ _ => False) I1 (ok n1) st1 go) fun r z2 ⟨u, hr, h2⟩ => ?_
  rw [hr]
  refine thnF h2 fun _ z3 ⟨x, H3, I3, r3, y3, st3, n3⟩ => ?_
  have J3 := I3.pinned (ok n3) (T.obj _ _ st3)
  have a := pg.run _ z3 _ H3 x u _ J3 r3 (step x H3 y3)
  rw [hx] at a
  refine thnF a fun _ z4 ⟨σ4, H4, I4, e4, q4⟩ => ?_
  have b := pt.run _ z4 σ4 H4 _ I4 q4
  rw [hx] at b
  refine thnF b fun ok5 z5 ⟨H5, I5, q5⟩ => ?_
  have last : ∀ z6 H6, Inv Y (pins ++ pinsAt fp z3.heap) σ4 H6 z6 → N1 H6 → ∃ m, m < n ∧ ∃ i H', Inv Y pins (wipe σ vs) H' z6 ∧ tn i z6.heap ∧ (∀ b ∈ fp, H' b = none) ∧ W i m H' := fun z6 H6 I6 nx => by
    obtain ⟨m, lt, w6⟩ := back H6 nx
    have pin : ∀ b ∈ fp, ∀ o, z3.heap.get? b = some o → z6.heap.get? b = some o ∧ H6 b = none := fun b hb o e =>
      have q := I6.pin (b, o) (List.mem_append_right _ (List.mem_append_right _ (mem_pinsAt hb e)))
      ⟨q.1, q.2.1⟩
    refine ⟨m, lt, i + 1, H6, I6.unpinned.weak ?_ fun j v e => ?_, T.keep _ _ _ st3 fun b hb o e => (pin b hb o e).1, fun b hb => ?_, w6⟩
    · rw [← e4, wipe_length]
    · rw [← e4] at e
      exact (wipe_some e).1
    · obtain ⟨o, e, _⟩ := T.obj _ _ st3 b hb
      exact (pin b hb o e).2
  cases ok5 with
  | false =>
    simp only [Bool.false_eq_true, if_false] at q5 ⊢
    exact last z5 H5 I5 q5
  | true =>
    simp only [if_true] at q5 ⊢
    have c := pk.run _ z5 σ4 H5 _ I5 q5
    rw [hx] at c
    refine thnF c fun w6 z6 ⟨y6, H6, I6, r6, q6⟩ => ?_
    have d := pv.run _ z6 σ4 H6 _ I6 q6
    rw [hx] at d
    refine thnF d fun w7 z7 ⟨y7, H7, I7, r7, kvs, k, bk, ek, hbk, hD, few, nx⟩ => ?_
    subst ek
    cases r6
    exact set_tup hu I7 hD few hbk r7 fun z8 I8 => last z8 _ I8 nx
theorem dcT_core {pins : List (Addr × Obj)} {s : Shared} {σ : L2.St} {H : Hp} {Q : VK} {pos' : Pos} {use : Option (Value → Sem Unit)} {Qf : Value → Shared → Prop} (hu : X.A.units < cLine) (hc : X.calm = true) (hN : X.N.Nodup) (hi : PI X tg iter wi) (ok : BlkOk X.N X.env.scope scope own)
    (hg : ∀ (s : Shared) (H : Hp) (C : Addr) (cl : List (Str × Addr)) (fp : List Addr), PG (X.blk s H scope (compEnvC scope cl C X.env) fp) tg g) (ht : ∀ (s : Shared) (H : Hp) (C : Addr) (cl : List (Str × Addr)) (fp : List Addr), PTs (X.blk s H scope (compEnvC scope cl C X.env) fp) ifs tt)
    (hk : ∀ (s : Shared) (H : Hp) (C : Addr) (cl : List (Str × Addr)) (fp : List Addr), PE (X.blk s H scope (compEnvC scope cl C X.env) fp) kx tk) (hv : ∀ (s : Shared) (H : Hp) (C : Addr) (cl : List (Str × Addr)) (fp : List Addr), PE (X.blk s H scope (compEnvC scope cl C X.env) fp) vx tv)
    (hs : ∀ x, foldedSetIterable iter X.env x = pure x)
    (I : Inv X pins σ H s) (h : tDcT wi g tt tk tv (own.map (·.2)) σ H Q) (done : ∀ D C s' m H', Inv X pins σ H' s' → Q (.ref D) H' → s'.heap.Ns C m → FpOk X pins H' C → compPost (model X.prog X.w) X.A X.xe use Qf (.ref D) C (.ok .next) s') :
    wpAny (model X.prog X.w) X.A (comprehension (.DictComp kx vx [⟨tg, iter, ifs, 0⟩] scope pos) scope X.env pos' newDict false (eval iter X.env) use) Qf X.xe s := by
  have cl : closureFor scope X.env = pure (cloFrom X.env.cells scope.names []) := closure_ok fun y hy e => I.ok.has _ (ok.free y hy e)
  refine wpAny_comprehension_free (use := use) rfl hs cl ok.kind (fun y hy e => (ok.uniq y hy).trans (by rw [e])) (thn (hi.run pins s σ H _ I h) fun xv s1 h1 => thn h1 fun itv s2 h2 => ?_)
  obtain ⟨it, fp, tn, J, H2, rfl, I2, T, st2, f2, q⟩ := h2
  refine wpAny_newObj_type (newEnv_comp ?_)
  have q := q s2.heap.objs.size (I2.hok.fresh (Nat.le_refl _))
  have lt : ∀ b ∈ fp, b < s2.heap.objs.size := fun b hb => by
    obtain ⟨o, e, _⟩ := T.obj _ _ st2 b hb
    exact Heap.lt_size e
  have new : ∀ b o, s2.heap.get? b = some o → (s2.heap.push { cls := .type "dict", data := .dict #[] }).get? b = some o := fun b o e => Heap.get?_push_of_some _ e
  have I3 := I2.laid (t' := s2.toks) (o := .dT []) (a := s2.heap.objs.size) new (Nat.le_refl _) (dt_empty s2.heap I2.big)
  have f3 : ∀ b ∈ fp, FpOk X pins (upd H2 s2.heap.objs.size (.dT [])) b := fun b hb => ⟨by rw [upd_ne (Nat.ne_of_lt (lt b hb))]; exact (f2 b hb).1, (f2 b hb).2⟩
  have st3 := T.keep _ _ _ st2 fun b _ o e => new b o e
  generalize s2.heap.objs.size = D at q I3 f3 lt ⊢
  generalize upd H2 D (.dT []) = H3 at q I3 f3 ⊢
  have lt3 : ∀ b ∈ fp, b < (s2.heap.push { cls := .type "dict", data := .dict #[] }).objs.size := fun b hb => by
    obtain ⟨o, e, _⟩ := T.obj _ _ st3 b hb
    exact Heap.lt_size e
  change Inv X pins σ H3 { s2 with heap := s2.heap.push { cls := .type "dict", data := .dict #[] } } at I3
  generalize hz : ({ s2 with heap := s2.heap.push { cls := .type "dict", data := .dict #[] } } : Shared) = z at I3 ⊢
  have ez : s2.heap.push { cls := .type "dict", data := .dict #[] } = z.heap := by rw [← hz]
  rw [ez] at st3 lt3
  have I4 := block_start I3 ok hN fun b hb => ⟨f3 b hb, lt3 b hb⟩
  have st4 := T.keep 0 _ (pushCells (z.heap.push { cls := .type "dict", data := .dict #[] }) scope.names) st3 fun b _ o e => pushCells_keeps _ _ _ _ (Heap.get?_push_of_some _ e)
  have pg := hg z H3 z.heap.objs.size (cellsFrom (z.heap.objs.size + 1) scope.names (cloFrom X.env.cells scope.names [])) fp
  have pt := ht z H3 z.heap.objs.size (cellsFrom (z.heap.objs.size + 1) scope.names (cloFrom X.env.cells scope.names [])) fp
  have pk := hk z H3 z.heap.objs.size (cellsFrom (z.heap.objs.size + 1) scope.names (cloFrom X.env.cells scope.names [])) fp
  have pv := hv z H3 z.heap.objs.size (cellsFrom (z.heap.objs.size + 1) scope.names (cloFrom X.env.cells scope.names [])) fp
  change codeAny (model X.prog X.w) X.A (.compStart _ 0 (.ref it) (.ref D) (compEnvC scope (cellsFrom (z.heap.objs.size + 1) scope.names (cloFrom X.env.cells scope.names [])) z.heap.objs.size X.env)) (compPost (model X.prog X.w) X.A X.xe use Qf (.ref D) z.heap.objs.size) { z with heap := pushCells (z.heap.push { cls := .type "dict", data := .dict #[] }) scope.names }
  have fY : ∀ b ∈ fp, FpOk (X.blk z H3 scope (compEnvC scope (cellsFrom (z.heap.objs.size + 1) scope.names (cloFrom X.env.cells scope.names [])) z.heap.objs.size X.env) fp) [] H3 b := fun b hb =>
    ⟨(f3 b hb).1, (I4.ok.exf b hb).1, I4.ok.exfs b hb, .inl hb, fun x c e => (I4.ok.exf b hb).2 x c e, fun p hp => nomatch (show p ∈ ([] : List (Addr × Obj)) from by simpa using hp)⟩
  have lp := loop_t (pos := pos) (iter := iter) (scope := scope) (Y := X.blk z H3 scope (compEnvC scope (cellsFrom (z.heap.objs.size + 1) scope.names (cloFrom X.env.cells scope.names [])) z.heap.objs.size X.env) fp) (R := compPost (model X.prog X.w) X.A X.xe use Qf (.ref D) z.heap.objs.size) hu hc rfl pg pt pk pv I4 T st4 fY q fun s' H' I' q' => by
    have J : Inv X pins σ H' s' := I3.call' (ch := fp) I'.os I'.base I'.hok I'.bare fun b hb =>
      have f := f3 b hb
      ⟨f.2.2.2.1, f.2.1, f.2.2.2.2.1, f.2.2.2.2.2⟩
    obtain ⟨m, ns, _⟩ := I'.loc
    have f := I3.fpOk (b := z.heap.objs.size) (H' := H') (Nat.le_refl _) I'.free
    exact done D _ s' m H' J q' ns f
  exact codeAny_compStart_dict lp (T.self X.A 0 _ _ _ st4 lp)
theorem pe_dcT (hu : X.A.units < cLine) (hc : X.calm = true) (hN : X.N.Nodup) (hi : PI X tg iter wi) (ok : BlkOk X.N X.env.scope scope own)
    (hg : ∀ (s : Shared) (H : Hp) (C : Addr) (cl : List (Str × Addr)) (fp : List Addr), PG (X.blk s H scope (compEnvC scope cl C X.env) fp) tg g) (ht : ∀ (s : Shared) (H : Hp) (C : Addr) (cl : List (Str × Addr)) (fp : List Addr), PTs (X.blk s H scope (compEnvC scope cl C X.env) fp) ifs tt)
    (hk : ∀ (s : Shared) (H : Hp) (C : Addr) (cl : List (Str × Addr)) (fp : List Addr), PE (X.blk s H scope (compEnvC scope cl C X.env) fp) kx tk) (hv : ∀ (s : Shared) (H : Hp) (C : Addr) (cl : List (Str × Addr)) (fp : List Addr), PE (X.blk s H scope (compEnvC scope cl C X.env) fp) vx tv)
    (hs : ∀ x, foldedSetIterable iter X.env x = pure x := by intro _; rfl) :
    PE X (.DictComp kx vx [⟨tg, iter, ifs, 0⟩] scope pos) (tDcT wi g tt tk tv (own.map (·.2))) := by
  refine ⟨fun pins s σ H Q I h => ?_⟩
  rw [arm_eval_DictComp]
  refine dcT_core hu hc hN hi ok hg ht hk hv hs I h fun D C s' m H' J q ns f => ⟨m, ns, fun h sb => ⟨.ref D, H', J.turned (t' := s'.toks) (fun b o hb e => (sb.2 b hb).trans e) f.1 f.2.1 f.2.2.2.1 f.2.2.2.2.1 f.2.2.2.2.2, rfl, q⟩⟩
end
end Own

namespace Kx
open PySem L2 Own
abbrev s_check_whole : Stmt := top 16
abbrev s_bar_of : Stmt := top 24
abbrev s_is_bar : Stmt := top 25
structure RAd where
  fw : Addr
  dw : FuncData
  fb : Addr
  db : FuncData
  fi : Addr
  di : FuncData
structure TxtR (K : PySem.W.Frag) (mg : Str → Option Value) (B : EdAd) (Z : ZAd) (G : GAd) (Y : WAd) (J : JAd) (U : RAd) : Prop where
  tJ : TxtJ K mg B G J
  tZ : TxtZm K mg Z
  tY : TxtWo K mg Y
  D_cw : DefT K mg "check_whole" "check_whole" s_check_whole ["k", "most"] U.fw U.dw
  D_bar : DefT K mg "bar_of" "bar_of" s_bar_of ["edits", "x", "y", "k"] U.fb U.db
  D_isbar : DefT K mg "is_bar" "is_bar" s_is_bar ["edits", "x", "y", "k", "places"] U.fi U.di
  g_MB : ∃ t, mg "MOST_BOUND" = some (.int 10000000000000000000000000000000000000000 t)
  n_sorted : mg "sorted" = none
  n_divmod : mg "divmod" = none
  n_len : mg "len" = none
theorem val_some {κ : Type} [DecidableEq κ] {kvs : List (κ × V)} {k : κ} : (valV kvs k).isSome = true ↔ ∃ kv ∈ kvs, kv.1 = k := by
  unfold valV
  rw [Option.isSome_map, List.find?_isSome]
  exact ⟨fun ⟨kv, h, e⟩ => ⟨kv, h, of_decide_eq_true e⟩, fun ⟨kv, h, e⟩ => ⟨kv, h, decide_eq_true e⟩⟩
theorem put_place {L : Pl} {p : Int × Int} {n : Int} (h : ∀ q ∈ L, q.1 ≠ p) : putK (kvP L) (plKI p) (.int n) = kvP (L ++ [(p, n)]) := by
  have e : valV (kvP L) (plKI p) = none := by rw [valP, lookP_none.mpr h]; rfl
  rw [putK_new _ e]
  unfold kvP
  rw [List.map_append]
  rfl
theorem toM_nd {W m : Nat} {L : Pl} (nd : (L.map (·.1)).Nodup) (good : ∀ q ∈ L, GoodP m W q) : ((toM W L).map (·.1)).Nodup := by
  unfold toM
  rw [List.map_map]
  induction L with
  | nil => exact List.nodup_nil
  | cons q L ih =>
    obtain ⟨nq, nd⟩ := List.nodup_cons.mp nd
    refine List.nodup_cons.mpr ⟨fun hm => ?_, ih nd fun r hr => good r (List.mem_cons_of_mem _ hr)⟩
    obtain ⟨r, hr, e⟩ := List.mem_map.mp hm
    have := num_inj (p := r.1) (q := q.1) (good r (List.mem_cons_of_mem _ hr)) (good q List.mem_cons_self) e
    exact nq (List.mem_map.mpr ⟨r, hr, this⟩)
theorem good_in {x y : Str} {q : (Int × Int) × Int} : GoodP (x.cps.size + 1) (y.cps.size + 1) q ↔ InP x y q := by
  unfold GoodP InP
  omega
theorem wK_last {sg x y : Str} {R : List Ed} {k : Int} (ok : OkRows sg R) (k0 : 0 ≤ k) {r : Option Int} (h : IsW sg R x y r) : wK sg R x y k (lastP x y) = Dag.cutL (some k) r := by
  obtain ⟨r', lo, e⟩ := run_last (x := x) (y := y) ok (lim := some k) (decide_eq_true k0)
  rw [IsW.one h lo]
  exact e
section
variable {P : Program} {w : World} {K : PySem.W.Frag} {mg : Str → Option Value} {base : Heap} {B : EdAd} {Z : ZAd} {G : GAd} {Y : WAd} {J : JAd} {U : RAd}
def spCw : Sp := fun vs H Q _ => ∃ k m : Int, vs = [.int k, .int m] ∧ 0 ≤ k ∧ k ≤ m ∧ Q .non H
theorem sc_cw : FnScope ["k", "most"] ["k", "most"] (defScope s_check_whole) := ⟨rfl, rfl, rfl, by decide +kernel, rfl, by decide +kernel, by decide +kernel⟩
theorem ok_cw (T : TxtR K mg B Z G Y J U) : FnOk P w K mg base CX0 3 U.fw U.dw ["k", "most"] spCw := by
  have sc := sc_cw
  have G_n : FnOk P w K mg base CX0 2 B.f2 B.d2 ["value"] spNat := ok_is_natural T.tJ.tD
  refine T.D_cw.F.ok sc (fun vs H Q E h => ?_) (fun cdv A1 outer s H vs Q E hr h => ?_)
  · obtain ⟨_, _, rfl, _⟩ := h; rfl
  · obtain ⟨k, m, rfl, k0, km, q⟩ := h
    refine ⟨_, (pss_one (ps_if (PW.pt (pw_or (pt_not (pt_val (pe_call G_n (hr.mono (by decide)) rfl T.tJ.tD.D_is_natural.g T.tJ.tD.D_is_natural.F.kp T.tJ.tD.D_is_natural.b .nil pass0 (pa_cons (pv 0) pa_nil)))) (pw_or1 (pt_cmpR op_gt (pv 0) (pv 1) (nomark _))))) pss_dead pss_nil)), ?_⟩
    refine ⟨_, rfl, k, rfl, k0, _, rfl, iteF ⟨_, rfl, _, rfl, _, _, rfl, rfl, _, rfl, ?_⟩⟩
    rw [decide_eq_false (by omega : ¬ m < k)]
    exact iteF q
/-- what a question about a bar asks -/
structure Asked (C : Addr) (H : Hp) (m : Addr) (sg x y : Str) (R : List Ed) (k : Int) : Prop where
  e : EdAt C H m sg R
  sz : sg.cps.size ≤ 26
  ok : OkRows sg R
  xl : x.cps.size ≤ 100
  yl : y.cps.size ≤ 100
  sx : ∀ c ∈ x.cps.toList, c ∈ sg.cps.toList
  sy : ∀ c ∈ y.cps.toList, c ∈ sg.cps.toList
  k0 : 0 ≤ k
  k1 : k ≤ 10000000000000000000000000000000000000000
def tKb (K : PySem.W.Frag) : TE := tCB (fun xs H Q => ∃ i j, xs = [.int i, .int j] ∧ CDiv i j ∧ ∀ p, H p = none → Q (.ref p) (upd H p (.tup [.int (i / j), .int (i % j)]))) (tCons (tVar 6) (tCons (tFld K (tVar 4) "width") tNil))
def spBa (Z : ZAd) : Sp := fun vs H Q _ => ∃ (m : Addr) (sg x y : Str) (R : List Ed) (k : Int), vs = [.ref m, .str x, .str y, .int k] ∧ Asked Z.C H m sg x y R k ∧
  (∀ H', Same H H' → (wK sg R x y k (lastP x y)).isSome = true → Q .non H') ∧
  ∀ D ys H', H D = none → Same H H' → wK sg R x y k (lastP x y) = none → ys.Nodup → (∀ q, q ∈ ys ↔ (wK sg R x y k q).isSome = true) → ys.length ≤ 1000000 → H' D = some (.dT (kvP (toldP sg R x y k ys))) → Q (.ref D) H'
abbrev Nba : List Str := ["edits", "x", "y", "k", "grid", "weights", "place"]
theorem sc_ba : FnScope Nba ["edits", "x", "y", "k"] (defScope s_bar_of) := ⟨rfl, rfl, rfl, by decide +kernel, rfl, by decide +kernel, by decide +kernel⟩
theorem ok_bar (T : TxtR K mg B Z G Y J U) : FnOk P w K mg base CX0 5 U.fb U.db ["edits", "x", "y", "k"] (spBa Z) := by
  have sc := sc_ba
  have G_cts : FnOk P w K mg base CX0 2 Y.f2 Y.d2 ["edits", "x", "y"] (spCts Z) := ok_cts T.tZ T.tY
  have G_cw : FnOk P w K mg base CX0 3 U.fw U.dw ["k", "most"] spCw := ok_cw T
  have G_gi : FnOk P w K mg base CX0 2 G.f G.d ["self", "edits", "x", "y"] (spGi Z G) := ok_ginit T.tZ T.tJ.tG.gm.gg
  have G_ww : FnOk P w K mg base CX0 3 G.fw G.dw ["self", "limit"] (spWw G) := ok_ways T.tJ.tG
  obtain ⟨t1, g1⟩ := T.g_MB
  refine T.D_bar.F.ok sc (fun vs H Q E h => ?_) (fun cdv A1 outer s H vs Q E hr h => ?_)
  · obtain ⟨_, _, _, _, _, _, rfl, _⟩ := h; rfl
  · obtain ⟨m, sg, x, y, R, kb, rfl, ask, kN, kY⟩ := h
    have hu1 : (A1.deeper (PyProof.Rows.envOfC "bar_of" (defScope s_bar_of) s.heap.objs.size U.fb cdv)).units + 1 < cLine := by have := hr.un; omega
    refine ⟨_, (pss_cons (ps_expr (pe_call G_cts (hr.mono (by decide)) rfl T.tY.D_check_texts.g T.tY.D_check_texts.F.kp T.tY.D_check_texts.b .nil pass0 (pa_cons (pv 0) (pa_cons (pv 1) (pa_cons (pv 2) pa_nil)))))
      (pss_cons (ps_expr (pe_call G_cw (hr.mono (by decide)) rfl T.D_cw.g T.D_cw.F.kp T.D_cw.b .nil pass0 (pa_cons (pv 3) (pa_cons (pe_glob (v := .int 10000000000000000000000000000000000000000) rfl g1 ⟨_, rfl⟩) pa_nil))))
      (pss_cons (ps_set (i := 4) sc.nd rfl (Or.inr rfl) (pe_make T.tJ.tG.gm.gg.make G_gi (hr.mono (by decide)) rfl T.tJ.tG.gm.gg.g T.tJ.tG.gm.gg.b .nil pass0 (pa_cons (pv 0) (pa_cons (pv 1) (pa_cons (pv 2) pa_nil)))))
      (pss_cons (ps_set (i := 5) sc.nd rfl (Or.inr rfl) (pe_ix ix_tup (pe_meth (pv 4) T.tJ.tG.gm.gg.cl T.tJ.tG.M_ways G_ww (hr.mono (by decide)) T.tJ.tG.b_ways .nil pass0 (pa_cons (pv 3) pa_nil)) pe_int (fun _ _ => rfl)))
      (pss_cons (ps_if (pt_cmp (pc_din hu1 (pe_fld (pv 4) rfl) (pv 5))) (pss_one (ps_ret pe_non)) pss_nil)
      (pss_one (ps_know (ps_ret (pe_dcT (own := [("place", 6)]) (g := gName 6) (tt := tYes) (tk := tKb K) (tv := tDGet (tVar 5) (tVar 6)) (Nat.lt_of_succ_lt hu1) rfl sc.nd (pi_list (pe_callB (cr_sortDN rfl) (by rfl) T.n_sorted (by decide +kernel) (pa_cons (pv 5) pa_nil))) (blkOk_by (N := Nba) (sc := defScope s_bar_of) (own := [("place", 6)]) (by decide +kernel)) (fun _ _ _ _ _ => (pg_name (i := 6) sc.nd rfl (Or.inl rfl))) (fun _ _ _ _ _ => pts_nil) (fun _ _ _ _ _ => (pe_callB call_divmod (by rfl) T.n_divmod (by decide +kernel) (pa_cons (pv 6) (pa_cons (pe_fld (pv 4) rfl) pa_nil)))) (fun _ _ _ _ _ => pe_dget hu1 (pv 5) (pv 6) (fun _ _ => rfl))))))))))), ?_⟩
    have xl := ask.xl
    have yl := ask.yl
    refine ⟨_, rfl, _, rfl, _, rfl, m, sg, x, y, R, rfl, ask.e, by omega, by omega, ask.sx, ask.sy, fun H1 s1 => ?_⟩
    refine ⟨_, rfl, kb, _, rfl, ask.k0, ask.k1, ?_⟩
    refine ⟨_, rfl, _, rfl, _, rfl, fun g dx hg hdx ng => ?_⟩
    have s0 : Same H1 (upd (upd H1 dx (.own g)) g (.ins G.C dx [])) := fun b o z => by
      rw [upd_ne (ne_of_none z hg), upd_ne (ne_of_none z hdx)]
      exact z
    refine ⟨g, dx, m, sg, x, y, R, rfl, upd_same, (ask.e.keep s1).keep s0, ask.sz, ask.ok.le, by omega, by omega, fun mv H2 nmv b2 gm => ⟨rfl, ?_⟩⟩
    have s2 : Same H1 H2 := fun b o z => b2 _ _ (s0 _ _ z) (ne_of_none z hg)
    obtain ⟨dx2, _, _, _, _, _, hg2, _⟩ := id gm
    refine ⟨_, rfl, g, dx2, _, rfl, hg2, rfl, _, rfl, g, mv, sg, x, y, R, some kb, rfl, gm, ask.sz, ask.ok, xl, yl, fun t wa sa wk sk kvs H3 b3 gm3 ht hw hs tw lw _ => ?_⟩
    have s3 : Same H H3 := s1.trans fun b o z => b3 _ _ (s2 _ _ z) fun e => by
      rw [e] at z
      have := s0 _ _ z
      rw [nmv] at this
      cases this
    obtain ⟨dx3, _, _, _, _, _, hg3, _⟩ := id gm3
    refine ⟨t, _, 0, _, rfl, rfl, SqT.of ht, atI_nat (j := 0) rfl, ?_⟩
    have vw : ∀ q : Nat, valV wk (.inl (q : Nat)) = (wK sg R x y kb q).map V.int := fun q => by
      rw [tw.1 q]
      unfold wK
      rw [Option.map_map]
      rfl
    refine ⟨_, rfl, g, G.C, dx3, _, _, rfl, hg3, T.tJ.tG.gm.gg.cl, T.tJ.tG.gm.gg.a4, rfl, _, rfl, wa, _, rfl, DGet.k (k := .inl (lastP x y : Nat)) hw, _, rfl, ?_⟩
    rw [vw, Option.isSome_map]
    cases hl : wK sg R x y kb (lastP x y) with
    | some v => exact iteT (kN H3 s3 (by rw [hl]; rfl))
    | none =>
      refine iteF fun facts => ?_
      have nd := facts.1 wa wk (.inl hw)
      have names : ∃ ks : List Nat, wk.map (·.1) = (ks.map fun q => ((q : Nat) : Int)).map Sum.inl := by
        have go : ∀ L : List (L2.Key × V), (∀ kv ∈ L, ∃ q : Nat, kv.1 = .inl (q : Nat)) → ∃ ks : List Nat, L.map (·.1) = (ks.map fun q => ((q : Nat) : Int)).map Sum.inl := fun L => by
          induction L with
          | nil => exact fun _ => ⟨[], rfl⟩
          | cons kv L ih =>
            intro h
            obtain ⟨ks, e⟩ := ih fun kv' h' => h kv' (List.mem_cons_of_mem _ h')
            obtain ⟨q, e'⟩ := h kv List.mem_cons_self
            exact ⟨q :: ks, by rw [List.map_cons, e, e']; rfl⟩
        exact go wk tw.2.2
      obtain ⟨ks, eks⟩ := names
      have ndk : ks.Nodup := by
        rw [eks] at nd
        exact (List.pairwise_map.mp (List.pairwise_map.mp nd)).imp fun z e => z (by rw [e])
      have memk : ∀ q, q ∈ ks ↔ (wK sg R x y kb q).isSome = true := fun q => by
        rw [show (wK sg R x y kb q).isSome = (valV wk (.inl (q : Nat))).isSome by rw [vw, Option.isSome_map], val_some]
        have : (∃ kv ∈ wk, kv.1 = .inl (q : Nat)) ↔ (Sum.inl ((q : Nat) : Int) : L2.Key) ∈ wk.map (·.1) := by
          rw [List.mem_map]
        rw [this, eks, List.map_map]
        constructor
        · exact fun h => List.mem_map.mpr ⟨q, h, rfl⟩
        · intro h
          obtain ⟨q', h', e⟩ := List.mem_map.mp h
          rw [← Int.ofNat.inj (Sum.inl.inj e)]
          exact h'
      refine ⟨_, rfl, wa, wk, _, rfl, .inl hw, eks, fun zs p pm _ hp => ?_⟩
      obtain ⟨ys, rfl, pm'⟩ : ∃ ys : List Nat, zs = ys.map (fun q => ((q : Nat) : Int)) ∧ ys.Perm ks := by
        have e : zs = (zs.map Int.toNat).map fun q => ((q : Nat) : Int) := by
          rw [List.map_map]
          refine (List.map_congr_left (g := id) fun z hz => ?_).symm ▸ (List.map_id zs).symm
          obtain ⟨q, _, rfl⟩ := List.mem_map.mp (pm.mem_iff.mp hz)
          rfl
        refine ⟨zs.map Int.toNat, e, ?_⟩
        have := pm.map Int.toNat
        rw [List.map_map] at this
        exact this.trans (List.Perm.of_eq ((List.map_congr_left fun q _ => rfl).trans (List.map_id ks)))
      have ndy : ys.Nodup := pm'.nodup_iff.mpr ndk
      have memy : ∀ q, q ∈ ys ↔ (wK sg R x y kb q).isSome = true := fun q => (pm'.mem_iff).trans (memk q)
      have ly : ys.length ≤ 1000000 := by
        have := congrArg List.length eks
        rw [List.length_map, List.length_map, List.length_map] at this
        rw [pm'.length_eq]
        omega
      have s4 : Same H3 (upd H3 p (.lst ((ys.map fun q => ((q : Nat) : Int)).map V.int))) := Same.upd hp
      have hl4 : (upd H3 p (.lst ((ys.map fun q => ((q : Nat) : Int)).map V.int))) p = some (.lst ((ys.map fun q => ((q : Nat) : Int)).map V.int)) := upd_same
      generalize upd H3 p (.lst ((ys.map fun q => ((q : Nat) : Int)).map V.int)) = H4 at s4 hl4 ⊢
      refine ⟨p, rfl, ⟨_, SqL.of hl4⟩, fun D hD => ?_⟩
      refine lp_it [some (.ref m), some (.str x), some (.str y), some (.int kb), some (.ref g), some (.ref wa), none] rfl walk_list (fun n H' => Same H4 H' ∧ H' D = some (.dT (kvP (toldP sg R x y kb (ys.take n))))) ⟨Same.upd hD, upd_same⟩ (fun n H' _ z => SqL.of (z.1 _ _ hl4)) ?_ ?_
      · rintro n v _ H5 hn ⟨s5, hD5⟩ ⟨rfl, hx⟩
        rw [List.map_map, List.getElem?_map] at hx
        obtain ⟨q, hq, rfl⟩ := Option.map_eq_some_iff.mp hx
        have qm := List.mem_of_getElem? hq
        obtain ⟨wq, hwq⟩ := Option.isSome_iff_exists.mp ((memy q).mp qm)
        have il : n < ys.length := (List.getElem?_eq_some_iff.mp hq).1
        have hg5 := s5 _ _ (s4 _ _ hg3)
        have hw5 := s5 _ _ (s4 _ _ hw)
        refine ⟨rfl, tyes ?_⟩
        rw [if_pos rfl]
        obtain ⟨i, j, eq0, hi, hj⟩ := wK_in ask.ok hwq
        have ql : q ≤ 11000 := by
          have := le_last (x := x) (y := y) hi hj
          have l2 : x.cps.size * (y.cps.size + 1) ≤ 100 * 101 := Nat.mul_le_mul xl (by omega)
          unfold lastP at this
          omega
        refine ⟨_, rfl, _, rfl, g, G.C, dx3, _, _, rfl, hg5, T.tJ.tG.gm.gg.cl, T.tJ.tG.gm.gg.a3, rfl, _, _, rfl, ⟨by omega, by omega⟩, fun b hb => ?_⟩
        have dg : DGet (upd H5 b (.tup [.int (((q : Nat) : Int) / ((y.cps.size + 1 : Nat) : Int)), .int (((q : Nat) : Int) % ((y.cps.size + 1 : Nat) : Int))])) wa (.int (q : Nat)) (some (.int wq)) := by
          have := DGet.k (k := .inl (q : Nat)) (Same.upd (o := .tup [.int (((q : Nat) : Int) / ((y.cps.size + 1 : Nat) : Int)), .int (((q : Nat) : Int) % ((y.cps.size + 1 : Nat) : Int))]) hb _ _ hw5)
          rw [vw, hwq] at this
          exact this
        refine ⟨_, rfl, _, rfl, wa, .int wq, rfl, dg, kvP (toldP sg R x y kb (ys.take n)), plKI (((q / (y.cps.size + 1) : Nat) : Int), ((q % (y.cps.size + 1) : Nat) : Int)), b, rfl, upd_same, Same.upd hb _ _ hD5, by rw [kvP_len]; unfold toldP; rw [List.length_map, List.length_take, sizeLine_eq]; omega, put2 s5 hD hb, ?_⟩
        rw [upd_same, put_place]
        · rw [List.take_add_one, hq, Option.toList_some]
          unfold toldP
          rw [List.map_append, List.map_singleton, hwq]
          rfl
        · intro r hr e
          obtain ⟨q', hq', rfl⟩ := List.mem_map.mp hr
          have z1 := Int.ofNat.inj (congrArg Prod.fst e)
          have z2 := Int.ofNat.inj (congrArg Prod.snd e)
          have same : q' = q := by
            rw [← Nat.div_add_mod q' (y.cps.size + 1), ← Nat.div_add_mod q (y.cps.size + 1), z1, z2]
          rw [same] at hq'
          obtain ⟨i', hi'⟩ := List.getElem?_of_mem hq'
          have lt : i' < n := by
            have := (List.getElem?_eq_some_iff.mp hi').1
            rw [List.length_take] at this
            omega
          rw [List.getElem?_take_of_lt lt] at hi'
          have := (List.getElem?_inj (by omega) ndy).mp (hi'.trans hq.symm)
          omega
      · rintro H5 ⟨s5, hD5⟩
        rw [List.length_map, List.length_map, List.take_length] at hD5
        exact kY D ys H5 ((s3.trans s4).free hD) ((s3.trans s4).trans s5) hl ndy memy ly hD5
def spIb (Z : ZAd) : Sp := fun vs H Q _ => ∃ (m a : Addr) (sg x y : Str) (R : List Ed) (k : Int) (L : Pl), vs = [.ref m, .str x, .str y, .int k, .ref a] ∧ Asked Z.C H m sg x y R k ∧ H a = some (.dT (kvP L)) ∧ (L.map (·.1)).Nodup ∧ L.length ≤ 100000 ∧
  ∀ H' b, Same H H' → (b = true ↔ Right R x y k L) → Q (.bl b) H'
abbrev Nib : List Str := ["edits", "x", "y", "k", "places", "numbers"]
theorem sc_ib : FnScope Nib ["edits", "x", "y", "k", "places"] (defScope s_is_bar) := ⟨rfl, rfl, rfl, by decide +kernel, rfl, by decide +kernel, by decide +kernel⟩
theorem ok_isbar (T : TxtR K mg B Z G Y J U) : FnOk P w K mg base CX0 5 U.fi U.di ["edits", "x", "y", "k", "places"] (spIb Z) := by
  have sc := sc_ib
  have G_cts : FnOk P w K mg base CX0 2 Y.f2 Y.d2 ["edits", "x", "y"] (spCts Z) := ok_cts T.tZ T.tY
  have G_cw : FnOk P w K mg base CX0 3 U.fw U.dw ["k", "most"] spCw := ok_cw T
  have G_gi : FnOk P w K mg base CX0 2 G.f G.d ["self", "edits", "x", "y"] (spGi Z G) := ok_ginit T.tZ T.tJ.tG.gm.gg
  have G_pn : FnOk P w K mg base CX0 3 J.fp J.dp ["places", "many", "width"] spPn := ok_pnum T.tJ
  have G_lo : FnOk P w K mg base CX0 4 J.fl J.dl ["ways", "numbers", "k"] (spLo G) := ok_low T.tJ
  obtain ⟨t1, g1⟩ := T.g_MB
  refine T.D_isbar.F.ok sc (fun vs H Q E h => ?_) (fun cdv A1 outer s H vs Q E hr h => ?_)
  · obtain ⟨_, _, _, _, _, _, _, _, rfl, _⟩ := h; rfl
  · obtain ⟨m, a, sg, x, y, R, kb, L, rfl, ask, ha, nd, lL, k⟩ := h
    refine ⟨_, (pss_cons (ps_expr (pe_call G_cts (hr.mono (by decide)) rfl T.tY.D_check_texts.g T.tY.D_check_texts.F.kp T.tY.D_check_texts.b .nil pass0 (pa_cons (pv 0) (pa_cons (pv 1) (pa_cons (pv 2) pa_nil)))))
      (pss_cons (ps_expr (pe_call G_cw (hr.mono (by decide)) rfl T.D_cw.g T.D_cw.F.kp T.D_cw.b .nil pass0 (pa_cons (pv 3) (pa_cons (pe_glob (v := .int 10000000000000000000000000000000000000000) rfl g1 ⟨_, rfl⟩) pa_nil))))
      (pss_cons (ps_set (i := 5) sc.nd rfl (Or.inl rfl) (pe_call G_pn (hr.mono (by decide)) rfl T.tJ.D_pn.g T.tJ.D_pn.F.kp T.tJ.D_pn.b .nil pass0 (pa_cons (pv 4) (pa_cons (pe_op op_add (pe_callB call_len (by rfl) T.n_len (by decide +kernel) (pa_cons (pv 1) pa_nil)) pe_int) (pa_cons (pe_op op_add (pe_callB call_len (by rfl) T.n_len (by decide +kernel) (pa_cons (pv 2) pa_nil)) pe_int) pa_nil)))))
      (pss_one (ps_ret (pe_and (pe_cmpR op_notN (pv 5) pe_non (nomark _)) (pe_one (pe_call G_lo (hr.mono (by decide)) rfl T.tJ.D_low.g T.tJ.D_low.F.kp T.tJ.D_low.b .nil pass0 (pa_cons (pe_make T.tJ.tG.gm.gg.make G_gi (hr.mono (by decide)) rfl T.tJ.tG.gm.gg.g T.tJ.tG.gm.gg.b .nil pass0 (pa_cons (pv 0) (pa_cons (pv 1) (pa_cons (pv 2) pa_nil)))) (pa_cons (pv 5) (pa_cons (pv 3) pa_nil))))))))))), ?_⟩
    have xl := ask.xl
    have yl := ask.yl
    refine ⟨_, rfl, _, rfl, _, rfl, m, sg, x, y, R, rfl, ask.e, by omega, by omega, ask.sx, ask.sy, fun H1 s1 => ?_⟩
    refine ⟨_, rfl, kb, _, rfl, ask.k0, ask.k1, ?_⟩
    refine ⟨_, rfl, _, rfl, .str x, x.cps.size, rfl, ⟨by rw [sizeLine_eq]; show x.cps.size ≤ _; omega, rfl⟩, _, _, rfl, rfl, _, rfl, .str y, y.cps.size, rfl, ⟨by rw [sizeLine_eq]; show y.cps.size ≤ _; omega, rfl⟩, _, _, rfl, rfl, ?_⟩
    refine ⟨a, L, x.cps.size + 1, y.cps.size + 1, by rfl, s1 _ _ ha, nd, by omega, by omega, by omega, fun H2 s2 ⟨q, hq, bad⟩ => ?_, fun n H2 hn s2 good hN => ?_⟩
    · refine ⟨_, rfl, rfl, false, rfl, iteF (k H2 false (s1.trans s2) ⟨(fun z => nomatch z), fun z => absurd (good_in.mpr (z.2.2 q hq).1) bad⟩)⟩
    · refine ⟨_, rfl, rfl, true, rfl, iteT ?_⟩
      have s02 := s1.trans s2
      refine ⟨_, rfl, _, rfl, _, rfl, fun g dx hg hdx ng => ?_⟩
      have s0 : Same H2 (upd (upd H2 dx (.own g)) g (.ins G.C dx [])) := fun b o z => by
        rw [upd_ne (ne_of_none z hg), upd_ne (ne_of_none z hdx)]
        exact z
      refine ⟨g, dx, m, sg, x, y, R, rfl, upd_same, (ask.e.keep s02).keep s0, ask.sz, ask.ok.le, by omega, by omega, fun mv H3 nmv b3 gm => ⟨rfl, ?_⟩⟩
      have s3 : Same H2 H3 := fun b o z => b3 _ _ (s0 _ _ z) (ne_of_none z hg)
      have hin : ∀ q ∈ L, InP x y q := fun q hq => good_in.mp (good q hq)
      refine ⟨_, rfl, _, rfl, g, mv, n, sg, x, y, R, toM (y.cps.size + 1) L, kb, rfl, gm, ask.sz, ask.ok, xl, yl, s3 _ _ hN, ?_, toM_nd nd good, by unfold toM; rw [List.length_map]; exact lL, fun q hq => ?_, fun H4 b b4 hb => ?_⟩
      · intro e
        have := s0 _ _ hN
        rw [e, nmv] at this
        cases this
      · obtain ⟨r, hr, rfl⟩ := List.mem_map.mp hq
        obtain ⟨i, j, _, hi, hj, e, _⟩ := num_of (hin r hr)
        show (r.1.1 * ((y.cps.size + 1 : Nat) : Int) + r.1.2).toNat ≤ _
        rw [e]
        exact le_last hi hj
      · refine k H4 b (s02.trans fun c o z => b4 _ _ (s3 _ _ z) fun e => ?_) (hb.trans (right_low ask.sx hin))
        rw [e] at z
        have := s0 _ _ z
        rw [nmv] at this
        cases this
end
end Kx

/-! dict(d) of a dict whose keys are tuples of numbers and texts, no two of which hash alike -/
namespace Own
open PySem PySem.Spec PyProof.Rows L2
/-- what such a key hashes to -/
def hashT (X : Cx) (k : List L2.Key) : Int := (tupleKind (mixKind X.prog X.w)).hash k
def rCopyT (X : Cx) : List V → Hp → VK → Prop := fun xs H Q => ∃ (a : Addr) (kvs : List (List L2.Key × V)), xs = [.ref a] ∧ Rd H a (.dT kvs) ∧ (kvs.map fun kv => hashT X kv.1).Nodup ∧ ∀ p, H p = none → Q (.ref p) (upd H p (.dT kvs))
theorem KT.names {H : Hp} : ∀ {kvs : List (List L2.Key × V)} {xs : List (List L2.Key × Addr × Value)}, KT H kvs xs → xs.map (·.1) = kvs.map (·.1)
  | _, _, .nil => rfl
  | _, _, .cons h t => by rw [List.map_cons, List.map_cons, KT.names t, h.1]
theorem call_copyT {X : Cx} (hu : X.A.units + 2 < cLine) : CallR X (.type "dict") (rCopyT X) := by
  intro pins s σ H xs us Q I r q
  obtain ⟨a, kvs, ex, hd, ap, q⟩ := q
  subst ex
  obtain ⟨u, eu, rx⟩ := vals1 r
  subst eu
  cases rx
  obtain ⟨z, lo, ys, rel, dd⟩ := dt_rd I.hok hd
  have nd := dd.nodup
  have below : a < s.heap.objs.size := by
    obtain ⟨o, _, _, g, _⟩ := dd
    exact Heap.lt_size g
  have lz : ys.length ≤ sizeLine := by rw [← Paired.length rel]; exact z
  refine callType_codes (Q₁ := fun ob t => ob = .ref s.heap.objs.size ∧ t = { s with heap := s.heap.push { cls := .type "dict", data := .dict #[] } }) F.kt_called_dict (F.kt_typeCall_dict_1 _) F.entry_dict_init (kt_code_dict_new _ ⟨rfl, rfl⟩) ?_
  intro ob t he
  obtain ⟨e1, e2⟩ := he
  subst e1
  subst e2
  have old : ∀ b o, s.heap.get? b = some o → (s.heap.push { cls := .type "dict", data := .dict #[] }).get? b = some o := fun b o e => Heap.get?_push_of_some _ e
  have J := I.laid (a := s.heap.objs.size) (o := .dT []) (t' := s.toks) old (Nat.le_refl _) (dt_empty s.heap I.big)
  have hd' : Rd (upd H s.heap.objs.size (.dT [])) a (.dT kvs) := by
    have n : a ≠ s.heap.objs.size := Nat.ne_of_lt below
    rcases hd with e | ⟨o, e⟩
    · exact .inl (by rw [upd_ne n]; exact e)
    · exact .inr ⟨o, by rw [upd_ne n]; exact e⟩
  obtain ⟨_, _, ys', rel', from_⟩ := dt_rd J.hok hd'
  obtain ⟨_, nlo, zs, relz, to_⟩ := dt_of J.hok (upd_same : (upd H s.heap.objs.size (.dT [])) s.heap.objs.size = some (.dT []))
  cases relz
  have lz' : ys'.length ≤ sizeLine := by rw [← Paired.length rel']; exact z
  have na : s.heap.objs.size ≠ a := (Nat.ne_of_lt below).symm
  have names : ys'.map (·.1) = kvs.map (·.1) := KT.names rel'
  refine ⟨to_.typeIs, F.args_dict_init_2 _ _, ?_⟩
  unfold Builtin.«dict.__init__»
  refine wpAny_bind ?_
  unfold Builtin.Dict.selfAndRest
  refine wpAny_bind (wpAny_notOrdered_dict to_.typeIs (wpAny_pure ?_))
  refine updateFrom_dictH (knd := tupleKind (mixKind X.prog X.w)) .none (tupleKind_room_in1 (by rw [Around.in1_units]; omega)) na lo to_ from_ (.inr ⟨keyed_apart tupleKind_stays from_, ?_⟩) (by show 0 + ys'.length ≤ _; omega) fun h' hn _ sb => ?_
  · have e : (ys'.map fun x => (tupleKind (mixKind X.prog X.w)).hash x.1) = kvs.map fun kv => hashT X kv.1 := by
      have := congrArg (List.map (hashT X)) names
      rw [List.map_map, List.map_map] at this
      exact this
    rw [e]
    exact ap
  rw [storedAllH_nil_of_nodup _ from_.nodup] at hn
  obtain ⟨o, es, ep, g1, g2, g3, g4, g5, g6⟩ := hn
  have fin : ∀ b w, s.heap.get? b = some w → h'.get? b = some w := fun b w e => (sb.2 b (Nat.ne_of_lt (Heap.lt_size e))).trans (old b w e)
  refine ⟨rfl, .ref s.heap.objs.size, _, I.laid (t' := s.toks) fin (Nat.le_refl _) ?_, rfl, q _ (I.hok.fresh (Nat.le_refl _))⟩
  refine ⟨z, beq_eq_false_iff_ne.mpr (Ne.symm (Nat.ne_of_lt I.big)), ys', rel'.keeps (fun c vs ec => ?_), o, es, ep, g1, g2, g3, g4, g6⟩
  by_cases e : c = s.heap.objs.size
  · rw [e, upd_same] at ec; cases ec
  · rw [upd_ne e] at ec ⊢; exact ec
end Own

/-! pairs of small numbers hash apart -/
namespace Own
open PySem L2
def hIJ (i j : Nat) : Int := reduceHash (Builtin.Tuple.tupleHashOf [hashInt (i : Int), hashInt (j : Int)])
def prs : List (Nat × Nat) := (List.range 9).flatMap fun i => (List.range 25).map fun j => (i, j)
theorem prs_nd : (prs.map fun p => hIJ p.1 p.2).Nodup := by decide +kernel
theorem mem_prs {i j : Nat} (hi : i ≤ 8) (hj : j ≤ 24) : (i, j) ∈ prs := List.mem_flatMap.mpr ⟨i, List.mem_range.mpr (by omega), List.mem_map.mpr ⟨j, List.mem_range.mpr (by omega), rfl⟩⟩
theorem nodup_inj {α β : Type} {f : α → β} : ∀ {l : List α}, (l.map f).Nodup → ∀ {a b : α}, a ∈ l → b ∈ l → f a = f b → a = b
  | [], _, _, _, h, _, _ => nomatch h
  | x :: l, h, a, b, ha, hb, e => by
    obtain ⟨n, h⟩ := List.nodup_cons.mp h
    rcases List.mem_cons.mp ha with e1 | ha1
    · rcases List.mem_cons.mp hb with e2 | hb1
      · rw [e1, e2]
      · exact absurd (List.mem_map.mpr ⟨b, hb1, by rw [← e, e1]⟩) n
    · rcases List.mem_cons.mp hb with e2 | hb1
      · exact absurd (List.mem_map.mpr ⟨a, ha1, by rw [e, e2]⟩) n
      · exact nodup_inj h ha1 hb1 e
theorem hIJ_inj {i j i' j' : Nat} (hi : i ≤ 8) (hj : j ≤ 24) (hi' : i' ≤ 8) (hj' : j' ≤ 24) (e : hIJ i j = hIJ i' j') : i = i' ∧ j = j' := by
  have := nodup_inj (f := fun p : Nat × Nat => hIJ p.1 p.2) prs_nd (mem_prs hi hj) (mem_prs hi' hj') e
  exact ⟨congrArg Prod.fst this, congrArg Prod.snd this⟩
theorem hash_pair {X : Cx} (i j : Nat) : hashT X [.inl (i : Int), .inl (j : Int)] = hIJ i j := rfl
end Own

namespace Kx
open PySem L2 Own
abbrev s__law_bar_right : Stmt := top 46
abbrev s__law_bent : Stmt := top 48
structure TxtBr (K : PySem.W.Frag) (mg : Str → Option Value) (fi : Addr) (di : FuncData) (f : Addr) (d : FuncData) : Prop where
  tF : TxtFi K mg fi di
  D_right : DefT K mg "_law_bar_right" "_law_bar_right" s__law_bar_right ["rows", "x", "y", "k", "places"] f d
structure TxtBe (K : PySem.W.Frag) (mg : Str → Option Value) (f1 f2 f3 : Addr) (d1 d2 d3 : FuncData) (f : Addr) (d : FuncData) : Prop where
  pen : TxtP K mg f1 f2 f3 d1 d2 d3
  D_bent : DefT K mg "_law_bent" "_law_bent" s__law_bent ["pen", "places", "x", "y"] f d
  n_dict : mg "dict" = none
  n_list : mg "list" = none
  n_len : mg "len" = none
section
variable {P : Program} {w : World} {K : PySem.W.Frag} {mg : Str → Option Value} {base : Heap} {f1 f2 f3 fi f : Addr} {d1 d2 d3 di d : FuncData}
theorem dgetP {H : Hp} {a b : Addr} {L : Pl} {p : Int × Int} (h : Rd H a (.dT (kvP L))) (hb : H b = some (.tup [.int p.1, .int p.2])) : DGet H a (.ref b) ((lookP L p).map V.int) := by
  rw [← valP]
  exact .inr ⟨kvP L, plKI p, b, h, rfl, hb, rfl⟩
def spBr : Sp := fun vs H Q _ => ∃ (r a : Addr) (rv : List V) (R : List Ed) (sg x y : Str) (k : Int) (L : Pl), vs = [.ref r, .str x, .str y, .int k, .ref a] ∧ H r = some (.lst rv) ∧ Paired (EdT H) rv R ∧ OkRows sg R ∧ x.cps.size ≤ 100 ∧ y.cps.size ≤ 100 ∧ H a = some (.dT (kvP L)) ∧ (L.map (·.1)).Nodup ∧
  ∀ H' b, Same H H' → (b = true ↔ Right R x y k L) → Q (.bl b) H'
abbrev Nbr : List Str := ["rows", "x", "y", "k", "places", "place", "i", "j", "column", "behind", "price", "number"]
theorem sc_br : FnScope Nbr ["rows", "x", "y", "k", "places"] (defScope s__law_bar_right) := ⟨rfl, rfl, rfl, by decide +kernel, rfl, by decide +kernel, by decide +kernel⟩
theorem ok_right (T : TxtBr K mg fi di f d) : FnOk P w K mg base CX0 2 f d ["rows", "x", "y", "k", "places"] spBr := by
  have sc := sc_br
  have G_fi : FnOk P w K mg base CX0 1 fi di ["rows", "x", "y", "i", "j"] spFi := ok_fits T.tF
  refine T.D_right.F.ok sc (fun vs H Q E h => ?_) (fun cdv A1 outer s H vs Q E hr h => ?_)
  · obtain ⟨_, _, _, _, _, _, _, _, _, rfl, _⟩ := h; rfl
  · obtain ⟨r, a, rv, R, sg, x, y, kb, L, rfl, hrv, pR, ok, xl, yl, ha, nd, k⟩ := h
    have hu1 : (A1.deeper (PyProof.Rows.envOfC "_law_bar_right" (defScope s__law_bar_right) s.heap.objs.size f cdv)).units + 1 < cLine := by have := hr.un; omega
    refine ⟨_, (pss_cons (ps_if (PW.pt (pw_or (pt_cmpR op_ne (pe_dget2 hu1 (pv 4) (pe_tup (pa_cons pe_int (pa_cons pe_int pa_nil))) pe_non ⟨by rfl, by rfl, by rfl, by rfl⟩) pe_int (nomark _)) (pw_or1 (pt_cmp (pc_din hu1 (pe_tup (pa_cons (pe_callB call_len (by rfl) T.tF.n_len (by decide +kernel) (pa_cons (pv 1) pa_nil)) (pa_cons (pe_callB call_len (by rfl) T.tF.n_len (by decide +kernel) (pa_cons (pv 2) pa_nil)) pa_nil))) (pv 4)))))) (pss_one (ps_ret pe_bl)) pss_nil)
      (pss_cons (ps_lock (ps_for PassesOwn.never rfl (pi_keys (pv 4)) (pg_name (i := 5) sc.nd rfl (Or.inl rfl))
      (pss_cons (ps_asg (pv 5) (pg_tup rfl (pgs_cons (pg_name (i := 6) sc.nd rfl (Or.inl rfl)) (pgs_cons (pg_name (i := 7) sc.nd rfl (Or.inl rfl)) pgs_nil))))
      (pss_cons (ps_if (PW.pt (pw_or (pt_not (pt_chain op_le op_le pe_int (pv 6) (pe_callB call_len (by rfl) T.tF.n_len (by decide +kernel) (pa_cons (pv 1) pa_nil)))) (pw_or (pt_not (pt_chain op_le op_le pe_int (pv 7) (pe_callB call_len (by rfl) T.tF.n_len (by decide +kernel) (pa_cons (pv 2) pa_nil)))) (pw_or1 (pt_cmpR op_lt (pe_dget hu1 (pv 4) (pv 5) (fun _ _ => rfl)) pe_int (nomark _)))))) (pss_one (ps_ret pe_bl)) pss_nil)
      (pss_one (ps_for PassesOwn.never rfl (pi_list (pe_call G_fi (hr.mono (by decide)) rfl T.tF.D_fits.g T.tF.D_fits.F.kp T.tF.D_fits.b .nil pass0 (pa_cons (pv 0) (pa_cons (pv 1) (pa_cons (pv 2) (pa_cons (pv 6) (pa_cons (pv 7) pa_nil))))))) (pg_tup rfl (pgs_cons (pg_name (i := 8) sc.nd rfl (Or.inl rfl)) (pgs_cons (pg_name (i := 9) sc.nd rfl (Or.inl rfl)) (pgs_cons (pg_name (i := 10) sc.nd rfl (Or.inl rfl)) pgs_nil))))
      (pss_cons (ps_set (i := 11) sc.nd rfl (Or.inl rfl) (pe_op op_add (pe_dget hu1 (pv 4) (pv 5) (fun _ _ => rfl)) (pv 10)))
      (pss_one (ps_if (PW.pt (pw_and (pt_cmpR op_le (pv 11) (pv 3) (nomark _)) (pw_and1 (PW.pt (pw_or (pt_cmp (pc_dnotin hu1 (pv 9) (pv 4))) (pw_or1 (pt_cmpR op_gt (pe_dget hu1 (pv 4) (pv 9) (fun _ _ => rfl)) (pv 11) (nomark _)))))))) (pss_one (ps_ret pe_bl)) pss_nil)))))))))
      (pss_one (ps_ret pe_bl)))), ?_⟩
    -- the start
    refine ⟨_, rfl, a, rfl, .inr ⟨_, .inl ha⟩, by show 2 ≤ sizeLine; decide, fun b0 hb0 => ?_⟩
    have s1 : Same H (upd H b0 (.tup [.int 0, .int 0])) := Same.upd hb0
    have hb1 : (upd H b0 (.tup [.int 0, .int 0])) b0 = some (.tup [.int 0, .int 0]) := upd_same
    generalize upd H b0 (.tup [.int 0, .int 0]) = H1 at s1 hb1 ⊢
    refine ⟨_, dgetP (p := (0, 0)) (.inl (s1 _ _ ha)) hb1, ?_⟩
    by_cases c0 : lookP L (0, 0) = some 0
    case neg =>
      have no : Q (.bl false) H1 := k H1 false s1 ⟨(fun z => nomatch z), fun z => absurd z.1 c0⟩
      cases h0 : lookP L (0, 0) with
      | none => exact ⟨rfl, _, rfl, iteT (iteT no)⟩
      | some v =>
        refine ⟨rfl, _, rfl, ifTn (fun z => c0 ?_) (iteT no)⟩
        rw [h0, V.int.inj z]
    rw [c0]
    refine ⟨rfl, _, rfl, ifFn rfl ?_⟩
    refine ⟨_, rfl, .str x, x.cps.size, rfl, ⟨by rw [sizeLine_eq]; show x.cps.size ≤ _; omega, rfl⟩, _, rfl, .str y, y.cps.size, rfl, ⟨by rw [sizeLine_eq]; show y.cps.size ≤ _; omega, rfl⟩, by show 2 ≤ sizeLine; decide, fun b2 hb2 => ?_⟩
    have s2 : Same H (upd H1 b2 (.tup [.int (x.cps.size : Nat), .int (y.cps.size : Nat)])) := s1.trans (Same.upd hb2)
    have hb3 : (upd H1 b2 (.tup [.int (x.cps.size : Nat), .int (y.cps.size : Nat)])) b2 = some (.tup [.int (x.cps.size : Nat), .int (y.cps.size : Nat)]) := upd_same
    generalize upd H1 b2 (.tup [.int (x.cps.size : Nat), .int (y.cps.size : Nat)]) = H2 at s2 hb3 ⊢
    refine ⟨_, rfl, a, _, rfl, dgetP (p := (((x.cps.size : Nat) : Int), ((y.cps.size : Nat) : Int))) (.inl (s2 _ _ ha)) hb3, _, rfl, ?_⟩
    rw [Option.isSome_map]
    cases c1 : lookP L (((x.cps.size : Nat) : Int), ((y.cps.size : Nat) : Int)) with
    | some v => exact iteT (k H2 false s2 ⟨(fun z => nomatch z), fun z => by have := z.2.1; rw [c1] at this; cases this⟩)
    | none =>
    refine iteF ?_
    have ha2 := s2 _ _ ha
    -- the places
    refine ⟨a, .dT (kvP L), ha2, trivial, fun od => ?_⟩
    have hf : (upd H2 a (.frz od (.dT (kvP L)))) a = some (.frz od (.dT (kvP L))) := upd_same
    have sf : SameBut a H2 (upd H2 a (.frz od (.dT (kvP L)))) := SameBut.upd
    generalize upd H2 a (.frz od (.dT (kvP L))) = Hf at hf sf ⊢
    have back : ∀ H', Same Hf H' → Same H (upd H' a (.dT (kvP L))) := fun H' s b o z => by
      by_cases e : b = a
      · rw [e] at z ⊢
        rw [ha] at z
        rw [upd_same]; exact z
      · rw [upd_ne e]
        exact s _ _ (sf _ _ (s2 _ _ z) e)
    have nra : r ≠ a := ne_of hrv ha (by intro z; cases z)
    have pRf : Paired (EdT Hf) rv R := L2.Paired.mapP (edsS s2 pR) fun _ _ z => z.keep fun b xs y => sf _ _ y (ne_of y ha2 (by intro z; cases z))
    have hrf := sf _ _ (s2 _ _ hrv) nra
    refine ⟨_, rfl, a, od, rfl, .inr ⟨kvP L, hf, ?_⟩⟩
    have fin : ∀ {H'} {b : Bool}, Same Hf H' → (b = true ↔ Right R x y kb L) → H' a = some (.frz od (.dT (kvP L))) ∧ Q (.bl b) (upd H' a (.dT (kvP L))) := fun {H' b} s hb => ⟨s _ _ hf, k _ b (back H' s) hb⟩
    refine for_it walk_keysT (fun n σ H' => (∃ o5 o6 o7 o8 o9 o10 o11 : Option V, σ = [some (.ref r), some (.str x), some (.str y), some (.int kb), some (.ref a), o5, o6, o7, o8, o9, o10, o11]) ∧ Same Hf H' ∧ ∀ q ∈ L.take n, InP x y q ∧ Shut R x y kb L q) ⟨⟨_, _, _, _, _, _, _, rfl⟩, Same.refl _, fun q hq => nomatch hq⟩ (fun n σ H' _ z => z.2.1 _ _ hf) ?_ ?_
    · rintro n v σ _ H3 hn ⟨⟨o5, o6, o7, o8, o9, o10, o11, rfl⟩, s3, good⟩ ⟨rfl, kk, vv, qa, hk, rfl, hq⟩
      unfold kvP at hk
      rw [List.getElem?_map] at hk
      obtain ⟨q, hq0, e⟩ := Option.map_eq_some_iff.mp hk
      obtain ⟨rfl, rfl⟩ := Prod.mk.inj e
      have qm := List.mem_of_getElem? hq0
      have hq3 : H3 qa = some (.tup [.int q.1.1, .int q.1.2]) := hq
      have lq : lookP L q.1 = some q.2 := lookP_mem nd (p := q.1) (n := q.2) qm
      have bad : ¬ (InP x y q ∧ Shut R x y kb L q) → ∀ {H'}, Same Hf H' → H' a = some (.frz od (.dT (kvP L))) ∧ Q (.bl false) (upd H' a (.dT (kvP L))) := fun z {H'} s => fin s ⟨(fun y => nomatch y), fun y => absurd (y.2.2 q qm) z⟩
      refine ⟨_, rfl, qa, _, rfl, SqT.of hq3, rfl, _, _, rfl, _, _, rfl, rfl, ?_⟩
      -- within the grid
      refine ⟨_, rfl, _, _, rfl, rfl, _, rfl, ?_⟩
      by_cases g1 : 0 ≤ q.1.1
      case neg => exact ifF g1 ⟨_, rfl, iteT (iteT (bad (fun z => g1 z.1.1) s3))⟩
      refine ifT g1 ⟨_, rfl, .str x, x.cps.size, rfl, ⟨by rw [sizeLine_eq]; show x.cps.size ≤ _; omega, rfl⟩, _, _, rfl, rfl, _, rfl, ?_⟩
      by_cases g2 : q.1.1 ≤ (x.cps.size : Nat)
      case neg => exact ifTn g2 (iteT (bad (fun z => g2 z.1.2.1) s3))
      refine ifFn g2 ?_
      refine ⟨_, rfl, _, _, rfl, rfl, _, rfl, ?_⟩
      by_cases g3 : 0 ≤ q.1.2
      case neg => exact ifF g3 ⟨_, rfl, iteT (iteT (bad (fun z => g3 z.1.2.2.1) s3))⟩
      refine ifT g3 ⟨_, rfl, .str y, y.cps.size, rfl, ⟨by rw [sizeLine_eq]; show y.cps.size ≤ _; omega, rfl⟩, _, _, rfl, rfl, _, rfl, ?_⟩
      by_cases g4 : q.1.2 ≤ (y.cps.size : Nat)
      case neg => exact ifTn g4 (iteT (bad (fun z => g4 z.1.2.2.2.1) s3))
      refine ifFn g4 ?_
      have dq : ∀ {H'}, Same Hf H' → H' qa = some (.tup [.int q.1.1, .int q.1.2]) → DGet H' a (.ref qa) (some (.int q.2)) := fun {H'} s h => by
        have := dgetP (L := L) (p := q.1) (.inr ⟨od, s _ _ hf⟩) h
        rw [lq] at this
        exact this
      refine ⟨_, rfl, _, rfl, a, _, rfl, dq s3 hq3, _, _, rfl, rfl, _, rfl, ?_⟩
      by_cases g5 : q.2 < 0
      case pos => exact ifT g5 (bad (fun z => by have := z.1.2.2.2.2; omega) s3)
      refine ifF g5 ?_
      have inq : InP x y q := ⟨g1, g2, g3, g4, by omega⟩
      obtain ⟨i, hi⟩ := Int.eq_ofNat_of_zero_le g1
      obtain ⟨j, hj⟩ := Int.eq_ofNat_of_zero_le g3
      refine ⟨_, rfl, _, rfl, _, rfl, _, rfl, _, rfl, r, rv, R, x, y, i, j, by rw [hi, hj]; rfl, s3 _ _ hrf, edsS s3 pRf, Nat.le_trans ok.le (by decide), fun e he => ⟨(ok.ok e he).l1, (ok.ok e he).l2⟩, by omega, by omega, by omega, by omega, fun t fv H4 nt s4 ht pv4 => ⟨t, rfl, ⟨_, SqL.of ht⟩, ?_⟩⟩
      have s34 := s3.trans s4
      have hq4 := s4 _ _ hq3
      refine for_it walk_list (fun n' σ H' => (∃ o8 o9 o10 o11 : Option V, σ = [some (.ref r), some (.str x), some (.str y), some (.int kb), some (.ref a), some (.ref qa), some (.int q.1.1), some (.int q.1.2), o8, o9, o10, o11]) ∧ H' = H4 ∧ ∀ e ∈ ((fitE R x.cps.toList y.cps.toList i j).take n').map (·.2), q.2 + e.2 ≤ kb → ∃ m, lookP L (((e.1.1 : Nat) : Int), ((e.1.2 : Nat) : Int)) = some m ∧ m ≤ q.2 + e.2) ⟨⟨_, _, _, _, rfl⟩, rfl, fun e he => nomatch he⟩ (fun n' σ H' _ z => by rw [z.2.1]; exact SqL.of ht) ?_ ?_
      · rintro n' v σ _ H5 hn' ⟨⟨o8, o9, o10, o11, rfl⟩, rfl, good'⟩ ⟨rfl, hx⟩
        obtain ⟨e, he, ea, eb, rfl, h1, h2⟩ := pat pv4 hx
        have em := List.mem_of_getElem? he
        have em' : e.2 ∈ fitL R x y q.1.1.toNat q.1.2.toNat := by
          rw [hi, hj]
          show e.2 ∈ Dag.fitP (R.map toL) x.cps.toList y.cps.toList (i, j)
          rw [← fitE_plain]
          exact List.mem_map.mpr ⟨e, em, rfl⟩
        have step : (q.2 + e.2.2 ≤ kb → ∃ m, lookP L (((e.2.1.1 : Nat) : Int), ((e.2.1.2 : Nat) : Int)) = some m ∧ m ≤ q.2 + e.2.2) → ∀ e ∈ ((fitE R x.cps.toList y.cps.toList i j).take (n' + 1)).map (·.2), q.2 + e.2 ≤ kb → ∃ m, lookP L (((e.1.1 : Nat) : Int), ((e.1.2 : Nat) : Int)) = some m ∧ m ≤ q.2 + e.2 := fun h e' he' => by
          rw [List.take_add_one, he, Option.toList_some, List.map_append] at he'
          rcases List.mem_append.mp he' with z | z
          · exact good' e' z
          · rw [List.map_singleton] at z
            rw [List.mem_singleton.mp z]; exact h
        refine ⟨ea, _, rfl, SqT.of h1, rfl, _, _, rfl, _, _, rfl, _, _, rfl, rfl, ?_⟩
        refine ⟨_, rfl, _, rfl, a, _, rfl, dq s34 hq4, _, rfl, _, _, rfl, rfl, ?_⟩
        refine ⟨_, rfl, _, rfl, _, _, rfl, rfl, _, rfl, ?_⟩
        by_cases g6 : q.2 + e.2.2 ≤ kb
        case neg => exact ifF g6 ⟨⟨_, _, _, _, rfl⟩, rfl, step fun z => absurd z g6⟩
        refine ifT g6 ?_
        have de := dgetP (H := H5) (L := L) (p := (((e.2.1.1 : Nat) : Int), ((e.2.1.2 : Nat) : Int))) (.inr ⟨od, s34 _ _ hf⟩) h2
        refine ⟨_, rfl, _, rfl, a, _, rfl, de, _, rfl, ?_⟩
        rw [Option.isSome_map]
        cases hl : lookP L (((e.2.1.1 : Nat) : Int), ((e.2.1.2 : Nat) : Int)) with
        | none =>
          refine iteT (iteT (bad (fun z => ?_) s34))
          obtain ⟨m, hm, _⟩ := z.2 e.2 em' g6
          rw [hl] at hm
          cases hm
        | some m =>
          rw [hl] at de
          refine iteF ⟨_, rfl, _, rfl, a, _, rfl, de, _, rfl, _, _, rfl, rfl, _, rfl, ?_⟩
          by_cases g7 : q.2 + e.2.2 < m
          · refine ifT g7 (bad (fun z => ?_) s34)
            obtain ⟨m', hm, l⟩ := z.2 e.2 em' g6
            rw [hl] at hm
            cases hm
            omega
          · exact ifF g7 ⟨⟨_, _, _, _, rfl⟩, rfl, step fun _ => ⟨m, hl, by omega⟩⟩
      · rintro σ H5 ⟨⟨o8, o9, o10, o11, rfl⟩, rfl, good'⟩
        have lf : fv.length = (fitE R x.cps.toList y.cps.toList i j).length := Paired.length pv4
        rw [lf, List.take_length] at good'
        refine ⟨⟨_, _, _, _, _, _, _, rfl⟩, s34, fun q' hq' => ?_⟩
        rw [List.take_add_one, hq0, Option.toList_some] at hq'
        rcases List.mem_append.mp hq' with z | z
        · exact good q' z
        · rw [List.mem_singleton.mp z]
          refine ⟨inq, fun e he => good' e ?_⟩
          rw [fitE_plain]
          rw [hi, hj] at he
          exact he
    · rintro σ H3 ⟨⟨o5, o6, o7, o8, o9, o10, o11, rfl⟩, s3, good⟩
      rw [kvP_len, List.take_length] at good
      exact fin s3 ⟨fun _ => ⟨c0, c1, good⟩, fun _ => rfl⟩
end
end Kx

namespace Kx
open PySem L2 Own
section
variable {P : Program} {w : World} {K : PySem.W.Frag} {mg : Str → Option Value} {base : Heap} {f1 f2 f3 fi f : Addr} {d1 d2 d3 di d : FuncData}
theorem put_any (L : Pl) (p : Int × Int) (n : Int) : ∃ L', putK (kvP L) (plKI p) (.int n) = kvP L' ∧ L'.length ≤ L.length + 1 := by
  unfold putK
  split
  · refine ⟨L.map fun q => if q.1 = p then (q.1, n) else q, ?_, by rw [List.length_map]; exact Nat.le_succ _⟩
    unfold kvP
    rw [List.map_map, List.map_map]
    refine List.map_congr_left fun q _ => ?_
    show (if plKI q.1 = plKI p then _ else _) = (plKI (if q.1 = p then (q.1, n) else q).1, V.int (if q.1 = p then (q.1, n) else q).2)
    by_cases c : q.1 = p
    · rw [if_pos (by rw [c]), if_pos c]
    · rw [if_neg fun z => c (plKI_inj z), if_neg c]
  · refine ⟨L ++ [(p, n)], ?_, by rw [List.length_append]; exact Nat.le_refl _⟩
    unfold kvP
    rw [List.map_append]
    rfl
theorem drop_any (L : Pl) (p : Int × Int) : ∃ L', dropK (kvP L) (plKI p) = kvP L' ∧ L'.length ≤ L.length + 1 := by
  refine ⟨L.filter fun q => decide (q.1 ≠ p), ?_, Nat.le_succ_of_le (List.length_filter_le _ _)⟩
  unfold dropK kvP
  rw [List.filter_map]
  congr 1
  refine List.filter_congr fun q _ => ?_
  show decide (plKI q.1 ≠ plKI p) = decide (q.1 ≠ p)
  rw [decide_eq_decide]
  exact ⟨fun z e => z (by rw [e]), fun z e => z (plKI_inj e)⟩
theorem hash_apart {X : Cx} {p q : Int × Int} (hp : 0 ≤ p.1 ∧ p.1 ≤ 8 ∧ 0 ≤ p.2 ∧ p.2 ≤ 24) (hq : 0 ≤ q.1 ∧ q.1 ≤ 8 ∧ 0 ≤ q.2 ∧ q.2 ≤ 24) (e : hashT X (plKI p) = hashT X (plKI q)) : p = q := by
  obtain ⟨a, b⟩ := q
  obtain ⟨a', b'⟩ := p
  obtain ⟨h1, h2, h3, h4⟩ := hq
  obtain ⟨g1, g2, g3, g4⟩ := hp
  dsimp only at h1 h2 h3 h4 g1 g2 g3 g4
  obtain ⟨i, rfl⟩ := Int.eq_ofNat_of_zero_le h1
  obtain ⟨j, rfl⟩ := Int.eq_ofNat_of_zero_le h3
  obtain ⟨i', rfl⟩ := Int.eq_ofNat_of_zero_le g1
  obtain ⟨j', rfl⟩ := Int.eq_ofNat_of_zero_le g3
  rw [show plKI (((i' : Nat) : Int), ((j' : Nat) : Int)) = [.inl ((i' : Nat) : Int), .inl ((j' : Nat) : Int)] from rfl, show plKI (((i : Nat) : Int), ((j : Nat) : Int)) = [.inl ((i : Nat) : Int), .inl ((j : Nat) : Int)] from rfl, hash_pair, hash_pair] at e
  obtain ⟨rfl, rfl⟩ := hIJ_inj (by omega) (by omega) (by omega) (by omega) e
  rfl
theorem hash_nd {X : Cx} {L : Pl} (nd : (L.map (·.1)).Nodup) (small : ∀ q ∈ L, 0 ≤ q.1.1 ∧ q.1.1 ≤ 8 ∧ 0 ≤ q.1.2 ∧ q.1.2 ≤ 24) : ((kvP L).map fun kv => hashT X kv.1).Nodup := by
  induction L with
  | nil => exact List.nodup_nil
  | cons q L ih =>
    obtain ⟨nq, nd⟩ := List.nodup_cons.mp nd
    refine List.nodup_cons.mpr ⟨fun hm => ?_, ih nd fun r hr => small r (List.mem_cons_of_mem _ hr)⟩
    obtain ⟨kv, hkv, e⟩ := List.mem_map.mp hm
    obtain ⟨r, hr, rfl⟩ := List.mem_map.mp hkv
    exact nq (List.mem_map.mpr ⟨r, hr, hash_apart (small _ (List.mem_cons_of_mem _ hr)) (small _ List.mem_cons_self) e⟩)
theorem PenAt.neD {H : Hp} {p c n : _} (hp : PenAt H p c n) {a : Addr} {L : Pl} (h0 : 0 < L.length) (e : H a = Option.some (.dT (kvP L))) : a ≠ p := by
  obtain ⟨ns, q, l, h, _⟩ := hp
  exact ne_of e h (by intro z; cases z)
def spBe : Sp := fun vs H Q _ => ∃ (p c a : Addr) (x y : Str) (L : Pl) (n : Nat), vs = [.ref p, .ref a, .str x, .str y] ∧ PenAt H p c n ∧ n + 20 ≤ 1000000 ∧ H a = some (.dT (kvP L)) ∧ (L.map (·.1)).Nodup ∧ (∀ q ∈ L, 0 ≤ q.1.1 ∧ q.1.1 ≤ 8 ∧ 0 ≤ q.1.2 ∧ q.1.2 ≤ 24) ∧ 0 < L.length ∧ L.length ≤ 100000 ∧ x.cps.size ≤ 100 ∧ y.cps.size ≤ 100 ∧
  ∀ t L' H', H t = none → PenAt H' p c (n + 20) → SameBut p H H' → H' t = some (.dT (kvP L')) → (L'.map (·.1)).Nodup → L'.length ≤ L.length + 1 → Q (.ref t) H'
abbrev Nbe : List Str := ["pen", "places", "x", "y", "found", "sort", "place"]
theorem sc_be : FnScope Nbe ["pen", "places", "x", "y"] (defScope s__law_bent) := ⟨rfl, rfl, rfl, by decide +kernel, rfl, by decide +kernel, by decide +kernel⟩
theorem ok_bent (T : TxtBe K mg f1 f2 f3 d1 d2 d3 f d) : FnOk P w K mg base CX0 3 f d ["pen", "places", "x", "y"] spBe := by
  have sc := sc_be
  have G_draw : FnOk P w K mg base CX0 1 f2 d2 ["pen", "many"] spDraw := ok_draw T.pen
  have G_pick : FnOk P w K mg base CX0 2 f3 d3 ["pen", "items"] spPick := ok_pick T.pen
  refine T.D_bent.F.ok sc (fun vs H Q E h => ?_) (fun cdv A1 outer s H vs Q E hr h => ?_)
  · obtain ⟨_, _, _, _, _, _, _, rfl, _⟩ := h; rfl
  · obtain ⟨p, c, a, x, y, L, n, rfl, pen, nl, ha, nd, small, l0, lL, xl, yl, k⟩ := h
    have hu1 : (A1.deeper (PyProof.Rows.envOfC "_law_bent" (defScope s__law_bent) s.heap.objs.size f cdv)).units + 1 < cLine := by have := hr.un; omega
    have hu2 : (A1.deeper (PyProof.Rows.envOfC "_law_bent" (defScope s__law_bent) s.heap.objs.size f cdv)).units + 2 < cLine := by have := hr.un; omega
    refine ⟨_, (pss_cons (ps_par (i := 4) (j := 5) rfl sc.nd rfl rfl (by decide) rfl rfl (pa_cons (pe_callTy (call_copyT hu2) (by rfl) T.n_dict (by decide +kernel) (pa_cons (pv 1) pa_nil)) (pa_cons (pe_call G_draw (hr.mono (by decide)) rfl T.pen.D__law_draw.g T.pen.D__law_draw.F.kp T.pen.D__law_draw.b .nil pass0 (pa_cons (pv 0) (pa_cons pe_int pa_nil))) pa_nil)) rfl)
      (pss_cons (ps_set (i := 6) sc.nd rfl (Or.inl rfl) (pe_call G_pick (hr.mono (by decide)) rfl T.pen.D__law_pick.g T.pen.D__law_pick.F.kp T.pen.D__law_pick.b .nil pass0 (pa_cons (pv 0) (pa_cons (pe_callTy (call_list_dT rfl) (by rfl) T.n_list (by decide +kernel) (pa_cons (pv 1) pa_nil)) pa_nil))))
      (pss_cons (ps_if (pt_cmpR op_eq (pv 5) pe_int (nomark _)) (pss_one (ps_dput hu1 (pv 4) (pv 6) (pe_op op_add (pe_op op_add (pe_dget hu1 (pv 4) (pv 6) (fun _ _ => rfl)) pe_int) (pe_call G_draw (hr.mono (by decide)) rfl T.pen.D__law_draw.g T.pen.D__law_draw.F.kp T.pen.D__law_draw.b .nil pass0 (pa_cons (pv 0) (pa_cons pe_int pa_nil)))) rfl)) (pss_one (ps_if (pt_cmpR op_eq (pv 5) pe_int (nomark _)) (pss_one (ps_dput hu1 (pv 4) (pv 6) (pe_op op_sub (pe_dget hu1 (pv 4) (pv 6) (fun _ _ => rfl)) pe_int) rfl)) (pss_one (ps_if (pt_cmpR op_eq (pv 5) pe_int (nomark _)) (pss_one (ps_expr (pe_bm PySem.F.plainAttrs_dict PySem.F.slot_dict_pop PySem.F.type_dict_pop (mt_pop1 hu1) (pv 4) (pa_cons (pv 6) pa_nil)))) (pss_one (ps_if (pt_cmpR op_eq (pv 5) pe_int (nomark _)) (pss_one (ps_dput hu1 (pv 4) (pe_tup (pa_cons (pe_call G_draw (hr.mono (by decide)) rfl T.pen.D__law_draw.g T.pen.D__law_draw.F.kp T.pen.D__law_draw.b .nil pass0 (pa_cons (pv 0) (pa_cons (pe_op op_add (pe_callB call_len (by rfl) T.n_len (by decide +kernel) (pa_cons (pv 2) pa_nil)) pe_int) pa_nil))) (pa_cons (pe_call G_draw (hr.mono (by decide)) rfl T.pen.D__law_draw.g T.pen.D__law_draw.F.kp T.pen.D__law_draw.b .nil pass0 (pa_cons (pv 0) (pa_cons (pe_op op_add (pe_callB call_len (by rfl) T.n_len (by decide +kernel) (pa_cons (pv 3) pa_nil)) pe_int) pa_nil))) pa_nil))) (pe_call G_draw (hr.mono (by decide)) rfl T.pen.D__law_draw.g T.pen.D__law_draw.F.kp T.pen.D__law_draw.b .nil pass0 (pa_cons (pv 0) (pa_cons pe_int pa_nil))) rfl)) (pss_one (ps_dput hu1 (pv 4) (pe_call G_pick (hr.mono (by decide)) rfl T.pen.D__law_pick.g T.pen.D__law_pick.F.kp T.pen.D__law_pick.b .nil pass0 (pa_cons (pv 0) (pa_cons (pe_lst (pa_cons (pe_tup (pa_cons (pe_un un_neg pe_int) (pa_cons pe_int pa_nil))) (pa_cons (pe_tup (pa_cons pe_int (pa_cons (pe_op op_add (pe_callB call_len (by rfl) T.n_len (by decide +kernel) (pa_cons (pv 3) pa_nil)) pe_int) pa_nil))) (pa_cons (pe_tup (pa_cons (pe_callB call_len (by rfl) T.n_len (by decide +kernel) (pa_cons (pv 2) pa_nil)) (pa_cons (pe_callB call_len (by rfl) T.n_len (by decide +kernel) (pa_cons (pv 3) pa_nil)) pa_nil))) (pa_cons (pe_tup (pa_cons (pe_op op_pow pe_int pe_int) (pa_cons pe_int pa_nil))) pa_nil))))) pa_nil))) pe_int rfl)))))))))
      (pss_one (ps_know (ps_ret (pv 4))))))), ?_⟩
    -- the copy
    refine ⟨_, rfl, a, kvP L, rfl, .inl ha, hash_nd nd small, fun t ht => ?_⟩
    have s1 : Same H (upd H t (.dT (kvP L))) := Same.upd ht
    have ht1 : (upd H t (.dT (kvP L))) t = some (.dT (kvP L)) := upd_same
    have pen1 := pen.keep s1
    obtain ⟨ntp, ntc⟩ := pen.apart ht
    generalize upd H t (.dT (kvP L)) = H1 at s1 ht1 pen1 ⊢
    refine ⟨_, rfl, p, c, 5, n, rfl, pen1, by omega, by decide, by decide, fun r H2 r0 r5 pen2 sb2 => ?_⟩
    refine ⟨_, _, rfl, ?_⟩
    have sb3 : SameBut p H H2 := (SameBut.of s1).trans sb2
    have ht3 : H2 t = some (.dT (kvP L)) := sb2 _ _ ht1 ntp
    have pen3 := pen2
    generalize H2 = H3 at pen3 sb3 ht3 ⊢
    have ha3 := sb3 _ _ ha (pen.neD l0 ha)
    -- a place
    refine ⟨_, rfl, _, rfl, a, kvP L, rfl, .inl ha3, fun q bs hq hbs => ?_⟩
    have s4 : Same H3 (upd H3 q (.lst (bs.map V.ref))) := Same.upd hq
    have hq4 : (upd H3 q (.lst (bs.map V.ref))) q = some (.lst (bs.map V.ref)) := upd_same
    have pen4 := pen3.keep s4
    have sb4 := sb3.trans (SameBut.of s4)
    have ht4 := s4 _ _ ht3
    have hbs4 : Paired (fun kv b => (upd H3 q (.lst (bs.map V.ref))) b = some (.tup (kv.1.map kV))) (kvP L) bs := L2.Paired.mapP hbs fun _ _ z => s4 _ _ z
    generalize upd H3 q (.lst (bs.map V.ref)) = H4 at s4 hq4 pen4 sb4 ht4 hbs4 ⊢
    have lbs : bs.length = L.length := by rw [← Paired.length hbs4, kvP_len]
    refine ⟨p, c, q, _, _, rfl, pen4, by omega, hq4, by rw [List.length_map]; omega, by rw [List.length_map]; omega, fun v i H5 hv pen5 sb5 => ?_⟩
    rw [List.getElem?_map] at hv
    obtain ⟨b, hb, rfl⟩ := Option.map_eq_some_iff.mp hv
    have il : i < L.length := by
      have := (List.getElem?_eq_some_iff.mp hb).1
      omega
    obtain ⟨q0, hq0⟩ : ∃ q0, L[i]? = some q0 := ⟨L[i], List.getElem?_eq_getElem il⟩
    have hk0 : (kvP L)[i]? = some (plKI q0.1, .int q0.2) := by unfold kvP; rw [List.getElem?_map, hq0]; rfl
    obtain ⟨b', hb', hbt⟩ := paired_get hbs4 hk0
    obtain rfl : b' = b := Option.some.inj (hb'.symm.trans hb)
    have hbt : H4 b' = some (.tup [.int q0.1.1, .int q0.1.2]) := hbt
    have lq := lookP_mem nd (p := q0.1) (n := q0.2) (List.mem_of_getElem? hq0)
    have sb := sb4.trans sb5
    have ht5 := sb5 _ _ ht4 ntp
    have hbt5 := sb5 _ _ hbt (pen4.neT hbt)
    have pen5 := pen5.mono (show _ ≤ n + 3 by omega)
    clear s1 ht1 pen1 pen2 sb2 pen3 sb3 ht3 ha3 hq s4 hq4 pen4 sb4 ht4 hbs4 hbs hv hb hb' hk0 sb5 hbt
    have dq : ∀ {H'}, H' t = some (.dT (kvP L)) → H' b' = some (.tup [.int q0.1.1, .int q0.1.2]) → DGet H' t (.ref b') (some (.int q0.2)) := fun {H'} h1 h2 => by
      have := dgetP (p := q0.1) (.inl h1) h2
      rw [lq] at this
      exact this
    -- what follows a change
    have fin : ∀ {H'} {L' : Pl}, PenAt H' p c (n + 10) → SameBut p H H' → L'.length ≤ L.length + 1 → tKnow (tRet (tVar 4)) { nx := fun _ H' => Q V.non H', rt := Q } [some (.ref p), some (.ref a), some (.str x), some (.str y), some (.ref t), some (.int r), some (.ref b')] (upd H' t (.dT (kvP L'))) := fun {H' L'} pn s l facts => by
      refine ⟨_, rfl, k t L' _ ht ((pn.put ntp ntc).mono (by omega)) (fun b o z nb => ?_) upd_same (kvP_nd.mp (facts.2 t _ (.inl upd_same))) l⟩
      rw [upd_ne (ne_of_none z ht)]
      exact s _ _ z nb
    have putG : ∀ {H'} (pp : Int × Int) (v : Int), PenAt H' p c (n + 10) → SameBut p H H' → tKnow (tRet (tVar 4)) { nx := fun _ H' => Q V.non H', rt := Q } [some (.ref p), some (.ref a), some (.str x), some (.str y), some (.ref t), some (.int r), some (.ref b')] (upd H' t (.dT (putK (kvP L) (plKI pp) (.int v)))) := fun {H'} pp v pn s => by
      obtain ⟨L', e, l⟩ := put_any L pp v
      rw [e]
      exact fin pn s l
    have few : (kvP L).length < sizeLine := by rw [kvP_len, sizeLine_eq]; omega
    have lx : ∀ {H' : Hp}, LenV K (V.str x) H' x.cps.size ∧ LenV K (V.str y) H' y.cps.size := fun {H'} => ⟨⟨by rw [sizeLine_eq]; show x.cps.size ≤ _; omega, rfl⟩, ⟨by rw [sizeLine_eq]; show y.cps.size ≤ _; omega, rfl⟩⟩
    refine ⟨_, rfl, rfl, _, rfl, ?_⟩
    by_cases c0 : V.int r = V.int 0
    · refine ifT c0 ?_
      refine ⟨_, rfl, _, rfl, t, _, rfl, dq ht5 hbt5, _, _, rfl, rfl, _, rfl, p, c, 3, _, rfl, pen5, by omega, by decide, by decide, fun r2 H6 _ _ pen6 sb6 => ?_⟩
      exact ⟨_, _, rfl, rfl, _, rfl, _, rfl, t, _, rfl, DPut.t (k := plKI q0.1) (sb6 _ _ ht5 ntp) (sb6 _ _ hbt5 (pen5.neT hbt5)) few, putG _ _ (pen6.mono (by omega)) (sb.trans sb6)⟩
    refine ifF c0 ⟨_, rfl, rfl, _, rfl, ?_⟩
    by_cases c1 : V.int r = V.int 1
    · refine ifT c1 ?_
      exact ⟨_, rfl, _, rfl, t, _, rfl, dq ht5 hbt5, _, _, rfl, rfl, _, rfl, _, rfl, t, _, rfl, DPut.t (k := plKI q0.1) ht5 hbt5 few, putG _ _ (pen5.mono (by omega)) sb⟩
    refine ifF c1 ⟨_, rfl, rfl, _, rfl, ?_⟩
    by_cases c2 : V.int r = V.int 2
    · refine ifT c2 ?_
      obtain ⟨L', e, l⟩ := drop_any L q0.1
      refine ⟨_, rfl, .inr (.inr (.inl ⟨rfl, .inr ⟨kvP L, ht5⟩⟩)), _, rfl, t, kvP L, plKI q0.1, b', .int q0.2, rfl, rfl, ht5, hbt5, by rw [valP, lq]; rfl, ?_⟩
      rw [e]
      exact fin (pen5.mono (by omega)) sb l
    refine ifF c2 ⟨_, rfl, rfl, _, rfl, ?_⟩
    by_cases c3 : V.int r = V.int 3
    · refine ifT c3 ?_
      refine ⟨_, rfl, p, c, 4, _, rfl, pen5, by omega, by decide, by decide, fun r2 H6 _ _ pen6 sb6 => ?_⟩
      refine ⟨_, rfl, _, rfl, _, rfl, .str x, x.cps.size, rfl, lx.1, _, _, rfl, rfl, p, c, _, _, rfl, pen6, by omega, by omega, by omega, fun r3 H7 _ _ pen7 sb7 => ?_⟩
      refine ⟨_, rfl, _, rfl, .str y, y.cps.size, rfl, lx.2, _, _, rfl, rfl, p, c, _, _, rfl, pen7, by omega, by omega, by omega, fun r4 H8 _ _ pen8 sb8 => ?_⟩
      refine ⟨by show 2 ≤ sizeLine; decide, fun b9 hb9 => ?_⟩
      have sb68 := sb6.trans (sb7.trans sb8)
      have sb9 : SameBut p H (upd H8 b9 (.tup [.int r3, .int r4])) := sb.trans (sb68.trans (.new hb9))
      exact ⟨t, _, rfl, DPut.t (k := plKI (r3, r4)) (Same.upd hb9 _ _ (sb68 _ _ ht5 ntp)) upd_same few, putG _ _ ((pen8.keep (Same.upd hb9)).mono (by omega)) sb9⟩
    refine ifF c3 ?_
    have pw30 : (10 : Int) ^ (30 : Int).toNat = 1000000000000000000000000000000 := by decide +kernel
    refine ⟨_, rfl, _, rfl, _, rfl, by show 2 ≤ sizeLine; decide, fun q1 hq1 => ?_⟩
    have sA : Same H5 (upd H5 q1 (.tup [.int (-1), .int 0])) := Same.upd hq1
    have eA : (upd H5 q1 (.tup [.int (-1), .int 0])) q1 = some (.tup [.int (-1), .int 0]) := upd_same
    dsimp (config := { proj := false }) only
    generalize upd H5 q1 (.tup [.int (-1), .int 0]) = HA at sA eA ⊢
    refine ⟨_, rfl, .str y, y.cps.size, rfl, lx.2, _, _, rfl, rfl, by show 2 ≤ sizeLine; decide, fun q2 hq2 => ?_⟩
    have sB : Same HA (upd HA q2 (.tup [.int 0, .int ((y.cps.size : Nat) + 1)])) := Same.upd hq2
    have eB : (upd HA q2 (.tup [.int 0, .int ((y.cps.size : Nat) + 1)])) q2 = some (.tup [.int 0, .int ((y.cps.size : Nat) + 1)]) := upd_same
    dsimp (config := { proj := false }) only
    generalize upd HA q2 (.tup [.int 0, .int ((y.cps.size : Nat) + 1)]) = HB at sB eB ⊢
    refine ⟨_, rfl, .str x, x.cps.size, rfl, lx.1, _, rfl, .str y, y.cps.size, rfl, lx.2, by show 2 ≤ sizeLine; decide, fun q3 hq3 => ?_⟩
    have sC : Same HB (upd HB q3 (.tup [.int (x.cps.size : Nat), .int (y.cps.size : Nat)])) := Same.upd hq3
    have eC : (upd HB q3 (.tup [.int (x.cps.size : Nat), .int (y.cps.size : Nat)])) q3 = some (.tup [.int (x.cps.size : Nat), .int (y.cps.size : Nat)]) := upd_same
    generalize upd HB q3 (.tup [.int (x.cps.size : Nat), .int (y.cps.size : Nat)]) = HC at sC eC ⊢
    refine ⟨_, _, rfl, rfl, ⟨by decide, by decide, by decide⟩, ?_⟩
    dsimp (config := { proj := false }) only
    rw [pw30]
    refine ⟨by show 2 ≤ sizeLine; decide, fun q4 hq4 => ?_⟩
    have sD : Same HC (upd HC q4 (.tup [.int 1000000000000000000000000000000, .int 0])) := Same.upd hq4
    have eD : (upd HC q4 (.tup [.int 1000000000000000000000000000000, .int 0])) q4 = some (.tup [.int 1000000000000000000000000000000, .int 0]) := upd_same
    generalize upd HC q4 (.tup [.int 1000000000000000000000000000000, .int 0]) = HD at sD eD ⊢
    refine ⟨by show 4 ≤ sizeLine; decide, fun ql hql => ?_⟩
    have sE : Same HD (upd HD ql (.lst [.ref q1, .ref q2, .ref q3, .ref q4])) := Same.upd hql
    have eE : (upd HD ql (.lst [.ref q1, .ref q2, .ref q3, .ref q4])) ql = some (.lst [.ref q1, .ref q2, .ref q3, .ref q4]) := upd_same
    generalize upd HD ql (.lst [.ref q1, .ref q2, .ref q3, .ref q4]) = HE at sE eE ⊢
    have sl : Same H5 HE := sA.trans (sB.trans (sC.trans (sD.trans sE)))
    have pen9 := pen5.keep sl
    refine ⟨p, c, ql, _, _, rfl, pen9, by omega, eE, by show 0 < 4; decide, by show 4 ≤ 1000000; decide, fun v i H6 hv pen6 sb6 => ?_⟩
    have at6 : ∃ (b : Addr) (pp : Int × Int), v = .ref b ∧ H6 b = some (.tup [.int pp.1, .int pp.2]) := by
      have m := List.mem_of_getElem? hv
      simp only [List.mem_cons, List.not_mem_nil, or_false] at m
      have to6 : ∀ {b : Addr} {pp : Int × Int}, HE b = some (.tup [.int pp.1, .int pp.2]) → H6 b = some (.tup [.int pp.1, .int pp.2]) := fun {b pp} z => sb6 _ _ z (pen9.neT z)
      rcases m with rfl | rfl | rfl | rfl
      · exact ⟨q1, (-1, 0), rfl, to6 (sE _ _ (sD _ _ (sC _ _ (sB _ _ eA))))⟩
      · exact ⟨q2, (0, (y.cps.size : Nat) + 1), rfl, to6 (sE _ _ (sD _ _ (sC _ _ eB)))⟩
      · exact ⟨q3, ((x.cps.size : Nat), (y.cps.size : Nat)), rfl, to6 (sE _ _ (sD _ _ eC))⟩
      · exact ⟨q4, (1000000000000000000000000000000, 0), rfl, to6 (sE _ _ eD)⟩
    obtain ⟨b, pp, rfl, hb⟩ := at6
    have sb9 : SameBut p H H6 := sb.trans ((SameBut.of sl).trans sb6)
    have ht6 : H6 t = some (.dT (kvP L)) := sb6 _ _ (sl _ _ ht5) ntp
    exact ⟨t, _, rfl, DPut.t (k := plKI pp) ht6 hb few, putG _ _ (pen6.mono (by omega)) sb9⟩
end
end Kx

/-! is True, is not False, .. of truth values -/
namespace Own
open PySem PySem.Spec PyProof.Rows L2
def rIsBl (neg : Bool) : R2 := fun x y H Q => ∃ a b, x = .bl a ∧ y = .bl b ∧ Q (.bl (if neg then !decide (a = b) else decide (a = b))) H
section
variable {X : Cx}
theorem same_bl {M : Model} {A : Around} {E : Value → Shared → Prop} {s : Shared} {a b : Bool} {R : Bool → Shared → Prop} (q : R (decide (a = b)) s) : wpAny M A (isSame (.bool a) (.bool b)) R E s := by
  refine PySem.wpAny_isSame_plain (by cases a <;> cases b <;> rfl) ?_
  cases a <;> cases b <;> exact q
theorem op_isBl : OpR X (compareOp .Is) (rIsBl false) := by
  intro pins s σ H x y v u Q I rx ry h
  obtain ⟨a, b, rfl, rfl, q⟩ := h
  cases rx
  cases ry
  show wpAny _ _ ((isSame (.bool a) (.bool b)) >>= fun z => pure (Value.bool z)) _ _ s
  exact wpAny_bind (same_bl (wpAny_pure (fin_bl I q rfl)))
theorem op_isnotBl : OpR X (compareOp .IsNot) (rIsBl true) := by
  intro pins s σ H x y v u Q I rx ry h
  obtain ⟨a, b, rfl, rfl, q⟩ := h
  cases rx
  cases ry
  show wpAny _ _ ((isSame (.bool a) (.bool b)) >>= fun z => pure (Value.bool (!z))) _ _ s
  exact wpAny_bind (same_bl (wpAny_pure (fin_bl I q rfl)))
end
end Own

namespace Kx
open PySem L2 Own
/-- each sign put in -/
def plA (L : List Nat) (p : Int) : List Ed := L.map fun c => ("", Froz.sing c, p)
/-- each sign taken out -/
def plB (L : List Nat) (p : Int) : List Ed := L.map fun c => (Froz.sing c, "", p)
/-- a sign put for a -/
def plC1 (L : List Nat) (p : Int) (a : Nat) : List Ed := (L.filter fun b => decide (b ≠ a)).map fun b => (Froz.sing a, Froz.sing b, p)
def plC (L : List Nat) (p : Int) (M : List Nat) : List Ed := M.flatMap (plC1 L p)
theorem sing_inj {a b : Nat} (h : Froz.sing a = Froz.sing b) : a = b := by
  have := congrArg (fun z : Str => z.cps.toList) h
  exact List.cons.inj this |>.1
theorem sing_ne {a : Nat} : Froz.sing a ≠ ("" : Str) := fun h => by
  have := congrArg (fun z : Str => z.cps.size) h
  cases this
theorem plC1_len {L : List Nat} {p : Int} {a : Nat} (nd : L.Nodup) (ha : a ∈ L) : (plC1 L p a).length + 1 = L.length := by
  unfold plC1
  rw [List.length_map]
  have e : (L.filter fun b => decide (b ≠ a)) = L.erase a := by
    rw [nd.erase_eq_filter]
    exact List.filter_congr fun x _ => by by_cases h : x = a <;> simp [h]
  rw [e, List.length_erase_of_mem ha]
  have := List.length_pos_of_mem ha
  omega
theorem plC_len {L : List Nat} {p : Int} (nd : L.Nodup) : ∀ M : List Nat, (∀ a ∈ M, a ∈ L) → (plC L p M).length = M.length * (L.length - 1)
  | [], _ => by rw [List.length_nil, Nat.zero_mul]; rfl
  | a :: M, h => by
    have := plC1_len (p := p) nd (h a List.mem_cons_self)
    unfold plC
    rw [List.flatMap_cons, List.length_append, List.length_cons, Nat.add_mul, ← plC_len (p := p) nd M fun b hb => h b (List.mem_cons_of_mem _ hb)]
    unfold plC
    omega
theorem plain_ok {sg : Str} {p0 p1 p2 : Int} (nd : sg.cps.toList.Nodup) (sz : sg.cps.size ≤ 4) (h0 : 0 ≤ p0 ∧ p0 ≤ MW) (h1 : 0 ≤ p1 ∧ p1 ≤ MW) (h2 : 0 ≤ p2 ∧ p2 ≤ MW) :
    OkRows sg (plA sg.cps.toList p0 ++ plB sg.cps.toList p1 ++ plC sg.cps.toList p2 sg.cps.toList) := by
  have lz : sg.cps.toList.length ≤ 4 := by rw [Array.length_toList]; exact sz
  generalize hL : sg.cps.toList = L at nd lz ⊢
  have es : ∀ c ∈ ("" : Str).cps.toList, c ∈ sg.cps.toList := fun c h => (nomatch h)
  have ss : ∀ a ∈ L, ∀ c ∈ (Froz.sing a).cps.toList, c ∈ sg.cps.toList := fun a ha c hc => by
    have hc : c ∈ [a] := hc
    rw [List.mem_singleton.mp hc, hL]
    exact ha
  refine ⟨fun e he => ?_, ?_, ?_⟩
  · rcases List.mem_append.mp he with he | he
    · rcases List.mem_append.mp he with he | he
      · obtain ⟨a, ha, rfl⟩ := List.mem_map.mp he
        exact ⟨Nat.zero_le _, by show 1 ≤ 3; decide, es, ss a ha, fun z => sing_ne z.symm, h0.1, h0.2⟩
      · obtain ⟨a, ha, rfl⟩ := List.mem_map.mp he
        exact ⟨by show 1 ≤ 3; decide, Nat.zero_le _, ss a ha, es, fun z => sing_ne z, h1.1, h1.2⟩
    · obtain ⟨a, ha, hb⟩ := List.mem_flatMap.mp he
      obtain ⟨b, hb2, rfl⟩ := List.mem_map.mp hb
      obtain ⟨hb, ne⟩ := List.mem_filter.mp hb2
      exact ⟨by show 1 ≤ 3; decide, by show 1 ≤ 3; decide, ss a ha, ss b hb, fun z => (of_decide_eq_true ne) (sing_inj z).symm, h2.1, h2.2⟩
  · rw [List.map_append, List.map_append]
    rw [List.nodup_append, List.nodup_append]
    refine ⟨⟨?_, ?_, ?_⟩, ?_, ?_⟩
    · unfold plA
      rw [List.map_map]
      exact List.Pairwise.map _ (fun a b hab z => hab (sing_inj (Prod.mk.inj z).2)) nd
    · unfold plB
      rw [List.map_map]
      exact List.Pairwise.map _ (fun a b hab z => hab (sing_inj (Prod.mk.inj z).1)) nd
    · intro x hx y hy z
      obtain ⟨e, he, rfl⟩ := List.mem_map.mp hx
      obtain ⟨e', he', rfl⟩ := List.mem_map.mp hy
      obtain ⟨a, _, rfl⟩ := List.mem_map.mp he
      obtain ⟨b, _, rfl⟩ := List.mem_map.mp he'
      exact sing_ne (Prod.mk.inj z).2
    · have go : ∀ M : List Nat, M.Nodup → ((plC L p2 M).map fun e => (e.1, e.2.1)).Nodup := by
        intro M
        induction M with
        | nil => intro _; exact List.nodup_nil
        | cons a M ih =>
          intro nm
          obtain ⟨na, nm⟩ := List.nodup_cons.mp nm
          unfold plC
          rw [List.flatMap_cons, List.map_append, List.nodup_append]
          refine ⟨?_, ih nm, ?_⟩
          · unfold plC1
            rw [List.map_map]
            exact List.Pairwise.map _ (fun b c hbc z => hbc (sing_inj (Prod.mk.inj z).2)) (nd.filter _)
          · intro x hx y hy z
            obtain ⟨e, he, rfl⟩ := List.mem_map.mp hx
            obtain ⟨e', he', rfl⟩ := List.mem_map.mp hy
            obtain ⟨b, _, rfl⟩ := List.mem_map.mp he
            obtain ⟨a', ha', he'⟩ := List.mem_flatMap.mp he'
            obtain ⟨b', _, rfl⟩ := List.mem_map.mp he'
            exact na (by rw [sing_inj (Prod.mk.inj z).1]; exact ha')
      exact go L nd
    · intro x hx y hy z
      obtain ⟨e', he', rfl⟩ := List.mem_map.mp hy
      obtain ⟨a', _, he'⟩ := List.mem_flatMap.mp he'
      obtain ⟨b', _, rfl⟩ := List.mem_map.mp he'
      rcases List.mem_append.mp hx with hx | hx
      · obtain ⟨e, he, rfl⟩ := List.mem_map.mp hx
        obtain ⟨a, _, rfl⟩ := List.mem_map.mp he
        exact sing_ne (Prod.mk.inj z).1.symm
      · obtain ⟨e, he, rfl⟩ := List.mem_map.mp hx
        obtain ⟨a, _, rfl⟩ := List.mem_map.mp he
        exact sing_ne (Prod.mk.inj z).2.symm
  · rw [List.length_append, List.length_append, plC_len nd L fun _ h => h]
    unfold plA plB
    rw [List.length_map, List.length_map]
    have : L.length * (L.length - 1) ≤ 4 * 3 := Nat.mul_le_mul lz (by omega)
    omega
/-- an edit more, whose texts stand in none -/
theorem OkRows.more {sg : Str} {R : List Ed} (h : OkRows sg R) {e : Ed} (o : OkEd sg e) (n : ∀ e' ∈ R, (e'.1, e'.2.1) ≠ (e.1, e.2.1)) (l : R.length < 24) : OkRows sg (R ++ [e]) := by
  refine ⟨fun x hx => ?_, ?_, by rw [List.length_append]; exact l⟩
  · rcases List.mem_append.mp hx with hx | hx
    · exact h.ok x hx
    · rw [List.mem_singleton.mp hx]; exact o
  · rw [List.map_append, List.nodup_append]
    refine ⟨h.nd, List.nodup_cons.mpr ⟨List.not_mem_nil, List.nodup_nil⟩, fun x hx y hy => ?_⟩
    obtain ⟨e', he', rfl⟩ := List.mem_map.mp hx
    rw [List.mem_singleton.mp hy]
    exact n e' he'
end Kx

/-! a list held against an empty one: whatever lies in it -/
namespace Own
open PySem L2 PyProof.Rows
def rEqE (K : PySem.W.Frag) : R2 := fun x y H Q => ∃ a b xs, x = .ref a ∧ y = .ref b ∧ SqL K H a xs ∧ SqL K H b [] ∧ Q (.bl xs.isEmpty) H
def rNeE (K : PySem.W.Frag) : R2 := fun x y H Q => ∃ a b xs, x = .ref a ∧ y = .ref b ∧ SqL K H a xs ∧ SqL K H b [] ∧ Q (.bl (!xs.isEmpty)) H
section
variable {X : Cx}
theorem sz_of {xs : List V} {is : List Value} (r : Vals xs is) : is.toArray.size = xs.length := by
  have h := isEmpty_of r
  induction r with
  | nil => rfl
  | cons _ r ih =>
    have := ih (isEmpty_of r)
    rw [List.size_toArray] at this ⊢
    rw [List.length_cons, List.length_cons, this]
theorem op_eqE (hu : X.A.units + 64 < cLine) : OpR X (compareOp .Eq) (rEqE X.K) := by
  intro pins s σ H x y v u Q I rx ry h
  obtain ⟨a, b, xs, rfl, rfl, ha, hb, q⟩ := h
  cases rx
  cases ry
  obtain ⟨is, rv, ⟨o1, n1, a1, b1, _, c1⟩, _⟩ := I.list ha
  have hl : s.heap.IsList a is.toArray := ⟨o1, a1, b1, n1, c1⟩
  obtain ⟨js, rw', ⟨o2, n2, a2, b2, _, c2⟩, _⟩ := I.list hb
  cases rw'
  have hl' : s.heap.IsList b #[] := ⟨o2, a2, b2, n2, c2⟩
  have n := sz_of rv
  cases xs with
  | nil =>
    cases rv
    exact SeqAt.RcAt.lists (s := s) (e := fun _ => true) hl hl' rfl (by omega) (fun j h1 _ => absurd h1 (Nat.not_lt_zero _)) X.prog X.w X.xe _ ⟨.bl true, H, I, rfl, q⟩
  | cons x xs =>
    exact SeqAt.RcAt.lists_lengths (s := s) hl hl' (by rw [n, List.length_cons]; simp) (by omega) X.prog X.w X.xe _ ⟨.bl false, H, I, rfl, q⟩
theorem op_neE (hu : X.A.units + 64 < cLine) : OpR X (compareOp .NotEq) (rNeE X.K) := by
  intro pins s σ H x y v u Q I rx ry h
  obtain ⟨a, b, xs, rfl, rfl, ha, hb, q⟩ := h
  cases rx
  cases ry
  obtain ⟨is, rv, ⟨o1, n1, a1, b1, _, c1⟩, _⟩ := I.list ha
  have hl : s.heap.IsList a is.toArray := ⟨o1, a1, b1, n1, c1⟩
  obtain ⟨js, rw', ⟨o2, n2, a2, b2, _, c2⟩, _⟩ := I.list hb
  cases rw'
  have hl' : s.heap.IsList b #[] := ⟨o2, a2, b2, n2, c2⟩
  have n := sz_of rv
  cases xs with
  | nil =>
    cases rv
    exact SeqAt.RcNeAt.lists (s := s) (e := fun _ => true) hl hl' rfl (by omega) (fun j h1 _ => absurd h1 (Nat.not_lt_zero _)) X.prog X.w X.xe _ ⟨.bl false, H, I, rfl, q⟩
  | cons x xs =>
    exact SeqAt.RcNeAt.lists_lengths (s := s) hl hl' (by rw [n, List.length_cons]; simp) (by omega) X.prog X.w X.xe _ ⟨.bl true, H, I, rfl, q⟩
end
end Own

/-! data that are alike -/
namespace Own
open PySem L2 PyProof.Rows
theorem eqvS (x y : Str) : PyData.eqv (.str x) (.str y) = decide (x = y) := by
  rw [PyData.eqv]
  by_cases h : x = y
  · subst h; simp
  · rw [decide_eq_false h]; simpa using h
theorem eqvI (x y : Int) : PyData.eqv (.int x) (.int y) = decide (x = y) := by
  rw [PyData.eqv]
  by_cases h : x = y
  · subst h; simp
  · rw [decide_eq_false h]; simpa using h
theorem eqvA_nil : PyData.eqvAll [] [] = true := by rw [PyData.eqvAll]
theorem eqvA_cons {x y : PyData} {xs ys : List PyData} : PyData.eqvAll (x :: xs) (y :: ys) = (PyData.eqv x y && PyData.eqvAll xs ys) := by rw [PyData.eqvAll]
theorem eqvT (xs ys : List PyData) : PyData.eqv (.tuple xs) (.tuple ys) = PyData.eqvAll xs ys := by rw [PyData.eqv]
theorem eqvL (xs ys : List PyData) : PyData.eqv (.list xs) (.list ys) = PyData.eqvAll xs ys := by rw [PyData.eqv]
theorem eqvP (a b u v : Str) : PyData.eqv (.tuple [.str a, .str b]) (.tuple [.str u, .str v]) = decide ((a, b) = (u, v)) := by
  rw [eqvT, eqvA_cons, eqvA_cons, eqvA_nil, eqvS, eqvS, Bool.and_true]
  by_cases h1 : a = u <;> by_cases h2 : b = v <;> simp [h1, h2]
theorem eqvMap {α : Type} [DecidableEq α] (f : α → PyData) : ∀ (xs ys : List α), (∀ x ∈ xs, ∀ y ∈ ys, PyData.eqv (f x) (f y) = decide (x = y)) → PyData.eqvAll (xs.map f) (ys.map f) = decide (xs = ys)
  | [], [], _ => eqvA_nil
  | [], _ :: _, _ => by rw [List.map_nil, List.map_cons, PyData.eqvAll]; rfl
  | _ :: _, [], _ => by rw [List.map_nil, List.map_cons, PyData.eqvAll]; rfl
  | x :: xs, y :: ys, h => by
    rw [List.map_cons, List.map_cons, eqvA_cons, h x List.mem_cons_self y List.mem_cons_self, eqvMap f xs ys fun a ha b hb => h a (List.mem_cons_of_mem _ ha) b (List.mem_cons_of_mem _ hb)]
    by_cases e1 : x = y <;> by_cases e2 : xs = ys <;> simp [e1, e2]
theorem dpS (K : PySem.W.Frag) (H : Hp) : ∀ ks : List Str, DpAll K H (ks.map V.str) (ks.map PyData.str)
  | [] => .nil
  | k :: ks => .cons (.str k) (dpS K H ks)
theorem strOk_low {x : Str} {n : Nat} (h : ∀ c ∈ x.cps.toList, c < n) (hn : n ≤ 1114112) : PyData.strOk x = true := by
  unfold PyData.strOk
  rw [← Array.all_toList, List.all_eq_true]
  exact fun c hc => decide_eq_true (Nat.lt_of_lt_of_le (h c hc) hn)
end Own

namespace Kx
open PySem L2 Own
abbrev s__law_changed : Stmt := top 47
section
variable {P : Program} {w : World} {K : PySem.W.Frag} {mg : Str → Option Value} {base : Heap} {f1 f2 f3 f : Addr} {d1 d2 d3 d : FuncData}
structure TxtCg (K : PySem.W.Frag) (mg : Str → Option Value) (f1 f2 f3 f : Addr) (d1 d2 d3 d : FuncData) : Prop where
  pen : TxtP K mg f1 f2 f3 d1 d2 d3
  D : DefT K mg "_law_changed" "_law_changed" s__law_changed ["pen", "signs", "rows", "text"] f d
  n_len : mg "len" = none
theorem cut_len (x : Str) (i : Nat) (hi : Option Int) : (cutS x (some (i : Nat)) hi).cps.size ≤ x.cps.size - i := by
  have e1 : HT.sIx x.length 0 (some ((i : Nat) : Int)) = min i x.length := HT.sIx_nat ..
  have l : x.cps.toList.length = x.length := Array.length_toList
  have e : (cutS x (some ((i : Nat) : Int)) hi).cps.toList.length ≤ x.cps.size - i := by
    show ((x.cps.toList.drop (HT.sIx x.length 0 (some ((i : Nat) : Int)))).take (HT.sIx x.length x.length hi - HT.sIx x.length 0 (some ((i : Nat) : Int)))).toArray.toList.length ≤ _
    rw [e1]
    show ((x.cps.toList.drop (min i x.length)).take (HT.sIx x.length x.length hi - min i x.length)).length ≤ _
    rw [List.length_take, List.length_drop, l]
    have : x.length = x.cps.size := rfl
    omega
  rwa [Array.length_toList] at e
def cgTt (K : PySem.W.Frag) : TT := tAnd (tTest (tOp rEq (tSl rSlS (tVar 3) (tPart (tVar 5)) (tPart (tOp (rI0 fun i j => V.int (i + j)) (tVar 5) (lenT K (tOp (rIxT K) (tVar 6) (tC (.int 0))))))) (tOp (rIxT K) (tVar 6) (tC (.int 0))))) (tTest (tOp rNe (tOp (rIxT K) (tVar 6) (tC (.int 0))) (tC (.str ""))))
abbrev Ncg : List Str := ["pen", "signs", "rows", "text", "found", "i", "row", "some"]
theorem sc_cg : FnScope Ncg ["pen", "signs", "rows", "text"] (defScope s__law_changed) := ⟨rfl, rfl, rfl, by decide +kernel, rfl, by decide +kernel, by decide +kernel⟩
def spCg (K : PySem.W.Frag) : Sp := fun vs H Q _ => ∃ (p c r : Addr) (sg x : Str) (rv : List V) (R : List Ed) (n : Nat), vs = [.ref p, .str sg, .ref r, .str x] ∧ PenAt H p c n ∧ n + 200 ≤ 1000000 ∧ H r = some (.lst rv) ∧ Paired (EdT H) rv R ∧ OkRows sg R ∧ x.cps.size ≤ 30 ∧ (∀ c ∈ x.cps.toList, c ∈ sg.cps.toList) ∧
  ∀ (y : Str) H', y.cps.size ≤ 3 * x.cps.size → (∀ c ∈ y.cps.toList, c ∈ sg.cps.toList) → PenAt H' p c (n + 100) → SameBut p H H' → Q (.str y) H'
theorem ok_changed (T : TxtCg K mg f1 f2 f3 f d1 d2 d3 d) : FnOk P w K mg base CX0 3 f d ["pen", "signs", "rows", "text"] (spCg K) := by
  have sc := sc_cg
  have G_draw : FnOk P w K mg base CX0 1 f2 d2 ["pen", "many"] spDraw := ok_draw T.pen
  have G_pick : FnOk P w K mg base CX0 2 f3 d3 ["pen", "items"] spPick := ok_pick T.pen
  refine T.D.F.ok sc (fun vs H Q E h => ?_) (fun cdv A1 outer s H vs Q E hr h => ?_)
  · obtain ⟨_, _, _, _, _, _, _, _, rfl, _⟩ := h; rfl
  · obtain ⟨p, c, r, sg, x, rv, R, n, rfl, pen0, hn, hrv, pR, ok, xl, sub, k⟩ := h
    refine ⟨_, (pss_cons (ps_asg (pe_tup (pa_cons pe_str (pa_cons pe_int pa_nil))) (pg_tup rfl (pgs_cons (pg_name (i := 4) sc.nd rfl (Or.inl rfl)) (pgs_cons (pg_name (i := 5) sc.nd rfl (Or.inr rfl)) pgs_nil))))
      (pss_cons (ps_while PassesOwn.never (pt_cmpR op_lt (pv 5) (pe_callB call_len (by rfl) T.n_len (by decide +kernel) (pa_cons (pv 3) pa_nil)) (nomark _)) (pss_cons (ps_setLc (i := 7) (own := [("row", 6)]) (g := gName 6) (tt := cgTt K) (te := tVar 6) rfl sc.nd rfl rfl (sw_true rfl rfl rfl (by decide +kernel)) (pi_list (pv 2)) (blkOk_by (N := Ncg) (sc := defScope s__law_changed) (own := [("row", 6)]) (by decide +kernel)) (fun _ _ _ _ _ => (pg_name (i := 6) sc.nd rfl (Or.inl rfl))) (fun _ _ _ _ _ => pts_one (PW.pt (pw_and (pt_cmpR op_eq (pe_slice sl_str (pv 3) (po_some (pv 5)) (po_some (pe_op op_add (pv 5) (pe_callB call_len (by rfl) T.n_len (by decide +kernel) (pa_cons (pe_ix ix_tup (pv 6) pe_int (fun _ _ => rfl)) pa_nil))))) (pe_ix ix_tup (pv 6) pe_int (fun _ _ => rfl)) (nomark _)) (pw_and1 (pt_cmpR op_ne (pe_ix ix_tup (pv 6) pe_int (fun _ _ => rfl)) pe_str (nomark _)))))) (fun _ _ _ _ _ => pv 6))
      (pss_one (ps_if (PW.pt (pw_and (pt_cmpR (op_neE hr.units) (pv 7) (pe_lst pa_nil) (nomark _)) (pw_and1 (pt_cmpR op_eq (pe_call G_draw (hr.mono (by decide)) rfl T.pen.D__law_draw.g T.pen.D__law_draw.F.kp T.pen.D__law_draw.b .nil pass0 (pa_cons (pv 0) (pa_cons pe_int pa_nil))) pe_int (nomark _))))) (pss_cons (ps_set (i := 6) sc.nd rfl (Or.inl rfl) (pe_call G_pick (hr.mono (by decide)) rfl T.pen.D__law_pick.g T.pen.D__law_pick.F.kp T.pen.D__law_pick.b .nil pass0 (pa_cons (pv 0) (pa_cons (pv 7) pa_nil))))
      (pss_one (ps_asg (pe_tup (pa_cons (pe_op op_add_str (pv 4) (pe_ix ix_tup (pv 6) pe_int (fun _ _ => rfl))) (pa_cons (pe_op op_add (pv 5) (pe_callB call_len (by rfl) T.n_len (by decide +kernel) (pa_cons (pe_ix ix_tup (pv 6) pe_int (fun _ _ => rfl)) pa_nil))) pa_nil))) (pg_tup rfl (pgs_cons (pg_name (i := 4) sc.nd rfl (Or.inl rfl)) (pgs_cons (pg_name (i := 5) sc.nd rfl (Or.inr rfl)) pgs_nil)))))) (pss_one (ps_asg (pe_tup (pa_cons (pe_op op_add_str (pv 4) (pe_ix ix_str (pv 3) (pv 5) (fun _ _ => rfl))) (pa_cons (pe_op op_add (pv 5) pe_int) pa_nil))) (pg_tup rfl (pgs_cons (pg_name (i := 4) sc.nd rfl (Or.inl rfl)) (pgs_cons (pg_name (i := 5) sc.nd rfl (Or.inr rfl)) pgs_nil)))))))))
      (pss_one (ps_ret (pv 4))))), ?_⟩
    refine ⟨by show 2 ≤ sizeLine; decide, fun t0 ht0 => ?_⟩
    refine ⟨t0, _, rfl, SqT.of upd_same, rfl, _, _, rfl, _, _, rfl, rfl, ?_⟩
    have pen1 := pen0.keep (Same.upd (o := .tup [.str "", .int 0]) ht0)
    have sb1 : SameBut p H (upd H t0 (.tup [.str "", .int 0])) := .new ht0
    generalize upd H t0 (.tup [.str "", .int 0]) = H1 at pen1 sb1 ⊢
    refine ⟨fun m σ H' => ∃ (i : Nat) (y : Str) (o6 o7 : Option V), m + i = x.cps.size ∧ σ = [some (.ref p), some (.str sg), some (.ref r), some (.str x), some (.str y), some (.int (i : Nat)), o6, o7] ∧ y.cps.size ≤ 3 * i ∧ (∀ c ∈ y.cps.toList, c ∈ sg.cps.toList) ∧ PenAt H' p c (n + 2 * i) ∧ SameBut p H H', ⟨x.cps.size, 0, "", none, none, rfl, rfl, Nat.le_refl _, fun c hc => (nomatch hc), pen1, sb1⟩, ?_⟩
    rintro m σ H2 ⟨i, y, o6, o7, hm, rfl, ly, suby, pen2, sb2⟩
    refine ⟨_, rfl, _, rfl, .str x, x.cps.size, rfl, ⟨by rw [sizeLine_eq]; show x.cps.size ≤ _; omega, rfl⟩, _, _, rfl, rfl, _, rfl, ?_⟩
    by_cases lt : i < x.cps.size
    · rw [decide_eq_true (by omega : ((i : Nat) : Int) < (x.cps.size : Nat))]
      refine iteT ⟨fun σ' H' => ∃ (i' : Nat) (y : Str) (o6 o7 : Option V), i < i' ∧ i' ≤ x.cps.size ∧ σ' = [some (.ref p), some (.str sg), some (.ref r), some (.str x), some (.str y), some (.int (i' : Nat)), o6, o7] ∧ y.cps.size ≤ 3 * i' ∧ (∀ c ∈ y.cps.toList, c ∈ sg.cps.toList) ∧ PenAt H' p c (n + 2 * i') ∧ SameBut p H H', fun σ' H' ⟨i', y, o6, o7, z1, z2, z3, z4⟩ => ⟨x.cps.size - i', by omega, i', y, o6, o7, by omega, z3, z4⟩, ?_⟩
      have hr2 := sb2 _ _ hrv (pen0.ne hrv)
      refine ⟨_, rfl, r, rfl, ⟨_, SqL.of hr2⟩, fun D hD => ?_⟩
      have lR : rv.length = R.length := Paired.length pR
      have le := ok.le
      have tupK : ∀ {Ha : Hp} {a : Addr} {xs : List V}, H a = some (.tup xs) → SameBut p H Ha → Ha a = some (.tup xs) := fun {Ha a xs} e sb => sb _ _ e (pen0.neT e)
      refine lcs_it [some (.ref p), some (.str sg), some (.ref r), some (.str x), some (.str y), some (.int (i : Nat)), none, o7] rfl walk_list (fun j H' => Same H2 H' ∧ ∃ acc, H' D = some (.lst acc) ∧ acc.length ≤ j ∧ ∀ v ∈ acc, ∃ e ∈ R, EdT H v e ∧ i + e.1.cps.size ≤ x.cps.size ∧ 0 < e.1.cps.size) ⟨Same.upd hD, [], upd_same, Nat.le_refl _, fun v hv => (nomatch hv)⟩ (fun j H' _ z => SqL.of (z.1 _ _ hr2)) ?_ ?_
      · rintro j v _ H3 hj ⟨s3, acc, hacc, hl, pa⟩ ⟨rfl, hv⟩
        obtain ⟨e, he, a, rfl, ha⟩ := pat pR hv
        have em := List.mem_of_getElem? he
        have o := ok.ok e em
        have jl : j < R.length := (List.getElem?_eq_some_iff.mp he).1
        have ha3 := s3 _ _ (tupK ha sb2)
        have at0 : atI ([.str e.1, .str e.2.1, .int e.2.2] : List V) 0 = some (.str e.1) := atI_nat (j := 0) rfl
        refine ⟨rfl, ?_⟩
        refine ⟨_, rfl, _, rfl, _, rfl, _, rfl, _, rfl, a, _, 0, _, rfl, rfl, SqT.of ha3, at0, .str e.1, e.1.cps.size, rfl, ⟨by rw [sizeLine_eq]; show e.1.cps.size ≤ _; have := o.l1; omega, rfl⟩, _, _, rfl, rfl, _, rfl, x, rfl, by rw [sizeLine_eq]; show x.cps.size ≤ _; omega, _, rfl, a, _, 0, _, rfl, rfl, SqT.of ha3, at0, rfl, _, rfl, ?_⟩
        have keepA : ∀ (H' : Hp), Same H2 H' → acc.length ≤ j + 1 ∧ True := fun _ _ => ⟨by omega, trivial⟩
        by_cases c : V.str (cutS x (some ((i : Nat) : Int)) (some (((i : Nat) : Int) + (e.1.cps.size : Nat)))) = V.str e.1
        · have cl := cut_len x i (some (((i : Nat) : Int) + (e.1.cps.size : Nat)))
          rw [V.str.inj c] at cl
          refine ifT c ?_
          refine ⟨_, rfl, a, _, 0, _, rfl, rfl, SqT.of ha3, at0, rfl, _, rfl, ?_⟩
          by_cases c2 : V.str e.1 = V.str ""
          · exact ifFn c2 ⟨s3, acc, hacc, by omega, pa⟩
          · refine ifTn c2 ?_
            have p0 : 0 < e.1.cps.size := by
              refine Nat.pos_of_ne_zero fun z => c2 (congrArg V.str ?_)
              have : e.1.cps = #[] := Array.size_eq_zero_iff.mp z
              obtain ⟨⟨q⟩, _⟩ := e
              exact congrArg Str.mk this
            refine ⟨_, rfl, acc, hacc, by rw [sizeLine_eq]; omega, fun b o z => ?_, acc ++ [.ref a], upd_same, by rw [List.length_append]; exact Nat.succ_le_succ hl, fun v hv => ?_⟩
            · rw [upd_ne (ne_of_none z hD)]
              exact s3 _ _ z
            · rcases List.mem_append.mp hv with h | h
              · exact pa v h
              · rw [List.mem_singleton.mp h]
                exact ⟨e, em, ⟨a, rfl, ha⟩, by omega, p0⟩
        · exact ifF c ⟨s3, acc, hacc, by omega, pa⟩
      · rintro H3 ⟨s3, acc, hacc, hl, pa⟩
        have pen3 : PenAt H3 p c (n + 2 * i) := pen2.keep s3
        have sb3 : SameBut p H H3 := fun b o e nb => s3 _ _ (sb2 b o e nb)
        refine ⟨_, rfl, by show 0 ≤ sizeLine; decide, fun E0 hE0 => ⟨D, E0, acc, rfl, rfl, SqL.of (Same.upd hE0 _ _ hacc), SqL.of upd_same, _, rfl, ?_⟩⟩
        have pen4 := pen3.keep (Same.upd (o := .lst []) hE0)
        have sb4 : SameBut p H (upd H3 E0 (.lst [])) := fun b o e nb => Same.upd hE0 _ _ (sb3 b o e nb)
        have hacc4 := Same.upd (o := .lst []) hE0 _ _ hacc
        generalize upd H3 E0 (.lst []) = H4 at pen4 sb4 hacc4 ⊢
        have hc : x.cps.toList[i]? = some (x.cps.toList[i]'(by rw [Array.length_toList]; exact lt)) := List.getElem?_eq_getElem _
        have fin : ∀ (c0 : Nat), x.cps.toList[i]? = some c0 → (y ++ ⟨#[c0]⟩ : Str).cps.size ≤ 3 * (i + 1) ∧ ∀ c ∈ (y ++ ⟨#[c0]⟩ : Str).cps.toList, c ∈ sg.cps.toList := fun c0 h0 => by
          refine ⟨?_, fun c hc => ?_⟩
          · show (y.cps ++ #[c0]).size ≤ _
            rw [Array.size_append]
            show y.cps.size + 1 ≤ _
            omega
          · have hc : c ∈ (y.cps ++ #[c0]).toList := hc
            rw [Array.toList_append] at hc
            rcases List.mem_append.mp hc with h | h
            · exact suby c h
            · rw [List.mem_singleton.mp h]
              exact sub c0 (List.mem_of_getElem? h0)
        cases acc with
        | nil =>
          refine iteF ⟨_, rfl, _, rfl, _, rfl, x, _, _, rfl, rfl, by rw [sizeLine_eq]; show x.cps.size ≤ _; omega, atI_nat hc, _, _, rfl, rfl, ?_, _, rfl, _, _, rfl, rfl, by show 2 ≤ sizeLine; decide, fun q hq => ?_⟩
          · rw [sizeLine_eq]; show y.cps.size + 1 ≤ _; omega
          refine ⟨q, _, rfl, SqT.of upd_same, rfl, _, _, rfl, _, _, rfl, rfl, i + 1, _, _, _, by omega, lt, rfl, (fin _ hc).1, (fin _ hc).2, (pen4.keep (Same.upd hq)).mono (by omega), fun b o e nb => Same.upd hq _ _ (sb4 b o e nb)⟩
        | cons v0 acc =>
          refine iteT ⟨_, rfl, p, c, 4, n + 2 * i, rfl, pen4, by omega, by decide, by decide, fun r1 H5 r0 r2 pen5 sb5 => ⟨rfl, _, rfl, ?_⟩⟩
          have sb5' : SameBut p H H5 := fun b o e nb => sb5 b o (sb4 b o e nb) nb
          have hacc5 := sb5 _ _ hacc4 (pen4.ne hacc4)
          by_cases cz : V.int r1 = V.int 0
          · refine ifT cz ⟨_, rfl, _, rfl, p, c, D, v0 :: acc, n + 2 * i + 1, rfl, pen5, by omega, hacc5, Nat.succ_pos _, by rw [List.length_cons] at hl ⊢; omega, fun v j H6 hv pen6 sb6 => ?_⟩
            obtain ⟨e, em, ⟨a, rfl, ha⟩, le1, p0⟩ := pa v (List.mem_of_getElem? hv)
            have o := ok.ok e em
            have sb6' : SameBut p H H6 := fun b o e nb => sb6 b o (sb5' b o e nb) nb
            have ha6 := sb6' _ _ ha (pen0.neT ha)
            have at0 : atI ([.str e.1, .str e.2.1, .int e.2.2] : List V) 0 = some (.str e.1) := atI_nat (j := 0) rfl
            have at1 : atI ([.str e.1, .str e.2.1, .int e.2.2] : List V) 1 = some (.str e.2.1) := atI_nat (j := 1) rfl
            have o1 := o.l1
            have o2 := o.l2
            refine ⟨_, rfl, _, rfl, a, _, 1, _, rfl, rfl, SqT.of ha6, at1, _, _, rfl, rfl, ?_, _, rfl, _, rfl, a, _, 0, _, rfl, rfl, SqT.of ha6, at0, .str e.1, e.1.cps.size, rfl, ⟨by rw [sizeLine_eq]; show e.1.cps.size ≤ _; omega, rfl⟩, _, _, rfl, rfl, by show 2 ≤ sizeLine; decide, fun q hq => ?_⟩
            · rw [sizeLine_eq]; show y.cps.size + e.2.1.cps.size ≤ _; omega
            refine ⟨q, _, rfl, SqT.of upd_same, rfl, _, _, rfl, _, _, rfl, rfl, i + e.1.cps.size, _, _, _, by omega, le1, rfl, ?_, fun c hc => ?_, (pen6.keep (Same.upd hq)).mono (by omega), fun b o e nb => Same.upd hq _ _ (sb6' b o e nb)⟩
            · show (y.cps ++ e.2.1.cps).size ≤ _
              rw [Array.size_append]
              omega
            · have hc : c ∈ (y.cps ++ e.2.1.cps).toList := hc
              rw [Array.toList_append] at hc
              rcases List.mem_append.mp hc with h | h
              · exact suby c h
              · exact o.s2 c h
          · refine ifF cz ⟨_, rfl, _, rfl, _, rfl, x, _, _, rfl, rfl, by rw [sizeLine_eq]; show x.cps.size ≤ _; omega, atI_nat hc, _, _, rfl, rfl, ?_, _, rfl, _, _, rfl, rfl, by show 2 ≤ sizeLine; decide, fun q hq => ?_⟩
            · rw [sizeLine_eq]; show y.cps.size + 1 ≤ _; omega
            refine ⟨q, _, rfl, SqT.of upd_same, rfl, _, _, rfl, _, _, rfl, rfl, i + 1, _, _, _, by omega, lt, rfl, (fin _ hc).1, (fin _ hc).2, (pen5.keep (Same.upd hq)).mono (by omega), fun b o e nb => Same.upd hq _ _ (sb5' b o e nb)⟩
    · rw [decide_eq_false (by omega : ¬ ((i : Nat) : Int) < (x.cps.size : Nat))]
      have ei : i = x.cps.size := by omega
      subst ei
      exact iteF ⟨_, rfl, k y H2 ly suby (pen2.mono (by omega)) sb2⟩
end
end Kx

namespace Kx
open PySem L2 Own
abbrev s__law_edit_rows : Stmt := top 43
structure ErAd where
  f1 : Addr
  f2 : Addr
  f3 : Addr
  ft : Addr
  f : Addr
  d1 : FuncData
  d2 : FuncData
  d3 : FuncData
  dt : FuncData
  d : FuncData
structure TxtEr (K : PySem.W.Frag) (mg : Str → Option Value) (W : ErAd) : Prop where
  tx : TxtTx K mg W.f1 W.f2 W.f3 W.ft W.d1 W.d2 W.d3 W.dt
  D : DefT K mg "_law_edit_rows" "_law_edit_rows" s__law_edit_rows ["pen", "signs", "most"] W.f W.d
  n_len : mg "len" = none
section
variable {P : Program} {w : World} {K : PySem.W.Frag} {mg : Str → Option Value} {base : Heap} {W : ErAd}
abbrev Ner : List Str := ["pen", "signs", "most", "found", "sizes", "prices", "a", "turn", "u", "v", "price", "k", "b", "row"]
theorem sc_er : FnScope Ner ["pen", "signs", "most"] (defScope s__law_edit_rows) := ⟨rfl, rfl, rfl, by decide +kernel, rfl, by decide +kernel, by decide +kernel⟩
def spEr (K : PySem.W.Frag) : Sp := fun vs H Q _ => ∃ (p c : Addr) (sg : Str) (most n : Nat), vs = [.ref p, .str sg, .int most] ∧ PenAt H p c n ∧ n + 20 + 20 * most ≤ 1000000 ∧ 0 < most ∧ most ≤ 1000 ∧ 0 < sg.cps.size ∧ sg.cps.size ≤ 4 ∧ sg.cps.toList.Nodup ∧ (∀ c ∈ sg.cps.toList, c < 128) ∧
  ∀ (r : Addr) (rv : List V) (R : List Ed) H', H r = none → H' r = some (.lst rv) → Paired (EdT H') rv R → OkRows sg R → PenAt H' p c (n + 20 + 20 * most) → SameBut p H H' → Q (.ref r) H'
def t135 : TA := tCons (tC (.int 0)) (tCons (tC (.int 1)) (tCons (tC (.int 1)) (tCons (tC (.int 2)) (tCons (tC (.int 3)) tNil))))
def teA (K : PySem.W.Frag) : TE := tTup (tCons (tC (.str "")) (tCons (tVar 6) (tCons (tOp (rIxL K) (tVar 5) (tC (.int 0))) tNil)))
def teB (K : PySem.W.Frag) : TE := tTup (tCons (tVar 6) (tCons (tC (.str "")) (tCons (tOp (rIxL K) (tVar 5) (tC (.int 1))) tNil)))
def teC (K : PySem.W.Frag) : TE := tTup (tCons (tVar 6) (tCons (tVar 12) (tCons (tOp (rIxL K) (tVar 5) (tC (.int 2))) tNil)))
def erTt (K : PySem.W.Frag) : TT := tTest (tOp (rEqD K) (tSl (rSlT K) (tVar 13) tNoPart (tPart (tC (.int 2)))) (tTup (tCons (tVar 8) (tCons (tVar 9) tNil))))
theorem ok_edit_rows (T : TxtEr K mg W) : FnOk P w K mg base CX0 4 W.f W.d ["pen", "signs", "most"] (spEr K) := by
  have sc := sc_er
  have G_draw : FnOk P w K mg base CX0 1 W.f2 W.d2 ["pen", "many"] spDraw := ok_draw T.tx.pen
  have G_pick : FnOk P w K mg base CX0 2 W.f3 W.d3 ["pen", "items"] spPick := ok_pick T.tx.pen
  have G_text : FnOk P w K mg base CX0 3 W.ft W.dt ["pen", "signs", "most"] spText := ok_text T.tx
  refine T.D.F.ok sc (fun vs H Q E h => ?_) (fun cdv A1 outer s H vs Q E hr h => ?_)
  · obtain ⟨_, _, _, _, _, rfl, _⟩ := h; rfl
  · obtain ⟨p, c, sg, most, n, rfl, pen0, hn, m0, m1, z0, z1, nd, low, k⟩ := h
    refine ⟨_, (pss_cons (ps_par (i := 3) (j := 4) rfl sc.nd rfl rfl (by decide) rfl rfl (pa_cons (pe_lst pa_nil) (pa_cons (pe_call G_pick (hr.mono (by decide)) rfl T.tx.pen.D__law_pick.g T.tx.pen.D__law_pick.F.kp T.tx.pen.D__law_pick.b .nil pass0 (pa_cons (pv 0) (pa_cons (pe_lst (pa_cons pe_int (pa_cons pe_int (pa_cons pe_int pa_nil)))) pa_nil))) pa_nil)) rfl)
      (C8.pss_cut (ps_if (pt_cmpR op_eq (pe_call G_draw (hr.mono (by decide)) rfl T.tx.pen.D__law_draw.g T.tx.pen.D__law_draw.F.kp T.tx.pen.D__law_draw.b .nil pass0 (pa_cons (pv 0) (pa_cons pe_int pa_nil))) pe_int (nomark _)) (pss_cons (ps_set (i := 5) sc.nd rfl (Or.inr rfl) (pe_lc (own := [("k", 11)]) (g := gName 11) (tt := tYes) (te := tCall spPick [] E0 (tCons (tVar 0) (tCons (tLst t135) tNil))) rfl sc.nd (pi_range1 rfl T.tx.n_range (pa_cons pe_int pa_nil)) (blkOk_by (N := Ner) (sc := defScope s__law_edit_rows) (own := [("k", 11)]) (by decide +kernel)) (fun _ _ _ _ _ => (pg_name (i := 11) sc.nd rfl (Or.inl rfl))) (fun _ _ _ _ _ => pts_nil) (fun _ _ _ _ _ => (pe_call G_pick (hr.mono (by decide)) rfl T.tx.pen.D__law_pick.g T.tx.pen.D__law_pick.F.kp T.tx.pen.D__law_pick.b .nil pass0 (pa_cons (pv 0) (pa_cons (pe_lst (pa_cons pe_int (pa_cons pe_int (pa_cons pe_int (pa_cons pe_int (pa_cons pe_int pa_nil)))))) pa_nil))))))
      (pss_cons (ps_set (i := 3) sc.nd rfl (Or.inl rfl) (pe_op op_cat (pe_lc (own := [("a", 6)]) (g := gName 6) (tt := tYes) (te := teA K) rfl sc.nd (pi_str (pv 1)) (blkOk_by (N := Ner) (sc := defScope s__law_edit_rows) (own := [("a", 6)]) (by decide +kernel)) (fun _ _ _ _ _ => (pg_name (i := 6) sc.nd rfl (Or.inl rfl))) (fun _ _ _ _ _ => pts_nil) (fun _ _ _ _ _ => (pe_tup (pa_cons pe_str (pa_cons (pv 6) (pa_cons (pe_ix ix_list (pv 5) pe_int (fun _ _ => rfl)) pa_nil)))))) (pe_lc (own := [("a", 6)]) (g := gName 6) (tt := tYes) (te := teB K) rfl sc.nd (pi_str (pv 1)) (blkOk_by (N := Ner) (sc := defScope s__law_edit_rows) (own := [("a", 6)]) (by decide +kernel)) (fun _ _ _ _ _ => (pg_name (i := 6) sc.nd rfl (Or.inl rfl))) (fun _ _ _ _ _ => pts_nil) (fun _ _ _ _ _ => (pe_tup (pa_cons (pv 6) (pa_cons pe_str (pa_cons (pe_ix ix_list (pv 5) pe_int (fun _ _ => rfl)) pa_nil))))))))
      (pss_one (ps_for PassesOwn.never rfl (pi_str (pv 1)) (pg_name (i := 6) sc.nd rfl (Or.inr rfl))
      (pss_one (ps_set (i := 3) sc.nd rfl (Or.inl rfl) (pe_op op_cat (pv 3) (pe_lc (own := [("b", 12)]) (g := gName 12) (tt := tTest (tOp rNe (tVar 12) (tVar 6))) (te := teC K) rfl sc.nd (pi_str (pv 1)) (blkOk_by (N := Ner) (sc := defScope s__law_edit_rows) (own := [("b", 12)]) (by decide +kernel)) (fun _ _ _ _ _ => (pg_name (i := 12) sc.nd rfl (Or.inl rfl))) (fun _ _ _ _ _ => pts_one (pt_cmpR op_ne (pv 12) (pv 6) (nomark _))) (fun _ _ _ _ _ => (pe_tup (pa_cons (pv 6) (pa_cons (pv 12) (pa_cons (pe_ix ix_list (pv 5) pe_int (fun _ _ => rfl)) pa_nil))))))))))))) pss_nil)
      (pss_cons (ps_for PassesOwn.never rfl (pi_range1 rfl T.tx.n_range (pa_cons (pe_call G_draw (hr.mono (by decide)) rfl T.tx.pen.D__law_draw.g T.tx.pen.D__law_draw.F.kp T.tx.pen.D__law_draw.b .nil pass0 (pa_cons (pv 0) (pa_cons (pv 2) pa_nil))) pa_nil)) (pg_name (i := 7) sc.nd rfl (Or.inl rfl))
      (pss_cons (ps_asg (pe_tup (pa_cons (pe_call G_text (hr.mono (by decide)) rfl T.tx.D__law_text.g T.tx.D__law_text.F.kp T.tx.D__law_text.b .nil pass0 (pa_cons (pv 0) (pa_cons (pv 1) (pa_cons (pv 4) pa_nil)))) (pa_cons (pe_call G_text (hr.mono (by decide)) rfl T.tx.D__law_text.g T.tx.D__law_text.F.kp T.tx.D__law_text.b .nil pass0 (pa_cons (pv 0) (pa_cons (pv 1) (pa_cons (pv 4) pa_nil)))) pa_nil))) (pg_tup rfl (pgs_cons (pg_name (i := 8) sc.nd rfl (Or.inr rfl)) (pgs_cons (pg_name (i := 9) sc.nd rfl (Or.inr rfl)) pgs_nil))))
      (pss_cons (ps_set (i := 10) sc.nd rfl (Or.inl rfl) (pe_call G_pick (hr.mono (by decide)) rfl T.tx.pen.D__law_pick.g T.tx.pen.D__law_pick.F.kp T.tx.pen.D__law_pick.b .nil pass0 (pa_cons (pv 0) (pa_cons (pe_lst (pa_cons pe_int (pa_cons pe_int (pa_cons pe_int (pa_cons pe_int (pa_cons pe_int (pa_cons pe_int (pa_cons (pe_op op_pow pe_int pe_int) pa_nil)))))))) pa_nil))))
      (pss_one (ps_if (PW.pt (pw_and (pt_cmpR op_ne (pv 8) (pv 9) (nomark _)) (pw_and (pt_cmpR op_lt (pe_callB call_len (by rfl) T.n_len (by decide +kernel) (pa_cons (pv 3) pa_nil)) pe_int (nomark _)) (pw_and1 (pt_cmpR (op_eqE hr.units) (pe_lc (own := [("row", 13)]) (g := gName 13) (tt := erTt K) (te := tVar 13) rfl sc.nd (pi_list (pv 3)) (blkOk_by (N := Ner) (sc := defScope s__law_edit_rows) (own := [("row", 13)]) (by decide +kernel)) (fun _ _ _ _ _ => (pg_name (i := 13) sc.nd rfl (Or.inl rfl))) (fun _ _ _ _ _ => pts_one (pt_cmpR (op_eqD hr.units) (pe_slice sl_tup (pv 13) po_none (po_some pe_int)) (pe_tup (pa_cons (pv 8) (pa_cons (pv 9) pa_nil))) (nomark _))) (fun _ _ _ _ _ => (pv 13))) (pe_lst pa_nil) (nomark _)))))) (pss_one (ps_expr (pe_bm PySem.F.plainAttrs_list PySem.F.slot_list_append PySem.F.type_list_append mt_append (pv 3) (pa_cons (pe_tup (pa_cons (pv 8) (pa_cons (pv 9) (pa_cons (pv 10) pa_nil)))) pa_nil)))) pss_nil)))))
      (pss_one (ps_ret (pv 3)))))), ?_⟩
    have L4 : sg.cps.toList.length = sg.cps.size := Array.length_toList
    have atL : ∀ {i : Nat} {c0 : Nat}, sg.cps[i]? = some c0 → sg.cps.toList[i]? = some c0 := fun {i c0} h => by rw [Array.getElem?_toList]; exact h
    -- found, sizes
    refine ⟨by decide, fun r0 hr0 => ⟨_, rfl, by show 3 ≤ sizeLine; decide, fun q hq => ⟨p, c, q, [.int 1, .int 2, .int 3], n, rfl, (pen0.keep (Same.upd hr0)).keep (Same.upd hq), by omega, upd_same, by decide, by decide, fun v0 i0 H1 hv0 pen1 sb1 => ⟨_, _, rfl, ?_⟩⟩⟩⟩
    obtain ⟨sz, rfl, hsz⟩ : ∃ sz : Nat, v0 = .int sz ∧ sz ≤ 3 := by
      have := List.mem_of_getElem? hv0
      rcases List.mem_cons.mp this with h | h
      · exact ⟨1, h, by decide⟩
      rcases List.mem_cons.mp h with h | h
      · exact ⟨2, h, by decide⟩
      exact ⟨3, List.mem_singleton.mp h, by decide⟩
    have ap0 := pen0.apart hr0
    have h10 : H1 r0 = some (.lst []) := sb1 _ _ (Same.upd hq _ _ upd_same) ap0.1
    have sb1' : SameBut p H H1 := fun b o e nb => sb1 _ _ (Same.upd hq _ _ (Same.upd hr0 _ _ e)) nb
    clear sb1
    refine ⟨fun σ H' => ∃ (r : Addr) (rv : List V) (R : List Ed) (o5 o6 : Option V), σ = [some (.ref p), some (.str sg), some (.int (most : Nat)), some (.ref r), some (.int (sz : Nat)), o5, o6, none, none, none, none, none, none, none] ∧ H r = none ∧ H' r = some (.lst rv) ∧ Paired (EdT H') rv R ∧ OkRows sg R ∧ PenAt H' p c (n + 5) ∧ SameBut p H H', ?_, ?_⟩
    · refine ⟨_, rfl, p, c, 3, n + 1, rfl, pen1, by omega, by decide, by decide, fun r1 H2 r1a r1b pen2 sb2 => ⟨rfl, _, rfl, ?_⟩⟩
      have sb2' : SameBut p H H2 := fun b o e nb => sb2 _ _ (sb1' b o e nb) nb
      have h20 := sb2 _ _ h10 ap0.1
      by_cases cz : V.int r1 = V.int 0
      · refine ifT cz ⟨_, rfl, by decide, by decide, fun D hD => ?_⟩
        have apD := pen2.apart hD
        have hDH : H D = none := none_back sb2' pen2 hD
        refine lcs_it [some (.ref p), some (.str sg), some (.int (most : Nat)), some (.ref r0), some (.int (sz : Nat)), none, none, none, none, none, none, none, none, none] rfl walk_range (fun i H' => PenAt H' p c (n + 2 + i) ∧ SameBut p H H' ∧ ∃ ps : List Int, H' D = some (.lst (ps.map V.int)) ∧ ps.length = i ∧ ∀ x ∈ ps, 0 ≤ x ∧ x ≤ MW) ⟨pen2.keep (Same.upd hD), fun b o e nb => Same.upd hD _ _ (sb2' b o e nb), [], upd_same, rfl, fun _ z => (nomatch z)⟩ (fun _ _ _ _ => trivial) ?_ ?_
        · rintro i x _ H3 hi ⟨pen3, sb3, ps, hps, lp, mp⟩ ⟨rfl, ex⟩
          have hi3 : i < 3 := hi
          refine ⟨rfl, tyes ?_⟩
          rw [if_pos rfl]
          refine ⟨_, rfl, by show 5 ≤ sizeLine; decide, fun q hq => ⟨p, c, q, [.int 0, .int 1, .int 1, .int 2, .int 3], n + 2 + i, rfl, pen3.keep (Same.upd hq), by omega, upd_same, by decide, by decide, fun v j H4 hv pen4 sb4 => ?_⟩⟩
          have h4 : H4 D = some (.lst (ps.map V.int)) := sb4 _ _ (Same.upd hq _ _ hps) apD.1
          obtain ⟨i5, rfl, h50, h51⟩ : ∃ i5 : Int, v = .int i5 ∧ 0 ≤ i5 ∧ i5 ≤ MW := by
            have := List.mem_of_getElem? hv
            rcases List.mem_cons.mp this with h | h
            · exact ⟨0, h, by decide, by decide⟩
            rcases List.mem_cons.mp h with h | h
            · exact ⟨1, h, by decide, by decide⟩
            rcases List.mem_cons.mp h with h | h
            · exact ⟨1, h, by decide, by decide⟩
            rcases List.mem_cons.mp h with h | h
            · exact ⟨2, h, by decide, by decide⟩
            exact ⟨3, List.mem_singleton.mp h, by decide, by decide⟩
          refine ⟨_, h4, by rw [List.length_map, lp, sizeLine_eq]; omega, pen4.put apD.1 apD.2, fun b o e nb => ?_, ps ++ [i5], by rw [upd_same, List.map_append]; rfl, by rw [List.length_append, lp]; rfl, fun x hx => ?_⟩
          · rw [upd_ne (ne_of_none e hDH)]
            exact sb4 _ _ (Same.upd hq _ _ (sb3 b o e nb)) nb
          · rcases List.mem_append.mp hx with hx | hx
            · exact mp x hx
            · rw [List.mem_singleton.mp hx]; exact ⟨h50, h51⟩
        rintro H3 ⟨pen3, sb3, ps, hps, lp, mp⟩
        obtain ⟨p0, p1, p2, rfl⟩ : ∃ p0 p1 p2, ps = [p0, p1, p2] := by
          match ps, lp with
          | [a, b, c], _ => exact ⟨a, b, c, rfl⟩
        have m0 := mp p0 (by simp)
        have m1 := mp p1 (by simp)
        have m2 := mp p2 (by simp)
        have at0 : atI (([p0, p1, p2] : List Int).map V.int) 0 = some (.int p0) := atI_nat (j := 0) rfl
        have at1 : atI (([p0, p1, p2] : List Int).map V.int) 1 = some (.int p1) := atI_nat (j := 1) rfl
        have at2 : atI (([p0, p1, p2] : List Int).map V.int) 2 = some (.int p2) := atI_nat (j := 2) rfl
        -- put in
        refine ⟨_, rfl, sg, rfl, fun DA hDA => ?_⟩
        refine lcs_it [some (.ref p), some (.str sg), some (.int (most : Nat)), some (.ref r0), some (.int (sz : Nat)), some (.ref D), none, none, none, none, none, none, none, none] rfl walk_str (fun i H' => Same H3 H' ∧ ∃ acc, H' DA = some (.lst acc) ∧ acc.length = i ∧ Paired (EdT H') acc (plA (sg.cps.toList.take i) p0)) ⟨Same.upd hDA, [], upd_same, rfl, .nil⟩ (fun _ _ _ _ => trivial) ?_ ?_
        · rintro i x _ H4 hi ⟨s4, acc, hacc, la, pa⟩ ⟨rfl, c0, hc0, rfl⟩
          have hi' : i < sg.cps.size := hi
          refine ⟨rfl, tyes ?_⟩
          rw [if_pos rfl]
          refine ⟨_, rfl, _, rfl, D, _, 0, _, rfl, rfl, SqL.of (s4 _ _ hps), at0, by show 3 ≤ sizeLine; decide, fun q hq => ⟨acc, Same.upd hq _ _ hacc, by rw [sizeLine_eq]; omega, put2 s4 hDA hq, acc ++ [.ref q], upd_same, by rw [List.length_append, la]; rfl, ?_⟩⟩
          have tk : plA (sg.cps.toList.take (i + 1)) p0 = plA (sg.cps.toList.take i) p0 ++ [(("", Froz.sing c0, p0) : Ed)] := by unfold plA; rw [List.take_add_one, atL hc0, List.map_append]; rfl
          rw [tk]
          exact edsN (e := ("", Froz.sing c0, p0)) hq hacc pa
        rintro H4 ⟨s4, accA, haccA, laA, paA⟩
        have eA : sg.cps.toList.take sg.cps.size = sg.cps.toList := List.take_of_length_le (by omega)
        rw [eA] at paA
        -- taken out
        refine ⟨_, rfl, sg, rfl, fun DB hDB => ?_⟩
        refine lcs_it [some (.ref p), some (.str sg), some (.int (most : Nat)), some (.ref r0), some (.int (sz : Nat)), some (.ref D), none, none, none, none, none, none, none, none] rfl walk_str (fun i H' => Same H4 H' ∧ ∃ acc, H' DB = some (.lst acc) ∧ acc.length = i ∧ Paired (EdT H') acc (plB (sg.cps.toList.take i) p1)) ⟨Same.upd hDB, [], upd_same, rfl, .nil⟩ (fun _ _ _ _ => trivial) ?_ ?_
        · rintro i x _ H5 hi ⟨s5, acc, hacc, la, pa⟩ ⟨rfl, c0, hc0, rfl⟩
          have hi' : i < sg.cps.size := hi
          refine ⟨rfl, tyes ?_⟩
          rw [if_pos rfl]
          refine ⟨_, rfl, _, rfl, D, _, 1, _, rfl, rfl, SqL.of (s5 _ _ (s4 _ _ hps)), at1, by show 3 ≤ sizeLine; decide, fun q hq => ⟨acc, Same.upd hq _ _ hacc, by rw [sizeLine_eq]; omega, put2 s5 hDB hq, acc ++ [.ref q], upd_same, by rw [List.length_append, la]; rfl, ?_⟩⟩
          have tk : plB (sg.cps.toList.take (i + 1)) p1 = plB (sg.cps.toList.take i) p1 ++ [((Froz.sing c0, "", p1) : Ed)] := by unfold plB; rw [List.take_add_one, atL hc0, List.map_append]; rfl
          rw [tk]
          exact edsN (e := (Froz.sing c0, "", p1)) hq hacc pa
        rintro H5 ⟨s5, accB, haccB, laB, paB⟩
        rw [eA] at paB
        refine ⟨DA, DB, accA, accB, rfl, rfl, s5 _ _ haccA, haccB, by rw [laA, laB, sizeLine_eq]; show sg.cps.size + sg.cps.size ≤ _; omega, fun rA hrA => ?_⟩
        have s6 : Same H3 (upd H5 rA (.lst (accA ++ accB))) := fun b o e => Same.upd hrA _ _ (s5 _ _ (s4 _ _ e))
        have pAB : Paired (EdT (upd H5 rA (.lst (accA ++ accB)))) (accA ++ accB) (plA sg.cps.toList p0 ++ plB sg.cps.toList p1) := papp (edsS (Same.upd hrA) (edsS s5 paA)) (edsS (Same.upd hrA) paB)
        have h6 : (upd H5 rA (.lst (accA ++ accB))) rA = some (.lst (accA ++ accB)) := upd_same
        have hrAH : H rA = none := none_back sb3 pen3 (s4.free (s5.free hrA))
        generalize upd H5 rA (.lst (accA ++ accB)) = H6 at s6 pAB h6 ⊢
        -- put for others
        refine ⟨_, rfl, sg, rfl, ?_⟩
        refine for_it walk_str (fun i σ H' => ∃ (r : Addr) (rv : List V) (o6 : Option V), σ = [some (.ref p), some (.str sg), some (.int (most : Nat)), some (.ref r), some (.int (sz : Nat)), some (.ref D), o6, none, none, none, none, none, none, none] ∧ H r = none ∧ H' r = some (.lst rv) ∧ rv.length ≤ 8 + 4 * i ∧ Same H6 H' ∧ Paired (EdT H') rv (plA sg.cps.toList p0 ++ plB sg.cps.toList p1 ++ plC sg.cps.toList p2 (sg.cps.toList.take i))) ⟨rA, _, _, rfl, hrAH, h6, by rw [List.length_append, laA, laB]; show sg.cps.size + sg.cps.size ≤ _; omega, Same.refl _, by show Paired _ _ (_ ++ []); rw [List.append_nil]; exact pAB⟩ (fun _ _ _ _ _ => trivial) ?_ ?_
        · rintro i x _ _ H7 hi ⟨r, rv, o6, rfl, hrH, h7, l7, s7, pr⟩ ⟨rfl, c0, hc0, rfl⟩
          have hi' : i < sg.cps.size := hi
          refine ⟨_, rfl, _, rfl, sg, rfl, fun DC hDC => ?_⟩
          refine lcs_it [some (.ref p), some (.str sg), some (.int (most : Nat)), some (.ref r), some (.int (sz : Nat)), some (.ref D), some (.str (Froz.sing c0)), none, none, none, none, none, none, none] rfl walk_str (fun j H' => Same H7 H' ∧ ∃ acc, H' DC = some (.lst acc) ∧ acc.length ≤ j ∧ Paired (EdT H') acc (plC1 (sg.cps.toList.take j) p2 c0)) ⟨Same.upd hDC, [], upd_same, Nat.le_refl _, .nil⟩ (fun _ _ _ _ => trivial) ?_ ?_
          · rintro j x _ H8 hj ⟨s8, acc, hacc, la, pa⟩ ⟨rfl, c1, hc1, rfl⟩
            have hj' : j < sg.cps.size := hj
            refine ⟨rfl, _, rfl, _, rfl, rfl, _, rfl, ?_⟩
            have tk : plC1 (sg.cps.toList.take (j + 1)) p2 c0 = plC1 (sg.cps.toList.take j) p2 c0 ++ (if c1 ≠ c0 then [((Froz.sing c0, Froz.sing c1, p2) : Ed)] else []) := by
              unfold plC1
              rw [List.take_add_one, atL hc1, Option.toList_some, List.filter_append, List.map_append]
              by_cases e : c1 ≠ c0
              · rw [List.filter_cons_of_pos (by simpa using e), if_pos e]; rfl
              · rw [List.filter_cons_of_neg (by simpa using e), if_neg e]; rfl
            by_cases ce : V.str (Froz.sing c1) = V.str (Froz.sing c0)
            · have : c1 = c0 := sing_inj (V.str.inj ce)
              refine ifFn ce ⟨s8, acc, hacc, by omega, ?_⟩
              rw [tk, if_neg (fun z => z this), List.append_nil]
              exact pa
            · have : c1 ≠ c0 := fun z => ce (by rw [z])
              refine ifTn ce ⟨_, rfl, _, rfl, _, rfl, D, _, 2, _, rfl, rfl, SqL.of (s8 _ _ (s7 _ _ (s6 _ _ hps))), at2, by show 3 ≤ sizeLine; decide, fun q hq => ⟨acc, Same.upd hq _ _ hacc, by rw [sizeLine_eq]; omega, put2 s8 hDC hq, acc ++ [.ref q], upd_same, by rw [List.length_append]; exact Nat.succ_le_succ la, ?_⟩⟩
              rw [tk, if_pos this]
              exact edsN (e := (Froz.sing c0, Froz.sing c1, p2)) hq hacc pa
          rintro H8 ⟨s8, acc, hacc, la, pa⟩
          rw [eA] at pa
          have la' : acc.length ≤ sg.cps.size := la
          refine ⟨r, DC, rv, acc, rfl, rfl, s8 _ _ h7, hacc, by rw [sizeLine_eq]; omega, fun r' hr' => ⟨r', _, _, rfl, none_back sb3 pen3 (s6.free (s7.free (s8.free hr'))), upd_same, by rw [List.length_append]; omega, fun b o e => Same.upd hr' _ _ (s8 _ _ (s7 _ _ e)), ?_⟩⟩
          have tk : plC sg.cps.toList p2 (sg.cps.toList.take (i + 1)) = plC sg.cps.toList p2 (sg.cps.toList.take i) ++ plC1 sg.cps.toList p2 c0 := by
            unfold plC
            rw [List.take_add_one, atL hc0, Option.toList_some, List.flatMap_append, List.flatMap_cons, List.flatMap_nil, List.append_nil]
          rw [tk, ← List.append_assoc]
          exact papp (edsS (Same.upd hr') (edsS s8 pr)) (edsS (Same.upd hr') pa)
        · rintro σ H7 ⟨r, rv, o6, rfl, hrH, h7, l7, s7, pr⟩
          rw [eA] at pr
          exact ⟨r, rv, _, _, _, rfl, hrH, h7, pr, plain_ok nd z1 m0 m1 m2, pen3.keep (s6.trans s7), fun b o e nb => s7 _ _ (s6 _ _ (sb3 b o e nb))⟩
      · refine ifF cz ?_
        exact ⟨r0, [], [], _, _, rfl, hr0, h20, .nil, .nil, pen2.mono (by omega), sb2'⟩
    · rintro σ H2 ⟨r, rv, R, o5, o6, rfl, hrH, h2, pR, ok, pen2, sb2⟩
      refine ⟨_, rfl, _, rfl, p, c, most, n + 5, rfl, pen2, by omega, by omega, by omega, fun r1 H3 r10 r11 pen3 sb3 => ?_⟩
      obtain ⟨tn, rfl⟩ := Int.eq_ofNat_of_zero_le r10
      have pR3 := edsB pen2 sb3 pR
      have apr := pen0.apart hrH
      have h3 := sb3 _ _ h2 apr.1
      refine ⟨_, rfl, by omega, by omega, ?_⟩
      rw [Int.toNat_natCast]
      refine for_it walk_range (fun i σ H' => ∃ (rv : List V) (R : List Ed) (o7 o8 o9 o10 : Option V), σ = [some (.ref p), some (.str sg), some (.int (most : Nat)), some (.ref r), some (.int (sz : Nat)), o5, o6, o7, o8, o9, o10, none, none, none] ∧ H' r = some (.lst rv) ∧ Paired (EdT H') rv R ∧ OkRows sg R ∧ PenAt H' p c (n + 6 + 9 * i) ∧ SameBut p H H') ⟨rv, R, _, _, _, _, rfl, h3, pR3, ok, pen3.mono (by omega), fun b o e nb => sb3 _ _ (sb2 b o e nb) nb⟩ (fun _ _ _ _ _ => trivial) ?_ ?_
      · rintro i x σ _ H4 hi ⟨rv, R, o7, o8, o9, o10, rfl, h4, pR, ok, pen4, sb4⟩ ⟨rfl, ex⟩
        have hi' : i < tn := hi
        refine ⟨_, rfl, _, rfl, _, rfl, p, c, sg, sz, n + 6 + 9 * i, rfl, pen4, by omega, by omega, z0, by omega, fun u H5 lu su pen5 sb5 => ⟨_, rfl, _, rfl, _, rfl, p, c, sg, sz, _, rfl, pen5, by omega, by omega, z0, by omega, fun v H6 lv sv pen6 sb6 => ⟨by show 2 ≤ sizeLine; decide, fun t0 ht0 => ⟨t0, _, rfl, SqT.of upd_same, rfl, _, _, rfl, _, _, rfl, rfl, ?_⟩⟩⟩⟩
        have sbA : SameBut p H4 (upd H6 t0 (.tup [.str u, .str v])) := fun b o e nb => Same.upd ht0 _ _ (sb6 _ _ (sb5 _ _ e nb) nb)
        have penA := pen6.keep (Same.upd (o := .tup [.str u, .str v]) ht0)
        generalize upd H6 t0 (.tup [.str u, .str v]) = H7 at sbA penA ⊢
        -- price
        refine ⟨_, rfl, _, _, rfl, rfl, ⟨by decide, by decide, by decide⟩, by show 7 ≤ sizeLine; decide, fun q hq => ⟨p, c, q, _, _, rfl, penA.keep (Same.upd hq), by omega, upd_same, by show 0 < 7; decide, by show 7 ≤ 1000000; decide, fun w0 j H8 hw pen8 sb8 => ?_⟩⟩
        obtain ⟨pr, rfl, pr0, pr1⟩ : ∃ pr : Int, w0 = .int pr ∧ 0 ≤ pr ∧ pr ≤ MW := by
          have e30 : (10 : Int) ^ (30 : Int).toNat = MW := by decide +kernel
          dsimp only at hw
          rw [e30] at hw
          have m := List.mem_of_getElem? hw
          simp only [List.mem_cons, List.not_mem_nil, or_false] at m
          rcases m with rfl | rfl | rfl | rfl | rfl | rfl | rfl
          all_goals exact ⟨_, rfl, by decide, by decide⟩
        have sbB : SameBut p H4 H8 := fun b o e nb => sb8 _ _ (Same.upd hq _ _ (sbA b o e nb)) nb
        have h8 := sbB _ _ h4 apr.1
        have pR8 := edsB pen4 sbB pR
        have sbC : SameBut p H H8 := fun b o e nb => sbB _ _ (sb4 b o e nb) nb
        have lR : rv.length = R.length := Paired.length pR
        have rl := ok.le
        have stay : ∀ H', Same H8 H' → ∃ (rv : List V) (R : List Ed) (o7' o8' o9' o10' : Option V), [some (V.ref p), some (V.str sg), some (V.int (most : Nat)), some (V.ref r), some (V.int (sz : Nat)), o5, o6, some x, some (V.str u), some (V.str v), some (V.int pr), none, none, none] = [some (.ref p), some (.str sg), some (.int (most : Nat)), some (.ref r), some (.int (sz : Nat)), o5, o6, o7', o8', o9', o10', none, none, none] ∧ H' r = some (.lst rv) ∧ Paired (EdT H') rv R ∧ OkRows sg R ∧ PenAt H' p c (n + 6 + 9 * (i + 1)) ∧ SameBut p H H' := fun H' s => ⟨rv, R, _, _, _, _, rfl, s _ _ h8, edsS s pR8, ok, (pen8.keep s).mono (by omega), fun b o e nb => s _ _ (sbC b o e nb)⟩
        refine ⟨_, rfl, _, rfl, rfl, _, rfl, ?_⟩
        by_cases cuv : V.str u = V.str v
        · exact ifFn cuv (iteF (stay _ (Same.refl _)))
        refine ifTn cuv ⟨_, rfl, .ref r, rv.length, rfl, .inl ⟨_, SqL.of h8, rfl⟩, _, _, rfl, rfl, _, rfl, ?_⟩
        by_cases lt : ((rv.length : Nat) : Int) < 24
        · refine ifT lt ⟨_, rfl, r, rfl, ⟨_, SqL.of h8⟩, fun DR hDR => ?_⟩
          refine lcs_it [some (.ref p), some (.str sg), some (.int (most : Nat)), some (.ref r), some (.int (sz : Nat)), o5, o6, some x, some (.str u), some (.str v), some (.int pr), none, none, none] rfl walk_list (fun j H' => Same H8 H' ∧ ∃ acc, H' DR = some (.lst acc) ∧ acc.length ≤ j ∧ (acc = [] → ∀ e ∈ R.take j, (e.1, e.2.1) ≠ (u, v))) ⟨Same.upd hDR, [], upd_same, Nat.le_refl _, fun _ _ h => (nomatch h)⟩ (fun j H' _ z => SqL.of (z.1 _ _ h8)) ?_ ?_
          · rintro j x _ H9 hj ⟨s9, acc, hacc, la, no⟩ ⟨rfl, hx⟩
            obtain ⟨e, he, a, rfl, ha⟩ := pat pR8 hx
            have em := List.mem_of_getElem? he
            have o := ok.ok e em
            have jl : j < R.length := (List.getElem?_eq_some_iff.mp he).1
            have ha9 := s9 _ _ ha
            refine ⟨rfl, _, rfl, _, rfl, a, _, rfl, SqT.of ha9, (by show ¬(HT.sIx 3 0 none = 0 ∧ HT.sIx 3 3 (some 2) = 3); decide), fun q1 hq1 => ⟨_, rfl, _, rfl, by show 2 ≤ sizeLine; decide, fun q2 hq2 => ?_⟩⟩
            have l1 : PyData.strOk e.1 = true := strOk_low (fun c hc => low c (o.s1 c hc)) (by decide)
            have l2 : PyData.strOk e.2.1 = true := strOk_low (fun c hc => low c (o.s2 c hc)) (by decide)
            have lu' : PyData.strOk u = true := strOk_low (fun c hc => low c (su c hc)) (by decide)
            have lv' : PyData.strOk v = true := strOk_low (fun c hc => low c (sv c hc)) (by decide)
            have shp : ∀ {a b : Str}, PyData.strOk a = true → PyData.strOk b = true → SeqAt.shaped (.tuple [.str a, .str b]) = true := fun {a b} h1 h2 => (Sh.tup (n := 0) fun x hx => by
              rcases List.mem_cons.mp hx with rfl | hx
              · exact Sh.str h1
              · rw [List.mem_singleton.mp hx]; exact Sh.str h2).ok (by decide)
            refine ⟨.tuple [.str e.1, .str e.2.1], .tuple [.str u, .str v], .tup (SqT.of (Same.upd hq2 _ _ upd_same)) (.cons (.str _) (.cons (.str _) .nil)), .tup (SqT.of upd_same) (.cons (.str _) (.cons (.str _) .nil)), shp l1 l2, shp lu' lv', _, rfl, ?_⟩
            have sX : Same H9 (upd (upd H9 q1 (.tup (cutV [.str e.1, .str e.2.1, .int e.2.2] none (some 2)))) q2 (.tup [.str u, .str v])) := fun b o z => Same.upd hq2 _ _ (Same.upd hq1 _ _ z)
            have tk : R.take (j + 1) = R.take j ++ [e] := by rw [List.take_add_one, he]; rfl
            rw [eqvP]
            by_cases ce : (e.1, e.2.1) = (u, v)
            · refine ifT ce ⟨_, rfl, acc, sX _ _ hacc, by rw [sizeLine_eq]; omega, fun b o z => ?_, acc ++ [.ref a], upd_same, by rw [List.length_append]; exact Nat.succ_le_succ la, fun z => (by simp at z)⟩
              rw [upd_ne (ne_of_none z hDR)]
              exact sX _ _ (s9 _ _ z)
            · refine ifF ce ⟨s9.trans sX, acc, sX _ _ hacc, by omega, fun z e' he' => ?_⟩
              rw [tk] at he'
              rcases List.mem_append.mp he' with h | h
              · exact no z e' h
              · rw [List.mem_singleton.mp h]; exact ce
          rintro H9 ⟨s9, acc, hacc, la, no⟩
          refine ⟨by show 0 ≤ sizeLine; decide, fun E0 hE0 => ⟨DR, E0, acc, rfl, rfl, SqL.of (Same.upd hE0 _ _ hacc), SqL.of upd_same, _, rfl, ?_⟩⟩
          have sE : Same H8 (upd H9 E0 (.lst [])) := fun b o z => Same.upd hE0 _ _ (s9 _ _ z)
          cases acc with
          | cons v0 acc => exact iteF (stay _ sE)
          | nil =>
            have new := no rfl
            rw [lR, List.take_length] at new
            have okE : OkEd sg (u, v, pr) := ⟨by show u.cps.size ≤ 3; omega, by show v.cps.size ≤ 3; omega, su, sv, fun z => cuv (congrArg V.str z), pr0, pr1⟩
            refine iteT ⟨_, rfl, .inl ⟨rfl, _, SqL.of (sE _ _ h8)⟩, _, rfl, _, rfl, _, rfl, by show 3 ≤ sizeLine; decide, fun q3 hq3 => ?_⟩
            have h9 := Same.upd (o := .tup [.str u, .str v, .int pr]) hq3 _ _ (sE _ _ h8)
            refine ⟨r, _, _, rfl, rfl, h9, by rw [sizeLine_eq]; omega, rv ++ [.ref q3], R ++ [(u, v, pr)], _, _, _, _, rfl, upd_same, edsN (e := (u, v, pr)) hq3 (sE _ _ h8) (edsS sE pR8), ok.more okE new (by omega), ((pen8.keep (sE.trans (Same.upd hq3))).put apr.1 apr.2).mono (by omega), fun b o e nb => ?_⟩
            rw [upd_ne (ne_of_none e hrH)]
            exact Same.upd hq3 _ _ (sE _ _ (sbC b o e nb))
        · exact ifF lt (iteF (stay _ (Same.refl _)))
      · rintro σ H4 ⟨rv, R, o7, o8, o9, o10, rfl, h4, pR, ok, pen4, sb4⟩
        have : tn < most := by omega
        exact ⟨_, rfl, k r rv R H4 hrH h4 pR ok (pen4.mono (by omega)) sb4⟩
end
end Kx

namespace Kx
open PySem L2 Own
abbrev s_law : Stmt := top 49
structure LwAd where
  fc : Addr
  dc : FuncData
  fr : Addr
  dr : FuncData
  fb : Addr
  db : FuncData
structure TxtW (K : PySem.W.Frag) (mg : Str → Option Value) (B : EdAd) (Z : ZAd) (G : GAd) (Y : WAd) (J : JAd) (U : RAd) (W : ErAd) (A : LeAd) (F : LwAd) (L : LAd) (f : Addr) (d : FuncData) : Prop where
  tD : TxtD K mg B
  tR : TxtR K mg B Z G Y J U
  tW : TxtEr K mg W
  tS : TxtL K mg L
  tA : TxtLe K mg A
  tC : TxtCg K mg W.f1 W.f2 W.f3 F.fc W.d1 W.d2 W.d3 F.dc
  tB : TxtBr K mg A.fi A.di F.fr F.dr
  tE : TxtBe K mg W.f1 W.f2 W.f3 W.d1 W.d2 W.d3 F.fb F.db
  D_law : DefT K mg "law" "law" s_law ["script"] f d
  n_range : mg "range" = none
  n_min : mg "min" = none
  n_max : mg "max" = none
  n_len : mg "len" = none
def spLaw (K : PySem.W.Frag) : Sp := fun vs H Q _ => ∃ (a : Addr) (ns : List Int), vs = [.ref a] ∧ SqL K H a (ns.map V.int) ∧ ns.length ≤ 63 ∧ ∀ H', Q (.bl true) H'
abbrev Nlaw : List Str := ["script", "pen", "turn", "signs", "rows", "edits", "x", "y", "due", "k", "told", "places", "again", "bent"]
theorem sc_law : FnScope Nlaw ["script"] (defScope s_law) := ⟨rfl, rfl, rfl, by decide +kernel, rfl, by decide +kernel, by decide +kernel⟩
theorem EdAt.pen {C p c : Addr} {n : Nat} {H H' : Hp} {m : Addr} {sg : Str} {R : List Ed} (pn : PenAt H p c n) (s : SameBut p H H') (h : EdAt C H m sg R) : EdAt C H' m sg R := by
  obtain ⟨dx, r, rv, h1, h2, h3⟩ := h
  refine ⟨dx, r, rv, s _ _ h1 ?_, s _ _ h2 (pn.neT h2), edsB pn s h3⟩
  obtain ⟨ns, q, l, h, _⟩ := pn
  exact ne_of h1 h (by intro z; cases z)
/-- a nodup list of small pairs is short -/
theorem len_le {α : Type} [DecidableEq α] : ∀ {l m : List α}, l.Nodup → (∀ a ∈ l, a ∈ m) → l.length ≤ m.length
  | [], _, _, _ => Nat.zero_le _
  | a :: l, m, nd, h => by
    obtain ⟨na, nd⟩ := List.nodup_cons.mp nd
    have ha := h a List.mem_cons_self
    have r := len_le (m := m.erase a) nd fun b hb => (List.mem_erase_of_ne fun e => na (by rw [← e]; exact hb)).mpr (h b (List.mem_cons_of_mem _ hb))
    rw [List.length_erase_of_mem ha] at r
    have : 0 < m.length := List.length_pos_of_mem ha
    rw [List.length_cons]
    omega
def smallP (L : Pl) : Prop := ∀ q ∈ L, 0 ≤ q.1.1 ∧ q.1.1 ≤ 8 ∧ 0 ≤ q.1.2 ∧ q.1.2 ≤ 24
theorem small_len {L : Pl} (nd : (L.map (·.1)).Nodup) (s : smallP L) : L.length ≤ 225 := by
  have h := len_le (l := L.map (·.1)) (m := prs.map fun p => (((p.1 : Nat) : Int), ((p.2 : Nat) : Int))) nd fun p hp => by
    obtain ⟨q, hq, rfl⟩ := List.mem_map.mp hp
    obtain ⟨h1, h2, h3, h4⟩ := s q hq
    obtain ⟨i, hi⟩ := Int.eq_ofNat_of_zero_le h1
    obtain ⟨j, hj⟩ := Int.eq_ofNat_of_zero_le h3
    exact List.mem_map.mpr ⟨(i, j), mem_prs (by omega) (by omega), Prod.ext hi.symm hj.symm⟩
  rw [List.length_map, List.length_map] at h
  exact Nat.le_trans h (by decide +kernel)
/-- places that can be bent -/
structure Pla (H : Hp) (a : Addr) (L : Pl) : Prop where
  h : H a = some (.dT (kvP L))
  nd : (L.map (·.1)).Nodup
  small : smallP L
  some : 0 < L.length
theorem kvP_of : ∀ {fk : List (List L2.Key × V)}, (∀ kv ∈ fk, ∃ (p : Int × Int) (n : Int), kv = (plKI p, V.int n)) → ∃ L : Pl, fk = kvP L
  | [], _ => ⟨[], rfl⟩
  | kv :: fk, h => by
    obtain ⟨L, e⟩ := kvP_of (fk := fk) fun kv' h' => h kv' (List.mem_cons_of_mem _ h')
    obtain ⟨p, n, e'⟩ := h kv List.mem_cons_self
    exact ⟨(p, n) :: L, by rw [e, e']; rfl⟩
theorem valV_mem {κ : Type} [DecidableEq κ] : ∀ {kvs : List (κ × V)}, (kvs.map (·.1)).Nodup → ∀ {kv : κ × V}, kv ∈ kvs → valV kvs kv.1 = Option.some kv.2
  | [], _, _, h => nomatch h
  | r :: kvs, nd, kv, h => by
    obtain ⟨nq, nd⟩ := List.nodup_cons.mp nd
    unfold valV
    rw [List.find?_cons]
    rcases List.mem_cons.mp h with e | h
    · rw [e, decide_eq_true rfl]; rfl
    · by_cases e : r.1 = kv.1
      · exact absurd (List.mem_map.mpr ⟨kv, h, e.symm⟩) nq
      · rw [decide_eq_false e]
        exact valV_mem nd h
theorem least_pla {sg x y : Str} {R : List Ed} (ok : OkRows sg R) (xl : x.cps.size ≤ 8) (yl : y.cps.size ≤ 24) {fk : List (List L2.Key × V)} (nd : (fk.map (·.1)).Nodup) (pd : PlD fk (Dag.run (lawE R x y) (Dag.tri (x.cps.size + y.cps.size)))) {H : Hp} {a : Addr} (h : H a = some (.dT fk)) : ∃ L, Pla H a L := by
  have each : ∀ kv ∈ fk, ∃ i j : Nat, kv.1 = plK i j ∧ i ≤ 8 ∧ j ≤ 24 ∧ ∃ n : Int, kv.2 = V.int n := fun kv hk => by
    obtain ⟨i, j, e⟩ := pd.2 kv hk
    have v := valV_mem nd hk
    rw [e, pd.1] at v
    obtain ⟨w, hw, ew⟩ := Option.map_eq_some_iff.mp v
    obtain ⟨i', j', e', hi, hj⟩ := law_in ok hw
    obtain ⟨rfl, rfl⟩ := Dag.idx_inj e'
    exact ⟨i, j, e, by omega, by omega, w, ew.symm⟩
  obtain ⟨L, rfl⟩ := kvP_of (fk := fk) fun kv hk => by
    obtain ⟨i, j, e, _, _, n, en⟩ := each kv hk
    exact ⟨(((i : Nat) : Int), ((j : Nat) : Int)), n, Prod.ext e en⟩
  refine ⟨L, h, kvP_nd.mp nd, fun q hq => ?_, ?_⟩
  · obtain ⟨i, j, e, hi, hj, _⟩ := each (plKI q.1, .int q.2) (List.mem_map.mpr ⟨q, hq, rfl⟩)
    have e := plKI_inj (p := q.1) (q := (((i : Nat) : Int), ((j : Nat) : Int))) e
    rw [e]
    dsimp only
    omega
  · have z := pd.1 0 0
    have lo := Dag.run_least (Dag.diagE_fw (x := x.cps.toList) (y := y.cps.toList) (rows_ne ok)) (n := Dag.tri (x.cps.size + y.cps.size)) (q := 0) (Nat.zero_le _)
    cases hr : Dag.run (Dag.diagE (R.map toL) x.cps.toList y.cps.toList) (Dag.tri (x.cps.size + y.cps.size)) 0 with
    | none => rw [hr] at lo; exact absurd .start (lo 0)
    | some v =>
      have z : valV (kvP L) (plK 0 0) = (Dag.run (lawE R x y) (Dag.tri (x.cps.size + y.cps.size)) 0).map V.int := z
      rw [show Dag.run (lawE R x y) (Dag.tri (x.cps.size + y.cps.size)) 0 = Option.some v from hr] at z
      cases L with
      | nil => cases z
      | cons q L => exact Nat.succ_pos _
theorem told_pla {sg x y : Str} {R : List Ed} {k : Int} (ok : OkRows sg R) (k0 : 0 ≤ k) (xl : x.cps.size ≤ 8) (yl : y.cps.size ≤ 24) {ys : List Nat} (nd : ys.Nodup) (hys : ∀ q, q ∈ ys ↔ (wK sg R x y k q).isSome = true) {H : Hp} {a : Addr} (h : H a = some (.dT (kvP (toldP sg R x y k ys)))) : Pla H a (toldP sg R x y k ys) := by
  refine ⟨h, told_nd nd, fun q hq => ?_, ?_⟩
  · obtain ⟨h1, h2, h3, h4, _⟩ := told_in ok k0 hys q hq
    omega
  · have := told_look nd hys (i := 0) (j := 0) (Nat.zero_le _)
    rw [Nat.zero_mul, wK_start ok k0] at this
    exact List.length_pos_of_mem (mem_lookP this)
/-- no weight is above what its texts can bear -/
theorem ch_le {sg : Str} {R : List Ed} (ok : OkRows sg R) {a b : List Nat} {w : Int} (h : Dag.Ch (SdP sg R) a b w) : 0 ≤ w ∧ w ≤ ((a.length + b.length : Nat) : Int) * MW := by
  induction h with
  | nil => exact ⟨Int.le_refl _, by rw [List.length_nil]; decide⟩
  | snoc _ s ih =>
    rename_i xs ys u v w c _
    rw [sdP_iff] at s
    rw [List.length_append, List.length_append]
    rcases s with ⟨a, _, rfl, rfl, rfl⟩ | ⟨e, he, h⟩
    · rw [List.length_singleton]
      have : ((xs.length + 1 + (ys.length + 1) : Nat) : Int) * MW = ((xs.length + ys.length : Nat) : Int) * MW + 2 * MW := by
        rw [show xs.length + 1 + (ys.length + 1) = (xs.length + ys.length) + 2 by omega, Int.natCast_add, Int.add_mul]
        rfl
      rw [this]
      have m0 : (0 : Int) ≤ 2 * MW := by decide
      omega
    · have h1 := (Prod.mk.inj h).1
      have h2 := (Prod.mk.inj (Prod.mk.inj h).2)
      have c0 := (ok.ok e he).w0
      have c1 := (ok.ok e he).w1
      rw [show e.2.2 = c from h2.2] at c0 c1
      have pos : 1 ≤ u.length + v.length := by
        rcases rows_ne ok (toL e) (List.mem_map_of_mem he) with z | z
        · have z : e.1.cps.toList ≠ [] := z
          rw [h1] at z
          have := List.length_pos_iff.mpr z
          omega
        · have z : e.2.1.cps.toList ≠ [] := z
          rw [h2.1] at z
          have := List.length_pos_iff.mpr z
          omega
      have : ((xs.length + u.length + (ys.length + v.length) : Nat) : Int) * MW = ((xs.length + ys.length : Nat) : Int) * MW + ((u.length + v.length : Nat) : Int) * MW := by
        rw [show xs.length + u.length + (ys.length + v.length) = (xs.length + ys.length) + (u.length + v.length) by omega, Int.natCast_add, Int.add_mul]
      rw [this]
      have m1 : MW ≤ ((u.length + v.length : Nat) : Int) * MW := by
        have := Int.mul_le_mul_of_nonneg_right (show (1 : Int) ≤ ((u.length + v.length : Nat) : Int) by omega) (show (0 : Int) ≤ MW by decide)
        rwa [Int.one_mul] at this
      omega
theorem due_le {sg x y : Str} {R : List Ed} (ok : OkRows sg R) (xl : x.cps.size ≤ 8) (yl : y.cps.size ≤ 24) {w : Int} (h : IsW sg R x y (some w)) : 0 ≤ w ∧ w ≤ 10000000000000000000000000000000000000000 := by
  obtain ⟨h1, h2⟩ := ch_le ok h.1
  rw [Array.length_toList, Array.length_toList] at h2
  refine ⟨h1, Int.le_trans h2 (Int.le_trans (Int.mul_le_mul_of_nonneg_right (show ((x.cps.size + y.cps.size : Nat) : Int) ≤ 32 by omega) (by decide)) (by decide))⟩
/-- the two bounds at the weight -/
theorem ks_two {σ : L2.St} {H : Hp} {due : Option Int} {F : VK} (h8 : σ[8]? = some (some (wtV due))) (hd : ∀ w, due = some w → 0 ≤ w ∧ w ≤ 10000000000000000000000000000000000000000)
    (k : ∀ l (ks : List Int) H', Same H H' → H' l = some (.lst (ks.map V.int)) → (∀ v ∈ ks, 0 ≤ v ∧ v ≤ 10000000000000000000000000000000000000000) → ks.length ≤ 2 → F (.ref l) H') :
    tIf (tTest (tOp (fun x y H Q => y = V.non ∧ Q (V.bl (decide (x = V.non))) H) (tVar 8) (tC V.non))) (tLst tNil) (tLst (tCons (tVar 8) (tCons (tCB (fun xs H Q => ∃ i j, xs = [.int i, .int j] ∧ Q (.int (if j > i then j else i)) H) (tCons (tC (.int 0)) (tCons (tOp (rI0 fun i j => .int (i - j)) (tVar 8) (tC (.int 1))) tNil))) tNil))) σ H F := by
  cases due with
  | none =>
    refine ⟨_, h8, rfl, _, rfl, iteT ⟨by show 0 ≤ sizeLine; decide, fun l hl => ?_⟩⟩
    exact k l [] _ (Same.upd hl) upd_same (fun v hv => nomatch hv) (by decide)
  | some w =>
    obtain ⟨w0, w1⟩ := hd w rfl
    refine ⟨_, h8, rfl, _, rfl, iteF ⟨_, h8, _, h8, _, _, rfl, rfl, _, _, rfl, by show 2 ≤ sizeLine; decide, fun l hl => ?_⟩⟩
    refine k l [w, if w - 1 > 0 then w - 1 else 0] _ (Same.upd hl) upd_same (fun v hv => ?_) (by show 2 ≤ 2; decide)
    rcases List.mem_cons.mp hv with rfl | hv
    · exact ⟨w0, w1⟩
    · rw [List.mem_singleton.mp hv]
      split <;> omega
/-- what stands while one bound is looked at -/
structure Ws (CZ : Addr) (H : Hp) (sg : Str) (R : List Ed) (m ra : Addr) (rv : List V) : Prop where
  e : EdAt CZ H m sg R
  r : H ra = some (.lst rv)
  p : Paired (EdT H) rv R
section
variable {CZ : Addr} {H H' : Hp} {sg : Str} {R : List Ed} {m ra : Addr} {rv : List V}
theorem Ws.same (s : Same H H') (h : Ws CZ H sg R m ra rv) : Ws CZ H' sg R m ra rv := ⟨h.e.keep s, s _ _ h.r, edsS s h.p⟩
theorem Ws.pen {p c : Addr} {n : Nat} (pn : PenAt H p c n) (s : SameBut p H H') (h : Ws CZ H sg R m ra rv) : Ws CZ H' sg R m ra rv := ⟨h.e.pen pn s, s _ _ h.r (pn.ne h.r), edsB pn s h.p⟩
end
section
variable {P : Program} {w : World} {K : PySem.W.Frag} {mg : Str → Option Value} {base : Heap} {B : EdAd} {Z : ZAd} {G : GAd} {Y : WAd} {J : JAd} {U : RAd} {W : ErAd} {A : LeAd} {F : LwAd} {L : LAd} {f : Addr} {d : FuncData}
theorem ok_law (T : TxtW K mg B Z G Y J U W A F L f d) : FnOk P w K mg base CX0 9 f d ["script"] (spLaw K) := by
  have sc := sc_law
  have G_pen : FnOk P w K mg base CX0 1 W.f1 W.d1 ["script"] (spPen K) := ok_pen T.tW.tx.pen
  have G_draw : FnOk P w K mg base CX0 1 W.f2 W.d2 ["pen", "many"] spDraw := ok_draw T.tW.tx.pen
  have G_signs : FnOk P w K mg base CX0 2 L.f1 L.d1 ["pen", "many"] spSigns := ok_signs T.tS
  have G_text : FnOk P w K mg base CX0 3 W.ft W.dt ["pen", "signs", "most"] spText := ok_text T.tW.tx
  have G_er : FnOk P w K mg base CX0 4 W.f W.d ["pen", "signs", "most"] (spEr K) := ok_edit_rows T.tW
  have G_cg : FnOk P w K mg base CX0 3 F.fc F.dc ["pen", "signs", "rows", "text"] (spCg K) := ok_changed T.tC
  have G_ei : FnOk P w K mg base CX0 6 Z.f Z.d ["self", "signs", "rows"] (spEd Z) := ok_einit T.tD T.tR.tZ.zz
  have G_lw : FnOk P w K mg base CX0 3 A.fw A.dw ["rows", "x", "y"] spLw := ok_lweight T.tA
  have G_le : FnOk P w K mg base CX0 2 A.fl A.dl ["rows", "x", "y"] spLe := ok_least T.tA
  have G_bar : FnOk P w K mg base CX0 5 U.fb U.db ["edits", "x", "y", "k"] (spBa Z) := ok_bar T.tR
  have G_ib : FnOk P w K mg base CX0 5 U.fi U.di ["edits", "x", "y", "k", "places"] (spIb Z) := ok_isbar T.tR
  have G_br : FnOk P w K mg base CX0 2 F.fr F.dr ["rows", "x", "y", "k", "places"] spBr := ok_right T.tB
  have G_be : FnOk P w K mg base CX0 3 F.fb F.db ["pen", "places", "x", "y"] spBe := ok_bent T.tE
  refine T.D_law.F.ok sc (fun vs H Q E h => ?_) (fun cdv A1 outer s H vs Q E hr h => ?_)
  · obtain ⟨_, _, rfl, _⟩ := h; rfl
  · obtain ⟨sa, ns, rfl, hS, hl, kQ⟩ := h
    refine ⟨_, (pss_cons (ps_set (i := 1) sc.nd rfl (Or.inl rfl) (pe_call G_pen (hr.mono (by decide)) rfl T.tW.tx.pen.D__law_pen.g T.tW.tx.pen.D__law_pen.F.kp T.tW.tx.pen.D__law_pen.b .nil pass0 (pa_cons (pv 0) pa_nil)))
      (pss_cons (ps_for PassesOwn.never rfl (pi_range1 rfl T.n_range (pa_cons (pe_op op_add pe_int (pe_callB (call_min2 rfl) (by rfl) T.n_min (by decide +kernel) (pa_cons pe_int (pa_cons (pe_callB call_len (by rfl) T.n_len (by decide +kernel) (pa_cons (pv 0) pa_nil)) pa_nil)))) pa_nil)) (pg_name (i := 2) sc.nd rfl (Or.inl rfl))
      (pss_cons (ps_set (i := 3) sc.nd rfl (Or.inl rfl) (pe_call G_signs (hr.mono (by decide)) rfl T.tS.D__law_signs.g T.tS.D__law_signs.F.kp T.tS.D__law_signs.b .nil pass0 (pa_cons (pv 1) (pa_cons (pe_op op_add pe_int (pe_call G_draw (hr.mono (by decide)) rfl T.tW.tx.pen.D__law_draw.g T.tW.tx.pen.D__law_draw.F.kp T.tW.tx.pen.D__law_draw.b .nil pass0 (pa_cons (pv 1) (pa_cons pe_int pa_nil)))) pa_nil))))
      (pss_cons (ps_set (i := 4) sc.nd rfl (Or.inl rfl) (pe_call G_er (hr.mono (by decide)) rfl T.tW.D.g T.tW.D.F.kp T.tW.D.b .nil pass0 (pa_cons (pv 1) (pa_cons (pv 3) (pa_cons pe_int pa_nil)))))
      (pss_cons (ps_par (i := 5) (j := 6) rfl sc.nd rfl rfl (by decide) rfl rfl (pa_cons (pe_make T.tR.tZ.zz.make G_ei (hr.mono (by decide)) rfl T.tR.tZ.zz.g T.tR.tZ.zz.b .nil pass0 (pa_cons (pv 3) (pa_cons (pv 4) pa_nil))) (pa_cons (pe_call G_text (hr.mono (by decide)) rfl T.tW.tx.D__law_text.g T.tW.tx.D__law_text.F.kp T.tW.tx.D__law_text.b .nil pass0 (pa_cons (pv 1) (pa_cons (pv 3) (pa_cons pe_int pa_nil)))) pa_nil)) rfl)
      (C8.pss_cut (ps_set (i := 7) sc.nd rfl (Or.inl rfl) (pe_ifExp (pt_cmpR op_eq (pe_call G_draw (hr.mono (by decide)) rfl T.tW.tx.pen.D__law_draw.g T.tW.tx.pen.D__law_draw.F.kp T.tW.tx.pen.D__law_draw.b .nil pass0 (pa_cons (pv 1) (pa_cons pe_int pa_nil))) pe_int (nomark _)) (pe_call G_cg (hr.mono (by decide)) rfl T.tC.D.g T.tC.D.F.kp T.tC.D.b .nil pass0 (pa_cons (pv 1) (pa_cons (pv 3) (pa_cons (pv 4) (pa_cons (pv 6) pa_nil))))) (pe_call G_text (hr.mono (by decide)) rfl T.tW.tx.D__law_text.g T.tW.tx.D__law_text.F.kp T.tW.tx.D__law_text.b .nil pass0 (pa_cons (pv 1) (pa_cons (pv 3) (pa_cons pe_int pa_nil))))))
      (pss_cons (ps_set (i := 8) sc.nd rfl (Or.inl rfl) (pe_call G_lw (hr.mono (by decide)) rfl T.tA.D_weight.g T.tA.D_weight.F.kp T.tA.D_weight.b .nil pass0 (pa_cons (pv 4) (pa_cons (pv 6) (pa_cons (pv 7) pa_nil)))))
      (pss_one (ps_for PassesOwn.never rfl (pi_list (pe_op op_cat (pe_lst (pa_cons pe_int (pa_cons pe_int (pa_cons pe_int (pa_cons (pe_op op_pow pe_int pe_int) pa_nil))))) (pe_ifExp (pt_cmpR op_isN (pv 8) pe_non (nomark _)) (pe_lst pa_nil) (pe_lst (pa_cons (pv 8) (pa_cons (pe_callB (call_max2 rfl) (by rfl) T.n_max (by decide +kernel) (pa_cons pe_int (pa_cons (pe_op op_sub (pv 8) pe_int) pa_nil))) pa_nil)))))) (pg_name (i := 9) sc.nd rfl (Or.inl rfl))
      (C8.pss_cut (ps_set (i := 10) sc.nd rfl (Or.inl rfl) (pe_call G_bar (hr.mono (by decide)) rfl T.tR.D_bar.g T.tR.D_bar.F.kp T.tR.D_bar.b .nil pass0 (pa_cons (pv 5) (pa_cons (pv 6) (pa_cons (pv 7) (pa_cons (pv 9) pa_nil))))))
      (C8.pss_cut (ps_if (pt_cmpR op_ne (pe_cmpR op_isN (pv 10) pe_non (nomark _)) (pe_and (pe_cmpR op_notN (pv 8) pe_non (nomark _)) (pe_one (pe_cmpR op_le (pv 8) (pv 9) (nomark _)))) (nomark _)) (pss_one (ps_ret pe_bl)) pss_nil)
      (C8.pss_cut (ps_if (pt_cmpR op_notN (pv 10) pe_non (nomark _)) (pss_one (ps_if (PW.pt (pw_or (pt_not (pt_val (pe_call G_br (hr.mono (by decide)) rfl T.tB.D_right.g T.tB.D_right.F.kp T.tB.D_right.b .nil pass0 (pa_cons (pv 4) (pa_cons (pv 6) (pa_cons (pv 7) (pa_cons (pv 9) (pa_cons (pv 10) pa_nil)))))))) (pw_or1 (pt_cmpR op_isnotBl (pe_call G_ib (hr.mono (by decide)) rfl T.tR.D_isbar.g T.tR.D_isbar.F.kp T.tR.D_isbar.b .nil pass0 (pa_cons (pv 5) (pa_cons (pv 6) (pa_cons (pv 7) (pa_cons (pv 9) (pa_cons (pv 10) pa_nil)))))) pe_bl (nomark _))))) (pss_one (ps_ret pe_bl)) pss_nil)) pss_nil)
      (C8.pss_cut (ps_set (i := 11) sc.nd rfl (Or.inl rfl) (pe_ifExp (pt_cmpR op_isN (pv 10) pe_non (nomark _)) (pe_call G_le (hr.mono (by decide)) rfl T.tA.D_least.g T.tA.D_least.F.kp T.tA.D_least.b .nil pass0 (pa_cons (pv 4) (pa_cons (pv 6) (pa_cons (pv 7) pa_nil)))) (pv 10)))
      (pss_cons (ps_know (ps_for PassesOwn.never rfl (pi_range1 rfl T.n_range (pa_cons pe_int pa_nil)) (pg_name (i := 12) sc.nd rfl (Or.inl rfl))
      (pss_cons (ps_set (i := 13) sc.nd rfl (Or.inl rfl) (pe_call G_be (hr.mono (by decide)) rfl T.tE.D_bent.g T.tE.D_bent.F.kp T.tE.D_bent.b .nil pass0 (pa_cons (pv 1) (pa_cons (pv 11) (pa_cons (pv 6) (pa_cons (pv 7) pa_nil))))))
      (pss_one (ps_if (pt_cmpR op_ne (pe_call G_ib (hr.mono (by decide)) rfl T.tR.D_isbar.g T.tR.D_isbar.F.kp T.tR.D_isbar.b .nil pass0 (pa_cons (pv 5) (pa_cons (pv 6) (pa_cons (pv 7) (pa_cons (pv 9) (pa_cons (pv 13) pa_nil)))))) (pe_call G_br (hr.mono (by decide)) rfl T.tB.D_right.g T.tB.D_right.F.kp T.tB.D_right.b .nil pass0 (pa_cons (pv 4) (pa_cons (pv 6) (pa_cons (pv 7) (pa_cons (pv 9) (pa_cons (pv 13) pa_nil)))))) (nomark _)) (pss_one (ps_ret pe_bl)) pss_nil)))))
      (pss_one (ps_if (pt_cmpR op_isnotBl (pe_call G_ib (hr.mono (by decide)) rfl T.tR.D_isbar.g T.tR.D_isbar.F.kp T.tR.D_isbar.b .nil pass0 (pa_cons (pv 5) (pa_cons (pv 6) (pa_cons (pv 7) (pa_cons (pv 9) (pa_cons pe_dnewT pa_nil)))))) pe_bl (nomark _)) (pss_one (ps_ret pe_bl)) pss_nil)))))))))))))))
      (pss_one (ps_ret pe_bl)))), ?_⟩
    refine ⟨_, rfl, sa, ns, rfl, hS, hl, fun p c H1 hp s1 pen1 => ?_⟩
    have hS1 := s1.seq hS
    refine ⟨_, rfl, .ref sa, ns.length, rfl, .inl ⟨_, hS1, by rw [List.length_map]⟩, _, _, rfl, _, _, rfl, rfl, ?_⟩
    have hm0 : 0 ≤ (if (ns.length : Int) < 4 then (ns.length : Int) else 4) ∧ (if (ns.length : Int) < 4 then (ns.length : Int) else 4) ≤ 4 := by
      split <;> omega
    generalize (if (ns.length : Int) < 4 then (ns.length : Int) else 4) = m at hm0 ⊢
    refine ⟨_, rfl, by omega, by omega, ?_⟩
    clear hS1 s1 hS
    refine for_range (lo := 0) (n := (4 + m).toNat) (fun i σ H' => (∃ o2 o3 o4 o5 o6 o7 o8 o9 o10 o11 o12 o13 : Option V, σ = [some (.ref sa), some (.ref p), o2, o3, o4, o5, o6, o7, o8, o9, o10, o11, o12, o13]) ∧ PenAt H' p c (2000 * i)) ⟨⟨none, none, none, none, none, none, none, none, none, none, none, none, rfl⟩, pen1⟩ ?_ ?_
    · rintro i σ H2 hi ⟨⟨o2, o3, o4, o5, o6, o7, o8, o9, o10, o11, o12, o13, rfl⟩, pen2⟩
      refine ⟨_, rfl, _, rfl, p, c, 4, 2000 * i, rfl, pen2, by omega, by decide, by decide, fun r H3 r0 r1 pen3 sb3 => ?_⟩
      obtain ⟨r, rfl⟩ := Int.eq_ofNat_of_zero_le r0
      refine ⟨_, _, rfl, rfl, p, c, 1 + r, 2000 * i + 1, by rw [Int.natCast_add]; rfl, pen3, by omega, by omega, fun sg H4 zs nd al pen4 sb4 => ?_⟩
      have z4 : sg.cps.size ≤ 4 := by omega
      have z0 : 0 < sg.cps.size := by omega
      have lowA : ∀ c ∈ alpha, c < 128 := by decide +kernel
      have low : ∀ c ∈ sg.cps.toList, c < 128 := fun c hc => lowA c (al c hc)
      refine ⟨_, rfl, _, rfl, p, c, sg, 6, 2000 * i + 1 + (1 + r), rfl, pen4, by omega, by decide, by decide, z0, z4, nd, low, fun ra rv R H5 hra hrv pR ok pen5 sb5 => ?_⟩
      have pen5 := pen5.mono (show _ ≤ 2000 * i + 200 by omega)
      clear pen2 pen3 pen4 sb3 sb4 sb5 hra
      -- edits, x
      refine ⟨_, rfl, _, rfl, ?_⟩
      intro mE dxE hmE hdxE nE
      refine ed_made hmE hdxE hrv pR ok fun H6 s6 at6 => ⟨rfl, ?_⟩
      have pen6 := pen5.keep s6
      refine ⟨_, rfl, _, rfl, p, c, sg, 8, _, rfl, pen6, by decide, by omega, z0, by omega, fun x H7 xl sx pen7 sb7 => ?_⟩
      have w7 := (Ws.mk at6 (s6 _ _ hrv) (edsS s6 pR)).pen pen6 sb7
      clear at6 s6 sb7 pen6 pen5 hrv pR hmE hdxE nE
      refine ⟨_, _, rfl, ?_⟩
      -- y
      refine ⟨fun σ H' => ∃ y : Str, σ = [some (.ref sa), some (.ref p), some (.int (0 + (i : Nat))), some (.str sg), some (.ref ra), some (.ref mE), some (.str x), some (.str y), o8, o9, o10, o11, o12, o13] ∧ y.cps.size ≤ 24 ∧ (∀ c ∈ y.cps.toList, c ∈ sg.cps.toList) ∧ PenAt H' p c (2000 * i + 330) ∧ SameBut p H7 H', ?_, ?_⟩
      · refine ⟨_, rfl, p, c, 2, _, rfl, pen7, by omega, by decide, by decide, fun r2 H8 _ _ pen8 sb8 => ⟨rfl, _, rfl, ?_⟩⟩
        have w8 := w7.pen pen7 sb8
        by_cases c0 : V.int r2 = V.int 0
        · refine ifT c0 ⟨_, rfl, _, rfl, _, rfl, _, rfl, p, c, ra, sg, x, rv, R, _, rfl, pen8, by omega, w8.r, w8.p, ok, by omega, sx, fun y H9 yl sy pen9 sb9 => ⟨y, rfl, by omega, sy, pen9.mono (by omega), sb8.trans sb9⟩⟩
        · refine ifF c0 ⟨_, rfl, _, rfl, p, c, sg, 8, _, rfl, pen8, by decide, by omega, z0, by omega, fun y H9 yl sy pen9 sb9 => ⟨y, rfl, by omega, sy, pen9.mono (by omega), sb8.trans sb9⟩⟩
      rintro σ H8 ⟨y, rfl, yl, sy, pen8, sb8⟩
      have w8 := w7.pen pen7 sb8
      clear pen7 w7 sb8
      -- due
      refine ⟨_, rfl, _, rfl, _, rfl, ra, rv, R, sg, x, y, rfl, w8.r, w8.p, ok, by omega, by omega, sx, fun due H9 s9 iw => ?_⟩
      have pen9 := pen8.keep s9
      have w9 := w8.same s9
      have hd : ∀ w, due = some w → 0 ≤ w ∧ w ≤ 10000000000000000000000000000000000000000 := fun w e => due_le ok xl yl (by rw [← e]; exact iw)
      clear pen8 w8 s9
      have pw40 : (10 : Int) ^ (40 : Int).toNat = 10000000000000000000000000000000000000000 := by decide +kernel
      refine ⟨_, _, rfl, rfl, ⟨by decide, by decide, by decide⟩, ?_⟩
      dsimp (config := { proj := false }) only
      rw [pw40]
      refine ⟨by show 4 ≤ sizeLine; decide, fun l1 hl1 => ?_⟩
      have sA : Same H9 (upd H9 l1 (.lst [V.int 0, V.int 1, V.int 3, V.int 10000000000000000000000000000000000000000])) := Same.upd hl1
      have eA : (upd H9 l1 (.lst [V.int 0, V.int 1, V.int 3, V.int 10000000000000000000000000000000000000000])) l1 = some (.lst [V.int 0, V.int 1, V.int 3, V.int 10000000000000000000000000000000000000000]) := upd_same
      generalize upd H9 l1 (.lst [V.int 0, V.int 1, V.int 3, V.int 10000000000000000000000000000000000000000]) = HA at sA eA ⊢
      refine ks_two (due := due) rfl hd fun l2 ks2 HB sB eB kb2 lk2 => ?_
      refine ⟨l1, l2, _, _, rfl, rfl, sB _ _ eA, eB, by rw [List.length_map, sizeLine_eq]; show 4 + _ ≤ _; omega, fun lc hlc => ?_⟩
      obtain ⟨ks, eks, kbs, lks⟩ : ∃ ks : List Int, [V.int 0, V.int 1, V.int 3, V.int 10000000000000000000000000000000000000000] ++ ks2.map V.int = ks.map V.int ∧ (∀ v ∈ ks, 0 ≤ v ∧ v ≤ 10000000000000000000000000000000000000000) ∧ ks.length ≤ 6 := by
        refine ⟨0 :: 1 :: 3 :: 10000000000000000000000000000000000000000 :: ks2, rfl, fun v hv => ?_, by simp only [List.length_cons]; omega⟩
        rcases List.mem_cons.mp hv with rfl | hv
        · decide
        rcases List.mem_cons.mp hv with rfl | hv
        · decide
        rcases List.mem_cons.mp hv with rfl | hv
        · decide
        rcases List.mem_cons.mp hv with rfl | hv
        · decide
        exact kb2 v hv
      rw [eks]
      have sC : Same H9 (upd HB lc (.lst (ks.map V.int))) := sA.trans (sB.trans (Same.upd hlc))
      have eC : (upd HB lc (.lst (ks.map V.int))) lc = some (.lst (ks.map V.int)) := upd_same
      generalize upd HB lc (.lst (ks.map V.int)) = HC at sC eC ⊢
      have penC := pen9.keep sC
      have wC := w9.same sC
      clear sA eA sB eB hl1 hlc eks kb2 lk2 pen9 w9 sC
      have nlp := penC.ne eC
      refine ⟨lc, rfl, ⟨_, SqL.of eC⟩, ?_⟩
      refine for_it walk_list (fun j σ H' => (∃ o9' o10' o11' o12' o13' : Option V, σ = [some (.ref sa), some (.ref p), some (.int (0 + (i : Nat))), some (.str sg), some (.ref ra), some (.ref mE), some (.str x), some (.str y), some (wtV due), o9', o10', o11', o12', o13']) ∧ PenAt H' p c (2000 * i + 330 + 100 * j) ∧ SameBut p HC H') ⟨⟨o9, o10, o11, o12, o13, rfl⟩, penC, .refl _ _⟩ (fun j σ H' _ z => SqL.of (z.2.2 _ _ eC nlp)) ?_ ?_
      · rintro j v σ _ HD hj ⟨⟨o9', o10', o11', o12', o13', rfl⟩, penD, sbD⟩ ⟨rfl, hx⟩
        rw [List.getElem?_map] at hx
        obtain ⟨kb, hkb, rfl⟩ := Option.map_eq_some_iff.mp hx
        rw [List.length_map] at hj
        obtain ⟨k0, k1⟩ := kbs kb (List.mem_of_getElem? hkb)
        have wD := wC.pen penC sbD
        have ask : ∀ {H'}, Ws Z.C H' sg R mE ra rv → Asked Z.C H' mE sg x y R kb := fun w => ⟨w.e, by omega, ok, by omega, by omega, sx, sy, k0, k1⟩
        have last := wK_last (x := x) (y := y) ok k0 iw
        -- told
        let Td : V → Hp → Prop := fun o H' => (o = V.non ∧ ∃ w, due = some w ∧ w ≤ kb) ∨ ∃ D Lp, o = V.ref D ∧ (∀ w, due = some w → ¬ w ≤ kb) ∧ Pla H' D Lp ∧ Right R x y kb Lp
        let Mid : L2.St → Hp → Prop := fun σ H' => ∃ o10 : V, σ = [some (.ref sa), some (.ref p), some (.int (0 + (i : Nat))), some (.str sg), some (.ref ra), some (.ref mE), some (.str x), some (.str y), some (wtV due), some (.int kb), some o10, o11', o12', o13'] ∧ Same HD H' ∧ Td o10 H'
        refine ⟨Mid, ?_, ?_⟩
        · refine ⟨_, rfl, _, rfl, _, rfl, _, rfl, mE, sg, x, y, R, kb, rfl, ask wD, fun HE sE yes => ⟨_, rfl, sE, .inl ⟨rfl, ?_⟩⟩, fun D ys HE hD sE no ndy hys ly eD => ⟨_, rfl, sE, .inr ⟨D, _, rfl, fun w e l => ?_, told_pla ok k0 xl yl ndy hys eD, right_told ok sx k0 ndy hys no⟩⟩⟩
          · rw [last] at yes
            obtain ⟨w, hw⟩ := Option.isSome_iff_exists.mp yes
            obtain ⟨e, l⟩ := cut_eq.mp hw
            exact ⟨w, e, l⟩
          · rw [last] at no
            rw [cut_eq.mpr ⟨e, l⟩] at no
            cases no
        rintro σ HE ⟨o10, rfl, sE, td⟩
        refine ⟨Mid, ?_, ?_⟩
        · refine ⟨_, rfl, rfl, _, rfl, rfl, ?_⟩
          rcases td with ⟨rfl, w, rfl, l⟩ | ⟨D, Lp, rfl, no, pl, rt⟩
          · refine ⟨true, rfl, iteT ⟨_, rfl, _, rfl, _, _, rfl, rfl, rfl, _, rfl, ?_⟩⟩
            exact ifFn (c := V.bl (decide (V.non = V.non)) = V.bl (decide (w ≤ kb))) (by rw [decide_eq_true l]; rfl) ⟨_, rfl, sE, .inl ⟨rfl, w, rfl, l⟩⟩
          · cases due with
            | none => exact ⟨false, rfl, iteF ⟨rfl, _, rfl, iteF ⟨_, rfl, sE, .inr ⟨D, Lp, rfl, no, pl, rt⟩⟩⟩⟩
            | some w =>
              refine ⟨true, rfl, iteT ⟨_, rfl, _, rfl, _, _, rfl, rfl, rfl, _, rfl, ?_⟩⟩
              exact ifFn (c := V.bl (decide (V.ref D = V.non)) = V.bl (decide (w ≤ kb))) (by rw [decide_eq_false (no w rfl)]; rfl) ⟨_, rfl, sE, .inr ⟨D, Lp, rfl, no, pl, rt⟩⟩
        clear td sE
        rintro σ HE ⟨o10, rfl, sE, td⟩
        refine ⟨Mid, ?_, ?_⟩
        · refine ⟨_, rfl, rfl, _, rfl, ?_⟩
          rcases td with ⟨rfl, w, rfl, l⟩ | ⟨D, Lp, rfl, no, pl, rt⟩
          · exact iteF ⟨_, rfl, sE, .inl ⟨rfl, w, rfl, l⟩⟩
          · refine iteT ?_
            have wE := wD.same sE
            refine ⟨_, rfl, _, rfl, _, rfl, _, rfl, _, rfl, ra, D, rv, R, sg, x, y, kb, Lp, rfl, wE.r, wE.p, ok, by omega, by omega, pl.h, pl.nd, fun HF b sF hb => ?_⟩
            obtain rfl : b = true := hb.mpr rt
            refine ⟨_, rfl, iteF ?_⟩
            have wF := wE.same sF
            refine ⟨_, rfl, _, rfl, _, rfl, _, rfl, _, rfl, mE, D, sg, x, y, R, kb, Lp, rfl, ask wF, sF _ _ pl.h, pl.nd, Nat.le_trans (small_len pl.nd pl.small) (by decide), fun HG b sG hb => ?_⟩
            obtain rfl : b = true := hb.mpr rt
            refine ⟨true, true, rfl, rfl, _, rfl, iteF ⟨_, rfl, sE.trans (sF.trans sG), .inr ⟨D, Lp, rfl, no, ⟨sG _ _ (sF _ _ pl.h), pl.nd, pl.small, pl.some⟩, rt⟩⟩⟩
        clear td sE
        rintro σ HE ⟨o10, rfl, sE, td⟩
        -- places
        refine ⟨fun σ H' => ∃ a : Addr, σ = [some (.ref sa), some (.ref p), some (.int (0 + (i : Nat))), some (.str sg), some (.ref ra), some (.ref mE), some (.str x), some (.str y), some (wtV due), some (.int kb), some o10, some (.ref a), o12', o13'] ∧ Same HD H' ∧ ((∃ Lp, Pla H' a Lp) ∨ ∃ fk, H' a = some (.dT fk) ∧ PlD fk (Dag.run (lawE R x y) (Dag.tri (x.cps.size + y.cps.size)))), ?_, ?_⟩
        · refine ⟨_, rfl, rfl, _, rfl, ?_⟩
          rcases td with ⟨rfl, w, rfl, l⟩ | ⟨D, Lp, rfl, no, pl, rt⟩
          · have wE := wD.same sE
            refine iteT ⟨_, rfl, _, rfl, _, rfl, ra, rv, R, sg, x, y, rfl, wE.r, wE.p, ok, by omega, by omega, fun a fk HF ha sF eF pd lf => ⟨a, rfl, sE.trans sF, .inr ⟨fk, eF, pd⟩⟩⟩
          · exact iteF ⟨_, rfl, D, rfl, sE, .inl ⟨Lp, pl⟩⟩
        clear td sE
        rintro σ HE ⟨a, rfl, sE, pl⟩
        refine fun facts => ?_
        obtain ⟨Lp, pl⟩ : ∃ Lp, Pla HE a Lp := by
          rcases pl with pl | ⟨fk, eF, pd⟩
          · exact pl
          · exact least_pla ok xl yl (facts.2 a fk (.inl eF)) pd eF
        have penE := penD.keep sE
        have wE := wD.same sE
        have sbE := sbD.trans (SameBut.of sE)
        have npa := penE.neD pl.some pl.h
        have lLp := small_len pl.nd pl.small
        refine ⟨_, rfl, by omega, by omega, ?_⟩
        refine for_range (lo := 0) (n := 3) (fun n σ H' => (∃ o12'' o13'' : Option V, σ = [some (.ref sa), some (.ref p), some (.int (0 + (i : Nat))), some (.str sg), some (.ref ra), some (.ref mE), some (.str x), some (.str y), some (wtV due), some (.int kb), some o10, some (.ref a), o12'', o13'']) ∧ PenAt H' p c (2000 * i + 330 + 100 * j + 20 * n) ∧ SameBut p HE H') ⟨⟨o12', o13', rfl⟩, penE, .refl _ _⟩ ?_ ?_
        · rintro n σ HF hn ⟨⟨o12'', o13'', rfl⟩, penF, sbF⟩
          refine ⟨_, rfl, _, rfl, _, rfl, _, rfl, p, c, a, x, y, Lp, _, rfl, penF, by omega, sbF _ _ pl.h npa, pl.nd, pl.small, pl.some, by omega, by omega, by omega, fun t L' HG ht penG sbG eG nd' l' => ?_⟩
          have wG := (wE.pen penE sbF).pen penF sbG
          refine ⟨_, rfl, _, rfl, _, rfl, _, rfl, _, rfl, mE, t, sg, x, y, R, kb, L', rfl, ask wG, eG, nd', by omega, fun HI b1 sI hb1 => ?_⟩
          have wI := wG.same sI
          refine ⟨_, rfl, _, rfl, _, rfl, _, rfl, _, rfl, ra, t, rv, R, sg, x, y, kb, L', rfl, wI.r, wI.p, ok, by omega, by omega, sI _ _ eG, nd', fun HJ b2 sJ hb2 => ?_⟩
          obtain rfl : b1 = b2 := Bool.eq_iff_iff.mpr (hb1.trans hb2.symm)
          exact ⟨by cases b1 <;> rfl, _, rfl, ifFn rfl ⟨⟨_, _, rfl⟩, (penG.keep (sI.trans sJ)).mono (by omega), sbF.trans (sbG.trans (SameBut.of (sI.trans sJ)))⟩⟩
        rintro σ HF ⟨⟨o12'', o13'', rfl⟩, penF, sbF⟩
        have wF := wE.pen penE sbF
        -- no places
        refine ⟨_, rfl, _, rfl, _, rfl, _, rfl, fun e he => ?_⟩
        have sG : Same HF (upd HF e (.dT [])) := Same.upd he
        refine ⟨mE, e, sg, x, y, R, kb, [], rfl, ask (wF.same sG), upd_same, List.nodup_nil, Nat.zero_le _, fun HI b sI hb => ?_⟩
        obtain rfl : b = false := by
          cases b with
          | false => rfl
          | true => exact absurd (hb.mp rfl).1 (by intro z; cases z)
        exact ⟨false, false, rfl, rfl, _, rfl, iteF ⟨⟨_, _, _, _, _, rfl⟩, (penF.keep (sG.trans sI)).mono (by omega), sbE.trans (sbF.trans (SameBut.of (sG.trans sI)))⟩⟩
      · rintro σ HD ⟨⟨o9', o10', o11', o12', o13', rfl⟩, penD, sbD⟩
        rw [List.length_map] at penD
        exact ⟨⟨_, _, _, _, _, _, _, _, _, _, _, _, rfl⟩, penD.mono (by omega)⟩
    · rintro σ H2 _
      exact kQ _
end
end Kx

namespace Kx
open PySem L2 Own
theorem all_mk {l : PySem.W.OpenLaw} {w : World} {K : PySem.W.Frag} {h : Heap} {mg : Str → Option Value} {fa : Addr} (X : K.In h) (G : h.Ns mainGlobals mg) (hfa : mg "law" = some (.ref fa))
    {CGrid : Addr}
    {fGrid_init : Addr} {odGrid_init anGrid_init : Option Addr} {slGrid_init : Array (Option Value)} {ocGrid_init kVGrid_init dcGrid_init pmGrid_init cdGrid_init ctGrid_init : Value}
    {fGrid_moves : Addr} {odGrid_moves anGrid_moves : Option Addr} {slGrid_moves : Array (Option Value)} {ocGrid_moves kVGrid_moves dcGrid_moves pmGrid_moves cdGrid_moves ctGrid_moves : Value}
    {fGrid_ahead : Addr} {odGrid_ahead anGrid_ahead : Option Addr} {slGrid_ahead : Array (Option Value)} {ocGrid_ahead kVGrid_ahead dcGrid_ahead pmGrid_ahead cdGrid_ahead ctGrid_ahead : Value}
    {fGrid_ways_within : Addr} {odGrid_ways_within anGrid_ways_within : Option Addr} {slGrid_ways_within : Array (Option Value)} {ocGrid_ways_within kVGrid_ways_within dcGrid_ways_within pmGrid_ways_within cdGrid_ways_within ctGrid_ways_within : Value}
    {fGrid_is_end : Addr} {odGrid_is_end anGrid_is_end : Option Addr} {slGrid_is_end : Array (Option Value)} {ocGrid_is_end kVGrid_is_end dcGrid_is_end pmGrid_is_end cdGrid_is_end ctGrid_is_end : Value}
    {CEdits : Addr}
    {fEdits_init : Addr} {odEdits_init anEdits_init : Option Addr} {slEdits_init : Array (Option Value)} {ocEdits_init kVEdits_init dcEdits_init pmEdits_init cdEdits_init ctEdits_init : Value}
    {fEdits_side : Addr} {odEdits_side anEdits_side : Option Addr} {slEdits_side : Array (Option Value)} {ocEdits_side kVEdits_side dcEdits_side pmEdits_side cdEdits_side ctEdits_side : Value}
    {fEdits_all_columns : Addr} {odEdits_all_columns anEdits_all_columns : Option Addr} {slEdits_all_columns : Array (Option Value)} {ocEdits_all_columns kVEdits_all_columns dcEdits_all_columns pmEdits_all_columns cdEdits_all_columns ctEdits_all_columns : Value}
    {fis_whole : Addr} {odis_whole anis_whole : Option Addr} {slis_whole : Array (Option Value)} {ocis_whole kVis_whole dcis_whole pmis_whole cdis_whole ctis_whole : Value}
    {fis_natural : Addr} {odis_natural anis_natural : Option Addr} {slis_natural : Array (Option Value)} {ocis_natural kVis_natural dcis_natural pmis_natural cdis_natural ctis_natural : Value}
    {fis_weight : Addr} {odis_weight anis_weight : Option Addr} {slis_weight : Array (Option Value)} {ocis_weight kVis_weight dcis_weight pmis_weight cdis_weight ctis_weight : Value}
    {fis_side : Addr} {odis_side anis_side : Option Addr} {slis_side : Array (Option Value)} {ocis_side kVis_side dcis_side pmis_side cdis_side ctis_side : Value}
    {fis_edit : Addr} {odis_edit anis_edit : Option Addr} {slis_edit : Array (Option Value)} {ocis_edit kVis_edit dcis_edit pmis_edit cdis_edit ctis_edit : Value}
    {fcheck_rows : Addr} {odcheck_rows ancheck_rows : Option Addr} {slcheck_rows : Array (Option Value)} {occheck_rows kVcheck_rows dccheck_rows pmcheck_rows cdcheck_rows ctcheck_rows : Value}
    {fstanding : Addr} {odstanding anstanding : Option Addr} {slstanding : Array (Option Value)} {ocstanding kVstanding dcstanding pmstanding cdstanding ctstanding : Value}
    {fpaired_numbers : Addr} {odpaired_numbers anpaired_numbers : Option Addr} {slpaired_numbers : Array (Option Value)} {ocpaired_numbers kVpaired_numbers dcpaired_numbers pmpaired_numbers cdpaired_numbers ctpaired_numbers : Value}
    {fare_low : Addr} {odare_low anare_low : Option Addr} {slare_low : Array (Option Value)} {ocare_low kVare_low dcare_low pmare_low cdare_low ctare_low : Value}
    {fis_closed : Addr} {odis_closed anis_closed : Option Addr} {slis_closed : Array (Option Value)} {ocis_closed kVis_closed dcis_closed pmis_closed cdis_closed ctis_closed : Value}
    {fcheck_text : Addr} {odcheck_text ancheck_text : Option Addr} {slcheck_text : Array (Option Value)} {occheck_text kVcheck_text dccheck_text pmcheck_text cdcheck_text ctcheck_text : Value}
    {fcheck_texts : Addr} {odcheck_texts ancheck_texts : Option Addr} {slcheck_texts : Array (Option Value)} {occheck_texts kVcheck_texts dccheck_texts pmcheck_texts cdcheck_texts ctcheck_texts : Value}
    {fcheck_whole : Addr} {odcheck_whole ancheck_whole : Option Addr} {slcheck_whole : Array (Option Value)} {occheck_whole kVcheck_whole dccheck_whole pmcheck_whole cdcheck_whole ctcheck_whole : Value}
    {fbar_of : Addr} {odbar_of anbar_of : Option Addr} {slbar_of : Array (Option Value)} {ocbar_of kVbar_of dcbar_of pmbar_of cdbar_of ctbar_of : Value}
    {fis_bar : Addr} {odis_bar anis_bar : Option Addr} {slis_bar : Array (Option Value)} {ocis_bar kVis_bar dcis_bar pmis_bar cdis_bar ctis_bar : Value}
    {f_law_pen : Addr} {od_law_pen an_law_pen : Option Addr} {sl_law_pen : Array (Option Value)} {oc_law_pen kV_law_pen dc_law_pen pm_law_pen cd_law_pen ct_law_pen : Value}
    {f_law_draw : Addr} {od_law_draw an_law_draw : Option Addr} {sl_law_draw : Array (Option Value)} {oc_law_draw kV_law_draw dc_law_draw pm_law_draw cd_law_draw ct_law_draw : Value}
    {f_law_pick : Addr} {od_law_pick an_law_pick : Option Addr} {sl_law_pick : Array (Option Value)} {oc_law_pick kV_law_pick dc_law_pick pm_law_pick cd_law_pick ct_law_pick : Value}
    {f_law_text : Addr} {od_law_text an_law_text : Option Addr} {sl_law_text : Array (Option Value)} {oc_law_text kV_law_text dc_law_text pm_law_text cd_law_text ct_law_text : Value}
    {f_law_edit_rows : Addr} {od_law_edit_rows an_law_edit_rows : Option Addr} {sl_law_edit_rows : Array (Option Value)} {oc_law_edit_rows kV_law_edit_rows dc_law_edit_rows pm_law_edit_rows cd_law_edit_rows ct_law_edit_rows : Value}
    {f_law_signs : Addr} {od_law_signs an_law_signs : Option Addr} {sl_law_signs : Array (Option Value)} {oc_law_signs kV_law_signs dc_law_signs pm_law_signs cd_law_signs ct_law_signs : Value}
    {f_law_fits : Addr} {od_law_fits an_law_fits : Option Addr} {sl_law_fits : Array (Option Value)} {oc_law_fits kV_law_fits dc_law_fits pm_law_fits cd_law_fits ct_law_fits : Value}
    {f_law_least : Addr} {od_law_least an_law_least : Option Addr} {sl_law_least : Array (Option Value)} {oc_law_least kV_law_least dc_law_least pm_law_least cd_law_least ct_law_least : Value}
    {f_law_weight : Addr} {od_law_weight an_law_weight : Option Addr} {sl_law_weight : Array (Option Value)} {oc_law_weight kV_law_weight dc_law_weight pm_law_weight cd_law_weight ct_law_weight : Value}
    {f_law_changed : Addr} {od_law_changed an_law_changed : Option Addr} {sl_law_changed : Array (Option Value)} {oc_law_changed kV_law_changed dc_law_changed pm_law_changed cd_law_changed ct_law_changed : Value}
    {f_law_bar_right : Addr} {od_law_bar_right an_law_bar_right : Option Addr} {sl_law_bar_right : Array (Option Value)} {oc_law_bar_right kV_law_bar_right dc_law_bar_right pm_law_bar_right cd_law_bar_right ct_law_bar_right : Value}
    {f_law_bent : Addr} {od_law_bent an_law_bent : Option Addr} {sl_law_bent : Array (Option Value)} {oc_law_bent kV_law_bent dc_law_bent pm_law_bent cd_law_bent ct_law_bent : Value}
    {flaw : Addr} {odlaw anlaw : Option Addr} {sllaw : Array (Option Value)} {oclaw kVlaw dclaw pmlaw cdlaw ctlaw : Value}
    {tMOST_WEIGHT : Tok}
    {tLONGEST_SIDE : Tok}
    {tMOST_EDITS : Tok}
    {tMOST_BOUND : Tok}
    (aCGrid : PySem.W.nsIn K mainGlobals "Grid" = some (some (.ref CGrid)))
    (pgGrid : PySem.W.plainGet K CGrid Str.empty = true)
    (hdGrid : PySem.W.hasDictIn K CGrid = true)
    (poGrid : PySem.W.plainOver K CGrid = true)
    (saGrid : PySem.W.findIn K (.ref CGrid) "__setattr__" = some (some (.builtin "object.__setattr__")))
    (mkGrid : PySem.W.makesIn K CGrid = true)
    (kcGrid : PySem.W.keepIn K (.ref CGrid) = true)
    (naGrid_columns : PySem.W.findIn K (.ref CGrid) "columns" = some none)
    (naGrid_sides : PySem.W.findIn K (.ref CGrid) "sides" = some none)
    (naGrid_width : PySem.W.findIn K (.ref CGrid) "width" = some none)
    (naGrid_last : PySem.W.findIn K (.ref CGrid) "last" = some none)
    (naGrid_first : PySem.W.findIn K (.ref CGrid) "first" = some none)
    (naGrid_second : PySem.W.findIn K (.ref CGrid) "second" = some none)
    (naGrid__moves : PySem.W.findIn K (.ref CGrid) "_moves" = some none)
    (aGrid_init : PySem.W.findIn K (.ref CGrid) "__init__" = some (some (.ref fGrid_init)))
    (iGrid_init : PySem.W.isFn K (.ref fGrid_init) = true)
    (lGrid_init : K.lookup fGrid_init = some ⟨ocGrid_init, odGrid_init, .func (PySem.W.fnOf "__init__" "Grid.__init__" (defArgs s_ginit) (defBody s_ginit) (defScope s_ginit) .none kVGrid_init dcGrid_init pmGrid_init anGrid_init cdGrid_init ctGrid_init), slGrid_init⟩)
    (cGrid_init : PySem.W.codeIn K cdGrid_init "Grid.__init__" = true)
    (kGrid_init : PySem.W.keepIn K (.ref fGrid_init) = true)
    (aGrid_moves : PySem.W.findIn K (.ref CGrid) "moves" = some (some (.ref fGrid_moves)))
    (iGrid_moves : PySem.W.isFn K (.ref fGrid_moves) = true)
    (lGrid_moves : K.lookup fGrid_moves = some ⟨ocGrid_moves, odGrid_moves, .func (PySem.W.fnOf "moves" "Grid.moves" (defArgs s_gmoves) (defBody s_gmoves) (defScope s_gmoves) .none kVGrid_moves dcGrid_moves pmGrid_moves anGrid_moves cdGrid_moves ctGrid_moves), slGrid_moves⟩)
    (cGrid_moves : PySem.W.codeIn K cdGrid_moves "Grid.moves" = true)
    (kGrid_moves : PySem.W.keepIn K (.ref fGrid_moves) = true)
    (aGrid_ahead : PySem.W.findIn K (.ref CGrid) "ahead" = some (some (.ref fGrid_ahead)))
    (iGrid_ahead : PySem.W.isFn K (.ref fGrid_ahead) = true)
    (lGrid_ahead : K.lookup fGrid_ahead = some ⟨ocGrid_ahead, odGrid_ahead, .func (PySem.W.fnOf "ahead" "Grid.ahead" (defArgs s_gahead) (defBody s_gahead) (defScope s_gahead) .none kVGrid_ahead dcGrid_ahead pmGrid_ahead anGrid_ahead cdGrid_ahead ctGrid_ahead), slGrid_ahead⟩)
    (cGrid_ahead : PySem.W.codeIn K cdGrid_ahead "Grid.ahead" = true)
    (kGrid_ahead : PySem.W.keepIn K (.ref fGrid_ahead) = true)
    (aGrid_ways_within : PySem.W.findIn K (.ref CGrid) "ways_within" = some (some (.ref fGrid_ways_within)))
    (iGrid_ways_within : PySem.W.isFn K (.ref fGrid_ways_within) = true)
    (lGrid_ways_within : K.lookup fGrid_ways_within = some ⟨ocGrid_ways_within, odGrid_ways_within, .func (PySem.W.fnOf "ways_within" "Grid.ways_within" (defArgs s_gways) (defBody s_gways) (defScope s_gways) .none kVGrid_ways_within dcGrid_ways_within pmGrid_ways_within anGrid_ways_within cdGrid_ways_within ctGrid_ways_within), slGrid_ways_within⟩)
    (cGrid_ways_within : PySem.W.codeIn K cdGrid_ways_within "Grid.ways_within" = true)
    (kGrid_ways_within : PySem.W.keepIn K (.ref fGrid_ways_within) = true)
    (aGrid_is_end : PySem.W.findIn K (.ref CGrid) "is_end" = some (some (.ref fGrid_is_end)))
    (iGrid_is_end : PySem.W.isFn K (.ref fGrid_is_end) = true)
    (lGrid_is_end : K.lookup fGrid_is_end = some ⟨ocGrid_is_end, odGrid_is_end, .func (PySem.W.fnOf "is_end" "Grid.is_end" (defArgs s_gend) (defBody s_gend) (defScope s_gend) .none kVGrid_is_end dcGrid_is_end pmGrid_is_end anGrid_is_end cdGrid_is_end ctGrid_is_end), slGrid_is_end⟩)
    (cGrid_is_end : PySem.W.codeIn K cdGrid_is_end "Grid.is_end" = true)
    (kGrid_is_end : PySem.W.keepIn K (.ref fGrid_is_end) = true)
    (aCEdits : PySem.W.nsIn K mainGlobals "Edits" = some (some (.ref CEdits)))
    (pgEdits : PySem.W.plainGet K CEdits Str.empty = true)
    (hdEdits : PySem.W.hasDictIn K CEdits = true)
    (poEdits : PySem.W.plainOver K CEdits = true)
    (saEdits : PySem.W.findIn K (.ref CEdits) "__setattr__" = some (some (.builtin "object.__setattr__")))
    (mkEdits : PySem.W.makesIn K CEdits = true)
    (kcEdits : PySem.W.keepIn K (.ref CEdits) = true)
    (naEdits_signs : PySem.W.findIn K (.ref CEdits) "signs" = some none)
    (naEdits_rows : PySem.W.findIn K (.ref CEdits) "rows" = some none)
    (aEdits_init : PySem.W.findIn K (.ref CEdits) "__init__" = some (some (.ref fEdits_init)))
    (iEdits_init : PySem.W.isFn K (.ref fEdits_init) = true)
    (lEdits_init : K.lookup fEdits_init = some ⟨ocEdits_init, odEdits_init, .func (PySem.W.fnOf "__init__" "Edits.__init__" (defArgs s_einit) (defBody s_einit) (defScope s_einit) .none kVEdits_init dcEdits_init pmEdits_init anEdits_init cdEdits_init ctEdits_init), slEdits_init⟩)
    (cEdits_init : PySem.W.codeIn K cdEdits_init "Edits.__init__" = true)
    (kEdits_init : PySem.W.keepIn K (.ref fEdits_init) = true)
    (aEdits_side : PySem.W.findIn K (.ref CEdits) "side" = some (some (.ref fEdits_side)))
    (iEdits_side : PySem.W.isFn K (.ref fEdits_side) = true)
    (lEdits_side : K.lookup fEdits_side = some ⟨ocEdits_side, odEdits_side, .func (PySem.W.fnOf "side" "Edits.side" (defArgs s_eside) (defBody s_eside) (defScope s_eside) .none kVEdits_side dcEdits_side pmEdits_side anEdits_side cdEdits_side ctEdits_side), slEdits_side⟩)
    (cEdits_side : PySem.W.codeIn K cdEdits_side "Edits.side" = true)
    (kEdits_side : PySem.W.keepIn K (.ref fEdits_side) = true)
    (aEdits_all_columns : PySem.W.findIn K (.ref CEdits) "all_columns" = some (some (.ref fEdits_all_columns)))
    (iEdits_all_columns : PySem.W.isFn K (.ref fEdits_all_columns) = true)
    (lEdits_all_columns : K.lookup fEdits_all_columns = some ⟨ocEdits_all_columns, odEdits_all_columns, .func (PySem.W.fnOf "all_columns" "Edits.all_columns" (defArgs s_eall) (defBody s_eall) (defScope s_eall) .none kVEdits_all_columns dcEdits_all_columns pmEdits_all_columns anEdits_all_columns cdEdits_all_columns ctEdits_all_columns), slEdits_all_columns⟩)
    (cEdits_all_columns : PySem.W.codeIn K cdEdits_all_columns "Edits.all_columns" = true)
    (kEdits_all_columns : PySem.W.keepIn K (.ref fEdits_all_columns) = true)
    (ais_whole : PySem.W.nsIn K mainGlobals "is_whole" = some (some (.ref fis_whole)))
    (lis_whole : K.lookup fis_whole = some ⟨ocis_whole, odis_whole, .func (PySem.W.fnOf "is_whole" "is_whole" (defArgs s_is_whole) (defBody s_is_whole) (defScope s_is_whole) .none kVis_whole dcis_whole pmis_whole anis_whole cdis_whole ctis_whole), slis_whole⟩)
    (cis_whole : PySem.W.codeIn K cdis_whole "is_whole" = true)
    (kis_whole : PySem.W.keepIn K (.ref fis_whole) = true)
    (ais_natural : PySem.W.nsIn K mainGlobals "is_natural" = some (some (.ref fis_natural)))
    (lis_natural : K.lookup fis_natural = some ⟨ocis_natural, odis_natural, .func (PySem.W.fnOf "is_natural" "is_natural" (defArgs s_is_natural) (defBody s_is_natural) (defScope s_is_natural) .none kVis_natural dcis_natural pmis_natural anis_natural cdis_natural ctis_natural), slis_natural⟩)
    (cis_natural : PySem.W.codeIn K cdis_natural "is_natural" = true)
    (kis_natural : PySem.W.keepIn K (.ref fis_natural) = true)
    (ais_weight : PySem.W.nsIn K mainGlobals "is_weight" = some (some (.ref fis_weight)))
    (lis_weight : K.lookup fis_weight = some ⟨ocis_weight, odis_weight, .func (PySem.W.fnOf "is_weight" "is_weight" (defArgs s_is_weight) (defBody s_is_weight) (defScope s_is_weight) .none kVis_weight dcis_weight pmis_weight anis_weight cdis_weight ctis_weight), slis_weight⟩)
    (cis_weight : PySem.W.codeIn K cdis_weight "is_weight" = true)
    (kis_weight : PySem.W.keepIn K (.ref fis_weight) = true)
    (ais_side : PySem.W.nsIn K mainGlobals "is_side" = some (some (.ref fis_side)))
    (lis_side : K.lookup fis_side = some ⟨ocis_side, odis_side, .func (PySem.W.fnOf "is_side" "is_side" (defArgs s_is_side) (defBody s_is_side) (defScope s_is_side) .none kVis_side dcis_side pmis_side anis_side cdis_side ctis_side), slis_side⟩)
    (cis_side : PySem.W.codeIn K cdis_side "is_side" = true)
    (kis_side : PySem.W.keepIn K (.ref fis_side) = true)
    (ais_edit : PySem.W.nsIn K mainGlobals "is_edit" = some (some (.ref fis_edit)))
    (lis_edit : K.lookup fis_edit = some ⟨ocis_edit, odis_edit, .func (PySem.W.fnOf "is_edit" "is_edit" (defArgs s_is_edit) (defBody s_is_edit) (defScope s_is_edit) .none kVis_edit dcis_edit pmis_edit anis_edit cdis_edit ctis_edit), slis_edit⟩)
    (cis_edit : PySem.W.codeIn K cdis_edit "is_edit" = true)
    (kis_edit : PySem.W.keepIn K (.ref fis_edit) = true)
    (acheck_rows : PySem.W.nsIn K mainGlobals "check_rows" = some (some (.ref fcheck_rows)))
    (lcheck_rows : K.lookup fcheck_rows = some ⟨occheck_rows, odcheck_rows, .func (PySem.W.fnOf "check_rows" "check_rows" (defArgs s_check_rows) (defBody s_check_rows) (defScope s_check_rows) .none kVcheck_rows dccheck_rows pmcheck_rows ancheck_rows cdcheck_rows ctcheck_rows), slcheck_rows⟩)
    (ccheck_rows : PySem.W.codeIn K cdcheck_rows "check_rows" = true)
    (kcheck_rows : PySem.W.keepIn K (.ref fcheck_rows) = true)
    (astanding : PySem.W.nsIn K mainGlobals "standing" = some (some (.ref fstanding)))
    (lstanding : K.lookup fstanding = some ⟨ocstanding, odstanding, .func (PySem.W.fnOf "standing" "standing" (defArgs s_standing) (defBody s_standing) (defScope s_standing) .none kVstanding dcstanding pmstanding anstanding cdstanding ctstanding), slstanding⟩)
    (cstanding : PySem.W.codeIn K cdstanding "standing" = true)
    (kstanding : PySem.W.keepIn K (.ref fstanding) = true)
    (apaired_numbers : PySem.W.nsIn K mainGlobals "paired_numbers" = some (some (.ref fpaired_numbers)))
    (lpaired_numbers : K.lookup fpaired_numbers = some ⟨ocpaired_numbers, odpaired_numbers, .func (PySem.W.fnOf "paired_numbers" "paired_numbers" (defArgs s_pnum) (defBody s_pnum) (defScope s_pnum) .none kVpaired_numbers dcpaired_numbers pmpaired_numbers anpaired_numbers cdpaired_numbers ctpaired_numbers), slpaired_numbers⟩)
    (cpaired_numbers : PySem.W.codeIn K cdpaired_numbers "paired_numbers" = true)
    (kpaired_numbers : PySem.W.keepIn K (.ref fpaired_numbers) = true)
    (aare_low : PySem.W.nsIn K mainGlobals "are_low" = some (some (.ref fare_low)))
    (lare_low : K.lookup fare_low = some ⟨ocare_low, odare_low, .func (PySem.W.fnOf "are_low" "are_low" (defArgs s_low) (defBody s_low) (defScope s_low) .none kVare_low dcare_low pmare_low anare_low cdare_low ctare_low), slare_low⟩)
    (care_low : PySem.W.codeIn K cdare_low "are_low" = true)
    (kare_low : PySem.W.keepIn K (.ref fare_low) = true)
    (ais_closed : PySem.W.nsIn K mainGlobals "is_closed" = some (some (.ref fis_closed)))
    (lis_closed : K.lookup fis_closed = some ⟨ocis_closed, odis_closed, .func (PySem.W.fnOf "is_closed" "is_closed" (defArgs s_closed) (defBody s_closed) (defScope s_closed) .none kVis_closed dcis_closed pmis_closed anis_closed cdis_closed ctis_closed), slis_closed⟩)
    (cis_closed : PySem.W.codeIn K cdis_closed "is_closed" = true)
    (kis_closed : PySem.W.keepIn K (.ref fis_closed) = true)
    (acheck_text : PySem.W.nsIn K mainGlobals "check_text" = some (some (.ref fcheck_text)))
    (lcheck_text : K.lookup fcheck_text = some ⟨occheck_text, odcheck_text, .func (PySem.W.fnOf "check_text" "check_text" (defArgs s_check_text) (defBody s_check_text) (defScope s_check_text) .none kVcheck_text dccheck_text pmcheck_text ancheck_text cdcheck_text ctcheck_text), slcheck_text⟩)
    (ccheck_text : PySem.W.codeIn K cdcheck_text "check_text" = true)
    (kcheck_text : PySem.W.keepIn K (.ref fcheck_text) = true)
    (acheck_texts : PySem.W.nsIn K mainGlobals "check_texts" = some (some (.ref fcheck_texts)))
    (lcheck_texts : K.lookup fcheck_texts = some ⟨occheck_texts, odcheck_texts, .func (PySem.W.fnOf "check_texts" "check_texts" (defArgs s_check_texts) (defBody s_check_texts) (defScope s_check_texts) .none kVcheck_texts dccheck_texts pmcheck_texts ancheck_texts cdcheck_texts ctcheck_texts), slcheck_texts⟩)
    (ccheck_texts : PySem.W.codeIn K cdcheck_texts "check_texts" = true)
    (kcheck_texts : PySem.W.keepIn K (.ref fcheck_texts) = true)
    (acheck_whole : PySem.W.nsIn K mainGlobals "check_whole" = some (some (.ref fcheck_whole)))
    (lcheck_whole : K.lookup fcheck_whole = some ⟨occheck_whole, odcheck_whole, .func (PySem.W.fnOf "check_whole" "check_whole" (defArgs s_check_whole) (defBody s_check_whole) (defScope s_check_whole) .none kVcheck_whole dccheck_whole pmcheck_whole ancheck_whole cdcheck_whole ctcheck_whole), slcheck_whole⟩)
    (ccheck_whole : PySem.W.codeIn K cdcheck_whole "check_whole" = true)
    (kcheck_whole : PySem.W.keepIn K (.ref fcheck_whole) = true)
    (abar_of : PySem.W.nsIn K mainGlobals "bar_of" = some (some (.ref fbar_of)))
    (lbar_of : K.lookup fbar_of = some ⟨ocbar_of, odbar_of, .func (PySem.W.fnOf "bar_of" "bar_of" (defArgs s_bar_of) (defBody s_bar_of) (defScope s_bar_of) .none kVbar_of dcbar_of pmbar_of anbar_of cdbar_of ctbar_of), slbar_of⟩)
    (cbar_of : PySem.W.codeIn K cdbar_of "bar_of" = true)
    (kbar_of : PySem.W.keepIn K (.ref fbar_of) = true)
    (ais_bar : PySem.W.nsIn K mainGlobals "is_bar" = some (some (.ref fis_bar)))
    (lis_bar : K.lookup fis_bar = some ⟨ocis_bar, odis_bar, .func (PySem.W.fnOf "is_bar" "is_bar" (defArgs s_is_bar) (defBody s_is_bar) (defScope s_is_bar) .none kVis_bar dcis_bar pmis_bar anis_bar cdis_bar ctis_bar), slis_bar⟩)
    (cis_bar : PySem.W.codeIn K cdis_bar "is_bar" = true)
    (kis_bar : PySem.W.keepIn K (.ref fis_bar) = true)
    (a_law_pen : PySem.W.nsIn K mainGlobals "_law_pen" = some (some (.ref f_law_pen)))
    (l_law_pen : K.lookup f_law_pen = some ⟨oc_law_pen, od_law_pen, .func (PySem.W.fnOf "_law_pen" "_law_pen" (defArgs s__law_pen) (defBody s__law_pen) (defScope s__law_pen) .none kV_law_pen dc_law_pen pm_law_pen an_law_pen cd_law_pen ct_law_pen), sl_law_pen⟩)
    (c_law_pen : PySem.W.codeIn K cd_law_pen "_law_pen" = true)
    (k_law_pen : PySem.W.keepIn K (.ref f_law_pen) = true)
    (a_law_draw : PySem.W.nsIn K mainGlobals "_law_draw" = some (some (.ref f_law_draw)))
    (l_law_draw : K.lookup f_law_draw = some ⟨oc_law_draw, od_law_draw, .func (PySem.W.fnOf "_law_draw" "_law_draw" (defArgs s__law_draw) (defBody s__law_draw) (defScope s__law_draw) .none kV_law_draw dc_law_draw pm_law_draw an_law_draw cd_law_draw ct_law_draw), sl_law_draw⟩)
    (c_law_draw : PySem.W.codeIn K cd_law_draw "_law_draw" = true)
    (k_law_draw : PySem.W.keepIn K (.ref f_law_draw) = true)
    (a_law_pick : PySem.W.nsIn K mainGlobals "_law_pick" = some (some (.ref f_law_pick)))
    (l_law_pick : K.lookup f_law_pick = some ⟨oc_law_pick, od_law_pick, .func (PySem.W.fnOf "_law_pick" "_law_pick" (defArgs s__law_pick) (defBody s__law_pick) (defScope s__law_pick) .none kV_law_pick dc_law_pick pm_law_pick an_law_pick cd_law_pick ct_law_pick), sl_law_pick⟩)
    (c_law_pick : PySem.W.codeIn K cd_law_pick "_law_pick" = true)
    (k_law_pick : PySem.W.keepIn K (.ref f_law_pick) = true)
    (a_law_text : PySem.W.nsIn K mainGlobals "_law_text" = some (some (.ref f_law_text)))
    (l_law_text : K.lookup f_law_text = some ⟨oc_law_text, od_law_text, .func (PySem.W.fnOf "_law_text" "_law_text" (defArgs s__law_text) (defBody s__law_text) (defScope s__law_text) .none kV_law_text dc_law_text pm_law_text an_law_text cd_law_text ct_law_text), sl_law_text⟩)
    (c_law_text : PySem.W.codeIn K cd_law_text "_law_text" = true)
    (k_law_text : PySem.W.keepIn K (.ref f_law_text) = true)
    (a_law_edit_rows : PySem.W.nsIn K mainGlobals "_law_edit_rows" = some (some (.ref f_law_edit_rows)))
    (l_law_edit_rows : K.lookup f_law_edit_rows = some ⟨oc_law_edit_rows, od_law_edit_rows, .func (PySem.W.fnOf "_law_edit_rows" "_law_edit_rows" (defArgs s__law_edit_rows) (defBody s__law_edit_rows) (defScope s__law_edit_rows) .none kV_law_edit_rows dc_law_edit_rows pm_law_edit_rows an_law_edit_rows cd_law_edit_rows ct_law_edit_rows), sl_law_edit_rows⟩)
    (c_law_edit_rows : PySem.W.codeIn K cd_law_edit_rows "_law_edit_rows" = true)
    (k_law_edit_rows : PySem.W.keepIn K (.ref f_law_edit_rows) = true)
    (a_law_signs : PySem.W.nsIn K mainGlobals "_law_signs" = some (some (.ref f_law_signs)))
    (l_law_signs : K.lookup f_law_signs = some ⟨oc_law_signs, od_law_signs, .func (PySem.W.fnOf "_law_signs" "_law_signs" (defArgs s__law_signs) (defBody s__law_signs) (defScope s__law_signs) .none kV_law_signs dc_law_signs pm_law_signs an_law_signs cd_law_signs ct_law_signs), sl_law_signs⟩)
    (c_law_signs : PySem.W.codeIn K cd_law_signs "_law_signs" = true)
    (k_law_signs : PySem.W.keepIn K (.ref f_law_signs) = true)
    (a_law_fits : PySem.W.nsIn K mainGlobals "_law_fits" = some (some (.ref f_law_fits)))
    (l_law_fits : K.lookup f_law_fits = some ⟨oc_law_fits, od_law_fits, .func (PySem.W.fnOf "_law_fits" "_law_fits" (defArgs s__law_fits) (defBody s__law_fits) (defScope s__law_fits) .none kV_law_fits dc_law_fits pm_law_fits an_law_fits cd_law_fits ct_law_fits), sl_law_fits⟩)
    (c_law_fits : PySem.W.codeIn K cd_law_fits "_law_fits" = true)
    (k_law_fits : PySem.W.keepIn K (.ref f_law_fits) = true)
    (a_law_least : PySem.W.nsIn K mainGlobals "_law_least" = some (some (.ref f_law_least)))
    (l_law_least : K.lookup f_law_least = some ⟨oc_law_least, od_law_least, .func (PySem.W.fnOf "_law_least" "_law_least" (defArgs s__law_least) (defBody s__law_least) (defScope s__law_least) .none kV_law_least dc_law_least pm_law_least an_law_least cd_law_least ct_law_least), sl_law_least⟩)
    (c_law_least : PySem.W.codeIn K cd_law_least "_law_least" = true)
    (k_law_least : PySem.W.keepIn K (.ref f_law_least) = true)
    (a_law_weight : PySem.W.nsIn K mainGlobals "_law_weight" = some (some (.ref f_law_weight)))
    (l_law_weight : K.lookup f_law_weight = some ⟨oc_law_weight, od_law_weight, .func (PySem.W.fnOf "_law_weight" "_law_weight" (defArgs s__law_weight) (defBody s__law_weight) (defScope s__law_weight) .none kV_law_weight dc_law_weight pm_law_weight an_law_weight cd_law_weight ct_law_weight), sl_law_weight⟩)
    (c_law_weight : PySem.W.codeIn K cd_law_weight "_law_weight" = true)
    (k_law_weight : PySem.W.keepIn K (.ref f_law_weight) = true)
    (a_law_changed : PySem.W.nsIn K mainGlobals "_law_changed" = some (some (.ref f_law_changed)))
    (l_law_changed : K.lookup f_law_changed = some ⟨oc_law_changed, od_law_changed, .func (PySem.W.fnOf "_law_changed" "_law_changed" (defArgs s__law_changed) (defBody s__law_changed) (defScope s__law_changed) .none kV_law_changed dc_law_changed pm_law_changed an_law_changed cd_law_changed ct_law_changed), sl_law_changed⟩)
    (c_law_changed : PySem.W.codeIn K cd_law_changed "_law_changed" = true)
    (k_law_changed : PySem.W.keepIn K (.ref f_law_changed) = true)
    (a_law_bar_right : PySem.W.nsIn K mainGlobals "_law_bar_right" = some (some (.ref f_law_bar_right)))
    (l_law_bar_right : K.lookup f_law_bar_right = some ⟨oc_law_bar_right, od_law_bar_right, .func (PySem.W.fnOf "_law_bar_right" "_law_bar_right" (defArgs s__law_bar_right) (defBody s__law_bar_right) (defScope s__law_bar_right) .none kV_law_bar_right dc_law_bar_right pm_law_bar_right an_law_bar_right cd_law_bar_right ct_law_bar_right), sl_law_bar_right⟩)
    (c_law_bar_right : PySem.W.codeIn K cd_law_bar_right "_law_bar_right" = true)
    (k_law_bar_right : PySem.W.keepIn K (.ref f_law_bar_right) = true)
    (a_law_bent : PySem.W.nsIn K mainGlobals "_law_bent" = some (some (.ref f_law_bent)))
    (l_law_bent : K.lookup f_law_bent = some ⟨oc_law_bent, od_law_bent, .func (PySem.W.fnOf "_law_bent" "_law_bent" (defArgs s__law_bent) (defBody s__law_bent) (defScope s__law_bent) .none kV_law_bent dc_law_bent pm_law_bent an_law_bent cd_law_bent ct_law_bent), sl_law_bent⟩)
    (c_law_bent : PySem.W.codeIn K cd_law_bent "_law_bent" = true)
    (k_law_bent : PySem.W.keepIn K (.ref f_law_bent) = true)
    (alaw : PySem.W.nsIn K mainGlobals "law" = some (some (.ref flaw)))
    (llaw : K.lookup flaw = some ⟨oclaw, odlaw, .func (PySem.W.fnOf "law" "law" (defArgs s_law) (defBody s_law) (defScope s_law) .none kVlaw dclaw pmlaw anlaw cdlaw ctlaw), sllaw⟩)
    (claw : PySem.W.codeIn K cdlaw "law" = true)
    (klaw : PySem.W.keepIn K (.ref flaw) = true)
    (gMOST_WEIGHT : PySem.W.nsIn K mainGlobals "MOST_WEIGHT" = some (some (.int MW tMOST_WEIGHT)))
    (gLONGEST_SIDE : PySem.W.nsIn K mainGlobals "LONGEST_SIDE" = some (some (.int 3 tLONGEST_SIDE)))
    (gMOST_EDITS : PySem.W.nsIn K mainGlobals "MOST_EDITS" = some (some (.int 24 tMOST_EDITS)))
    (gMOST_BOUND : PySem.W.nsIn K mainGlobals "MOST_BOUND" = some (some (.int 10000000000000000000000000000000000000000 tMOST_BOUND)))
    (z_isinstance : PySem.W.nsIn K mainGlobals "isinstance" = some none)
    (z_int : PySem.W.nsIn K mainGlobals "int" = some none)
    (z_bool : PySem.W.nsIn K mainGlobals "bool" = some none)
    (z_str : PySem.W.nsIn K mainGlobals "str" = some none)
    (z_len : PySem.W.nsIn K mainGlobals "len" = some none)
    (z_all : PySem.W.nsIn K mainGlobals "all" = some none)
    (z_tuple : PySem.W.nsIn K mainGlobals "tuple" = some none)
    (z_list : PySem.W.nsIn K mainGlobals "list" = some none)
    (z_enumerate : PySem.W.nsIn K mainGlobals "enumerate" = some none)
    (z_sum : PySem.W.nsIn K mainGlobals "sum" = some none)
    (z_range : PySem.W.nsIn K mainGlobals "range" = some none)
    (z_divmod : PySem.W.nsIn K mainGlobals "divmod" = some none)
    (z_sorted : PySem.W.nsIn K mainGlobals "sorted" = some none)
    (z_dict : PySem.W.nsIn K mainGlobals "dict" = some none)
    (z_min : PySem.W.nsIn K mainGlobals "min" = some none)
    (z_max : PySem.W.nsIn K mainGlobals "max" = some none)
    : ∃ fd : FuncData, (∀ (s : Shared) (v : Value), BindsTo s fd ⟨[v], []⟩ [("script", v)]) ∧ ∀ base : Heap, K.In base → base.Ns mainGlobals mg → FnOk l.prog w K mg base CX0 9 fa fd ["script"] (spLaw K) := by
  have e : flaw = fa := Value.ref.inj (Option.some.inj ((PySem.W.mg_of X G alaw).symm.trans hfa))
  subst e
  have cl_Grid : Cls K CGrid := ⟨pgGrid, hdGrid, poGrid, saGrid⟩
  have F_Grid_init := fun_mk (st := s_ginit) lGrid_init cGrid_init kGrid_init
  have b_Grid_init := F_Grid_init.binds (ps := ["self", "edits", "x", "y"]) fun _ _ _ _ _ _ us hl => match us, hl with | [_, _, _, _], _ => rfl
  have mk_Grid : Mk K CGrid fGrid_init := ⟨mkGrid, aGrid_init, iGrid_init, kcGrid⟩
  have F_Grid_moves := fun_mk (st := s_gmoves) lGrid_moves cGrid_moves kGrid_moves
  have b_Grid_moves := F_Grid_moves.binds (ps := ["self", "fitting"]) fun _ _ _ _ _ _ us hl => match us, hl with | [_, _], _ => rfl
  have m_Grid_moves : Meth K CGrid "moves" fGrid_moves := ⟨aGrid_moves, iGrid_moves, kGrid_moves⟩
  have F_Grid_ahead := fun_mk (st := s_gahead) lGrid_ahead cGrid_ahead kGrid_ahead
  have b_Grid_ahead := F_Grid_ahead.binds (ps := ["self", "place"]) fun _ _ _ _ _ _ us hl => match us, hl with | [_, _], _ => rfl
  have m_Grid_ahead : Meth K CGrid "ahead" fGrid_ahead := ⟨aGrid_ahead, iGrid_ahead, kGrid_ahead⟩
  have F_Grid_ways_within := fun_mk (st := s_gways) lGrid_ways_within cGrid_ways_within kGrid_ways_within
  have b_Grid_ways_within := F_Grid_ways_within.binds (ps := ["self", "limit"]) fun _ _ _ _ _ _ us hl => match us, hl with | [_, _], _ => rfl
  have m_Grid_ways_within : Meth K CGrid "ways_within" fGrid_ways_within := ⟨aGrid_ways_within, iGrid_ways_within, kGrid_ways_within⟩
  have F_Grid_is_end := fun_mk (st := s_gend) lGrid_is_end cGrid_is_end kGrid_is_end
  have b_Grid_is_end := F_Grid_is_end.binds (ps := ["self", "place"]) fun _ _ _ _ _ _ us hl => match us, hl with | [_, _], _ => rfl
  have m_Grid_is_end : Meth K CGrid "is_end" fGrid_is_end := ⟨aGrid_is_end, iGrid_is_end, kGrid_is_end⟩
  have cl_Edits : Cls K CEdits := ⟨pgEdits, hdEdits, poEdits, saEdits⟩
  have F_Edits_init := fun_mk (st := s_einit) lEdits_init cEdits_init kEdits_init
  have b_Edits_init := F_Edits_init.binds (ps := ["self", "signs", "rows"]) fun _ _ _ _ _ _ us hl => match us, hl with | [_, _, _], _ => rfl
  have mk_Edits : Mk K CEdits fEdits_init := ⟨mkEdits, aEdits_init, iEdits_init, kcEdits⟩
  have F_Edits_side := fun_mk (st := s_eside) lEdits_side cEdits_side kEdits_side
  have b_Edits_side := F_Edits_side.binds (ps := ["self", "column"]) fun _ _ _ _ _ _ us hl => match us, hl with | [_, _], _ => rfl
  have m_Edits_side : Meth K CEdits "side" fEdits_side := ⟨aEdits_side, iEdits_side, kEdits_side⟩
  have F_Edits_all_columns := fun_mk (st := s_eall) lEdits_all_columns cEdits_all_columns kEdits_all_columns
  have b_Edits_all_columns := F_Edits_all_columns.binds (ps := ["self"]) fun _ _ _ _ _ _ us hl => match us, hl with | [_], _ => rfl
  have m_Edits_all_columns : Meth K CEdits "all_columns" fEdits_all_columns := ⟨aEdits_all_columns, iEdits_all_columns, kEdits_all_columns⟩
  have Fis_whole := fun_mk (st := s_is_whole) lis_whole cis_whole kis_whole
  have Dis_whole : DefT K mg "is_whole" "is_whole" s_is_whole ["value"] fis_whole _ := ⟨PySem.W.mg_of X G ais_whole, Fis_whole, Fis_whole.binds (ps := ["value"]) fun _ _ _ _ _ _ us hl => match us, hl with | [_], _ => rfl⟩
  have Fis_natural := fun_mk (st := s_is_natural) lis_natural cis_natural kis_natural
  have Dis_natural : DefT K mg "is_natural" "is_natural" s_is_natural ["value"] fis_natural _ := ⟨PySem.W.mg_of X G ais_natural, Fis_natural, Fis_natural.binds (ps := ["value"]) fun _ _ _ _ _ _ us hl => match us, hl with | [_], _ => rfl⟩
  have Fis_weight := fun_mk (st := s_is_weight) lis_weight cis_weight kis_weight
  have Dis_weight : DefT K mg "is_weight" "is_weight" s_is_weight ["value"] fis_weight _ := ⟨PySem.W.mg_of X G ais_weight, Fis_weight, Fis_weight.binds (ps := ["value"]) fun _ _ _ _ _ _ us hl => match us, hl with | [_], _ => rfl⟩
  have Fis_side := fun_mk (st := s_is_side) lis_side cis_side kis_side
  have Dis_side : DefT K mg "is_side" "is_side" s_is_side ["signs", "word"] fis_side _ := ⟨PySem.W.mg_of X G ais_side, Fis_side, Fis_side.binds (ps := ["signs", "word"]) fun _ _ _ _ _ _ us hl => match us, hl with | [_, _], _ => rfl⟩
  have Fis_edit := fun_mk (st := s_is_edit) lis_edit cis_edit kis_edit
  have Dis_edit : DefT K mg "is_edit" "is_edit" s_is_edit ["signs", "row"] fis_edit _ := ⟨PySem.W.mg_of X G ais_edit, Fis_edit, Fis_edit.binds (ps := ["signs", "row"]) fun _ _ _ _ _ _ us hl => match us, hl with | [_, _], _ => rfl⟩
  have Fcheck_rows := fun_mk (st := s_check_rows) lcheck_rows ccheck_rows kcheck_rows
  have Dcheck_rows : DefT K mg "check_rows" "check_rows" s_check_rows ["signs", "rows"] fcheck_rows _ := ⟨PySem.W.mg_of X G acheck_rows, Fcheck_rows, Fcheck_rows.binds (ps := ["signs", "rows"]) fun _ _ _ _ _ _ us hl => match us, hl with | [_, _], _ => rfl⟩
  have Fstanding := fun_mk (st := s_standing) lstanding cstanding kstanding
  have Dstanding : DefT K mg "standing" "standing" s_standing ["text", "words"] fstanding _ := ⟨PySem.W.mg_of X G astanding, Fstanding, Fstanding.binds (ps := ["text", "words"]) fun _ _ _ _ _ _ us hl => match us, hl with | [_, _], _ => rfl⟩
  have Fpaired_numbers := fun_mk (st := s_pnum) lpaired_numbers cpaired_numbers kpaired_numbers
  have Dpaired_numbers : DefT K mg "paired_numbers" "paired_numbers" s_pnum ["places", "many", "width"] fpaired_numbers _ := ⟨PySem.W.mg_of X G apaired_numbers, Fpaired_numbers, Fpaired_numbers.binds (ps := ["places", "many", "width"]) fun _ _ _ _ _ _ us hl => match us, hl with | [_, _, _], _ => rfl⟩
  have Fare_low := fun_mk (st := s_low) lare_low care_low kare_low
  have Dare_low : DefT K mg "are_low" "are_low" s_low ["ways", "numbers", "k"] fare_low _ := ⟨PySem.W.mg_of X G aare_low, Fare_low, Fare_low.binds (ps := ["ways", "numbers", "k"]) fun _ _ _ _ _ _ us hl => match us, hl with | [_, _, _], _ => rfl⟩
  have Fis_closed := fun_mk (st := s_closed) lis_closed cis_closed kis_closed
  have Dis_closed : DefT K mg "is_closed" "is_closed" s_closed ["ways", "numbers", "place", "k"] fis_closed _ := ⟨PySem.W.mg_of X G ais_closed, Fis_closed, Fis_closed.binds (ps := ["ways", "numbers", "place", "k"]) fun _ _ _ _ _ _ us hl => match us, hl with | [_, _, _, _], _ => rfl⟩
  have Fcheck_text := fun_mk (st := s_check_text) lcheck_text ccheck_text kcheck_text
  have Dcheck_text : DefT K mg "check_text" "check_text" s_check_text ["signs", "text"] fcheck_text _ := ⟨PySem.W.mg_of X G acheck_text, Fcheck_text, Fcheck_text.binds (ps := ["signs", "text"]) fun _ _ _ _ _ _ us hl => match us, hl with | [_, _], _ => rfl⟩
  have Fcheck_texts := fun_mk (st := s_check_texts) lcheck_texts ccheck_texts kcheck_texts
  have Dcheck_texts : DefT K mg "check_texts" "check_texts" s_check_texts ["edits", "x", "y"] fcheck_texts _ := ⟨PySem.W.mg_of X G acheck_texts, Fcheck_texts, Fcheck_texts.binds (ps := ["edits", "x", "y"]) fun _ _ _ _ _ _ us hl => match us, hl with | [_, _, _], _ => rfl⟩
  have Fcheck_whole := fun_mk (st := s_check_whole) lcheck_whole ccheck_whole kcheck_whole
  have Dcheck_whole : DefT K mg "check_whole" "check_whole" s_check_whole ["k", "most"] fcheck_whole _ := ⟨PySem.W.mg_of X G acheck_whole, Fcheck_whole, Fcheck_whole.binds (ps := ["k", "most"]) fun _ _ _ _ _ _ us hl => match us, hl with | [_, _], _ => rfl⟩
  have Fbar_of := fun_mk (st := s_bar_of) lbar_of cbar_of kbar_of
  have Dbar_of : DefT K mg "bar_of" "bar_of" s_bar_of ["edits", "x", "y", "k"] fbar_of _ := ⟨PySem.W.mg_of X G abar_of, Fbar_of, Fbar_of.binds (ps := ["edits", "x", "y", "k"]) fun _ _ _ _ _ _ us hl => match us, hl with | [_, _, _, _], _ => rfl⟩
  have Fis_bar := fun_mk (st := s_is_bar) lis_bar cis_bar kis_bar
  have Dis_bar : DefT K mg "is_bar" "is_bar" s_is_bar ["edits", "x", "y", "k", "places"] fis_bar _ := ⟨PySem.W.mg_of X G ais_bar, Fis_bar, Fis_bar.binds (ps := ["edits", "x", "y", "k", "places"]) fun _ _ _ _ _ _ us hl => match us, hl with | [_, _, _, _, _], _ => rfl⟩
  have F_law_pen := fun_mk (st := s__law_pen) l_law_pen c_law_pen k_law_pen
  have D_law_pen : DefT K mg "_law_pen" "_law_pen" s__law_pen ["script"] f_law_pen _ := ⟨PySem.W.mg_of X G a_law_pen, F_law_pen, F_law_pen.binds (ps := ["script"]) fun _ _ _ _ _ _ us hl => match us, hl with | [_], _ => rfl⟩
  have F_law_draw := fun_mk (st := s__law_draw) l_law_draw c_law_draw k_law_draw
  have D_law_draw : DefT K mg "_law_draw" "_law_draw" s__law_draw ["pen", "many"] f_law_draw _ := ⟨PySem.W.mg_of X G a_law_draw, F_law_draw, F_law_draw.binds (ps := ["pen", "many"]) fun _ _ _ _ _ _ us hl => match us, hl with | [_, _], _ => rfl⟩
  have F_law_pick := fun_mk (st := s__law_pick) l_law_pick c_law_pick k_law_pick
  have D_law_pick : DefT K mg "_law_pick" "_law_pick" s__law_pick ["pen", "items"] f_law_pick _ := ⟨PySem.W.mg_of X G a_law_pick, F_law_pick, F_law_pick.binds (ps := ["pen", "items"]) fun _ _ _ _ _ _ us hl => match us, hl with | [_, _], _ => rfl⟩
  have F_law_text := fun_mk (st := s__law_text) l_law_text c_law_text k_law_text
  have D_law_text : DefT K mg "_law_text" "_law_text" s__law_text ["pen", "signs", "most"] f_law_text _ := ⟨PySem.W.mg_of X G a_law_text, F_law_text, F_law_text.binds (ps := ["pen", "signs", "most"]) fun _ _ _ _ _ _ us hl => match us, hl with | [_, _, _], _ => rfl⟩
  have F_law_edit_rows := fun_mk (st := s__law_edit_rows) l_law_edit_rows c_law_edit_rows k_law_edit_rows
  have D_law_edit_rows : DefT K mg "_law_edit_rows" "_law_edit_rows" s__law_edit_rows ["pen", "signs", "most"] f_law_edit_rows _ := ⟨PySem.W.mg_of X G a_law_edit_rows, F_law_edit_rows, F_law_edit_rows.binds (ps := ["pen", "signs", "most"]) fun _ _ _ _ _ _ us hl => match us, hl with | [_, _, _], _ => rfl⟩
  have F_law_signs := fun_mk (st := s__law_signs) l_law_signs c_law_signs k_law_signs
  have D_law_signs : DefT K mg "_law_signs" "_law_signs" s__law_signs ["pen", "many"] f_law_signs _ := ⟨PySem.W.mg_of X G a_law_signs, F_law_signs, F_law_signs.binds (ps := ["pen", "many"]) fun _ _ _ _ _ _ us hl => match us, hl with | [_, _], _ => rfl⟩
  have F_law_fits := fun_mk (st := s__law_fits) l_law_fits c_law_fits k_law_fits
  have D_law_fits : DefT K mg "_law_fits" "_law_fits" s__law_fits ["rows", "x", "y", "i", "j"] f_law_fits _ := ⟨PySem.W.mg_of X G a_law_fits, F_law_fits, F_law_fits.binds (ps := ["rows", "x", "y", "i", "j"]) fun _ _ _ _ _ _ us hl => match us, hl with | [_, _, _, _, _], _ => rfl⟩
  have F_law_least := fun_mk (st := s__law_least) l_law_least c_law_least k_law_least
  have D_law_least : DefT K mg "_law_least" "_law_least" s__law_least ["rows", "x", "y"] f_law_least _ := ⟨PySem.W.mg_of X G a_law_least, F_law_least, F_law_least.binds (ps := ["rows", "x", "y"]) fun _ _ _ _ _ _ us hl => match us, hl with | [_, _, _], _ => rfl⟩
  have F_law_weight := fun_mk (st := s__law_weight) l_law_weight c_law_weight k_law_weight
  have D_law_weight : DefT K mg "_law_weight" "_law_weight" s__law_weight ["rows", "x", "y"] f_law_weight _ := ⟨PySem.W.mg_of X G a_law_weight, F_law_weight, F_law_weight.binds (ps := ["rows", "x", "y"]) fun _ _ _ _ _ _ us hl => match us, hl with | [_, _, _], _ => rfl⟩
  have F_law_changed := fun_mk (st := s__law_changed) l_law_changed c_law_changed k_law_changed
  have D_law_changed : DefT K mg "_law_changed" "_law_changed" s__law_changed ["pen", "signs", "rows", "text"] f_law_changed _ := ⟨PySem.W.mg_of X G a_law_changed, F_law_changed, F_law_changed.binds (ps := ["pen", "signs", "rows", "text"]) fun _ _ _ _ _ _ us hl => match us, hl with | [_, _, _, _], _ => rfl⟩
  have F_law_bar_right := fun_mk (st := s__law_bar_right) l_law_bar_right c_law_bar_right k_law_bar_right
  have D_law_bar_right : DefT K mg "_law_bar_right" "_law_bar_right" s__law_bar_right ["rows", "x", "y", "k", "places"] f_law_bar_right _ := ⟨PySem.W.mg_of X G a_law_bar_right, F_law_bar_right, F_law_bar_right.binds (ps := ["rows", "x", "y", "k", "places"]) fun _ _ _ _ _ _ us hl => match us, hl with | [_, _, _, _, _], _ => rfl⟩
  have F_law_bent := fun_mk (st := s__law_bent) l_law_bent c_law_bent k_law_bent
  have D_law_bent : DefT K mg "_law_bent" "_law_bent" s__law_bent ["pen", "places", "x", "y"] f_law_bent _ := ⟨PySem.W.mg_of X G a_law_bent, F_law_bent, F_law_bent.binds (ps := ["pen", "places", "x", "y"]) fun _ _ _ _ _ _ us hl => match us, hl with | [_, _, _, _], _ => rfl⟩
  have Flaw := fun_mk (st := s_law) llaw claw klaw
  have Dlaw : DefT K mg "law" "law" s_law ["script"] flaw _ := ⟨PySem.W.mg_of X G alaw, Flaw, Flaw.binds (ps := ["script"]) fun _ _ _ _ _ _ us hl => match us, hl with | [_], _ => rfl⟩
  have g_MOST_WEIGHT := PySem.W.mg_of X G gMOST_WEIGHT
  have g_LONGEST_SIDE := PySem.W.mg_of X G gLONGEST_SIDE
  have g_MOST_EDITS := PySem.W.mg_of X G gMOST_EDITS
  have g_MOST_BOUND := PySem.W.mg_of X G gMOST_BOUND
  have n_isinstance := PySem.W.mg_none_of X G z_isinstance
  have n_int := PySem.W.mg_none_of X G z_int
  have n_bool := PySem.W.mg_none_of X G z_bool
  have n_str := PySem.W.mg_none_of X G z_str
  have n_len := PySem.W.mg_none_of X G z_len
  have n_all := PySem.W.mg_none_of X G z_all
  have n_tuple := PySem.W.mg_none_of X G z_tuple
  have n_list := PySem.W.mg_none_of X G z_list
  have n_enumerate := PySem.W.mg_none_of X G z_enumerate
  have n_sum := PySem.W.mg_none_of X G z_sum
  have n_range := PySem.W.mg_none_of X G z_range
  have n_divmod := PySem.W.mg_none_of X G z_divmod
  have n_sorted := PySem.W.mg_none_of X G z_sorted
  have n_dict := PySem.W.mg_none_of X G z_dict
  have n_min := PySem.W.mg_none_of X G z_min
  have n_max := PySem.W.mg_none_of X G z_max
  exact ⟨PySem.W.fnOf "law" "law" (defArgs s_law) (defBody s_law) (defScope s_law) .none kVlaw dclaw pmlaw anlaw cdlaw ctlaw, fun s v => .of_eq rfl, fun base _ _ => ok_law (B := ⟨_, _, _, _, _, _, _, _, _, _, _, _⟩) (Z := ⟨_, _, _, 0, (PySem.W.fnOf "law" "law" (defArgs s_law) (defBody s_law) (defScope s_law) .none kVlaw dclaw pmlaw anlaw cdlaw ctlaw), _, _, _, _⟩) (G := ⟨_, _, _, _, _, _, _, _, _, _, _⟩) (Y := ⟨_, _, _, _⟩) (J := ⟨_, _, _, _, _, _, _, _⟩) (U := ⟨_, _, _, _, _, _⟩) (W := ⟨_, _, _, _, _, _, _, _, _, _⟩) (A := ⟨_, _, _, _, _, _⟩) (F := ⟨_, _, _, _, _, _⟩) (L := ⟨_, _, _, _, _, _, _, _⟩) ⟨⟨Dis_whole, Dis_natural, Dis_weight, Dis_side, Dis_edit, Dcheck_rows, ⟨_, g_MOST_WEIGHT⟩, ⟨_, g_LONGEST_SIDE⟩, n_isinstance, n_int, n_bool, n_str, n_len, n_all, n_tuple, n_list, n_enumerate⟩, ⟨⟨⟨Dis_whole, Dis_natural, Dis_weight, Dis_side, Dis_edit, Dcheck_rows, ⟨_, g_MOST_WEIGHT⟩, ⟨_, g_LONGEST_SIDE⟩, n_isinstance, n_int, n_bool, n_str, n_len, n_all, n_tuple, n_list, n_enumerate⟩, ⟨⟨⟨⟨Dstanding, n_sum, n_range, n_len, n_enumerate⟩, cl_Grid, mk_Grid, F_Grid_init, b_Grid_init, (PySem.W.mg_of X G aCGrid), naGrid_columns, naGrid_sides, naGrid_width, naGrid_last, naGrid_first, naGrid_second, naGrid__moves, n_len⟩, m_Grid_moves, F_Grid_moves, b_Grid_moves, m_Grid_ahead, F_Grid_ahead, b_Grid_ahead, n_len, n_enumerate, n_divmod⟩, m_Grid_ways_within, F_Grid_ways_within, b_Grid_ways_within, n_range⟩, m_Grid_is_end, F_Grid_is_end, b_Grid_is_end, Dpaired_numbers, Dare_low, Dis_closed, n_list⟩, ⟨⟨cl_Edits, mk_Edits, F_Edits_init, b_Edits_init, (PySem.W.mg_of X G aCEdits), naEdits_signs, naEdits_rows, ⟨_, g_MOST_EDITS⟩, n_len, n_tuple⟩, m_Edits_side, F_Edits_side, b_Edits_side, m_Edits_all_columns, F_Edits_all_columns, b_Edits_all_columns, n_isinstance, n_str, n_list, n_range, n_len⟩, ⟨Dcheck_text, Dcheck_texts, n_enumerate⟩, Dcheck_whole, Dbar_of, Dis_bar, ⟨_, g_MOST_BOUND⟩, n_sorted, n_divmod, n_len⟩, ⟨⟨⟨D_law_pen, D_law_draw, D_law_pick, n_list, n_int, n_len⟩, D_law_text, n_range⟩, D_law_edit_rows, n_len⟩, ⟨⟨D_law_pen, D_law_draw, D_law_pick, n_list, n_int, n_len⟩, D_law_signs, n_len, n_range⟩, ⟨⟨D_law_fits, n_len, n_range⟩, D_law_least, D_law_weight⟩, ⟨⟨D_law_pen, D_law_draw, D_law_pick, n_list, n_int, n_len⟩, D_law_changed, n_len⟩, ⟨⟨D_law_fits, n_len, n_range⟩, D_law_bar_right⟩, ⟨⟨D_law_pen, D_law_draw, D_law_pick, n_list, n_int, n_len⟩, D_law_bent, n_dict, n_list, n_len⟩, Dlaw, n_range, n_min, n_max, n_len⟩⟩
theorem walk {l : PySem.W.OpenLaw} {q : Program} {loose : List Str} {XP : (Str → Option Value) → Heap → Prop} {YP : World → Heap → Prop} {d : DefRec} {K : Params → PySem.W.Frag} (hn : l.most = some 63) (hdf : d.params.defaults = [])
    (hY : ∀ (w : World) (h : Heap), YP w h → (K w.params).In h)
    (F : ∀ (w : World) (mg : Str → Option Value) (fa : Addr) (h : Heap), (K w.params).In h → h.Ns mainGlobals mg → mg d.name = some (.ref fa) → ∃ fd : FuncData, (∀ (s : Shared) (u : Value), BindsTo s fd ⟨[u], []⟩ [("script", u)]) ∧ ∀ base : Heap, (K w.params).In base → base.Ns mainGlobals mg →
      FnOk l.prog w (K w.params) mg base CX0 9 fa fd ["script"] (spLaw (K w.params))) :
    PySem.W.WalkO q loose XP YP l.row.toRowW d [] (fun f vs => PySem.call f vs) :=
  L2.walk_of (n := 63) (k := 9) (x := "script") (CX := fun _ => CX0) (sp := fun w => spLaw (K w.params)) hn (by decide) hdf ⟨rfl, by decide, by decide⟩ hY F (fun _ _ a ns hl _ hS => ⟨a, ns, rfl, hS, hl, fun _ => rfl⟩) fun _ _ _ _ _ z => z
end Kx

open PySem PySem.W PyProof.Rows
set_option maxRecDepth 100000 in
set_option maxHeartbeats 0 in
theorem PySem.Challenge.cw_nevermiss_k41_bars_holds : PySem.Challenge.rw_nevermiss_k41_bars.Holds := by
  w_on; o_law; k_head; (case hw => w_witness2)
  k_fill
  refine Kx.walk (l := PySem.Challenge.rw_nevermiss_k41_bars) rfl rfl (fun w h Y => PySem.W.kIn_of Y) ?F
  case F =>
    intro w mg fa h KX G hmg
    refine' Kx.all_mk KX G hmg ?aCGrid ?pgGrid ?hdGrid ?poGrid ?saGrid ?mkGrid ?kcGrid ?naGrid_columns ?naGrid_sides ?naGrid_width ?naGrid_last ?naGrid_first ?naGrid_second ?naGrid__moves ?aGrid_init ?iGrid_init ?lGrid_init ?cGrid_init ?kGrid_init ?aGrid_moves ?iGrid_moves ?lGrid_moves ?cGrid_moves ?kGrid_moves ?aGrid_ahead ?iGrid_ahead ?lGrid_ahead ?cGrid_ahead ?kGrid_ahead ?aGrid_ways_within ?iGrid_ways_within ?lGrid_ways_within ?cGrid_ways_within ?kGrid_ways_within ?aGrid_is_end ?iGrid_is_end ?lGrid_is_end ?cGrid_is_end ?kGrid_is_end ?aCEdits ?pgEdits ?hdEdits ?poEdits ?saEdits ?mkEdits ?kcEdits ?naEdits_signs ?naEdits_rows ?aEdits_init ?iEdits_init ?lEdits_init ?cEdits_init ?kEdits_init ?aEdits_side ?iEdits_side ?lEdits_side ?cEdits_side ?kEdits_side ?aEdits_all_columns ?iEdits_all_columns ?lEdits_all_columns ?cEdits_all_columns ?kEdits_all_columns ?ais_whole ?lis_whole ?cis_whole ?kis_whole ?ais_natural ?lis_natural ?cis_natural ?kis_natural ?ais_weight ?lis_weight ?cis_weight ?kis_weight ?ais_side ?lis_side ?cis_side ?kis_side ?ais_edit ?lis_edit ?cis_edit ?kis_edit ?acheck_rows ?lcheck_rows ?ccheck_rows ?kcheck_rows ?astanding ?lstanding ?cstanding ?kstanding ?apaired_numbers ?lpaired_numbers ?cpaired_numbers ?kpaired_numbers ?aare_low ?lare_low ?care_low ?kare_low ?ais_closed ?lis_closed ?cis_closed ?kis_closed ?acheck_text ?lcheck_text ?ccheck_text ?kcheck_text ?acheck_texts ?lcheck_texts ?ccheck_texts ?kcheck_texts ?acheck_whole ?lcheck_whole ?ccheck_whole ?kcheck_whole ?abar_of ?lbar_of ?cbar_of ?kbar_of ?ais_bar ?lis_bar ?cis_bar ?kis_bar ?a_law_pen ?l_law_pen ?c_law_pen ?k_law_pen ?a_law_draw ?l_law_draw ?c_law_draw ?k_law_draw ?a_law_pick ?l_law_pick ?c_law_pick ?k_law_pick ?a_law_text ?l_law_text ?c_law_text ?k_law_text ?a_law_edit_rows ?l_law_edit_rows ?c_law_edit_rows ?k_law_edit_rows ?a_law_signs ?l_law_signs ?c_law_signs ?k_law_signs ?a_law_fits ?l_law_fits ?c_law_fits ?k_law_fits ?a_law_least ?l_law_least ?c_law_least ?k_law_least ?a_law_weight ?l_law_weight ?c_law_weight ?k_law_weight ?a_law_changed ?l_law_changed ?c_law_changed ?k_law_changed ?a_law_bar_right ?l_law_bar_right ?c_law_bar_right ?k_law_bar_right ?a_law_bent ?l_law_bent ?c_law_bent ?k_law_bent ?alaw ?llaw ?claw ?klaw ?gMOST_WEIGHT ?gLONGEST_SIDE ?gMOST_EDITS ?gMOST_BOUND ?z_isinstance ?z_int ?z_bool ?z_str ?z_len ?z_all ?z_tuple ?z_list ?z_enumerate ?z_sum ?z_range ?z_divmod ?z_sorted ?z_dict ?z_min ?z_max
    (case aCGrid => k_is)
    (case pgGrid => k_is)
    (case hdGrid => k_is)
    (case poGrid => k_is)
    (case saGrid => k_is)
    (case mkGrid => k_is)
    (case kcGrid => k_is)
    (case naGrid_columns => k_is)
    (case naGrid_sides => k_is)
    (case naGrid_width => k_is)
    (case naGrid_last => k_is)
    (case naGrid_first => k_is)
    (case naGrid_second => k_is)
    (case naGrid__moves => k_is)
    (case aGrid_init => k_is)
    (case iGrid_init => k_is)
    (case lGrid_init => k_is)
    (case cGrid_init => k_is)
    (case kGrid_init => k_is)
    (case aGrid_moves => k_is)
    (case iGrid_moves => k_is)
    (case lGrid_moves => k_is)
    (case cGrid_moves => k_is)
    (case kGrid_moves => k_is)
    (case aGrid_ahead => k_is)
    (case iGrid_ahead => k_is)
    (case lGrid_ahead => k_is)
    (case cGrid_ahead => k_is)
    (case kGrid_ahead => k_is)
    (case aGrid_ways_within => k_is)
    (case iGrid_ways_within => k_is)
    (case lGrid_ways_within => k_is)
    (case cGrid_ways_within => k_is)
    (case kGrid_ways_within => k_is)
    (case aGrid_is_end => k_is)
    (case iGrid_is_end => k_is)
    (case lGrid_is_end => k_is)
    (case cGrid_is_end => k_is)
    (case kGrid_is_end => k_is)
    (case aCEdits => k_is)
    (case pgEdits => k_is)
    (case hdEdits => k_is)
    (case poEdits => k_is)
    (case saEdits => k_is)
    (case mkEdits => k_is)
    (case kcEdits => k_is)
    (case naEdits_signs => k_is)
    (case naEdits_rows => k_is)
    (case aEdits_init => k_is)
    (case iEdits_init => k_is)
    (case lEdits_init => k_is)
    (case cEdits_init => k_is)
    (case kEdits_init => k_is)
    (case aEdits_side => k_is)
    (case iEdits_side => k_is)
    (case lEdits_side => k_is)
    (case cEdits_side => k_is)
    (case kEdits_side => k_is)
    (case aEdits_all_columns => k_is)
    (case iEdits_all_columns => k_is)
    (case lEdits_all_columns => k_is)
    (case cEdits_all_columns => k_is)
    (case kEdits_all_columns => k_is)
    (case ais_whole => k_is)
    (case lis_whole => k_is)
    (case cis_whole => k_is)
    (case kis_whole => k_is)
    (case ais_natural => k_is)
    (case lis_natural => k_is)
    (case cis_natural => k_is)
    (case kis_natural => k_is)
    (case ais_weight => k_is)
    (case lis_weight => k_is)
    (case cis_weight => k_is)
    (case kis_weight => k_is)
    (case ais_side => k_is)
    (case lis_side => k_is)
    (case cis_side => k_is)
    (case kis_side => k_is)
    (case ais_edit => k_is)
    (case lis_edit => k_is)
    (case cis_edit => k_is)
    (case kis_edit => k_is)
    (case acheck_rows => k_is)
    (case lcheck_rows => k_is)
    (case ccheck_rows => k_is)
    (case kcheck_rows => k_is)
    (case astanding => k_is)
    (case lstanding => k_is)
    (case cstanding => k_is)
    (case kstanding => k_is)
    (case apaired_numbers => k_is)
    (case lpaired_numbers => k_is)
    (case cpaired_numbers => k_is)
    (case kpaired_numbers => k_is)
    (case aare_low => k_is)
    (case lare_low => k_is)
    (case care_low => k_is)
    (case kare_low => k_is)
    (case ais_closed => k_is)
    (case lis_closed => k_is)
    (case cis_closed => k_is)
    (case kis_closed => k_is)
    (case acheck_text => k_is)
    (case lcheck_text => k_is)
    (case ccheck_text => k_is)
    (case kcheck_text => k_is)
    (case acheck_texts => k_is)
    (case lcheck_texts => k_is)
    (case ccheck_texts => k_is)
    (case kcheck_texts => k_is)
    (case acheck_whole => k_is)
    (case lcheck_whole => k_is)
    (case ccheck_whole => k_is)
    (case kcheck_whole => k_is)
    (case abar_of => k_is)
    (case lbar_of => k_is)
    (case cbar_of => k_is)
    (case kbar_of => k_is)
    (case ais_bar => k_is)
    (case lis_bar => k_is)
    (case cis_bar => k_is)
    (case kis_bar => k_is)
    (case a_law_pen => k_is)
    (case l_law_pen => k_is)
    (case c_law_pen => k_is)
    (case k_law_pen => k_is)
    (case a_law_draw => k_is)
    (case l_law_draw => k_is)
    (case c_law_draw => k_is)
    (case k_law_draw => k_is)
    (case a_law_pick => k_is)
    (case l_law_pick => k_is)
    (case c_law_pick => k_is)
    (case k_law_pick => k_is)
    (case a_law_text => k_is)
    (case l_law_text => k_is)
    (case c_law_text => k_is)
    (case k_law_text => k_is)
    (case a_law_edit_rows => k_is)
    (case l_law_edit_rows => k_is)
    (case c_law_edit_rows => k_is)
    (case k_law_edit_rows => k_is)
    (case a_law_signs => k_is)
    (case l_law_signs => k_is)
    (case c_law_signs => k_is)
    (case k_law_signs => k_is)
    (case a_law_fits => k_is)
    (case l_law_fits => k_is)
    (case c_law_fits => k_is)
    (case k_law_fits => k_is)
    (case a_law_least => k_is)
    (case l_law_least => k_is)
    (case c_law_least => k_is)
    (case k_law_least => k_is)
    (case a_law_weight => k_is)
    (case l_law_weight => k_is)
    (case c_law_weight => k_is)
    (case k_law_weight => k_is)
    (case a_law_changed => k_is)
    (case l_law_changed => k_is)
    (case c_law_changed => k_is)
    (case k_law_changed => k_is)
    (case a_law_bar_right => k_is)
    (case l_law_bar_right => k_is)
    (case c_law_bar_right => k_is)
    (case k_law_bar_right => k_is)
    (case a_law_bent => k_is)
    (case l_law_bent => k_is)
    (case c_law_bent => k_is)
    (case k_law_bent => k_is)
    (case alaw => k_is)
    (case llaw => k_is)
    (case claw => k_is)
    (case klaw => k_is)
    (case gMOST_WEIGHT => k_is)
    (case gLONGEST_SIDE => k_is)
    (case gMOST_EDITS => k_is)
    (case gMOST_BOUND => k_is)
    (case z_isinstance => k_is)
    (case z_int => k_is)
    (case z_bool => k_is)
    (case z_str => k_is)
    (case z_len => k_is)
    (case z_all => k_is)
    (case z_tuple => k_is)
    (case z_list => k_is)
    (case z_enumerate => k_is)
    (case z_sum => k_is)
    (case z_range => k_is)
    (case z_divmod => k_is)
    (case z_sorted => k_is)
    (case z_dict => k_is)
    (case z_min => k_is)
    (case z_max => k_is)

