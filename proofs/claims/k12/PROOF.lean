import PyProof.Rows.All
import Wide.All
import OpenK.AllK
import Wide.FinOn
import HandS.DictComp
import KE.KeyNested
import PyProof.Rows.TupTab
import KE.KDictDisplayH
import HandS.Nested
import HandS.Words
import HandS.WordsExc
import HandS.ExcOwn
import HandS.Text
import HandS.SetTxt0
import HandS.ForMost
import HandS.ForExc
import HandS.ExcInit
import HandS.ExcField
import HandS.ExcIs
import HandS.ExcValue
import HandS.HotCalls
import HandS.MakeKwOnly
import HandS.IsInst
import HandS.Conv
import HandS.Wide
import HandS.Codes
import KE.KExcIs
import HandS.Strs
import HandS.SetFor
import PyProof.StrWalks
import PyProof.WalksMore
import PyProof.SetRoads
import PyProof.Rows.SortShellAny
import HandS.AnyAll
import HandS.Comp
import HandS.Walk
import HandS.Zip
import HandS.Star
import HandS.Flow
import KE.GoesMore
import HandS.Base
import HandS.Call
import PyProof.CollectStr
import HandS.OwnEq
import HandS.SortKw
import KE.DataMinKey
import KE.DatumOrd
import PyProof.SeqI3
import HandS.TupAny
import PyProof.SetNew
import HandS.Deep
import HandS.Style
import PyProof.ListStr
import KE.KNestM
import HandS.EndTab
import HandS.HeadWalk
import HandS.NestedK
import PySem.Challenge.RW_nevermiss_k12_whole_first_unlike_texts
set_option Elab.async false
set_option linter.all false
set_option maxRecDepth 100000
set_option maxHeartbeats 4000000
/-! The first text that comes to a goal: a walk in breadth through labels, in plain lists. -/
namespace Fst
/-! ### texts by their number: shorter ones first, then by the places of the signs -/
def num (cs : List Nat) (t : List Nat) : Nat := t.foldl (fun a c => a * cs.length + cs.idxOf c + 1) 0
theorem num_snoc (cs t : List Nat) (c : Nat) : num cs (t ++ [c]) = num cs t * cs.length + cs.idxOf c + 1 := by
  unfold num
  rw [List.foldl_append]
  rfl
def Of (cs t : List Nat) : Prop := ∀ c ∈ t, c ∈ cs
theorem Of.snoc {cs t : List Nat} {c : Nat} (h : Of cs t) (hc : c ∈ cs) : Of cs (t ++ [c]) := fun d hd => by
  rcases List.mem_append.mp hd with hd | hd
  · exact h d hd
  · rw [List.mem_singleton.mp hd]; exact hc
theorem Of.init {cs t : List Nat} {c : Nat} (h : Of cs (t ++ [c])) : Of cs t ∧ c ∈ cs := ⟨fun d hd => h d (List.mem_append_left _ hd), h c (List.mem_append_right _ List.mem_cons_self)⟩
theorem snoc_ind {P : List Nat → Prop} (h0 : P []) (hs : ∀ t c, P t → P (t ++ [c])) : ∀ t, P t := fun t => by
  have h : ∀ r : List Nat, P r.reverse := fun r => by
    induction r with
    | nil => exact h0
    | cons c r ih => rw [List.reverse_cons]; exact hs _ _ ih
  have := h t.reverse
  rwa [List.reverse_reverse] at this
theorem num_inj {cs : List Nat} : ∀ t u : List Nat, Of cs t → Of cs u → num cs t = num cs u → t = u := by
  refine snoc_ind ?_ ?_
  · refine snoc_ind (fun _ _ _ => rfl) fun u c _ _ _ e => ?_
    rw [num_snoc] at e
    exact absurd e (by show ¬ (0 = _); omega)
  · intro t c ih
    refine snoc_ind (fun _ _ e => ?_) fun u d _ ht hu e => ?_
    · rw [num_snoc] at e
      exact absurd e (by show ¬ (_ = 0); omega)
    · rw [num_snoc, num_snoc] at e
      have l1 : cs.idxOf c < cs.length := List.idxOf_lt_length_of_mem ht.init.2
      have l2 : cs.idxOf d < cs.length := List.idxOf_lt_length_of_mem hu.init.2
      have e1 : num cs t = num cs u := by
        have a : (num cs t * cs.length + cs.idxOf c) / cs.length = num cs t := by
          rw [Nat.mul_comm, Nat.mul_add_div (by omega), Nat.div_eq_of_lt l1, Nat.add_zero]
        have b : (num cs u * cs.length + cs.idxOf d) / cs.length = num cs u := by
          rw [Nat.mul_comm, Nat.mul_add_div (by omega), Nat.div_eq_of_lt l2, Nat.add_zero]
        rw [← a, ← b, show num cs t * cs.length + cs.idxOf c = num cs u * cs.length + cs.idxOf d by omega]
      have e2 : cs.idxOf c = cs.idxOf d := by rw [e1] at e; omega
      have e3 : c = d := by
        have a : cs[cs.idxOf c]'l1 = c := List.getElem_idxOf l1
        have b : cs[cs.idxOf d]'l2 = d := List.getElem_idxOf l2
        rw [← a, ← b]
        congr 1
      rw [ih u ht.init.1 hu.init.1 e1, e3]
theorem num_pre {cs : List Nat} (t u : List Nat) : num cs t ≤ num cs (t ++ u) ∨ cs = [] := by
  rcases cs with _ | ⟨a, r⟩
  · exact .inr rfl
  · refine .inl (snoc_ind (P := fun u => num (a :: r) t ≤ num (a :: r) (t ++ u)) (by rw [List.append_nil]; exact Nat.le_refl _) (fun u c ih => ?_) u)
    rw [← List.append_assoc, num_snoc, List.length_cons, Nat.mul_succ]
    omega
/-! ### the walk -/
section
variable {L : Type} [DecidableEq L]
abbrev Nd (L : Type) := L × List Nat
def add (nx : L → Nat → Option L) (p : Nd L) (ns : List (Nd L)) (c : Nat) : List (Nd L) := match nx p.1 c with
  | none => ns
  | some q => if q ∈ ns.map (·.1) then ns else ns ++ [(q, p.2 ++ [c])]
def turn (nx : L → Nat → Option L) (p : Nd L) (ns : List (Nd L)) (cs : List Nat) : List (Nd L) := cs.foldl (add nx p) ns
def walk (nx : L → Nat → Option L) (l0 : L) (cs : List Nat) : Nat → List (Nd L)
  | 0 => [(l0, [])]
  | d + 1 => match (walk nx l0 cs d)[d]? with
    | some p => turn nx p (walk nx l0 cs d) cs
    | none => walk nx l0 cs d
def run (nx : L → Nat → Option L) (l : L) (t : List Nat) : Option L := t.foldl (fun o c => o.bind fun q => nx q c) (some l)
theorem run_snoc (nx : L → Nat → Option L) (l : L) (t : List Nat) (c : Nat) : run nx l (t ++ [c]) = (run nx l t).bind fun q => nx q c := by
  unfold run
  rw [List.foldl_append]
  rfl
/-- d entries are done, none of them a goal -/
def Going (nx : L → Nat → Option L) (goal : L → Bool) (l0 : L) (cs : List Nat) (d : Nat) : Prop := ∀ j, j < d → ∃ p, (walk nx l0 cs j)[j]? = some p ∧ goal p.1 = false
def Stop (nx : L → Nat → Option L) (goal : L → Bool) (l0 : L) (cs : List Nat) (r : Option (List Nat)) : Prop := ∃ d, Going nx goal l0 cs d ∧ ((∃ p, (walk nx l0 cs d)[d]? = some p ∧ goal p.1 = true ∧ r = some p.2) ∨ ((walk nx l0 cs d)[d]? = none ∧ r = none))
section
variable {nx : L → Nat → Option L} {l0 : L} {cs : List Nat} {goal : L → Bool}
theorem add_pre {p : Nd L} {ns : List (Nd L)} {c i : Nat} {q : Nd L} (h : ns[i]? = some q) : (add nx p ns c)[i]? = some q := by
  unfold add
  split
  · exact h
  · split
    · exact h
    · rw [List.getElem?_append_left (List.getElem?_eq_some_iff.mp h).1]
      exact h
theorem turn_pre {p : Nd L} {i : Nat} {q : Nd L} : ∀ {cs : List Nat} {ns : List (Nd L)}, ns[i]? = some q → (turn nx p ns cs)[i]? = some q
  | [], _, h => h
  | c :: cs, _, h => turn_pre (cs := cs) (add_pre h)
theorem walk_pre {d i : Nat} {q : Nd L} (h : (walk nx l0 cs d)[i]? = some q) : (walk nx l0 cs (d + 1))[i]? = some q := by
  unfold walk
  split
  · exact turn_pre h
  · exact h
theorem walk_at {d : Nat} {p : Nd L} (h : (walk nx l0 cs d)[d]? = some p) : walk nx l0 cs (d + 1) = turn nx p (walk nx l0 cs d) cs := by
  show (match (walk nx l0 cs d)[d]? with
    | some p => turn nx p (walk nx l0 cs d) cs
    | none => walk nx l0 cs d) = _
  rw [h]
theorem add_nodup {p : Nd L} {ns : List (Nd L)} {c : Nat} (nd : (ns.map (·.1)).Nodup) : ((add nx p ns c).map (·.1)).Nodup := by
  unfold add
  split
  · exact nd
  · split
    · exact nd
    · rename_i m
      rw [List.map_append]
      refine List.nodup_append.mpr ⟨nd, by simp, fun a ha b hb => ?_⟩
      rw [List.mem_singleton.mp hb]
      intro e
      rw [show a = _ from e] at ha
      exact m ha
theorem turn_nodup {p : Nd L} : ∀ {cs : List Nat} {ns : List (Nd L)}, (ns.map (·.1)).Nodup → ((turn nx p ns cs).map (·.1)).Nodup
  | [], _, h => h
  | c :: cs, _, h => turn_nodup (cs := cs) (add_nodup h)
theorem walk_nodup (d : Nat) : ((walk nx l0 cs d).map (·.1)).Nodup := by
  induction d with
  | zero => simp [walk]
  | succ d ih =>
    unfold walk
    split
    · exact turn_nodup ih
    · exact ih
/-- what holds of the labels and texts -/
theorem turn_all {In : Nd L → Prop} {p : Nd L} {ns : List (Nd L)} : ∀ {cs : List Nat} {ns : List (Nd L)}, (∀ c ∈ cs, ∀ q, nx p.1 c = some q → In (q, p.2 ++ [c])) → (∀ q ∈ ns, In q) → ∀ q ∈ turn nx p ns cs, In q
  | [], _, _, h => h
  | c :: cs, ns, hn, h => by
    refine turn_all (ns := ns) (cs := cs) (fun d hd => hn d (List.mem_cons_of_mem _ hd)) fun q hq => ?_
    unfold add at hq
    split at hq
    · exact h q hq
    · rename_i q' e
      split at hq
      · exact h q hq
      · rcases List.mem_append.mp hq with hq | hq
        · exact h q hq
        · rw [List.mem_singleton.mp hq]
          exact hn c List.mem_cons_self _ e
theorem walk_all {In : Nd L → Prop} (h0 : In (l0, [])) (hn : ∀ p, In p → ∀ c ∈ cs, ∀ q, nx p.1 c = some q → In (q, p.2 ++ [c])) (d : Nat) : ∀ q ∈ walk nx l0 cs d, In q := by
  induction d with
  | zero => intro q hq; rw [List.mem_singleton.mp hq]; exact h0
  | succ d ih =>
    unfold walk
    split
    · rename_i p hp
      exact turn_all (ns := []) (hn p (ih p (List.mem_of_getElem? hp))) ih
    · exact ih
/-! ### the texts ascend -/
def Asc (cs : List Nat) (ns : List (Nd L)) : Prop := ns.Pairwise fun a b => num cs a.2 < num cs b.2
/-- one turn: up to the sign at the place j -/
theorem turn_asc (nd : cs.Nodup) {p : Nd L} {ns : List (Nd L)} (asc : Asc cs ns) (low : ∀ v ∈ ns, num cs v.2 ≤ num cs p.2 * cs.length) : ∀ j, j ≤ cs.length → Asc cs (turn nx p ns (cs.take j)) ∧ (∀ v ∈ turn nx p ns (cs.take j), num cs v.2 ≤ num cs p.2 * cs.length + j) ∧
    ∀ i c q, i < j → cs[i]? = some c → nx p.1 c = some q → ∃ t, (q, t) ∈ turn nx p ns (cs.take j) ∧ num cs t ≤ num cs (p.2 ++ [c])
  | 0, _ => ⟨by simpa [turn] using asc, by simpa [turn] using low, fun i _ _ h => absurd h (Nat.not_lt_zero i)⟩
  | j + 1, hj => by
    obtain ⟨a, l, r⟩ := turn_asc nd asc low j (by omega)
    have hc : cs[j]? = some cs[j] := List.getElem?_eq_getElem (by omega)
    have tk : cs.take (j + 1) = cs.take j ++ [cs[j]] := by rw [List.take_add_one, hc]; rfl
    have tn : turn nx p ns (cs.take (j + 1)) = add nx p (turn nx p ns (cs.take j)) cs[j] := by
      rw [tk]
      unfold turn
      rw [List.foldl_append]
      rfl
    have ix : cs.idxOf cs[j] = j := List.Nodup.idxOf_getElem nd j (by omega)
    have nn : num cs (p.2 ++ [cs[j]]) = num cs p.2 * cs.length + j + 1 := by rw [num_snoc, ix]
    rw [tn]
    generalize turn nx p ns (cs.take j) = ms at a l r
    have old : ∀ i c q, i < j → cs[i]? = some c → nx p.1 c = some q → ∃ t, (q, t) ∈ add nx p ms cs[j] ∧ num cs t ≤ num cs (p.2 ++ [c]) := fun i c q hi h1 h2 => by
      obtain ⟨t, ht, hl⟩ := r i c q hi h1 h2
      obtain ⟨k, hk⟩ := List.getElem?_of_mem ht
      exact ⟨t, List.mem_of_getElem? (add_pre hk), hl⟩
    unfold add at old ⊢
    cases e : nx p.1 cs[j] with
    | none =>
      rw [e] at old
      refine ⟨a, fun v hv => by have := l v hv; omega, fun i c q hi h1 h2 => ?_⟩
      rcases Nat.lt_succ_iff_lt_or_eq.mp hi with h | rfl
      · exact old i c q h h1 h2
      · rw [hc] at h1
        rw [← Option.some.inj h1, e] at h2
        cases h2
    | some q =>
      rw [e] at old
      dsimp only at old ⊢
      by_cases m : q ∈ ms.map (·.1)
      · rw [if_pos m] at old ⊢
        refine ⟨a, fun v hv => by have := l v hv; omega, fun i c q' hi h1 h2 => ?_⟩
        rcases Nat.lt_succ_iff_lt_or_eq.mp hi with h | rfl
        · exact old i c q' h h1 h2
        · rw [hc] at h1
          rw [← Option.some.inj h1, e] at h2
          obtain rfl := Option.some.inj h2
          obtain ⟨⟨q1, t⟩, hm, rfl⟩ := List.mem_map.mp m
          have e1 := Option.some.inj h1
          refine ⟨t, hm, ?_⟩
          have := l _ hm
          rw [← e1, nn]
          show num cs t ≤ _
          have : num cs t ≤ num cs p.2 * cs.length + i := this
          omega
      · rw [if_neg m] at old ⊢
        refine ⟨?_, fun v hv => ?_, fun i c q' hi h1 h2 => ?_⟩
        · refine List.pairwise_append.mpr ⟨a, by simp, fun x hx y hy => ?_⟩
          rw [List.mem_singleton.mp hy]
          show _ < num cs (p.2 ++ [cs[j]])
          have := l x hx
          omega
        · rcases List.mem_append.mp hv with hv | hv
          · have := l v hv; omega
          · rw [List.mem_singleton.mp hv]
            show num cs (p.2 ++ [cs[j]]) ≤ _
            omega
        · rcases Nat.lt_succ_iff_lt_or_eq.mp hi with h | rfl
          · exact old i c q' h h1 h2
          · rw [hc] at h1
            have e1 := Option.some.inj h1
            rw [← e1, e] at h2
            obtain rfl := Option.some.inj h2
            exact ⟨_, List.mem_append_right _ List.mem_cons_self, by rw [e1]; exact Nat.le_refl _⟩
/-- all that is kept, d entries done -/
structure Kept (nx : L → Nat → Option L) (l0 : L) (cs : List Nat) (d : Nat) : Prop where
  asc : Asc cs (walk nx l0 cs d)
  low : ∀ i p, d ≤ i → (walk nx l0 cs d)[i]? = some p → ∀ v ∈ walk nx l0 cs d, num cs v.2 ≤ num cs p.2 * cs.length
  cov : ∀ i p c q, i < d → (walk nx l0 cs d)[i]? = some p → c ∈ cs → nx p.1 c = some q → ∃ t, (q, t) ∈ walk nx l0 cs d ∧ num cs t ≤ num cs (p.2 ++ [c])
theorem asc_lt {ns : List (Nd L)} (a : Asc cs ns) {i j : Nat} {p q : Nd L} (hi : ns[i]? = some p) (hj : ns[j]? = some q) (h : i < j) : num cs p.2 < num cs q.2 := by
  obtain ⟨h1, e1⟩ := List.getElem?_eq_some_iff.mp hi
  obtain ⟨h2, e2⟩ := List.getElem?_eq_some_iff.mp hj
  have := List.pairwise_iff_getElem.mp a i j h1 h2 h
  rw [e1, e2] at this
  exact this
theorem kept (nd : cs.Nodup) (ne : 0 < cs.length) : ∀ d, (∀ j, j < d → ∃ p, (walk nx l0 cs j)[j]? = some p) → Kept nx l0 cs d
  | 0, _ => by
    refine ⟨by simp [Asc, walk], fun i p _ hp v hv => ?_, fun i p _ _ h => absurd h (Nat.not_lt_zero i)⟩
    rw [List.mem_singleton.mp hv]
    exact Nat.zero_le _
  | d + 1, hw => by
    obtain ⟨asc, low, cov⟩ := kept nd ne d fun j hj => hw j (by omega)
    obtain ⟨p, hp⟩ := hw d (Nat.lt_succ_self d)
    have e := walk_at hp
    obtain ⟨a, l, r⟩ := turn_asc (nx := nx) nd asc (low d p (Nat.le_refl _) hp) cs.length (Nat.le_refl _)
    rw [List.take_length, ← e] at a l r
    have hp' := walk_pre hp
    refine ⟨a, fun i q hi hq v hv => ?_, fun i p' c q hi hp1 hc hq => ?_⟩
    · have := asc_lt a hp' hq (by omega)
      have h2 := Nat.mul_le_mul_right cs.length (show num cs p.2 + 1 ≤ num cs q.2 by omega)
      rw [Nat.add_mul] at h2
      have := l v hv
      omega
    · rcases Nat.lt_succ_iff_lt_or_eq.mp hi with h | rfl
      · have lt : i < (walk nx l0 cs d).length := by have := (List.getElem?_eq_some_iff.mp hp).1; omega
        have old : (walk nx l0 cs d)[i]? = some p' := by
          have z : (walk nx l0 cs d)[i]? = some (walk nx l0 cs d)[i] := List.getElem?_eq_getElem lt
          rw [walk_pre z] at hp1
          rw [z]; exact hp1
        obtain ⟨t, ht, hl⟩ := cov i p' c q h old hc hq
        obtain ⟨k, hk⟩ := List.getElem?_of_mem ht
        exact ⟨t, List.mem_of_getElem? (walk_pre hk), hl⟩
      · rw [hp'] at hp1
        obtain rfl := Option.some.inj hp1
        obtain ⟨k, hk⟩ := List.getElem?_of_mem hc
        exact r k c q (List.getElem?_eq_some_iff.mp hk).1 hk hq
theorem walk_first (d : Nat) : (walk nx l0 cs d)[0]? = some (l0, []) := by
  induction d with
  | zero => rfl
  | succ d ih => exact walk_pre ih
/-- each text up to the one at d has one before it, or itself, that comes to the same -/
theorem before {d : Nat} (k : Kept nx l0 cs d) : ∀ t, Of cs t → (∀ p, (walk nx l0 cs d)[d]? = some p → num cs t ≤ num cs p.2) → ∀ q, run nx l0 t = some q → ∃ u, (q, u) ∈ walk nx l0 cs d ∧ num cs u ≤ num cs t := by
  by_cases ne : cs = []
  · intro t ht _ q hq
    have : t = [] := List.eq_nil_iff_forall_not_mem.mpr fun c hc => by have := ht c hc; rw [ne] at this; cases this
    subst this
    obtain rfl : l0 = q := Option.some.inj hq
    exact ⟨[], List.mem_of_getElem? (walk_first d), Nat.le_refl _⟩
  have pos : 0 < cs.length := List.length_pos_iff.mpr ne
  refine snoc_ind ?_ ?_
  · intro _ _ q hq
    obtain rfl : l0 = q := Option.some.inj hq
    exact ⟨[], List.mem_of_getElem? (walk_first d), Nat.le_refl _⟩
  · intro t c ih ht hb q hq
    rw [run_snoc] at hq
    obtain ⟨q', hq', hn⟩ := Option.bind_eq_some_iff.mp hq
    have lt : num cs t < num cs (t ++ [c]) := by
      rw [num_snoc]
      have := Nat.mul_le_mul_left (num cs t) pos
      omega
    obtain ⟨u', hu', hl⟩ := ih ht.init.1 (fun p hp => by have := hb p hp; omega) q' hq'
    obtain ⟨i, hi⟩ := List.getElem?_of_mem hu'
    have hid : i < d := by
      rcases Nat.lt_or_ge i d with h | h
      · exact h
      · have ld : d < (walk nx l0 cs d).length := by have := (List.getElem?_eq_some_iff.mp hi).1; omega
        have hp : (walk nx l0 cs d)[d]? = some (walk nx l0 cs d)[d] := List.getElem?_eq_getElem ld
        have h1 := hb _ hp
        rcases Nat.lt_or_eq_of_le h with h2 | rfl
        · have := asc_lt k.asc hp hi h2
          have : num cs (walk nx l0 cs d)[d].2 < num cs u' := this
          omega
        · rw [hi] at hp
          rw [← Option.some.inj hp] at h1
          have : num cs (t ++ [c]) ≤ num cs u' := h1
          omega
    obtain ⟨u, hu, hl2⟩ := k.cov i _ c q hid hi ht.init.2 hn
    refine ⟨u, hu, ?_⟩
    rw [num_snoc] at hl2 ⊢
    have := Nat.mul_le_mul_right cs.length hl
    have : num cs u ≤ num cs u' * cs.length + cs.idxOf c + 1 := hl2
    omega
/-! ### the first text -/
def IsMin (cs : List Nat) (Pp : List Nat → Prop) : Option (List Nat) → Prop
  | none => ∀ t, Of cs t → ¬ Pp t
  | some u => Of cs u ∧ Pp u ∧ ∀ t, Of cs t → Pp t → num cs u ≤ num cs t
theorem valid (d : Nat) : ∀ v ∈ walk nx l0 cs d, Of cs v.2 ∧ run nx l0 v.2 = some v.1 :=
  walk_all (In := fun v => Of cs v.2 ∧ run nx l0 v.2 = some v.1) ⟨fun _ h => (nomatch h), rfl⟩ (fun p ⟨h1, h2⟩ c hc q hq => ⟨h1.snoc hc, by
    show run nx l0 (p.2 ++ [c]) = some q
    rw [run_snoc, h2]
    exact hq⟩) d
theorem walk_pre' {d e i : Nat} (h : d ≤ e) {q : Nd L} (hq : (walk nx l0 cs d)[i]? = some q) : (walk nx l0 cs e)[i]? = some q := by
  induction e with
  | zero => obtain rfl : d = 0 := by omega
            exact hq
  | succ e ih =>
    rcases Nat.lt_or_eq_of_le h with h | rfl
    · exact walk_pre (ih (by omega))
    · exact hq
theorem stop_min (nd : cs.Nodup) (ne : 0 < cs.length) {r : Option (List Nat)} (s : Stop nx goal l0 cs r) : IsMin cs (fun t => ∃ q, run nx l0 t = some q ∧ goal q = true) r := by
  obtain ⟨d, go, s⟩ := s
  have k := kept (nx := nx) (l0 := l0) nd ne d fun j hj => by obtain ⟨p, hp, _⟩ := go j hj; exact ⟨p, hp⟩
  have not : ∀ i p, i < d → (walk nx l0 cs d)[i]? = some p → goal p.1 = false := fun i p hi hp => by
    obtain ⟨p', h1, h2⟩ := go i hi
    rw [walk_pre' (by omega) h1] at hp
    rw [← Option.some.inj hp]
    exact h2
  rcases s with ⟨p, hp, hg, rfl⟩ | ⟨hn, rfl⟩
  · obtain ⟨o, v⟩ := valid d p (List.mem_of_getElem? hp)
    refine ⟨o, ⟨p.1, v, hg⟩, fun t ht ⟨q, hq, gq⟩ => ?_⟩
    rcases Nat.lt_or_ge (num cs t) (num cs p.2) with h | h
    · obtain ⟨u, hu, hl⟩ := before k t ht (fun p' hp' => by rw [hp] at hp'; rw [← Option.some.inj hp']; omega) q hq
      obtain ⟨i, hi⟩ := List.getElem?_of_mem hu
      rcases Nat.lt_trichotomy i d with h1 | rfl | h1
      · have := not i _ h1 hi
        rw [gq] at this
        cases this
      · rw [hp] at hi
        rw [Option.some.inj hi] at h
        have : num cs t < num cs u := h
        omega
      · have := asc_lt k.asc hp hi h1
        have : num cs p.2 < num cs u := this
        omega
    · exact h
  · intro t ht ⟨q, hq, gq⟩
    obtain ⟨u, hu, hl⟩ := before k t ht (fun p' hp' => by rw [hn] at hp'; cases hp') q hq
    obtain ⟨i, hi⟩ := List.getElem?_of_mem hu
    have h1 : i < d := by
      have a := (List.getElem?_eq_some_iff.mp hi).1
      have b := List.getElem?_eq_none_iff.mp hn
      omega
    have := not i _ h1 hi
    rw [gq] at this
    cases this
end
end
theorem min_one {cs : List Nat} {A B : List Nat → Prop} {r s : Option (List Nat)} (hr : IsMin cs A r) (hs : IsMin cs B s) (ab : ∀ t, Of cs t → A t → B t) (ba : ∀ t, Of cs t → B t → ∃ u, Of cs u ∧ A u ∧ num cs u ≤ num cs t) : r = s := by
  rcases r with _ | u <;> rcases s with _ | v
  · rfl
  · obtain ⟨u, h1, h2, _⟩ := ba v hs.1 hs.2.1
    exact absurd h2 (hr u h1)
  · exact absurd (ab u hr.1 hr.2.1) (hs u hr.1)
  · obtain ⟨u', h1, h2, h3⟩ := ba v hs.1 hs.2.1
    have a := hr.2.2 u' h1 h2
    have b := hs.2.2 u hr.1 (ab u hr.1 hr.2.1)
    rw [num_inj u v hr.1 hs.1 (by omega)]
/-! ### all texts of at most so many signs -/
def lvl (cs : List Nat) : Nat → List (List Nat)
  | 0 => [[]]
  | i + 1 => (lvl cs i).flatMap fun t => cs.map fun c => t ++ [c]
def upTo (cs : List Nat) : Nat → List (List Nat)
  | 0 => [[]]
  | i + 1 => upTo cs i ++ lvl cs (i + 1)
theorem lvl_of {cs : List Nat} : ∀ i, ∀ t ∈ lvl cs i, Of cs t ∧ t.length = i
  | 0, t, h => by rw [List.mem_singleton.mp h]; exact ⟨fun _ z => (nomatch z), rfl⟩
  | i + 1, t, h => by
    obtain ⟨u, hu, ht⟩ := List.mem_flatMap.mp h
    obtain ⟨c, hc, rfl⟩ := List.mem_map.mp ht
    obtain ⟨a, b⟩ := lvl_of i u hu
    exact ⟨a.snoc hc, by rw [List.length_append, b]; rfl⟩
theorem mem_lvl {cs : List Nat} : ∀ t, Of cs t → t ∈ lvl cs t.length :=
  snoc_ind (fun _ => List.mem_cons_self) fun t c ih h => by
    rw [List.length_append]
    exact List.mem_flatMap.mpr ⟨t, ih h.init.1, List.mem_map.mpr ⟨c, h.init.2, rfl⟩⟩
theorem upTo_of {cs : List Nat} : ∀ i, ∀ t ∈ upTo cs i, Of cs t ∧ t.length ≤ i
  | 0, t, h => by rw [List.mem_singleton.mp h]; exact ⟨fun _ z => (nomatch z), Nat.le_refl _⟩
  | i + 1, t, h => by
    rcases List.mem_append.mp h with h | h
    · obtain ⟨a, b⟩ := upTo_of i t h; exact ⟨a, by omega⟩
    · obtain ⟨a, b⟩ := lvl_of (i + 1) t h; exact ⟨a, by omega⟩
theorem mem_upTo {cs : List Nat} {t : List Nat} (h : Of cs t) : ∀ i, t.length ≤ i → t ∈ upTo cs i
  | 0, l => by rw [List.eq_nil_of_length_eq_zero (by omega : t.length = 0)]; exact List.mem_cons_self
  | i + 1, l => by
    rcases Nat.lt_or_eq_of_le l with l | l
    · exact List.mem_append_left _ (mem_upTo h i (by omega))
    · refine List.mem_append_right _ ?_
      rw [← l]
      exact mem_lvl t h
theorem lvl_num {cs : List Nat} (nd : cs.Nodup) : ∀ i, ∃ a n, (lvl cs i).map (num cs) = List.range' a n ∧ (upTo cs i).map (num cs) = List.range (a + n) ∧ a + n = a * cs.length + 1
  | 0 => ⟨0, 1, rfl, rfl, by omega⟩
  | i + 1 => by
    obtain ⟨a, n, h1, h2, h3⟩ := lvl_num nd i
    have one : ∀ x : Nat, cs.map (fun c => x * cs.length + cs.idxOf c + 1) = List.range' (x * cs.length + 1) cs.length := fun x => by
      refine List.ext_getElem (by simp) fun j g1 g2 => ?_
      rw [List.length_map] at g1
      rw [List.getElem_map, List.getElem_range', List.Nodup.idxOf_getElem nd j g1]
      omega
    have all : ∀ (ts : List (List Nat)) (b m : Nat), ts.map (num cs) = List.range' b m → (ts.flatMap fun t => cs.map fun c => t ++ [c]).map (num cs) = List.range' (b * cs.length + 1) (m * cs.length) := by
      intro ts
      induction ts with
      | nil =>
        intro b m h
        have : m = 0 := by have := congrArg List.length h; simpa using this.symm
        subst this
        simp
      | cons t ts ih =>
        intro b m h
        rcases m with _ | m
        · cases h
        · rw [List.map_cons, List.range'_succ] at h
          injection h with e1 e2
          rw [List.flatMap_cons, List.map_append, ih (b + 1) m e2, List.map_map]
          have e3 : (num cs ∘ fun c => t ++ [c]) = fun c => b * cs.length + cs.idxOf c + 1 := funext fun c => by
            show num cs (t ++ [c]) = _
            rw [num_snoc, e1]
          rw [e3, one b]
          have : (b + 1) * cs.length + 1 = b * cs.length + 1 + cs.length := by rw [Nat.succ_mul]; omega
          rw [this, List.range'_append_1, Nat.succ_mul, Nat.add_comm (m * cs.length)]
    refine ⟨a * cs.length + 1, n * cs.length, all _ _ _ h1, ?_, by have := Nat.add_mul a n cs.length; rw [h3] at this; omega⟩
    show (upTo cs i ++ lvl cs (i + 1)).map (num cs) = _
    rw [List.map_append, h2, show (lvl cs (i + 1)).map (num cs) = _ from all _ _ _ h1, h3, List.range_eq_range', List.range_eq_range']
    have := List.range'_append_1 (s := 0) (m := a * cs.length + 1) (n := n * cs.length)
    rw [Nat.zero_add] at this
    exact this
theorem upTo_at {cs : List Nat} (nd : cs.Nodup) (m : Nat) {i : Nat} {t : List Nat} (h : (upTo cs m)[i]? = some t) : num cs t = i := by
  obtain ⟨a, n, _, e, _⟩ := lvl_num nd m
  have := congrArg (fun l : List Nat => l[i]?) e
  rw [List.getElem?_map, h] at this
  obtain ⟨h1, h2⟩ := List.getElem?_eq_some_iff.mp this.symm
  rw [List.getElem_range] at h2
  exact h2.symm
/-- the first of all short texts is the told one -/
theorem min_first {cs : List Nat} (nd : cs.Nodup) {A : List Nat → Prop} {r : Option (List Nat)} (hr : IsMin cs A r) {m i : Nat} {t : List Nat} (ht : (upTo cs m)[i]? = some t) (ha : A t) (no : ∀ j u, j < i → (upTo cs m)[j]? = some u → ¬ A u) : r = some t := by
  have ot := (upTo_of m t (List.mem_of_getElem? ht)).1
  rcases r with _ | u
  · exact absurd ha (hr t ot)
  · have l := hr.2.2 t ot ha
    have ni := upTo_at nd m ht
    rcases Nat.lt_or_eq_of_le l with h | h
    · have hlen : num cs u < (upTo cs m).length := by have := (List.getElem?_eq_some_iff.mp ht).1; omega
      have hu : (upTo cs m)[num cs u]? = some (upTo cs m)[num cs u] := List.getElem?_eq_getElem hlen
      have e := num_inj _ u (upTo_of m _ (List.mem_of_getElem? hu)).1 hr.1 (upTo_at nd m hu)
      rw [e] at hu
      exact absurd hr.2.1 (no _ u (by omega) hu)
    · rw [num_inj u t hr.1 ot h]
theorem min_none {cs : List Nat} {A : List Nat → Prop} {r : Option (List Nat)} (hr : IsMin cs A r) {m : Nat} (no : ∀ u, u ∈ upTo cs m → ¬ A u) : r = none ∨ ∃ u, r = some u ∧ m < u.length := by
  rcases r with _ | u
  · exact .inl rfl
  · refine .inr ⟨u, rfl, ?_⟩
    rcases Nat.lt_or_ge m u.length with h | h
    · exact h
    · exact absurd hr.2.1 (no u (mem_upTo hr.1 m h))
end Fst

/-! dicts whose keys are tuples of numbers, bools, texts, None and such tuples -/
namespace DicN
open PySem PySem.Spec PyProof.Rows L2
abbrev NK := PySem.NestedKey
mutual
/-- the value is this key -/
def KeyN (H : Hp) : NK → V → Prop
  | .none, v => v = .non
  | .num i, v => v = .int i ∨ ∃ b : Bool, v = .bl b ∧ i = (if b = true then 1 else 0)
  | .text x, v => v = .str x
  | .tup ks, v => ∃ a ys, v = .ref a ∧ H a = some (.tup ys) ∧ KeysN H ks ys
def KeysN (H : Hp) : List NK → List V → Prop
  | [], ys => ys = []
  | k :: ks, ys => ∃ y zs, ys = y :: zs ∧ KeyN H k y ∧ KeysN H ks zs
end
mutual
theorem KeyN.keep {H H' : Hp} (s : ∀ b xs, H b = some (.tup xs) → H' b = some (.tup xs)) : ∀ (k : NK) (v : V), KeyN H k v → KeyN H' k v
  | .none, _, h => h
  | .num _, _, h => h
  | .text _, _, h => h
  | .tup ks, _, ⟨a, ys, e, ha, h⟩ => ⟨a, ys, e, s _ _ ha, KeysN.keep s ks ys h⟩
theorem KeysN.keep {H H' : Hp} (s : ∀ b xs, H b = some (.tup xs) → H' b = some (.tup xs)) : ∀ (ks : List NK) (ys : List V), KeysN H ks ys → KeysN H' ks ys
  | [], _, h => h
  | k :: ks, _, ⟨y, zs, e, h1, h2⟩ => ⟨y, zs, e, KeyN.keep s k y h1, KeysN.keep s ks zs h2⟩
end
section
variable {P : Program} {w : World} {H : Hp} {h : Heap}
mutual
theorem nested_of (ok : HOk P w H h) : ∀ (k : NK) (v : V) (u : Value), KeyN H k v → RelV v u → NestedIs h k u
  | .none, _, u, e, r => by
    subst e
    cases (show u = Value.none from r)
    exact .none
  | .num i, _, u, e, r => by
    rcases e with rfl | ⟨b, rfl, e⟩
    · obtain ⟨t, rfl⟩ := (show ∃ t, u = Value.int i t from r)
      exact .int i t
    · cases (show u = Value.bool b from r)
      exact .bool e
  | .text x, _, u, e, r => by
    subst e
    obtain ⟨t, rfl⟩ := (show ∃ t, u = Value.str x t from r)
    exact .text x t
  | .tup ks, _, u, ⟨a, ys, e, ha, q⟩, r => by
    subst e
    cases (show u = Value.ref a from r)
    obtain ⟨_, its, rv, o, h1, h2, n, h3⟩ := (show ObjOk P w H h a (.tup ys) from ok a _ ha)
    exact .tup h1 h2 h3 (by simpa using nesteds_of ok ks ys its q rv)
theorem nesteds_of (ok : HOk P w H h) : ∀ (ks : List NK) (ys : List V) (us : List Value), KeysN H ks ys → Vals ys us → NestedAll h ks us
  | [], _, us, e, r => by
    subst e
    cases r
    exact .nil
  | k :: ks, _, us, ⟨y, zs, e, h1, h2⟩, r => by
    subst e
    cases r with
    | cons r rs => exact .cons (nested_of ok k y _ h1 r) (nesteds_of ok ks zs _ h2 rs)
end
end
abbrev Row := NK × Addr × Value
/-- the dict's object, row by row -/
def dN (w : World) (D : Addr) (xs : List Row) : HO := .ext fun h => ∃ (o : Obj) (es : Array DictEntry) (ep : Nat), h.get? D = some o ∧ o.ExactDict ∧ o.data = .dict es ep ∧ es.toList = xs.map fun x => ⟨x.1.hash w, .ref x.2.1, x.2.2⟩
abbrev RowOk (H : Hp) (p : NK × V) (q : Row) : Prop := p.1 = q.1 ∧ p.1.depth ≤ 8 ∧ KeyN H p.1 (.ref q.2.1) ∧ RelV p.2 q.2.2
/-- the dict at D holds these -/
def DN (w : World) (H : Hp) (D : Addr) (kvs : List (NK × V)) : Prop := (D == sysModules) = false ∧ kvs.length ≤ sizeLine ∧ ∃ xs : List Row, H D = some (dN w D xs) ∧ Paired (RowOk H) kvs xs ∧ (xs.map (·.1)).Nodup
theorem rows_val {H : Hp} {kvs : List (NK × V)} {xs : List Row} (r : Paired (RowOk H) kvs xs) (k : NK) : RelO (valV kvs k) ((atKey xs k).map (·.2)) := by
  induction r with
  | nil => trivial
  | @cons p q ps qs h t ih =>
    unfold atKey at ih ⊢
    by_cases e : p.1 = k
    · rw [valV_pos e, List.find?_cons_of_pos (by simpa using h.1.symm.trans e)]
      exact h.2.2.2
    · rw [valV_neg e, List.find?_cons_of_neg (by simpa using fun z => e (h.1.trans z))]
      exact ih
theorem rows_put {H : Hp} {kvs : List (NK × V)} {xs : List Row} {k : NK} {b : Addr} {v : V} {u : Value} (r : Paired (RowOk H) kvs xs) (hd : k.depth ≤ 8) (hk : KeyN H k (.ref b)) (rv : RelV v u) : Paired (RowOk H) (putK kvs k v) (storedH xs k b u) := by
  have e : (kvs.any fun kv => decide (kv.1 = k)) = (atKey xs k).isSome := by rw [valV_any, (rows_val r k).isSome_eq, Option.isSome_map]
  unfold putK storedH
  rw [e]
  by_cases q : (atKey xs k).isSome = true
  · rw [if_pos q, if_pos q]
    clear q e
    induction r with
    | nil => exact .nil
    | @cons p q ps qs h t ih =>
      refine .cons ?_ ih
      unfold putAt
      dsimp only
      by_cases z : p.1 = k
      · rw [if_pos z, if_pos (h.1.symm.trans z)]; exact ⟨h.1, h.2.1, h.2.2.1, rv⟩
      · rw [if_neg z, if_neg fun y => z (h.1.trans y)]; exact h
  · rw [if_neg q, if_neg q]
    exact Paired.snoc r ⟨rfl, hd, hk, rv⟩
theorem DN.keep {w : World} {H H' : Hp} {D : Addr} {kvs : List (NK × V)} (e : ∀ b φ, H b = some (.ext φ) → H' b = some (.ext φ)) (s : ∀ b xs, H b = some (.tup xs) → H' b = some (.tup xs)) (d : DN w H D kvs) : DN w H' D kvs := by
  obtain ⟨a, b, xs, c, r, n⟩ := d
  exact ⟨a, b, xs, e _ _ c, L2.Paired.mapP r fun _ _ z => ⟨z.1, z.2.1, KeyN.keep s _ _ z.2.2.1, z.2.2.2⟩, n⟩
theorem DN.same {w : World} {H H' : Hp} {D : Addr} {kvs : List (NK × V)} (s : ∀ b o, H b = some o → H' b = some o) (d : DN w H D kvs) : DN w H' D kvs := d.keep (fun b φ z => s _ _ z) fun b xs z => s _ _ z
theorem DN.at_ {w : World} {H : Hp} {D : Addr} {kvs : List (NK × V)} (d : DN w H D kvs) : ∃ φ, H D = some (.ext φ) := by
  obtain ⟨_, _, xs, c, _⟩ := d
  exact ⟨_, c⟩
section
variable {P : Program} {w : World} {H : Hp} {h : Heap} {D : Addr} {kvs : List (NK × V)}
theorem dn_of (ok : HOk P w H h) (d : DN w H D kvs) : ∃ xs, H D = some (dN w D xs) ∧ Paired (RowOk H) kvs xs ∧ (xs.map (·.1)).Nodup ∧ h.DictOfH (nestedKind P w) D xs := by
  obtain ⟨_, b, xs, c, r, n⟩ := d
  obtain ⟨o, es, ep, h1, h2, h3, h4⟩ := (ok D _ c).1
  refine ⟨xs, c, r, n, o, es, ep, h1, h2, h3, h4, ?_, n⟩
  clear h4 n c b
  induction r with
  | nil => intro x hx; cases hx
  | @cons p q ps qs z t ih =>
    intro x hx
    rcases List.mem_cons.mp hx with rfl | hx
    · exact ⟨z.1 ▸ nested_of ok _ _ _ z.2.2.1 rfl, z.1 ▸ z.2.1⟩
    · exact ih x hx
theorem dn_empty (h : Heap) (hb : sysModules < h.objs.size) : ObjOk P w H (h.push { cls := .type "dict", data := .dict #[] }) h.objs.size (dN w h.objs.size []) ∧ (h.objs.size == sysModules) = false := by
  have g : (h.push { cls := .type "dict", data := .dict #[] }).get? h.objs.size = some { cls := .type "dict", data := .dict #[] } := Heap.get?_push_size _ rfl
  exact ⟨⟨⟨_, #[], 0, g, ⟨rfl, rfl, rfl⟩, rfl, rfl⟩, ⟨_, g⟩, fun _ _ ⟨o, es, ep, a, b⟩ st => ⟨o, es, ep, st _ a, b⟩⟩, beq_eq_false_iff_ne.mpr (Ne.symm (Nat.ne_of_lt hb))⟩
end
/-- a put: the heap behind it -/
def PutN (w : World) (H : Hp) (D : Addr) (y z : V) (H' : Hp) : Prop := ∃ (kvs : List (NK × V)) (k : NK) (b : Addr), DN w H D kvs ∧ y = .ref b ∧ KeyN H k y ∧ k.depth ≤ 8 ∧ kvs.length < sizeLine ∧ (∃ φ, H' = upd H D (.ext φ)) ∧ DN w H' D (putK kvs k z)
section
variable {X : Cx} {pins : List (Addr × Obj)} {σ : L2.St} {H : Hp} {s : Shared} {D b : Addr} {kvs : List (NK × V)} {k : NK} {v : V} {r : Value} {E : Value → Shared → Prop} {A : Around}
theorem dn_new {h' : Heap} {tk : Nat} {xs : List Row} (I : Inv X pins σ H s) (d : DN X.w H D kvs) (hz : kvs.length < sizeLine) (hd : k.depth ≤ 8) (hk : KeyN H k (.ref b)) (rv : RelV v r) (hx : H D = some (dN X.w D xs)) (rr : Paired (RowOk H) kvs xs)
    (dd : h'.DictOfH (nestedKind X.prog X.w) D (storedH xs k b r)) (sb : Heap.SameBut D s.heap h') : ∃ φ, Inv X pins σ (upd H D (.ext φ)) { s with heap := h', toks := tk } ∧ DN X.w (upd H D (.ext φ)) D (putK kvs k v) := by
  obtain ⟨o, es, ep, h1, h2, h3, h4, _, n⟩ := dd
  have kt : ∀ c ys, H c = some (.tup ys) → upd H D (dN X.w D (storedH xs k b r)) c = some (.tup ys) := fun c ys z => by
    rw [upd_ne (ne_of z hx (by intro y; unfold dN at y; cases y))]
    exact z
  refine ⟨_, d_write (ob := dN X.w D (storedH xs k b r)) I (by rw [hx]; exact True.intro) sb ⟨o, h1⟩ ⟨⟨o, es, ep, h1, h2, h3, h4⟩, ⟨o, h1⟩, fun _ _ ⟨o, es, ep, a, c⟩ st => ⟨o, es, ep, st _ a, c⟩⟩, d.1, ?_, _, upd_same, L2.Paired.mapP (rows_put rr hd hk rv) fun _ _ z => ⟨z.1, z.2.1, KeyN.keep kt _ _ z.2.2.1, z.2.2.2⟩, n⟩
  have := length_putK kvs k v
  omega
theorem dn_dictSet {Q : Unit → Shared → Prop} (hu : A.units + 8 < cLine) (I : Inv X pins σ H s) (d : DN X.w H D kvs) (hz : kvs.length < sizeLine) (hd : k.depth ≤ 8) (hk : KeyN H k (.ref b)) (rv : RelV v r)
    (h : ∀ φ s', Inv X pins σ (upd H D (.ext φ)) s' → DN X.w (upd H D (.ext φ)) D (putK kvs k v) → Q () s') : wpAny (model X.prog X.w) A (dictSet D (.ref b) r) Q E s := by
  obtain ⟨xs, c, rr, n, dd⟩ := dn_of I.hok d
  have lx : xs.length ≤ sizeLine := by rw [← Paired.length rr]; exact d.2.1
  refine wpAny_dictSet_heap (hsz := lx) (knd := nestedKind X.prog X.w) hu ⟨nested_of I.hok _ _ _ hk rfl, hd⟩ dd fun h' dd' sb => ?_
  obtain ⟨φ, I', d'⟩ := dn_new (tk := _) I d hz hd hk rv c rr dd' sb
  exact h φ _ I' d'
theorem dn_setItem {Q : Unit → Shared → Prop} (hu : A.units + 9 < cLine) (I : Inv X pins σ H s) (d : DN X.w H D kvs) (hz : kvs.length < sizeLine) (hd : k.depth ≤ 8) (hk : KeyN H k (.ref b)) (rv : RelV v r)
    (h : ∀ φ s', Inv X pins σ (upd H D (.ext φ)) s' → DN X.w (upd H D (.ext φ)) D (putK kvs k v) → Q () s') : wpAny (model X.prog X.w) A (setItem (.ref D) (.ref b) r) Q E s := by
  obtain ⟨xs, c, rr, n, dd⟩ := dn_of I.hok d
  have lx : xs.length ≤ sizeLine := by rw [← Paired.length rr]; exact d.2.1
  refine wpAny_setItem_heap (hsz := lx) (knd := nestedKind X.prog X.w) (show A.in1.units + 8 < cLine by show A.units + 1 + 8 < cLine; omega) ⟨nested_of I.hok _ _ _ hk rfl, hd⟩ dd fun h' dd' sb => ?_
  obtain ⟨φ, I', d'⟩ := dn_new (tk := _) I d hz hd hk rv c rr dd' sb
  exact h φ _ I' d'
theorem dn_getItem {Q : Value → Shared → Prop} (hu : A.units + 9 < cLine) (I : Inv X pins σ H s) (d : DN X.w H D kvs) (hd : k.depth ≤ 8) (hk : KeyN H k (.ref b)) (l : valV kvs k = some v) (h : ∀ u s', Inv X pins σ H s' → RelV v u → Q u s') :
    wpAny (model X.prog X.w) A (getItem (.ref D) (.ref b)) Q E s := by
  obtain ⟨xs, c, rr, n, dd⟩ := dn_of I.hok d
  obtain ⟨u, hu', ru⟩ := RelO.some_of (v := v) (o := (atKey xs k).map (·.2)) (by rw [← l]; exact rows_val rr k)
  obtain ⟨p, hp, rfl⟩ := Option.map_eq_some_iff.mp hu'
  exact wpAny_getItem_heap (knd := nestedKind X.prog X.w) (show A.in1.units + 8 < cLine by show A.units + 1 + 8 < cLine; omega) ⟨nested_of I.hok _ _ _ hk rfl, hd⟩ dd hp (h _ _ (I.tok _) ru)
theorem dn_in {Q : Value → Shared → Prop} (hu : A.units + 9 < cLine) (I : Inv X pins σ H s) (d : DN X.w H D kvs) (hd : k.depth ≤ 8) (hk : KeyN H k (.ref b)) (h : ∀ s', Inv X pins σ H s' → Q (.bool (valV kvs k).isSome) s') :
    wpAny (model X.prog X.w) A (compareOp .In (.ref b) (.ref D)) Q E s := by
  obtain ⟨xs, c, rr, n, dd⟩ := dn_of I.hok d
  refine wpAny_in_heap (knd := nestedKind X.prog X.w) (show A.in1.units + 8 < cLine by show A.units + 1 + 8 < cLine; omega) ⟨nested_of I.hok _ _ _ hk rfl, hd⟩ d.1 dd ?_
  have e := (rows_val rr k).isSome_eq
  rw [Option.isSome_map] at e
  rw [← e]
  exact h _ (I.tok _)
theorem dn_notIn {Q : Value → Shared → Prop} (hu : A.units + 9 < cLine) (I : Inv X pins σ H s) (d : DN X.w H D kvs) (hd : k.depth ≤ 8) (hk : KeyN H k (.ref b)) (h : ∀ s', Inv X pins σ H s' → Q (.bool (!(valV kvs k).isSome)) s') :
    wpAny (model X.prog X.w) A (compareOp .NotIn (.ref b) (.ref D)) Q E s := by
  obtain ⟨xs, c, rr, n, dd⟩ := dn_of I.hok d
  refine wpAny_notIn_heap (knd := nestedKind X.prog X.w) (show A.in1.units + 8 < cLine by show A.units + 1 + 8 < cLine; omega) ⟨nested_of I.hok _ _ _ hk rfl, hd⟩ d.1 dd ?_
  have e := (rows_val rr k).isSome_eq
  rw [Option.isSome_map] at e
  rw [← e]
  exact h _ (I.tok _)
theorem dn_type (I : Inv X pins σ H s) (d : DN X.w H D kvs) : s.TypeIs (.ref D) "dict" := by
  obtain ⟨_, _, _, _, dd⟩ := dn_of I.hok d
  exact dd.typeIs
end
/-! ### readings -/
/-- d[y] -/
def tGetN (w : World) (td ty : TE) : TE := fun σ H Q => td σ H fun x H1 => ty σ H1 fun y H2 => ∃ (a b : Addr) (kvs : List (NK × V)) (k : NK) (v : V), x = .ref a ∧ y = .ref b ∧ DN w H2 a kvs ∧ KeyN H2 k y ∧ k.depth ≤ 8 ∧ valV kvs k = some v ∧ Q v H2
/-- y in d, y not in d: a tuple asked -/
def tInN (w : World) (neg : Bool) (ty td : TE) : TE := fun σ H Q => ty σ H fun y H1 => td σ H1 fun x H2 => ∃ (a b : Addr) (kvs : List (NK × V)) (k : NK), x = .ref a ∧ y = .ref b ∧ DN w H2 a kvs ∧ KeyN H2 k y ∧ k.depth ≤ 8 ∧ Q (.bl (xor neg (valV kvs k).isSome)) H2
/-- d[y] = v -/
def sPutN (w : World) (td ty tv : TE) : TS := fun D σ H => tv σ H fun v H1 => td σ H1 fun x H2 => ty σ H2 fun y H3 => ∃ (a b : Addr) (kvs : List (NK × V)) (k : NK), x = .ref a ∧ y = .ref b ∧ DN w H3 a kvs ∧ KeyN H3 k y ∧ k.depth ≤ 8 ∧ kvs.length < sizeLine ∧ ∀ φ, DN w (upd H3 a (.ext φ)) a (putK kvs k v) → D.nx σ (upd H3 a (.ext φ))
section
variable {X : Cx} {o i value : Expr} {pos pos' : Pos} {td ty tv : TE}
theorem pe_getN (hu : X.A.units + 9 < cLine) (ho : PE X o td) (hi : PE X i ty) (hs : NoSl i) : PE X (.Subscript o i pos) (tGetN X.w td ty) := by
  refine ⟨fun pins s σ H Q I h => subD_of PySem.F.slot_dict_getitem.lookup hs (thn (ho.run pins s σ H _ I h) fun u s1 ⟨x, H1, I1, rx, q1⟩ => thn (hi.run pins s1 σ H1 _ I1 q1) fun iv s2 ⟨y, H2, I2, ry, a, b, kvs, k, v, ex, ey, d, hk, hd, l, q2⟩ => ?_)⟩
  subst ex; subst ey
  cases rx; cases ry
  exact ⟨dn_type I2 d, dn_getItem hu I2 d hd hk l fun w' s3 I3 rw' => ⟨v, H2, I3, rw', q2⟩⟩
theorem pc_inN (hu : X.A.units + 9 < cLine) (hi : PE X i ty) (ho : PE X o td) : PC X .In i o (tInN X.w false ty td) := by
  refine ⟨fun pins s σ H Q I h => thn (hi.run pins s σ H _ I h) fun iv s1 ⟨y, H1, I1, ry, q1⟩ => thn (ho.run pins s1 σ H1 _ I1 q1) fun u s2 ⟨x, H2, I2, rx, a, b, kvs, k, ex, ey, d, hk, hd, q2⟩ => ?_⟩
  subst ex; subst ey
  cases rx; cases ry
  exact dn_in hu I2 d hd hk fun s3 I3 => ⟨.bl (valV kvs k).isSome, H2, I3, rfl, by simpa using q2⟩
theorem pc_notinN (hu : X.A.units + 9 < cLine) (hi : PE X i ty) (ho : PE X o td) : PC X .NotIn i o (tInN X.w true ty td) := by
  refine ⟨fun pins s σ H Q I h => thn (hi.run pins s σ H _ I h) fun iv s1 ⟨y, H1, I1, ry, q1⟩ => thn (ho.run pins s1 σ H1 _ I1 q1) fun u s2 ⟨x, H2, I2, rx, a, b, kvs, k, ex, ey, d, hk, hd, q2⟩ => ?_⟩
  subst ex; subst ey
  cases rx; cases ry
  exact dn_notIn hu I2 d hd hk fun s3 I3 => ⟨.bl (!(valV kvs k).isSome), H2, I3, rfl, by simpa using q2⟩
theorem ps_putN (hu : X.A.units + 9 < cLine) (ho : PE X o td) (hi : PE X i ty) (hv : PE X value tv) (hs : swapsWith value (some (.Subscript o i pos')) pos.line X.env = pure false) : PS X (.Assign [.Subscript o i pos'] value pos) (sPutN X.w td ty tv) := by
  refine ⟨fun pins s σ H D I h => wpAny_Assign_Subscript (thn (hv.run pins s σ H _ I h) fun r s1 ⟨v, H1, I1, rv, q1⟩ => thn (ho.run pins s1 σ H1 _ I1 q1) fun u s2 ⟨x, H2, I2, rx, q2⟩ => thn (hi.run pins s2 σ H2 _ I2 q2) fun iv s3 ⟨y, H3, I3, ry, a, b, kvs, k, ex, ey, d, hk, hd, hz, q3⟩ => ?_) hs⟩
  subst ex; subst ey
  cases rx; cases ry
  exact dn_setItem hu I3 d hz hd hk rv fun φ s4 I4 d4 => ⟨σ, _, I4, q3 φ d4⟩
end
end DicN

/-! a display {k: v} whose key is a tuple of numbers, texts and tuples -/
namespace DicN
open PySem PySem.Spec PyProof.Rows L2
def tDispN (w : World) (tk tv : TE) : TE := fun σ H Q => ∀ D, H D = none → ∀ φ, DN w (upd H D (.ext φ)) D [] → tk σ (upd H D (.ext φ)) fun x H1 => tv σ H1 fun y H2 => ∃ (k : NK) (b : Addr), x = .ref b ∧ DN w H2 D [] ∧ KeyN H2 k x ∧ k.depth ≤ 8 ∧
  ∀ φ', DN w (upd H2 D (.ext φ')) D [(k, y)] → Q (.ref D) (upd H2 D (.ext φ'))
theorem pe_dispN {X : Cx} {pos : Pos} {k v : Expr} {tk tv : TE} (hu : X.A.units + 8 < cLine) (hk : PE X k tk) (hv : PE X v tv) : PE X (.Dict [some k] [v] pos) (tDispN X.w tk tv) := by
  refine ⟨fun pins s σ H Q I h => ?_⟩
  have hn := I.hok.fresh (Nat.le_refl s.heap.objs.size)
  obtain ⟨ok, ns⟩ := dn_empty (P := X.prog) (w := X.w) (H := upd H s.heap.objs.size (dN X.w s.heap.objs.size [])) s.heap I.big
  have I1 := I.laid (a := s.heap.objs.size) (o := dN X.w s.heap.objs.size []) (h' := s.heap.push { cls := .type "dict", data := .dict #[] }) (t' := s.toks) (fun _ _ q => Heap.get?_push_of_some _ q) (Nat.le_refl _) ok
  have d1 : DN X.w (upd H s.heap.objs.size (dN X.w s.heap.objs.size [])) s.heap.objs.size [] := ⟨ns, Nat.zero_le _, [], upd_same, .nil, List.nodup_nil⟩
  have pp : PPs X pos [some k] [v] [(tk, tv)] := pps_cons hk hv pps_nil
  have l1 := pairTrees_length [some k] [v] X.env pos rfl rfl
  rw [arm_eval_Dict, zip_pairTrees [some k] [v] X.env pos rfl rfl, dictDisplay_pairs (pairTrees [some k] [v] X.env pos) (by intro e; rw [e] at l1; cases l1) (by rw [l1]; show 1 < 17; decide)]
  refine wpAny_bind (wpAny_standAt (wpAny_bind (wpAny_subDictH (knd := nestedKind X.prog X.w) (Q := fun d s' => wpAny (model X.prog X.w) X.A (pure (Value.ref d)) _ X.xe s') hu (by rw [l1]; show 1 ≤ 15; decide) ?_)))
  refine thn (pp.run pins _ σ _ (fun ps H2 => match ps with
    | [(x, y)] => ∃ (k : NK) (b : Addr), x = .ref b ∧ DN X.w H2 s.heap.objs.size [] ∧ KeyN H2 k x ∧ k.depth ≤ 8 ∧ ∀ φ', DN X.w (upd H2 s.heap.objs.size (.ext φ')) s.heap.objs.size [(k, y)] → Q (.ref s.heap.objs.size) (upd H2 s.heap.objs.size (.ext φ'))
    | _ => False) I1 (h _ hn _ d1)) ?_
  rintro ws s2 ⟨ps, H2, I2, rel, q⟩
  match ps, rel, q with
  | [(x, y)], rel, ⟨kk, b, ex, dd, hk2, hd2, q⟩ =>
    subst ex
    cases rel with
    | @cons _ u _ us r t =>
      cases t
      obtain ⟨u1, u2⟩ := u
      obtain ⟨r1, r2⟩ := r
      obtain rfl : u1 = Value.ref b := r1
      obtain ⟨xs, c, rr, _, dh⟩ := dn_of I2.hok dd
      cases rr
      refine ⟨[(kk, b, u2)], ⟨rfl, rfl, ⟨nested_of I2.hok _ _ _ hk2 rfl, hd2⟩, trivial⟩, dh, fun h' tk dd' sb => wpAny_pure ?_⟩
      obtain ⟨φ, I', d'⟩ := dn_new (tk := tk) I2 dd (by show 0 < sizeLine; decide) hd2 hk2 r2 c .nil dd' sb
      exact ⟨.ref _, _, I', rfl, q φ d'⟩
end DicN

/-! Functions that are handed on: the cells of a waiting frame stand still, each with its object. -/
namespace PinX
open PySem PySem.Spec PyProof.Rows L2 LamX NdefX
/-- the object at c is o -/
def PinO (c : Addr) (o : Obj) : HO := .ext fun h => h.get? c = some o
/-- the heap without these -/
def unp (cs : List Addr) (H : Hp) : Hp := fun b => if b ∈ cs then none else H b
/-- H1, these as in H -/
def rep (cs : List Addr) (H H1 : Hp) : Hp := fun b => if b ∈ cs then H b else H1 b
/-- these stand still in H -/
def Pinned (cs : List Addr) (H : Hp) : Prop := ∀ c ∈ cs, ∃ o, H c = some (PinO c o)
theorem unp_in {cs : List Addr} {H : Hp} {b : Addr} (h : b ∈ cs) : unp cs H b = none := if_pos h
theorem unp_out {cs : List Addr} {H : Hp} {b : Addr} (h : b ∉ cs) : unp cs H b = H b := if_neg h
theorem rep_in {cs : List Addr} {H H1 : Hp} {b : Addr} (h : b ∈ cs) : rep cs H H1 b = H b := if_pos h
theorem rep_out {cs : List Addr} {H H1 : Hp} {b : Addr} (h : b ∉ cs) : rep cs H H1 b = H1 b := if_neg h
theorem Pinned.out {cs : List Addr} {H : Hp} (p : Pinned cs H) {b : Addr} {o : HO} (e : H b = some o) (n : ∀ c u, o ≠ PinO c u) : b ∉ cs := fun hb => by
  obtain ⟨u, z⟩ := p b hb
  rw [e] at z
  exact n _ _ (Option.some.inj z)
theorem Pinned.none {cs : List Addr} {H : Hp} (p : Pinned cs H) {b : Addr} (e : H b = none) : b ∉ cs := fun hb => by
  obtain ⟨u, z⟩ := p b hb
  rw [e] at z
  cases z
/-- what held goes on to hold where the heaps agree on all but ext's -/
theorem hok_less {P : Program} {w : World} {cs : List Addr} {H : Hp} {h : Heap} (p : Pinned cs H) (k : HOk P w H h) : HOk P w (unp cs H) h := fun a o e => by
  by_cases ha : a ∈ cs
  · rw [unp_in ha] at e; cases e
  · rw [unp_out ha] at e
    refine (k a o e).stay (fun _ _ _ q => q) (fun b q => ?_) fun b xs q => ?_
    · rw [unp_out (p.out q fun c u z => by cases z)]; exact q
    · rw [unp_out (p.out q fun c u z => by cases z)]; exact q
theorem hok_more {P : Program} {w : World} {cs : List Addr} {H H1 : Hp} {h' : Heap} (p : Pinned cs H) (n : ∀ c ∈ cs, H1 c = none) (z : ∀ c ∈ cs, ∀ o, H c = some (PinO c o) → h'.get? c = some o) (k : HOk P w H1 h') : HOk P w (rep cs H H1) h' := fun a o e => by
  by_cases ha : a ∈ cs
  · rw [rep_in ha] at e
    obtain ⟨u, hu⟩ := p a ha
    rw [hu] at e
    cases e
    have hz := z a ha u hu
    exact ⟨hz, ⟨u, hz⟩, fun h1 h2 q st => st _ q⟩
  · rw [rep_out ha] at e
    have out : ∀ {b : Addr} {u : HO}, H1 b = some u → b ∉ cs := fun {b u} q hb => by
      rw [n b hb] at q; cases q
    refine (k a o e).stay (fun _ _ _ q => q) (fun b q => ?_) fun b xs q => ?_
    · rw [rep_out (out q)]; exact q
    · rw [rep_out (out q)]; exact q
section
variable {P : Program} {w : World} {K : PySem.W.Frag} {mg : Str → Option Value} {base : Heap} {A : Around} {outer : List Env} {s : Shared} {H : Hp} {cs : List Addr}
/-- the callee's start, without the pins -/
theorem env_less (p : Pinned cs H) (e : Env0 P w K mg base A outer s H) : Env0 P w K mg base A outer s (unp cs H) :=
  ⟨e.frames, e.mod, fun b o q => ⟨(e.bs b o q).1, by rw [unp_out (p.none (e.bs b o q).2)]; exact (e.bs b o q).2⟩, e.bsz, e.funs, fun b hb => by rw [unp_out (p.none (e.frf b hb))]; exact e.frf b hb, hok_less p e.hok, e.bare⟩
/-- the callee's end, with the pins again -/
theorem ce_more {Q : VK} {u : Value} {s' : Shared} (p : Pinned cs H) (e : Env0 P w K mg base A outer s H) (h : CE outer P w (unp cs H) s (fun v H1 => (∀ c ∈ cs, H1 c = none) → Q v (rep cs H H1)) u s') : CE outer P w H s Q u s' := by
  obtain ⟨v, H1, os, bare, un, hok, r, q⟩ := h
  have at_ : ∀ c ∈ cs, ∀ o, H c = some (PinO c o) → s.heap.get? c = some o := fun c hc o z => (e.hok c _ z).1
  have ex : ∀ c ∈ cs, ∃ o, s.heap.get? c = some o := fun c hc => by
    obtain ⟨o, z⟩ := p c hc
    exact ⟨o, at_ c hc o z⟩
  have n1 : ∀ c ∈ cs, H1 c = none := fun c hc => by
    obtain ⟨o, z⟩ := ex c hc
    exact un.free c o z (unp_in hc) (by simp)
  have nf : ∀ c ∈ cs, c ∉ frs outer := fun c hc hb => by
    obtain ⟨o, z⟩ := p c hc
    rw [e.frf c hb] at z
    cases z
  have st : ∀ c ∈ cs, ∀ o, H c = some (PinO c o) → s'.heap.get? c = some o := fun c hc o z => un.keep c o (at_ c hc o z) (unp_in hc) (nf c hc) (by simp)
  have mid : ∀ {b : Addr} {u : HO}, (∀ c v, u ≠ PinO c v) → H b = some u → b ∉ cs ∧ unp cs H b = some u := fun {b u} n z => ⟨p.out z n, by rw [unp_out (p.out z n)]; exact z⟩
  refine ⟨v, rep cs H H1, os, bare, ⟨fun b o z n hf hx => ?_, fun b o z n hf hx => ?_, fun b o z n hx => ?_, un.there, fun b xs z => ?_, fun b o u z => ?_, fun b ps z => ?_⟩, hok_more p n1 st hok, r, q n1⟩
  · exact un.keep b o z (by rw [unp_out (p.none n)]; exact n) hf hx
  · exact un.slot b o z (by rw [unp_out (p.none n)]; exact n) hf hx
  · rw [rep_out (p.none n)]
    exact un.free b o z (by rw [unp_out (p.none n)]; exact n) hx
  · obtain ⟨a, c⟩ := mid (fun c v y => by cases y) z
    rw [rep_out a]
    exact un.tups b xs c
  · obtain ⟨a, c⟩ := mid (fun c v y => by cases y) z
    rw [rep_out a]
    exact un.frzs b o u c
  · obtain ⟨a, c⟩ := mid (fun c v y => by cases y) z
    rw [rep_out a]
    exact un.tbls b ps c
end
/-! ### a function with pinned cells -/
def cells (F : NF) : List Addr := F.cl.map (·.2)
/-- the function F at f; its captured cells stand still and hold ws -/
structure CloAt (H : Hp) (f : Addr) (F : NF) (fr : List Str) (ws : List (Option V)) : Prop where
  fn : H f = some (FnO f F)
  code : H F.c = some (CodeO F.c F.qual)
  len : ws.length = fr.length
  all : ∀ c ∈ cells F, ∃ o v, H c = some (PinO c o) ∧ o.data = .cell v
  inj : ∀ x y c, F.cl.lookup x = some c → F.cl.lookup y = some c → x = y
  has : ∀ (i : Nat) (y : Str), fr[i]? = some y → ∃ c, F.cl.lookup y = some c ∧ ∀ v, ws[i]? = some (some v) → ∃ o u, L2.RelV v u ∧ H c = some (PinO c o) ∧ o.data = .cell (some u)
theorem CloAt.pin {H : Hp} {f : Addr} {F : NF} {fr : List Str} {ws : List (Option V)} (c : CloAt H f F fr ws) : Pinned (cells F) H := fun a ha => by
  obtain ⟨o, v, z, _⟩ := c.all a ha
  exact ⟨o, z⟩
theorem CloAt.keep {H H' : Hp} {f : Addr} {F : NF} {fr : List Str} {ws : List (Option V)} (e : ∀ b o, (∃ φ, o = HO.ext φ) → H b = some o → H' b = some o) (c : CloAt H f F fr ws) : CloAt H' f F fr ws :=
  ⟨e _ _ ⟨_, rfl⟩ c.fn, e _ _ ⟨_, rfl⟩ c.code, c.len, fun a ha => by
    obtain ⟨o, v, z, k⟩ := c.all a ha
    exact ⟨o, v, e _ _ ⟨_, rfl⟩ z, k⟩, c.inj, fun i y hy => by
    obtain ⟨a, ha, k⟩ := c.has i y hy
    exact ⟨a, ha, fun v hv => by
      obtain ⟨o, u, r, z, d⟩ := k v hv
      exact ⟨o, u, r, e _ _ ⟨_, rfl⟩ z, d⟩⟩⟩
theorem CloAt.same {H H' : Hp} {f : Addr} {F : NF} {fr : List Str} {ws : List (Option V)} (e : ∀ b o, H b = some o → H' b = some o) (c : CloAt H f F fr ws) : CloAt H' f F fr ws := c.keep fun b o _ z => e b o z
theorem fn_out {H : Hp} {f : Addr} {F : NF} {fr : List Str} {ws : List (Option V)} {h : Heap} {P : Program} {w : World} (k : HOk P w H h) (c : CloAt H f F fr ws) : f ∉ cells F ∧ F.c ∉ cells F := by
  refine ⟨fun hf => ?_, fun hc => ?_⟩
  · obtain ⟨o, v, z, d⟩ := c.all f hf
    have hz : h.get? f = some o := (k f _ z).1
    obtain ⟨od, sl, doc, pm, ctv, ho⟩ := fnO_at k c.fn
    rw [hz] at ho
    cases ho
    cases d
  · obtain ⟨o, v, z, d⟩ := c.all F.c hc
    have hz : h.get? F.c = some o := (k F.c _ z).1
    obtain ⟨⟨oc, vs, t, h1, h2, h3⟩, _, _⟩ := k F.c _ c.code
    rw [hz] at h1
    cases h1
    rw [d] at h2
    cases h2
section
variable {P : Program} {w : World} {K : PySem.W.Frag} {mg : Str → Option Value} {base : Heap} {A : Around} {outer : List Env} {s : Shared} {H : Hp} {cs : List Addr}
theorem cell_mem {F : NF} {y : Str} {c : Addr} (h : F.cl.lookup y = some c) : c ∈ cells F := List.mem_map.mpr ⟨(y, c), PySem.mem_of_lookup h, rfl⟩
theorem clo_cells {f : Addr} {F : NF} {fr : List Str} {ws : List (Option V)} (k : HOk P w H s.heap) (c : CloAt H f F fr ws) : CellsAt F.cl fr ws s.heap (unp (cells F) H) :=
  ⟨c.len, fun y a e => ⟨unp_in (cell_mem e), by
    obtain ⟨o, v, z, d⟩ := c.all a (cell_mem e)
    exact ⟨v, o, (k a _ z).1, d⟩⟩, c.inj, fun i y hy => by
    obtain ⟨a, ha, g⟩ := c.has i y hy
    exact ⟨a, ha, fun v hv => by
      obtain ⟨o, u, r, z, d⟩ := g v hv
      exact ⟨u, r, o, (k a _ z).1, d⟩⟩⟩
/-- the promise of a function whose cells stand still -/
theorem clo_run {k : Nat} {f : Addr} {F : NF} {ps fr : List Str} {ws : List (Option V)} {sp : List (Option V) → Sp} {us : List Value} {vs : List V} {Q : VK} (Fn : NOk P w K mg base CX0 k f F ps fr sp) (hr : Room k A) (e : Env0 P w K mg base A outer s H) (c : CloAt H f F fr ws) (r : Vals vs us)
    (q : sp ws vs (unp (cells F) H) (fun v H2 => (∀ a ∈ cells F, H2 a = none) → Q v (rep (cells F) H H2)) E0) : codeAny (model P w) A (.call (.ref f) ⟨us, []⟩) (CR CX0 outer P w H s Q E0) s := by
  obtain ⟨o1, o2⟩ := fn_out e.hok c
  refine codeAny_mono (Fn.run A outer s (unp (cells F) H) us vs ws _ E0 hr (env_less c.pin e) (by rw [unp_out o1]; exact c.fn) (by rw [unp_out o2]; exact c.code) (clo_cells e.hok c) r q) fun r s' hq => ?_
  cases r with
  | error e' => exact hq
  | ok fl =>
    cases fl with
    | ret u => exact ce_more c.pin e hq
    | next => exact hq
    | brk => exact hq
    | cont => exact hq
end
/-- f(..), f a name that holds a function whose cells stand still -/
def tCallC (P : Program) (w : World) (K : PySem.W.Frag) (mg : Str → Option Value) (base : Heap) (k i : Nat) (t : TA) : TE := fun σ H Q => ∃ (f : Addr) (F : NF) (ps fr : List Str) (ws : List (Option V)) (sp : List (Option V) → Sp), σ[i]? = some (some (.ref f)) ∧ H f = some (FnO f F) ∧ NOk P w K mg base CX0 k f F ps fr sp ∧
  t σ H fun vs H1 => CloAt H1 f F fr ws ∧ sp ws vs (unp (cells F) H1) (fun v H2 => (∀ a ∈ cells F, H2 a = none) → Q v (rep (cells F) H1 H2)) E0
section
variable {X : Cx} {i j k : Nat} {x : Str} {t : TA} {e : Expr} {es : List Expr} {p pos : Pos}
theorem pe_callc (hr : Room j X.A) (hk : k ≤ j) (hN : X.N[i]? = some x) (hv : Vis X.env.scope x) (ha : PA X (e :: es) t)
    (hd : (x == ("__debug__" : Str)) = false := by decide)
    (hcd : (x == ("__classdict__" : Str)) = false := by decide) (he : starEach (e :: es) X.env = (false, eval e X.env) :: starEach es X.env := by rfl)
    (hpl : (backTo pos (starEach es X.env)).any (·.1) = false := by rfl) :
    PE X (.Call (.Name x p) (e :: es) [] pos) (tCallC X.prog X.w X.K X.mg X.base k i t) := by
  refine ⟨fun pins s σ H Q I h => ?_⟩
  obtain ⟨f, F, ps, fr, ws, sp, hs, hf, Fn, ht⟩ := h
  have slot := (pe_var (pos := p) hN hv hd hcd).run pins s σ H (fun v H1 => v = .ref f ∧ H1 = H) I ⟨.ref f, hs, rfl, rfl⟩
  refine wpAny_Call_Name_kw (thn slot ?_)
  rintro u s1 ⟨v, H1, I1, r1, q1⟩
  obtain ⟨ev, eH⟩ := q1
  subst ev
  rw [eH] at I1
  obtain rfl : u = Value.ref f := r1
  refine PySem.W.callWith_F (first := []) (fnAt_of I1 hf) (thn (ha.run pos pins s1 σ H _ I1 ht) fun us s2 ⟨vs, H2, I2, r, c, q⟩ => ⟨fnAt_of I2 c.fn, ?_⟩) he hpl
  show wpAny _ _ (call (.ref f) us) _ _ _
  refine wpAny_call (codeAny_mono (clo_run Fn (hr.mono hk) I2.env0 c r q) fun r s' hq => ?_)
  cases r with
  | error e' => exact False.elim hq
  | ok fl =>
    cases fl with
    | ret u => exact I2.after hq
    | next => exact False.elim hq
    | brk => exact False.elim hq
    | cont => exact False.elim hq
end
/-! ### a call that hands functions of this frame on -/
def pinA (cs : List Addr) (h : Heap) (H : Hp) : Hp := fun b => if b ∈ cs then (h.get? b).map (PinO b) else H b
theorem pinA_in {cs : List Addr} {h : Heap} {H : Hp} {b : Addr} {o : Obj} (m : b ∈ cs) (e : h.get? b = some o) : pinA cs h H b = some (PinO b o) := by
  unfold pinA
  rw [if_pos m, e] <;> rfl
theorem pinA_out {cs : List Addr} {h : Heap} {H : Hp} {b : Addr} (m : b ∉ cs) : pinA cs h H b = H b := if_neg m
/-- the heap of the callee: the cells cs of the running frame stand still -/
structure PinsP (X : Cx) (σ : L2.St) (cs : List Addr) (H1 Hp : L2.Hp) : Prop where
  out : ∀ b, b ∉ cs → Hp b = H1 b
  new : ∀ c ∈ cs, H1 c = none
  pin : Pinned cs Hp
  dat : ∀ c ∈ cs, ∃ o v, Hp c = some (PinO c o) ∧ o.data = .cell v
  clo : ∀ (f : Addr) (F : NF) (fr : List Str) (js : List Nat), Caps X F.cl fr js → (∀ p ∈ F.cl, X.env.cells.lookup p.1 = some p.2) → H1 f = some (FnO f F) → H1 F.c = some (CodeO F.c F.qual) → CloAt Hp f F fr (js.map (slotAt σ))
theorem PinsP.at_ {X : Cx} {σ : L2.St} {cs : List Addr} {H1 Hp : L2.Hp} (p : PinsP X σ cs H1 Hp) {b : Addr} {o : HO} (e : H1 b = some o) : Hp b = some o := by
  rw [p.out b fun z => by rw [p.new b z] at e; cases e]
  exact e
theorem PinsP.kept {X : Cx} {σ : L2.St} {cs : List Addr} {H1 Hp H2 : L2.Hp} (p : PinsP X σ cs H1 Hp) (e : ∀ b o, Hp b = some o → H2 b = some o) : ∀ c ∈ cs, H2 c = Hp c := fun c hc => by
  obtain ⟨o, z⟩ := p.pin c hc
  rw [z, e _ _ z]
theorem PinsP.back {X : Cx} {σ : L2.St} {cs : List Addr} {H1 Hp H2 : L2.Hp} (p : PinsP X σ cs H1 Hp) (e : ∀ b o, Hp b = some o → H2 b = some o) : ∀ b o, H1 b = some o → unp cs H2 b = some o := fun b o z => by
  rw [unp_out fun m => by rw [p.new b m] at z; cases z]
  exact e _ _ (p.at_ z)
theorem PinsP.keptN {X : Cx} {σ : L2.St} {cs : List Addr} {H1 Hp H2 : L2.Hp} (p : PinsP X σ cs H1 Hp) (e : ExtN Hp H2) : ∀ c ∈ cs, H2 c = Hp c := fun c hc => by
  obtain ⟨o, z⟩ := p.pin c hc
  rw [z, e _ _ z fun ps y => by cases y]
theorem PinsP.backN {X : Cx} {σ : L2.St} {cs : List Addr} {H1 Hp H2 : L2.Hp} (p : PinsP X σ cs H1 Hp) (e : ExtN Hp H2) : ExtN H1 (unp cs H2) := fun b o z nt => by
  rw [unp_out fun m => by rw [p.new b m] at z; cases z]
  exact e _ _ (p.at_ z) nt
theorem PinsP.gotN {X : Cx} {σ : L2.St} {cs : List Addr} {H1 Hp H2 : L2.Hp} (p : PinsP X σ cs H1 Hp) (e : ExtN Hp H2) {a : Addr} {o : HO} (h : H2 a = some o) (n : ∀ c u, o ≠ PinO c u) : unp cs H2 a = some o := by
  rw [unp_out fun m => ?_]
  · exact h
  · obtain ⟨u, z⟩ := p.pin a m
    rw [p.keptN e a m, z] at h
    exact n _ _ (Option.some.inj h).symm
/-- a cell is no code object -/
theorem pin_code {c : Addr} {o : Obj} {v : Option Value} {q : Str} (d : o.data = .cell v) : PinO c o ≠ CodeO c q := fun e => by
  have e1 : (fun h : Heap => h.get? c = some o) = fun h : Heap => ∃ (oc : Obj) (vs : Array Value) (t : Tok), h.get? c = some oc ∧ oc.data = .fields vs ∧ vs[1]? = some (.str q t) := HO.ext.inj e
  have g : Heap.get? { objs := Array.replicate (c + 1) o } c = some o := by
    unfold Heap.get?
    have h : (Array.replicate (c + 1) o)[c]? = some o := by
      rw [Array.getElem?_replicate, if_pos (Nat.lt_succ_self c)]
    simp only [h]
    obtain ⟨a, b, dt, sl⟩ := o
    cases d
    rfl
  obtain ⟨oc, vs, t, h1, h2, _⟩ := (congrFun e1 _).mp g
  rw [g] at h1
  cases h1
  rw [d] at h2
  cases h2
theorem PinsP.tabs {X : Cx} {σ : L2.St} {cs : List Addr} {H1 Hp H2 : L2.Hp} {T : List NTab} (p : PinsP X σ cs H1 Hp) (e : ExtN Hp H2) (t : TabsN T H2) : TabsN T (unp cs H2) := fun q hq => by
  obtain ⟨ps, h1, h2, h3⟩ := t q hq
  refine ⟨ps, p.gotN e h1 (fun c u y => by cases y), h2, fun pos cv hc => ?_⟩
  obtain ⟨c, e1, e2⟩ := h3 pos cv hc
  refine ⟨c, e1, ?_⟩
  rw [unp_out fun m => ?_]
  · exact e2
  · obtain ⟨o, v, z, d⟩ := p.dat c m
    rw [p.keptN e c m, z] at e2
    exact pin_code d (Option.some.inj e2)
/-- what is found behind, and is no pin -/
theorem PinsP.got {X : Cx} {σ : L2.St} {cs : List Addr} {H1 Hp H2 : L2.Hp} (p : PinsP X σ cs H1 Hp) (e : ∀ b o, Hp b = some o → H2 b = some o) {a : Addr} {o : HO} (h : H2 a = some o) (n : ∀ c u, o ≠ PinO c u) : unp cs H2 a = some o := by
  rw [unp_out fun m => ?_]
  · exact h
  · obtain ⟨u, z⟩ := p.pin a m
    rw [e _ _ z] at h
    exact n _ _ (Option.some.inj h).symm
section
variable {P : Program} {w : World} {K : PySem.W.Frag} {mg : Str → Option Value} {base : Heap} {A : Around} {outer : List Env} {s : Shared} {H : L2.Hp} {cs : List Addr}
theorem pinA_pinned {h : Heap} (ex : ∀ c ∈ cs, ∃ o, h.get? c = some o) : Pinned cs (pinA cs h H) := fun c hc => by
  obtain ⟨o, z⟩ := ex c hc
  exact ⟨o, pinA_in hc z⟩
theorem env_pin (ex : ∀ c ∈ cs, ∃ o, s.heap.get? c = some o) (nH : ∀ c ∈ cs, H c = none) (nb : ∀ c ∈ cs, base.get? c = none) (nf : ∀ c ∈ cs, c ∉ frs outer) (e : Env0 P w K mg base A outer s H) : Env0 P w K mg base A outer s (pinA cs s.heap H) := by
  refine ⟨e.frames, e.mod, fun b o q => ⟨(e.bs b o q).1, ?_⟩, e.bsz, e.funs, fun b hb => ?_, fun a o z => ?_, e.bare⟩
  · rw [pinA_out fun m => by rw [nb b m] at q; cases q]
    exact (e.bs b o q).2
  · rw [pinA_out fun m => nf b m hb]
    exact e.frf b hb
  · by_cases ha : a ∈ cs
    · obtain ⟨u, hu⟩ := ex a ha
      rw [pinA_in ha hu] at z
      cases z
      exact ⟨hu, ⟨u, hu⟩, fun h1 h2 q st => st _ q⟩
    · rw [pinA_out ha] at z
      have out : ∀ {b : Addr} {u : HO}, H b = some u → b ∉ cs := fun {b u} q hb => by
        rw [nH b hb] at q; cases q
      refine (e.hok a o z).stay (fun _ _ _ q => q) (fun b q => ?_) fun b xs q => ?_
      · rw [pinA_out (out q)]; exact q
      · rw [pinA_out (out q)]; exact q
theorem ce_less {Q : VK} {u : Value} {s' : Shared} (ex : ∀ c ∈ cs, ∃ o, s.heap.get? c = some o) (nH : ∀ c ∈ cs, H c = none) (nf : ∀ c ∈ cs, c ∉ frs outer)
    (h : CE outer P w (pinA cs s.heap H) s (fun v H2 => (∀ c ∈ cs, H2 c = pinA cs s.heap H c) ∧ Q v (unp cs H2)) u s') : CE outer P w H s Q u s' := by
  obtain ⟨v, H2, os, bare, un, hok, r, st, q⟩ := h
  have pn : Pinned cs H2 := fun c hc => by
    obtain ⟨o, z⟩ := ex c hc
    exact ⟨o, (st c hc).trans (pinA_in hc z)⟩
  have mid : ∀ {b : Addr} {u : HO}, H b = some u → b ∉ cs ∧ pinA cs s.heap H b = some u := fun {b u} z => by
    have n : b ∉ cs := fun m => by rw [nH b m] at z; cases z
    exact ⟨n, by rw [pinA_out n]; exact z⟩
  refine ⟨v, unp cs H2, os, bare, ⟨fun b o z n hf hx => ?_, fun b o z n hf hx => ?_, fun b o z n hx => ?_, un.there, fun b xs z => ?_, fun b o u z => ?_, fun b ps z => ?_⟩, hok_less pn hok, r, q⟩
  · by_cases hb : b ∈ cs
    · exact (hok b _ ((st b hb).trans (pinA_in hb z))).1
    · exact un.keep b o z (by rw [pinA_out hb]; exact n) hf hx
  · exact un.slot b o z (by rw [pinA_out fun m => nf b m hf]; exact n) hf hx
  · by_cases hb : b ∈ cs
    · exact unp_in hb
    · rw [unp_out hb]
      exact un.free b o z (by rw [pinA_out hb]; exact n) hx
  · obtain ⟨a, c⟩ := mid z
    rw [unp_out a]
    exact un.tups b xs c
  · obtain ⟨a, c⟩ := mid z
    rw [unp_out a]
    exact un.frzs b o u c
  · obtain ⟨a, c⟩ := mid z
    rw [unp_out a]
    exact un.tbls b ps c
end
/-- f(..), f a def of the module, with functions of this frame among the arguments -/
def tCallP (X : Cx) (cs : List Addr) (sp : Sp) (t : TA) : TE := fun σ H Q => t σ H fun vs H1 => ∀ Hp, PinsP X σ cs H1 Hp → sp vs Hp (fun v H2 => (∀ c ∈ cs, H2 c = Hp c) ∧ Q v (unp cs H2)) E0
section
variable {X : Cx} {k : Nat} {f : Addr} {fd : FuncData} {ps : List Str} {sp : Sp} {x : Str} {p pos : Pos} {e : Expr} {es : List Expr} {t : TA} {cs : List Addr}
theorem own_cells {pins : List (Addr × Obj)} {σ : L2.St} {H : L2.Hp} {s : Shared} (I : Inv X pins σ H s) (h1 : ∀ c ∈ cs, ∃ y, X.fn y = true ∧ X.env.cells.lookup y = some c) :
    (∀ c ∈ cs, ∃ o v, s.heap.get? c = some o ∧ o.data = .cell v) ∧ (∀ c ∈ cs, H c = none) ∧ (∀ c ∈ cs, X.base.get? c = none) ∧ ∀ c ∈ cs, c ∉ frs X.stack := by
  have ex : ∀ c ∈ cs, ∃ o v, s.heap.get? c = some o ∧ o.data = .cell v := fun c hc => by
    obtain ⟨y, _, hy⟩ := h1 c hc
    obtain ⟨v, o, ho, d⟩ := I.cell y c hy
    exact ⟨o, v, ho, d⟩
  have big : ∀ c ∈ cs, X.s_0.heap.objs.size ≤ c := fun c hc => by
    obtain ⟨y, hf, hy⟩ := h1 c hc
    exact I.ok.cab y c hf hy
  refine ⟨ex, fun c hc => ?_, fun c hc => ?_, fun c hc hb => ?_⟩
  · obtain ⟨y, _, hy⟩ := h1 c hc
    exact I.freeC y c hy
  · cases e : X.base.get? c with
    | none => rfl
    | some o => exact absurd (Nat.lt_of_lt_of_le (Heap.lt_size e) (Nat.le_trans I.ok.bsz (big c hc))) (Nat.lt_irrefl _)
  · have no : c ∉ X.fs := fun hb => by
      obtain ⟨_, o, ho, _⟩ := I.ok.funs.mem hb
      exact absurd (Nat.lt_of_lt_of_le (Heap.lt_size ho) (big c hc)) (Nat.lt_irrefl _)
    rcases I.ok.stk with z | ⟨z, zf⟩
    · rw [z] at hb
      exact no hb
    · rw [z] at hb
      unfold frs at hb
      rw [List.filterMap_cons, zf] at hb
      rcases List.mem_cons.mp hb with rfl | hb
      · obtain ⟨o, v, ho, d⟩ := ex _ hc
        obtain ⟨m, hn, _⟩ := I.loc
        obtain ⟨o', es, ep, ho', d', _⟩ := hn
        rw [ho] at ho'
        cases ho'
        rw [d] at d'
        cases d'
      · exact no hb
theorem pe_callP (F : FnOk X.prog X.w X.K X.mg X.base CX0 k f fd ps sp) (hr : Room k X.A) (hg : Gl X x) (hm : X.mg x = some (.ref f)) (hk : PySem.W.keepIn X.K (.ref f) = true) (hb : Binds X.K fd ps [])
    (h1 : ∀ c ∈ cs, ∃ y, X.fn y = true ∧ X.env.cells.lookup y = some c) (h2 : ∀ y c, X.env.cells.lookup y = some c → c ∈ cs)
    (ha : PA X (e :: es) t)
    (hdb : (x == ("__debug__" : Str)) = false := by decide)
    (he : starEach (e :: es) X.env = (false, eval e X.env) :: starEach es X.env := by rfl)
    (hpl : (backTo pos (starEach es X.env)).any (·.1) = false := by rfl) :
    PE X (.Call (.Name x p) (e :: es) [] pos) (tCallP X cs sp t) := by
  refine ⟨fun pins s σ H Q I h => ?_⟩
  have args := ha.run pos pins s σ H _ I h
  refine wpAny_Call_Name_kw (ld_glob I hg hm (PySem.W.callWith_K (h₀ := X.base) I.ok.mod.kin hk (thn args ?_) he hpl) hdb)
  rintro us s1 ⟨vs, H1, I1, r, q⟩
  refine ⟨I1.kIn, ?_⟩
  obtain ⟨ex, nH, nb, nf⟩ := own_cells I1 h1
  have ex' : ∀ c ∈ cs, ∃ o, s1.heap.get? c = some o := fun c hc => by
    obtain ⟨o, _, z, _⟩ := ex c hc
    exact ⟨o, z⟩
  have q := q (pinA cs s1.heap H1) ⟨fun b hb => pinA_out hb, nH, pinA_pinned ex', fun c hc => (by obtain ⟨o, v, z, d⟩ := ex c hc; exact ⟨o, v, pinA_in hc z, d⟩), fun g G fr js cp sub hg hc => by
    have C := cells_of I1 cp
    refine ⟨by rw [pinA_out fun m => by rw [nH g m] at hg; cases hg]; exact hg, by rw [pinA_out fun m => by rw [nH G.c m] at hc; cases hc]; exact hc, C.len, fun c hc => ?_, C.inj, fun i y hy => ?_⟩
    · obtain ⟨⟨y, c'⟩, hp, rfl⟩ := List.mem_map.mp hc
      have hm := h2 y c' (sub _ hp)
      obtain ⟨o, v, z, d⟩ := ex c' hm
      exact ⟨o, v, pinA_in hm z, d⟩
    · obtain ⟨c, hc, hv⟩ := C.has i y hy
      refine ⟨c, hc, fun v ev => ?_⟩
      obtain ⟨u, ru, o, ho, d⟩ := hv v ev
      exact ⟨o, u, ru, pinA_in (h2 y c (cp.sub y c hc)) ho, d⟩⟩
  have hl : us.length = ps.length := by rw [← r.length]; exact F.len _ _ _ _ q
  have hb1 : BindsTo s1 fd ⟨us, []⟩ (ps.zip us) := by
    have z := hb s1 us I1.kIn (by rw [List.append_nil]; exact hl)
    rw [List.append_nil] at z
    exact z
  refine wpAny_call (codeAny_mono (F.run X.A X.stack s1 _ ⟨us, []⟩ us vs _ E0 hr (env_pin ex' nH nb nf I1.env0) hb1 r q) fun r s' hq => ?_)
  cases r with
  | error e => exact False.elim hq
  | ok fl =>
    cases fl with
    | ret u => exact I1.after (ce_less ex' nH nf hq)
    | next => exact False.elim hq
    | brk => exact False.elim hq
    | cont => exact False.elim hq
end
end PinX

/-! defs that make functions and hand them on -/
namespace PinX
open PySem PySem.Spec PyProof.Rows L2 LamX NdefX
/-- a def of the text, its code object at c -/
structure FunC (K : PySem.W.Frag) (x qual : Str) (st : Stmt) (f : Addr) (fd : FuncData) (c : Addr) : Prop where
  ex : ∃ (oc : Value) (od : Option Addr) (kV doc pm : Value) (an : Option Addr) (ct : Value) (osl : Array (Option Value)),
    fd = PySem.W.fnOf x qual (defArgs st) (defBody st) (defScope st) .none kV doc pm an (.ref c) ct ∧ K.lookup f = some ⟨oc, od, .func fd, osl⟩ ∧ PySem.W.codeIn K (.ref c) qual = true
  kp : PySem.W.keepIn K (.ref f) = true
section
variable {P : Program} {w : World} {K : PySem.W.Frag} {mg : Str → Option Value} {base : Heap}
theorem FunC.fn {x qual : Str} {st : Stmt} {f : Addr} {fd : FuncData} {c : Addr} (F : FunC K x qual st f fd c) : Fun K x qual st f fd := by
  obtain ⟨oc, od, kV, doc, pm, an, ct, osl, e, lk, hcd⟩ := F.ex
  exact ⟨⟨oc, od, kV, doc, pm, an, .ref c, ct, osl, e, lk, hcd⟩, F.kp⟩
theorem FunC.ok {x qual : Str} {st : Stmt} {f : Addr} {fd : FuncData} {c : Addr} {N ps : List Str} {k : Nat} {sp : Sp} (F : FunC K x qual st f fd c) (S : FnScope N ps (defScope st)) (len : ∀ vs H Q E, sp vs H Q E → vs.length = ps.length)
    (hbody : ∀ (A : Around) (outer : List Env) (s : Shared) (H : Hp) (vs : List V) (Q : VK) (E : XK), Room k (A.deeper (envOfC qual (defScope st) s.heap.objs.size f (.ref c))) → sp vs H Q E →
      ∃ t, PSs (cxOf CX0 P w K mg base N qual (defScope st) f (.ref c) A outer s H E).nox (defBody st) t ∧ t { nx := fun _ H' => Q .non H', rt := Q } (start N vs) H) : FnOk P w K mg base CX0 (k + 1) f fd ps sp := by
  obtain ⟨oc, od, kV, doc, pm, an, ct, osl, rfl, lk, hcd⟩ := F.ex
  refine fn_of lk hcd S len fun A outer s H vs Q E hr hsp => ?_
  obtain ⟨t, h, q⟩ := hbody A outer s H vs Q E hr hsp
  exact ⟨t, h.nox, q⟩
theorem FunC.okX {x qual : Str} {st : Stmt} {f : Addr} {fd : FuncData} {c : Addr} {N ps : List Str} {k : Nat} {sp : Sp} (F : FunC K x qual st f fd c) (S : FnScope N ps (defScope st)) (len : ∀ vs H Q E, sp vs H Q E → vs.length = ps.length)
    (hbody : ∀ (A : Around) (outer : List Env) (s : Shared) (H : Hp) (vs : List V) (Q : VK) (E : XK), Room k (A.deeper (envOfC qual (defScope st) s.heap.objs.size f (.ref c))) → sp vs H Q E →
      ∃ t, PSs (cxOf (L2.CX P w) P w K mg base N qual (defScope st) f (.ref c) A outer s H E) (defBody st) t ∧ t { nx := fun _ H' => Q .non H', rt := Q } (start N vs) H) : FnOk P w K mg base (L2.CX P w) (k + 1) f fd ps sp := by
  obtain ⟨oc, od, kV, doc, pm, an, ct, osl, rfl, lk, hcd⟩ := F.ex
  exact fn_of lk hcd S len fun A outer s H vs Q E hr hsp => hbody A outer s H vs Q E hr hsp
end
/-- the addresses of cells -/
theorem cells_at {cl : List (Str × Addr)} (nd : (cl.map (·.1)).Nodup) : ∀ c ∈ cl.map (·.2), ∃ y, cl.lookup y = some c := by
  induction cl with
  | nil => intro c h; cases h
  | cons p cl ih =>
    intro c h
    obtain ⟨y, a⟩ := p
    rw [List.map_cons] at nd h
    rcases List.mem_cons.mp h with rfl | h
    · exact ⟨y, by simp [List.lookup]⟩
    · obtain ⟨z, hz⟩ := ih (List.nodup_cons.mp nd).2 c h
      refine ⟨z, ?_⟩
      have ne : z ≠ y := fun e => (List.nodup_cons.mp nd).1 (by rw [← e]; exact List.mem_map.mpr ⟨(z, c), PySem.mem_of_lookup hz, rfl⟩)
      have : (z == y) = false := by simpa using ne
      simp [List.lookup, this, hz]
theorem cells_in {cl : List (Str × Addr)} : ∀ y c, cl.lookup y = some c → c ∈ cl.map (·.2) := fun y c h => List.mem_map.mpr ⟨(y, c), PySem.mem_of_lookup h, rfl⟩
/-- called with vs in a heap that has all of H it comes to a value as R tells -/
def CanCall (P : Program) (w : World) (K : PySem.W.Frag) (mg : Str → Option Value) (base : Heap) (k : Nat) (H : Hp) (v : V) (vs : List V) (R : Hp → V → Prop) : Prop :=
  ∃ (f : Addr) (F : NdefX.NF) (ps fr : List Str) (ws : List (Option V)) (sp : List (Option V) → Sp), v = .ref f ∧ CloAt H f F fr ws ∧ NdefX.NOk P w K mg base CX0 k f F ps fr sp ∧
  ∀ H1, ExtN H H1 → ∀ Q : VK, (∀ z H2, Same H1 H2 → R H2 z → Q z H2) → sp ws vs (unp (cells F) H1) (fun z H2 => (∀ a ∈ cells F, H2 a = none) → Q z (rep (cells F) H1 H2)) E0
section
variable {P : Program} {w : World} {K : PySem.W.Frag} {mg : Str → Option Value} {base : Heap}
/-- a function of the frame, as the callee of a call that hands it on may call it -/
theorem can_made {X : Cx} {σ : L2.St} {cs : List Addr} {H1 Hp : L2.Hp} {f : Addr} {F : NF} {ps fr : List Str} {js : List Nat} {k : Nat} {sp : List (Option V) → Sp} {vs : List V} {R : L2.Hp → V → Prop}
    (p : PinsP X σ cs H1 Hp) (fn : H1 f = some (FnO f F)) (co : H1 F.c = some (CodeO F.c F.qual)) (cap : Caps X F.cl fr js) (sub : ∀ q ∈ F.cl, X.env.cells.lookup q.1 = some q.2) (h2 : ∀ y c, X.env.cells.lookup y = some c → c ∈ cs)
    (Fn : NOk P w K mg base CX0 k f F ps fr sp) (mono : ∀ H H' z, Same H H' → R H z → R H' z)
    (hs : ∀ H2, ExtN H1 H2 → ∀ Q : VK, (∀ z H3, Same H2 H3 → R H3 z → Q z H3) → sp (js.map (slotAt σ)) vs H2 Q E0) : CanCall P w K mg base k Hp (.ref f) vs R := by
  have inc : ∀ a ∈ cells F, a ∈ cs := fun a ha => by
    obtain ⟨⟨y, c⟩, hp, rfl⟩ := List.mem_map.mp ha
    exact h2 y c (sub _ hp)
  refine ⟨f, F, ps, fr, _, sp, rfl, p.clo f F fr js cap sub fn co, Fn, fun G sG Q q => ?_⟩
  refine hs (unp (cells F) G) (fun b o z nt => ?_) _ fun z H3 s3 r nn => q z _ (fun b o e => ?_) (mono _ _ _ (fun b o e => ?_) r)
  · rw [unp_out fun m => by rw [p.new b (inc b m)] at z; cases z]
    exact sG _ _ (p.at_ z) nt
  · by_cases m : b ∈ cells F
    · rw [rep_in m]; exact e
    · rw [rep_out m]
      exact s3 _ _ (by rw [unp_out m]; exact e)
  · by_cases m : b ∈ cells F
    · rw [nn b m] at e; cases e
    · rw [rep_out m]; exact e
theorem sameN {H H' : L2.Hp} (s : Same H H') : ExtN H H' := fun b o e _ => s b o e
theorem extN_trans {H H1 H2 : L2.Hp} (a : ExtN H H1) (b : ExtN H1 H2) : ExtN H H2 := fun c o e n => b c o (a c o e n) n
theorem CanCall.keep {k : Nat} {H H' : L2.Hp} {v : V} {vs : List V} {R : L2.Hp → V → Prop} (e : ExtN H H') (h : CanCall P w K mg base k H v vs R) : CanCall P w K mg base k H' v vs R := by
  obtain ⟨f, F, ps, fr, ws, sp, h1, h2, h3, h4⟩ := h
  exact ⟨f, F, ps, fr, ws, sp, h1, h2.keep fun b o ⟨φ, z⟩ q => e b o q fun ps y => (by rw [z] at y; cases y), h3, fun H1 s => h4 H1 (extN_trans e s)⟩
/-- the call of a slot -/
theorem callc_of {k i : Nat} {H0 H : L2.Hp} {v : V} {vs : List V} {R : L2.Hp → V → Prop} {σ : L2.St} {t : TA} {Q : VK} (c : CanCall P w K mg base k H0 v vs R) (hs : σ[i]? = some (some v)) (e : ExtN H0 H)
    (ht : ∀ G : List V → L2.Hp → Prop, (∀ H1, Same H H1 → G vs H1) → t σ H G) (q : ∀ z H2, Same H H2 → R H2 z → Q z H2) : tCallC P w K mg base k i t σ H Q := by
  have c' := c.keep e
  obtain ⟨f, F, ps, fr, ws, sp, rfl, h2, h3, h4⟩ := c'
  refine ⟨f, F, ps, fr, ws, sp, hs, h2.fn, h3, ht _ fun H1 s1 => ⟨h2.same s1, h4 H1 (sameN s1) Q fun z H2 s2 r => q z H2 (s1.trans s2) r⟩⟩
theorem pe_cc {X : Cx} {e : Expr} {es : List Expr} {t : TA} {p pos : Pos} {j k : Nat} {x : Str} (i : Nat) (hr : Room j X.A) (hk : k ≤ j) (ha : PA X (e :: es) t) (hN : X.N[i]? = some x := by rfl)
    (hv : Vis X.env.scope x := by first | exact Or.inl rfl | exact Or.inr (Or.inl rfl) | exact Or.inr (Or.inr rfl)) (hd : (x == ("__debug__" : Str)) = false := by decide)
    (hcd : (x == ("__classdict__" : Str)) = false := by decide) (he : starEach (e :: es) X.env = (false, eval e X.env) :: starEach es X.env := by rfl)
    (hpl : (backTo pos (starEach es X.env)).any (·.1) = false := by rfl) :
    PE X (.Call (.Name x p) (e :: es) [] pos) (tCallC X.prog X.w X.K X.mg X.base k i t) := pe_callc hr hk hN hv ha hd hcd he hpl
end
/-! ### the captured names of a function that a def of the module makes -/
section
variable {CX : CXT} {P : Program} {w : World} {K : PySem.W.Frag} {mg : Str → Option Value} {base : Heap} {N : List Str} {qual : Str} {sc nsc : Scope} {f : Addr} {cd : Value} {A : Around} {outer : List Env} {s : Shared} {H : L2.Hp} {E : XK} {fr : List Str} {js : List Nat} {L : Nat}
theorem own_has (h : ∀ y ∈ nsc.names, y.2 = .free → sc.names.lookup y.1 = some .cell) : ∀ y ∈ nsc.names, y.2 = .free → ∃ c, (cellsFrom L sc.names []).lookup y.1 = some c := fun y hy e => cell_has (h y hy e)
theorem clo_mem {cl : List (Str × Addr)} {names : List (Str × NameKind)} (hfree : ∀ y ∈ names, y.2 = .free → ∃ c, cl.lookup y.1 = some c) : ∀ q ∈ cloFrom cl names [], cl.lookup q.1 = some q.2 := fun ⟨y, c⟩ hq => by
  rcases cloFrom_mem hq with hm | ⟨h1, h2⟩
  · cases hm
  · obtain ⟨c1, hc⟩ := hfree _ h1 rfl
    have hc : cl.lookup y = some c1 := hc
    have e2 : c = c1 := by
      rw [h2, hc] <;> rfl
    rw [e2]
    exact hc
theorem caps_own {X : Cx} (hc : X.env.cells = cellsFrom L sc.names []) (hs : X.env.scope = sc) (h : ∀ y ∈ nsc.names, y.2 = .free → sc.names.lookup y.1 = some .cell) (hfr : ∀ y ∈ fr, (y, NameKind.free) ∈ nsc.names) (hjs : js.map (fun j => X.N[j]?) = fr.map some) :
    Caps X (cloFrom X.env.cells nsc.names []) fr js ∧ ∀ q ∈ cloFrom X.env.cells nsc.names [], X.env.cells.lookup q.1 = some q.2 := by
  have hf : ∀ y ∈ nsc.names, y.2 = .free → ∃ c, X.env.cells.lookup y.1 = some c := by rw [hc]; exact own_has h
  exact ⟨⟨fun y c e => clo_cm hf e, fun y hy => .inl (by rw [hs]; exact h (y, .free) (hfr y hy) rfl), fun y hy c hc => clo_has hf (hfr y hy) hc, hjs⟩, clo_mem hf⟩
end
end PinX

/-! a call that hands functions on and may raise -/
namespace PinX
open PySem PySem.Spec PyProof.Rows L2 LamX NdefX
section
variable {P : Program} {w : World} {outer : List Env} {s : Shared} {H : L2.Hp} {cs : List Addr}
theorem cx_less {E : XK} {u : Value} {s' : Shared} (ex : ∀ c ∈ cs, ∃ o, s.heap.get? c = some o) (nH : ∀ c ∈ cs, H c = none)
    (h : L2.CX P w outer (pinA cs s.heap H) s (fun cl d H2 => (∀ c ∈ cs, H2 c = pinA cs s.heap H c) ∧ E cl d (unp cs H2)) u s') : L2.CX P w outer H s E u s' := by
  obtain ⟨a, B, H2, cls, d, rfl, fl, hok, ub, na, os, ag, st, hE⟩ := h
  have pn : Pinned cs H2 := fun c hc => by
    obtain ⟨o, z⟩ := ex c hc
    exact ⟨o, (st c hc).trans (pinA_in hc z)⟩
  have mid : ∀ {b : Addr} {u : HO}, H b = some u → b ∉ cs ∧ pinA cs s.heap H b = some u := fun {b u} z => by
    have n : b ∉ cs := fun m => by rw [nH b m] at z; cases z
    exact ⟨n, by rw [pinA_out n]; exact z⟩
  refine ⟨a, B, unp cs H2, cls, d, rfl, fl, hok_less pn hok, ⟨fun b o z n hf => ?_, ub.slot, fun b o z n => ?_, ub.there, fun b xs z => ?_, fun b o u z => ?_, fun b ps z => ?_⟩, ?_, os, ag, hE⟩
  · by_cases hb : b ∈ cs
    · exact (hok b _ ((st b hb).trans (pinA_in hb z))).1
    · exact ub.keep b o z (by rw [pinA_out hb]; exact n) hf
  · by_cases hb : b ∈ cs
    · exact unp_in hb
    · rw [unp_out hb]
      exact ub.free b o z (by rw [pinA_out hb]; exact n)
  · obtain ⟨a, c⟩ := mid z
    rw [unp_out a]
    exact ub.tups b xs c
  · obtain ⟨a, c⟩ := mid z
    rw [unp_out a]
    exact ub.frzs b o u c
  · obtain ⟨a, c⟩ := mid z
    rw [unp_out a]
    exact ub.tbls b ps c
  · rw [unp_out (pn.none na)]
    exact na
end
def tCallPS (X : Cx) (cs : List Addr) (sp : Sp) (E : L2.St → XK) (t : TA) : TE := fun σ H Q => t σ H fun vs H1 => ∀ Hp, PinsP X σ cs H1 Hp → sp vs Hp (fun v H2 => (∀ c ∈ cs, H2 c = Hp c) ∧ Q v (unp cs H2)) (fun cl d H2 => (∀ c ∈ cs, H2 c = Hp c) ∧ E σ cl d (unp cs H2))
section
variable {X : Cx} {k : Nat} {f : Addr} {fd : FuncData} {ps : List Str} {sp : Sp} {E : L2.St → XK} {x : Str} {p pos : Pos} {e : Expr} {es : List Expr} {t : TA} {cs : List Addr}
theorem pe_callPS (F : FnOk X.prog X.w X.K X.mg X.base (L2.CX X.prog X.w) k f fd ps sp) (hr : Room k X.A) (hg : Gl X x) (hm : X.mg x = some (.ref f)) (hk : PySem.W.keepIn X.K (.ref f) = true) (hb : Binds X.K fd ps [])
    (h1 : ∀ c ∈ cs, ∃ y, X.fn y = true ∧ X.env.cells.lookup y = some c) (h2 : ∀ y c, X.env.cells.lookup y = some c → c ∈ cs) (hx : ∀ σ, PassesAt (L2.CX X.prog X.w) X σ (E σ))
    (ha : PA X (e :: es) t)
    (hdb : (x == ("__debug__" : Str)) = false := by decide)
    (he : starEach (e :: es) X.env = (false, eval e X.env) :: starEach es X.env := by rfl)
    (hpl : (backTo pos (starEach es X.env)).any (·.1) = false := by rfl) :
    PE X (.Call (.Name x p) (e :: es) [] pos) (tCallPS X cs sp E t) := by
  refine ⟨fun pins s σ H Q I h => ?_⟩
  have args := ha.run pos pins s σ H _ I h
  refine wpAny_Call_Name_kw (ld_glob I hg hm (PySem.W.callWith_K (h₀ := X.base) I.ok.mod.kin hk (thn args ?_) he hpl) hdb)
  rintro us s1 ⟨vs, H1, I1, r, q⟩
  refine ⟨I1.kIn, ?_⟩
  obtain ⟨ex, nH, nb, nf⟩ := own_cells I1 h1
  have ex' : ∀ c ∈ cs, ∃ o, s1.heap.get? c = some o := fun c hc => by
    obtain ⟨o, _, z, _⟩ := ex c hc
    exact ⟨o, z⟩
  have q := q (pinA cs s1.heap H1) ⟨fun b hb => pinA_out hb, nH, pinA_pinned ex', fun c hc => (by obtain ⟨o, v, z, d⟩ := ex c hc; exact ⟨o, v, pinA_in hc z, d⟩), fun g G fr js cp sub hg hc => by
    have C := cells_of I1 cp
    refine ⟨by rw [pinA_out fun m => by rw [nH g m] at hg; cases hg]; exact hg, by rw [pinA_out fun m => by rw [nH G.c m] at hc; cases hc]; exact hc, C.len, fun c hc => ?_, C.inj, fun i y hy => ?_⟩
    · obtain ⟨⟨y, c'⟩, hp, rfl⟩ := List.mem_map.mp hc
      have hm := h2 y c' (sub _ hp)
      obtain ⟨o, v, z, d⟩ := ex c' hm
      exact ⟨o, v, pinA_in hm z, d⟩
    · obtain ⟨c, hc, hv⟩ := C.has i y hy
      refine ⟨c, hc, fun v ev => ?_⟩
      obtain ⟨u, ru, o, ho, d⟩ := hv v ev
      exact ⟨o, u, ru, pinA_in (h2 y c (cp.sub y c hc)) ho, d⟩⟩
  have hl : us.length = ps.length := by rw [← r.length]; exact F.len _ _ _ _ q
  have hb1 : BindsTo s1 fd ⟨us, []⟩ (ps.zip us) := by
    have z := hb s1 us I1.kIn (by rw [List.append_nil]; exact hl)
    rw [List.append_nil] at z
    exact z
  refine wpAny_call (codeAny_mono (F.run X.A X.stack s1 _ ⟨us, []⟩ us vs _ _ hr (env_pin ex' nH nb nf I1.env0) hb1 r q) fun r s' hq => ?_)
  cases r with
  | error e => exact hx σ pins H1 s1 e s' I1 (cx_less ex' nH hq)
  | ok fl =>
    cases fl with
    | ret u => exact I1.after (ce_less ex' nH nf hq)
    | next => exact False.elim hq
    | brk => exact False.elim hq
    | cont => exact False.elim hq
end
end PinX

/-! functions handed on that may make functions themselves: tables grow -/
namespace PinX
open PySem PySem.Spec PyProof.Rows L2 LamX NdefX
/-- tables where cells are taken out -/
theorem tabs_unp {T : List NTab} {cs : List Addr} {G : Hp} (d : ∀ c ∈ cs, ∃ o v, G c = some (PinO c o) ∧ o.data = .cell v) (t : TabsN T G) : TabsN T (unp cs G) := fun q hq => by
  obtain ⟨ps, h1, h2, h3⟩ := t q hq
  refine ⟨ps, ?_, h2, fun pos cv hc => ?_⟩
  · rw [unp_out fun m => ?_]
    · exact h1
    · obtain ⟨o, v, z, _⟩ := d _ m
      rw [h1] at z
      cases z
  · obtain ⟨c, e1, e2⟩ := h3 pos cv hc
    refine ⟨c, e1, ?_⟩
    rw [unp_out fun m => ?_]
    · exact e2
    · obtain ⟨o, v, z, dd⟩ := d _ m
      rw [e2] at z
      exact pin_code dd (Option.some.inj z).symm
theorem tabs_rep {T : List NTab} {cs : List Addr} {G H3 : Hp} (nn : ∀ a ∈ cs, H3 a = none) (t : TabsN T H3) : TabsN T (rep cs G H3) := fun q hq => by
  obtain ⟨ps, h1, h2, h3⟩ := t q hq
  have out : ∀ {b : Addr} {o : HO}, H3 b = some o → rep cs G H3 b = some o := fun {b o} z => by
    rw [rep_out fun m => by rw [nn b m] at z; cases z]
    exact z
  exact ⟨ps, out h1, h2, fun pos cv hc => by
    obtain ⟨c, e1, e2⟩ := h3 pos cv hc
    exact ⟨c, e1, out e2⟩⟩
theorem ext_rep {cs : List Addr} {G H3 : Hp} (nn : ∀ a ∈ cs, H3 a = none) (e : ExtN (unp cs G) H3) : ExtN G (rep cs G H3) ∧ ExtN H3 (rep cs G H3) := by
  refine ⟨fun b o z nt => ?_, fun b o z nt => ?_⟩
  · by_cases m : b ∈ cs
    · rw [rep_in m]; exact z
    · rw [rep_out m]
      exact e _ _ (by rw [unp_out m]; exact z) nt
  · rw [rep_out fun m => by rw [nn b m] at z; cases z]
    exact z
/-- called with vs in a heap that has all of H, and the tables, it comes to a value as R tells -/
def CanT (P : Program) (w : World) (K : PySem.W.Frag) (mg : Str → Option Value) (base : Heap) (T : List NTab) (k : Nat) (H : Hp) (v : V) (vs : List V) (R : Hp → V → Prop) : Prop :=
  ∃ (f : Addr) (F : NF) (ps fr : List Str) (ws : List (Option V)) (sp : List (Option V) → Sp), v = .ref f ∧ CloAt H f F fr ws ∧ NOk P w K mg base CX0 k f F ps fr sp ∧
  ∀ H1, ExtN H H1 → TabsN T H1 → ∀ Q : VK, (∀ z H2, ExtN H1 H2 → TabsN T H2 → R H2 z → Q z H2) → sp ws vs (unp (cells F) H1) (fun z H2 => (∀ a ∈ cells F, H2 a = none) → Q z (rep (cells F) H1 H2)) E0
section
variable {P : Program} {w : World} {K : PySem.W.Frag} {mg : Str → Option Value} {base : Heap} {T : List NTab}
theorem canT_made {X : Cx} {σ : L2.St} {cs : List Addr} {H1 Hp : L2.Hp} {f : Addr} {F : NF} {ps fr : List Str} {js : List Nat} {k : Nat} {sp : List (Option V) → Sp} {vs : List V} {R : L2.Hp → V → Prop}
    (p : PinsP X σ cs H1 Hp) (fn : H1 f = some (FnO f F)) (co : H1 F.c = some (CodeO F.c F.qual)) (cap : Caps X F.cl fr js) (sub : ∀ q ∈ F.cl, X.env.cells.lookup q.1 = some q.2) (h2 : ∀ y c, X.env.cells.lookup y = some c → c ∈ cs)
    (Fn : NOk P w K mg base CX0 k f F ps fr sp) (mono : ∀ H H' z, ExtN H H' → R H z → R H' z)
    (hs : ∀ H2, ExtN H1 H2 → TabsN T H2 → ∀ Q : VK, (∀ z H3, ExtN H2 H3 → TabsN T H3 → R H3 z → Q z H3) → sp (js.map (slotAt σ)) vs H2 Q E0) : CanT P w K mg base T k Hp (.ref f) vs R := by
  have inc : ∀ a ∈ cells F, a ∈ cs := fun a ha => by
    obtain ⟨⟨y, c⟩, hp, rfl⟩ := List.mem_map.mp ha
    exact h2 y c (sub _ hp)
  refine ⟨f, F, ps, fr, _, sp, rfl, p.clo f F fr js cap sub fn co, Fn, fun G sG tG Q q => ?_⟩
  have dG : ∀ c ∈ cells F, ∃ o v, G c = some (PinO c o) ∧ o.data = .cell v := fun c hc => by
    obtain ⟨o, v, z, d⟩ := p.dat c (inc c hc)
    exact ⟨o, v, sG _ _ z fun ps y => (by cases y), d⟩
  refine hs (unp (cells F) G) (fun b o z nt => ?_) (tabs_unp dG tG) _ fun z H3 e3 t3 r nn => q z _ (ext_rep nn e3).1 (tabs_rep nn t3) (mono _ _ _ (ext_rep nn e3).2 r)
  rw [unp_out fun m => by rw [p.new b (inc b m)] at z; cases z]
  exact sG _ _ (p.at_ z) nt
theorem CanT.keep {k : Nat} {H H' : L2.Hp} {v : V} {vs : List V} {R : L2.Hp → V → Prop} (e : ExtN H H') (h : CanT P w K mg base T k H v vs R) : CanT P w K mg base T k H' v vs R := by
  obtain ⟨f, F, ps, fr, ws, sp, h1, h2, h3, h4⟩ := h
  exact ⟨f, F, ps, fr, ws, sp, h1, h2.keep fun b o ⟨φ, z⟩ q => e b o q fun ps y => (by rw [z] at y; cases y), h3, fun H1 s => h4 H1 (extN_trans e s)⟩
theorem callT_of {k i : Nat} {H0 H : L2.Hp} {v : V} {vs : List V} {R : L2.Hp → V → Prop} {σ : L2.St} {t : TA} {Q : VK} (c : CanT P w K mg base T k H0 v vs R) (hs : σ[i]? = some (some v)) (e : ExtN H0 H) (tb : TabsN T H)
    (ht : ∀ G : List V → L2.Hp → Prop, (∀ H1, Same H H1 → G vs H1) → t σ H G) (q : ∀ z H2, ExtN H H2 → TabsN T H2 → R H2 z → Q z H2) : tCallC P w K mg base k i t σ H Q := by
  obtain ⟨f, F, ps, fr, ws, sp, rfl, h2, h3, h4⟩ := c.keep e
  exact ⟨f, F, ps, fr, ws, sp, hs, h2.fn, h3, ht _ fun H1 s1 => ⟨h2.same s1, h4 H1 (sameN s1) (tb.ext s1) Q fun z H2 s2 t2 r => q z H2 (extN_trans (sameN s1) s2) t2 r⟩⟩
end
end PinX

/-! functions handed on that are called with what is made later -/
namespace PinX
open PySem PySem.Spec PyProof.Rows L2 LamX NdefX
section
variable {P : Program} {w : World} {K : PySem.W.Frag} {mg : Str → Option Value} {base : Heap} {T : List NTab}
theorem CanT.imp {k : Nat} {H : L2.Hp} {v : V} {vs : List V} {R R' : L2.Hp → V → Prop} (f : ∀ H z, R H z → R' H z) (h : CanT P w K mg base T k H v vs R) : CanT P w K mg base T k H v vs R' := by
  obtain ⟨a, F, ps, fr, ws, sp, h1, h2, h3, h4⟩ := h
  exact ⟨a, F, ps, fr, ws, sp, h1, h2, h3, fun H1 s t Q q => h4 H1 s t Q fun z H2 e2 t2 r => q z H2 e2 t2 (f _ _ r)⟩
/-- in a heap H' that came later: what tuples are there, the callee finds -/
theorem canT_late {X : Cx} {σ : L2.St} {cs : List Addr} {H1 Hp H' : L2.Hp} {f : Addr} {F : NF} {ps fr : List Str} {js : List Nat} {k : Nat} {sp : List (Option V) → Sp} {vs : List V} {R : L2.Hp → V → Prop}
    (p : PinsP X σ cs H1 Hp) (e' : ExtN Hp H') (fn : H1 f = some (FnO f F)) (co : H1 F.c = some (CodeO F.c F.qual)) (cap : Caps X F.cl fr js) (sub : ∀ q ∈ F.cl, X.env.cells.lookup q.1 = some q.2) (h2 : ∀ y c, X.env.cells.lookup y = some c → c ∈ cs)
    (Fn : NOk P w K mg base CX0 k f F ps fr sp) (mono : ∀ H H' z, ExtN H H' → R H z → R H' z)
    (hs : ∀ H2, ExtN H1 H2 → (∀ b xs, H' b = some (.tup xs) → H2 b = some (.tup xs)) → TabsN T H2 → ∀ Q : VK, (∀ z H3, ExtN H2 H3 → TabsN T H3 → R H3 z → Q z H3) → sp (js.map (slotAt σ)) vs H2 Q E0) : CanT P w K mg base T k H' (.ref f) vs R := by
  have inc : ∀ a ∈ cells F, a ∈ cs := fun a ha => by
    obtain ⟨⟨y, c⟩, hp, rfl⟩ := List.mem_map.mp ha
    exact h2 y c (sub _ hp)
  refine ⟨f, F, ps, fr, _, sp, rfl, (p.clo f F fr js cap sub fn co).keep fun b o ⟨φ, z⟩ q => e' b o q fun ps y => (by rw [z] at y; cases y), Fn, fun G sG tG Q q => ?_⟩
  have sP : ExtN Hp G := fun b o z nt => sG _ _ (e' _ _ z nt) nt
  have dG : ∀ c ∈ cells F, ∃ o v, G c = some (PinO c o) ∧ o.data = .cell v := fun c hc => by
    obtain ⟨o, v, z, d⟩ := p.dat c (inc c hc)
    exact ⟨o, v, sP _ _ z fun ps y => (by cases y), d⟩
  refine hs (unp (cells F) G) (fun b o z nt => ?_) (fun b xs z => ?_) (tabs_unp dG tG) _ fun z H3 e3 t3 r nn => q z _ (ext_rep nn e3).1 (tabs_rep nn t3) (mono _ _ _ (ext_rep nn e3).2 r)
  · rw [unp_out fun m => by rw [p.new b (inc b m)] at z; cases z]
    exact sP _ _ (p.at_ z) nt
  · have zG := sG _ _ z fun ps y => (by cases y)
    rw [unp_out fun m => ?_]
    · exact zG
    · obtain ⟨o, v, y, _⟩ := dG b m
      rw [zG] at y
      cases y
/-- what makes no functions may stand where functions may be made -/
theorem CanCall.toT {k : Nat} {H : L2.Hp} {v : V} {vs : List V} {R R' : L2.Hp → V → Prop} (f : ∀ H z, R H z → R' H z) (h : CanCall P w K mg base k H v vs R) : CanT P w K mg base T k H v vs R' := by
  obtain ⟨a, F, ps, fr, ws, sp, h1, h2, h3, h4⟩ := h
  exact ⟨a, F, ps, fr, ws, sp, h1, h2, h3, fun H1 s t Q q => h4 H1 s Q fun z H2 s2 r => q z H2 (sameN s2) (t.ext s2) (f _ _ r)⟩
/-- as canT_late, of a function that makes none -/
theorem canC_late {X : Cx} {σ : L2.St} {cs : List Addr} {H1 Hp H' : L2.Hp} {f : Addr} {F : NF} {ps fr : List Str} {js : List Nat} {k : Nat} {sp : List (Option V) → Sp} {vs : List V} {R : L2.Hp → V → Prop}
    (p : PinsP X σ cs H1 Hp) (e' : ExtN Hp H') (fn : H1 f = some (FnO f F)) (co : H1 F.c = some (CodeO F.c F.qual)) (cap : Caps X F.cl fr js) (sub : ∀ q ∈ F.cl, X.env.cells.lookup q.1 = some q.2) (h2 : ∀ y c, X.env.cells.lookup y = some c → c ∈ cs)
    (Fn : NOk P w K mg base CX0 k f F ps fr sp) (mono : ∀ H H' z, Same H H' → R H z → R H' z)
    (hs : ∀ H2, ExtN H1 H2 → (∀ b xs, H' b = some (.tup xs) → H2 b = some (.tup xs)) → ∀ Q : VK, (∀ z H3, Same H2 H3 → R H3 z → Q z H3) → sp (js.map (slotAt σ)) vs H2 Q E0) : CanCall P w K mg base k H' (.ref f) vs R := by
  have inc : ∀ a ∈ cells F, a ∈ cs := fun a ha => by
    obtain ⟨⟨y, c⟩, hp, rfl⟩ := List.mem_map.mp ha
    exact h2 y c (sub _ hp)
  refine ⟨f, F, ps, fr, _, sp, rfl, (p.clo f F fr js cap sub fn co).keep fun b o ⟨φ, z⟩ q => e' b o q fun ps y => (by rw [z] at y; cases y), Fn, fun G sG Q q => ?_⟩
  have sP : ExtN Hp G := fun b o z nt => sG _ _ (e' _ _ z nt) nt
  have dG : ∀ c ∈ cells F, ∃ o v, G c = some (PinO c o) ∧ o.data = .cell v := fun c hc => by
    obtain ⟨o, v, z, d⟩ := p.dat c (inc c hc)
    exact ⟨o, v, sP _ _ z fun ps y => (by cases y), d⟩
  refine hs (unp (cells F) G) (fun b o z nt => ?_) (fun b xs z => ?_) _ fun z H3 s3 r nn => q z _ (fun b o e => ?_) (mono _ _ _ (fun b o e => ?_) r)
  · rw [unp_out fun m => by rw [p.new b (inc b m)] at z; cases z]
    exact sP _ _ (p.at_ z) nt
  · have zG := sG _ _ z fun ps y => (by cases y)
    rw [unp_out fun m => ?_]
    · exact zG
    · obtain ⟨o, v, y, _⟩ := dG b m
      rw [zG] at y
      cases y
  · by_cases m : b ∈ cells F
    · rw [rep_in m]; exact e
    · rw [rep_out m]
      exact s3 _ _ (by rw [unp_out m]; exact e)
  · by_cases m : b ∈ cells F
    · rw [nn b m] at e; cases e
    · rw [rep_out m]; exact e
end
end PinX

/-! texts of labels, kept in a dict: what is common to all laws that walk so -/
namespace Fst
open PySem L2
def mk (t : List Nat) : Str := ⟨t.toArray⟩
theorem tl_mk (t : List Nat) : TL.tl (mk t) = t := rfl
theorem mk_nil : (V.str "" : V) = V.str (mk []) := rfl
theorem mk_snoc (t : List Nat) (c : Nat) : mk t ++ Froz.sing c = mk (t ++ [c]) := TL.ext_tl (by rw [TL.tl_append]; rfl)
theorem mk_len (t : List Nat) : (mk t).length = t.length := rfl
theorem mk_inj {t u : List Nat} (h : mk t = mk u) : t = u := by
  have := congrArg TL.tl h
  exact this
def resV : Option (List Nat) → V
  | none => .non
  | some t => .str (mk t)
/-- the texts of the labels, as a dict -/
def tabK {L κ : Type} (key : L → κ) (ns : List (Nd L)) : List (κ × V) := ns.map fun p => (key p.1, V.str (mk p.2))
section
variable {L κ : Type} [DecidableEq L] [DecidableEq κ] {key : L → κ} (inj : ∀ a b, key a = key b → a = b)
include inj
theorem tab_has (ns : List (Nd L)) (q : L) : (valV (tabK key ns) (key q)).isSome = decide (q ∈ ns.map (·.1)) := by
  induction ns with
  | nil => rfl
  | cons p r ih =>
    unfold tabK at ih ⊢
    rw [List.map_cons, List.map_cons]
    by_cases e : p.1 = q
    · rw [valV_pos (by rw [e])]
      simp [e]
    · rw [valV_neg (fun z => e (inj _ _ z)), ih]
      have e' : ¬ q = p.1 := fun z => e z.symm
      simp [e']
theorem tab_at {ns : List (Nd L)} (nd : (ns.map (·.1)).Nodup) {p : Nd L} (h : p ∈ ns) : valV (tabK key ns) (key p.1) = some (.str (mk p.2)) := by
  induction ns with
  | nil => cases h
  | cons q r ih =>
    rw [List.map_cons, List.nodup_cons] at nd
    unfold tabK at ih ⊢
    rw [List.map_cons]
    rcases List.mem_cons.mp h with rfl | h
    · rw [valV_pos rfl]
    · rw [valV_neg (fun z => nd.1 (List.mem_map.mpr ⟨p, h, (inj _ _ z).symm⟩)), ih nd.2 h]
theorem tab_put {ns : List (Nd L)} {q : L} {t : List Nat} (h : q ∉ ns.map (·.1)) : putK (tabK key ns) (key q) (.str (mk t)) = tabK key (ns ++ [(q, t)]) := by
  have : (tabK key ns).any (fun kv => decide (kv.1 = key q)) = false := by
    rw [List.any_eq_false]
    intro x hx
    obtain ⟨p, hp, rfl⟩ := List.mem_map.mp hx
    simp only [decide_eq_true_eq]
    exact fun z => h (List.mem_map.mpr ⟨p, hp, inj _ _ z⟩)
  unfold putK
  rw [this, if_neg (by decide)]
  unfold tabK
  rw [List.map_append]
  rfl
end
/-- labels that are tuples -/
structure LabT (L : Type) where
  vals : L → List V
  key : L → DicN.NK
  inj : ∀ a b, key a = key b → a = b
  keyN : ∀ (H : Hp) (b : Addr) (l : L), H b = some (.tup (vals l)) → DicN.KeyN H (key l) (.ref b)
  dep : ∀ l, (key l).depth ≤ 8
  len : ∀ l, 1 ≤ (vals l).length
def LabT.At {L : Type} (T : LabT L) (H : Hp) (v : V) (l : L) : Prop := ∃ b, v = .ref b ∧ H b = some (.tup (T.vals l))
theorem LabT.At.keep {L : Type} {T : LabT L} {H H' : Hp} {v : V} {l : L} (s : ∀ b xs, H b = some (.tup xs) → H' b = some (.tup xs)) (h : T.At H v l) : T.At H' v l := by
  obtain ⟨b, e, h⟩ := h
  exact ⟨b, e, s _ _ h⟩
/-- what a step tells -/
def StepR {L : Type} (At : Hp → V → L → Prop) (r : Option L) (H : Hp) (z : V) : Prop := match r with
  | none => z = .non
  | some q => At H z q
/-- the lists of labels are short -/
def Room {L : Type} (In : L → Prop) (many : Nat) : Prop := ∀ ls : List L, ls.Nodup → (∀ l ∈ ls, In l) → ls.length ≤ many
section
variable {L : Type} [DecidableEq L] {nx : L → Nat → Option L} {goal : L → Bool} {l0 : L} {cs : List Nat} {In : L → Prop} {many : Nat}
theorem walk_in (i0 : In l0) (hin : ∀ l, In l → ∀ c ∈ cs, ∀ q, nx l c = some q → In q) (d : Nat) : ∀ q ∈ walk nx l0 cs d, In q.1 := walk_all (In := fun p => In p.1) i0 (fun p ip c hc q hq => hin p.1 ip c hc q hq) d
theorem walk_len (rm : Room In many) (i0 : In l0) (hin : ∀ l, In l → ∀ c ∈ cs, ∀ q, nx l c = some q → In q) (d : Nat) : (walk nx l0 cs d).length ≤ many := by
  rw [← List.length_map (f := fun p : Nd L => p.1)]
  refine rm _ (walk_nodup d) fun l hl => ?_
  obtain ⟨p, hp, rfl⟩ := List.mem_map.mp hl
  exact walk_in i0 hin d p hp
theorem turn_len (rm : Room In many) (i0 : In l0) (hin : ∀ l, In l → ∀ c ∈ cs, ∀ q, nx l c = some q → In q) {d : Nat} {p : Nd L} (hp : (walk nx l0 cs d)[d]? = some p) (j : Nat) : (turn nx p (walk nx l0 cs d) (cs.take j)).length ≤ many := by
  rw [← List.length_map (f := fun p : Nd L => p.1)]
  refine rm _ (turn_nodup (walk_nodup d)) fun l hl => ?_
  obtain ⟨q, hq, rfl⟩ := List.mem_map.mp hl
  exact turn_all (In := fun p => In p.1) (ns := []) (fun c hc q hq => hin p.1 (walk_in i0 hin d p (List.mem_of_getElem? hp)) c (List.mem_of_mem_take hc) q hq) (walk_in i0 hin d) q hq
/-- a label's text is no longer than the list -/
theorem text_len {d : Nat} : ∀ q ∈ walk nx l0 cs d, q.2.length ≤ d := by
  induction d with
  | zero => intro q hq; rw [List.mem_singleton.mp hq]; exact Nat.le_refl _
  | succ d ih =>
    intro q hq
    unfold walk at hq
    split at hq
    · rename_i p hp
      refine turn_all (In := fun q => q.2.length ≤ d + 1) (ns := []) (fun c hc q hq => ?_) (fun q hq => by have := ih q hq; omega) q hq
      have := ih p (List.mem_of_getElem? hp)
      show (p.2 ++ [c]).length ≤ _
      rw [List.length_append, List.length_singleton]
      omega
    · have := ih q hq; omega
end
end Fst

/-! An own exception class called with keywords: its own __init__ sees them. -/
namespace Own
open PySem PySem.Calls PySem.HandSPX
section
variable {prog : Program} {wo : World} {Ar : Around} {hp : Heap} {gs : Array GenState} {dr : Drawn} {tk : Nat} {os : OsState} {kw : List (Str × Value)}
variable {nm qn : Str} {Cl Ns : Addr} {bases tail full : List Value} {slots : List Str} {subs : List Value} {abst : Bool} {coll : Option Bool} {dict : Option Addr} {s0 s1 s2 s3 s5 : Option Value} {hd : Bool} {Base new ini : String}
local macro_rules | `(tactic| walk_at "stp") => `(tactic| first | with_reducible refine wpAny_loadPart_at (by assumption) ?_ | with_reducible refine wpAny_madeBy_exc (by assumption) ?_ | wp_step)
/-- what stands of the class at Cl -/
abbrev Has (hp : Heap) (nm qn : Str) (Cl Ns : Addr) (bases tail : List Value) (hd : Bool) (slots : List Str) (subs : List Value) (abst : Bool) (coll : Option Bool) (dict : Option Addr) (s0 s1 s2 s3 s5 : Option Value) (new : String) : Prop :=
  hp.get? Cl = some (excClassObj nm qn Cl Ns bases tail hd slots subs abst coll dict s0 s1 s2 s3 s5 new)
theorem inTail (F : ExcBaseFacts Base new ini full) (same : ∀ T : String, tail.contains (.type T) = full.contains (.type T)) : (Value.ref Cl :: tail).contains (.type Base) = true := by
  rw [List.contains_cons, same, F.hasB]
  exact Bool.or_true _
theorem seen {Q : Unit → Shared → Prop} {E : Value → Shared → Prop} (F : ExcBaseFacts Base new ini full) (same : ∀ T : String, tail.contains (.type T) = full.contains (.type T)) (h : Has hp nm qn Cl Ns bases tail hd slots subs abst coll dict s0 s1 s2 s3 s5 new)
    (k : Q () ⟨hp, gs, dr, tk, os⟩) : wpAny (model prog wo) Ar (checkBuiltinCall new ⟨[.ref Cl], kw⟩) Q E ⟨hp, gs, dr, tk, os⟩ := by
  have within := inTail (Cl := Cl) F same
  have ns := F.noStar
  unfold checkBuiltinCall
  simp only [F.newKind, F.newSplit, F.newRow]
  repeat (first | (refine wpAny_isSubtype_exc h ?_; rw [within]) | refine wpAny_staticBase_exc h ?_ | refine wpAny_madeBy_exc h ?_ | refine wpAny_loadPart_at h ?_ | simp only [Bool.false_eq_true, bne_self_eq_false, if_false] | wp_step)
  exact k
theorem bare {R : Result → Shared → Prop} (F : ExcBaseFacts Base new ini full) (same : ∀ T : String, tail.contains (.type T) = full.contains (.type T)) (h : Has hp nm qn Cl Ns bases tail hd slots subs abst coll dict s0 s1 s2 s3 s5 new)
    (k : R (.ok (.ret (.ref (hp.objs.size + 1)))) ⟨(hp.push (W.kdv_tup [])).push (excO Cl hp.objs.size), gs, dr, tk, os⟩) : codeAny (model prog wo) Ar (.builtin new ⟨[.ref Cl], kw⟩) R ⟨hp, gs, dr, tk, os⟩ := by
  have i1 := inTail (Cl := Cl) F same
  have i2 : (Value.ref Cl :: tail).contains (.type "AttributeError") = false := by rw [List.contains_cons, same, F.noAttr] <;> rfl
  have i3 : (Value.ref Cl :: tail).contains (.type "NameError") = false := by rw [List.contains_cons, same, F.noName] <;> rfl
  have en := F.ends
  apply codeAny_builtinAt F.entry
  unfold Builtin.«BaseException.__new__»
  apply wpAt_bind
  apply wpAt_bind
  apply wpAt_stack
  intro top below
  apply wpAt_of_wpAny
  wp_walk
  apply wpAt_of_wpAny
  rw [F.owner]
  repeat (first | with_reducible refine wpAny_madeHere_exc F.canon h ?_ | (with_reducible refine wpAny_isSubtype_exc h ?_; first | rw [i1] | rw [i2] | rw [i3]) | walk_at "stp")
  show R _ _
  rw [Heap.size_push]
  exact k
theorem called {Q : Fin → Shared → Prop} {E : Value → Shared → Prop} {fi : Addr} (F : ExcBaseFacts Base new ini full) (same : ∀ T : String, tail.contains (.type T) = full.contains (.type T)) (h : Has hp nm qn Cl Ns bases tail hd slots subs abst coll dict s0 s1 s2 s3 s5 new)
    (find : W.Looks (model prog wo) hp (typeLookup (.ref Cl) "__init__") (some (.ref fi))) (bound : ∀ me, W.Looks (model prog wo) hp (bindSpecial (.ref fi) me) (.ref fi, [me]))
    (run : codeAny (model prog wo) Ar (.call (.ref fi) ⟨[.ref (hp.objs.size + 1)], kw⟩) (fun r s' => match r with
      | .error e => E e s'
      | .ok (.ret u) => u = .none ∧ Q (.done (.ret (.ref (hp.objs.size + 1)))) s'
      | .ok _ => False) ⟨(hp.push (W.kdv_tup [])).push (excO Cl hp.objs.size), gs, dr, tk, os⟩) :
    wpAny (model prog wo) Ar (Builtin.«type.__call__» ⟨[.ref Cl], kw⟩) Q E ⟨hp, gs, dr, tk, os⟩ := by
  repeat walk_at "stp"
  apply codeAny_call_builtin_code (Code.quiet_builtin _ F.quiet) (seen F same h _)
  apply bare F same h
  show wpAny _ _ _ _ _ _
  have stay : ∀ b o, hp.get? b = some o → ((hp.push (W.kdv_tup [])).push (excO Cl hp.objs.size)).get? b = some o := fun b o e => Heap.get?_push_of_some _ (Heap.get?_push_of_some _ e)
  have cls := stay _ _ h
  have obj : ((hp.push (W.kdv_tup [])).push (excO Cl hp.objs.size)).get? (hp.objs.size + 1) = some (excO Cl hp.objs.size) := by heap_get
  have self : (Value.ref Cl :: tail).contains (.ref Cl) = true := by simp
  have find' := find.keeps stay
  have bound' := (bound (.ref (hp.objs.size + 1))).keeps stay
  unfold isInstance
  repeat (first | with_reducible refine wpAny_loadPart_at obj ?_ | (with_reducible refine wpAny_isSubtype_exc cls ?_; rw [self]) | wp_step)
  apply find'.at
  apply wpAny_holding
  apply wpAny_bind
  apply bound'.at
  apply wpAny_bind
  apply wpAny_call
  refine codeAny_mono run fun r s' q => ?_
  match r, q with
  | .error _, q => exact q
  | .ok (.ret u), ⟨e, q⟩ =>
    subst e
    first
      | exact wpAny_pure (wpAny_pure q)
      | (wp_walk; exact q)
theorem made {R : Result → Shared → Prop} {fi : Addr} (F : ExcBaseFacts Base new ini full) (same : ∀ T : String, tail.contains (.type T) = full.contains (.type T)) (h : Has hp nm qn Cl Ns bases tail hd slots subs abst coll dict s0 s1 s2 s3 s5 new)
    (find : W.Looks (model prog wo) hp (typeLookup (.ref Cl) "__init__") (some (.ref fi))) (bound : ∀ me, W.Looks (model prog wo) hp (bindSpecial (.ref fi) me) (.ref fi, [me]))
    (run : codeAny (model prog wo) (Ar.under (.builtin "type.__call__" ⟨[.ref Cl], kw⟩)) (.call (.ref fi) ⟨[.ref (hp.objs.size + 1)], kw⟩) (W.InitBack (hp.objs.size + 1) R) ⟨(hp.push (W.kdv_tup [])).push (excO Cl hp.objs.size), gs, dr, tk, os⟩) :
    codeAny (model prog wo) Ar (.call (.ref Cl) ⟨[], kw⟩) R ⟨hp, gs, dr, tk, os⟩ := by
  have t1 := tc_lookup
  have t2 := tc_bind (.ref Cl)
  have ty : (⟨hp, gs, dr, tk, os⟩ : Shared).TypeIs (.ref Cl) "type" := ⟨_, h, rfl⟩
  apply codeAny_of_tree
  show wpAny _ _ (callAny (.ref Cl) _) _ _ _
  repeat (any_goals (first | assumption | walk_at "stp"))
  refine ⟨rfl, codeAny_call_builtin_at (Code.quiet_builtin _ (by decide +kernel)) entry_typeCall (wpAny_check_type_call_sub h (called F same h find bound (codeAny_mono run ?_)))⟩
  intro r s' q
  cases r with
  | error _ => exact q
  | ok f => cases f <;> exact q
end
end Own

namespace L2
open PySem PySem.Spec PyProof.Rows
/-! ### exceptions as tracked objects -/
/-- an exception of the class at C stands at a, d its own dict's place -/
def xob (a C : Addr) (d : Option Addr) : HO := .ext fun h => ∃ (oe : Obj) (vs : Array Value), h.get? a = some oe ∧ Zc (.ref C) d oe ∧ oe.data = .fields vs
theorem xob_ok {P : Program} {w : World} {H : Hp} {h : Heap} {a C : Addr} {d : Option Addr} {oe : Obj} {vs : Array Value} (e : h.get? a = some oe) (z : Zc (.ref C) d oe) (hd : oe.data = .fields vs) : ObjOk P w H h a (xob a C d) :=
  ⟨⟨oe, vs, e, z, hd⟩, ⟨_, e⟩, fun _ _ ⟨o, vs, e, z, q⟩ k => ⟨o, vs, k _ e, z, q⟩⟩
theorem xob_at {P : Program} {w : World} {H : Hp} {h : Heap} {a C : Addr} {d : Option Addr} (hok : HOk P w H h) (he : H a = some (xob a C d)) : ∃ (oe : Obj) (vs : Array Value), h.get? a = some oe ∧ Zc (.ref C) d oe ∧ oe.data = .fields vs :=
  (show ObjOk P w H h a (.ext fun h => ∃ (oe : Obj) (vs : Array Value), h.get? a = some oe ∧ Zc (.ref C) d oe ∧ oe.data = .fields vs) from hok a _ he).1
/-- it is an instance in the library's sense; what its dict holds -/
theorem xob_inst {P : Program} {w : World} {H : Hp} {h : Heap} {a C dd : Addr} {fs : List (Str × V)} (hok : HOk P w H h) (he : H a = some (xob a C (some dd))) (hd : H dd = some (.xd fs)) :
    ∃ (oe od : Obj), PySem.W.InstAt h a oe C (some od) ∧ ∀ (f : Str) (v : V), fs.lookup f = some v → ∃ u, PySem.W.lookIn f od = some (some u) ∧ RelV v u := by
  obtain ⟨oe, vs, at_, hz, dat⟩ := xob_at hok he
  obtain ⟨mA, nsp, rel⟩ := show ObjOk P w H h dd (.xd fs) from hok dd _ hd
  obtain ⟨od, atd, look⟩ := lookIn_ns nsp
  refine ⟨oe, od, ⟨at_, hz.1, by simp only [PySem.W.notCls, dat], by rw [hz.2]; exact atd⟩, fun f v e => ?_⟩
  obtain ⟨u, hu, ru⟩ := RelO.some_of (v := v) (o := mA f) (e ▸ rel f)
  exact ⟨u, (look f).trans (congrArg some hu), ru⟩
theorem xob_inst0 {P : Program} {w : World} {H : Hp} {h : Heap} {a C : Addr} (hok : HOk P w H h) (he : H a = some (xob a C none)) : ∃ oe : Obj, PySem.W.InstAt h a oe C none := by
  obtain ⟨oe, vs, at_, hz, dat⟩ := xob_at hok he
  exact ⟨oe, at_, hz.1, by simp only [PySem.W.notCls, dat], by rw [hz.2]; exact True.intro⟩
/-- the kinds that may be told anew -/
def Loose : HO → Prop
  | .ext _ => True
  | .xd _ => True
  | _ => False
theorem Loose.no {o : HO} (h : Loose o) : (∀ x, o ≠ .own x) ∧ (∀ xs, o ≠ .tup xs) ∧ (∀ b u, o ≠ .frz b u) ∧ (∀ ps, o ≠ .tbl ps) := by
  cases o <;> first | exact h.elim | exact ⟨(fun _ z => nomatch z), (fun _ z => nomatch z), (fun _ _ z => nomatch z), (fun _ z => nomatch z)⟩
section
variable {X : Cx} {pins : List (Addr × Obj)} {σ : St} {H : Hp} {s : Shared} {a : Addr} {o o' : HO}
theorem Inv.retell (I : Inv X pins σ H s) (e : H a = some o) (l : Loose o) (ok : ObjOk X.prog X.w (upd H a o') s.heap a o') : Inv X pins σ (upd H a o') s := by
  obtain ⟨nw, nt, nf, nb⟩ := l.no
  have ne : ∀ {b u}, H b = some u → o ≠ u → b ≠ a := fun {b u} q d z => by rw [z, e] at q; exact d (Option.some.inj q)
  have na : ∀ {b}, H b = none → b ≠ a := fun {b} q z => by rw [z, e] at q; cases q
  have U : Un X.fs [] H (upd H a o') s.heap s.heap := {
    keep := fun b o q _ _ _ => q
    slot := fun b o q _ _ _ => ⟨o.slots, q⟩
    free := fun b o q n _ => by rw [upd_ne (na n)]; exact n
    there := fun b o q _ => ⟨o, q⟩
    tups := fun b xs q => by rw [upd_ne (ne q (nt xs))]; exact q
    frzs := fun b o v q => by rw [upd_ne (ne q (nf o v))]; exact q
    tbls := fun b ps q => ⟨#[], by rw [upd_ne (ne q (nb ps)), q]; simp⟩ }
  exact I.un (t' := s.toks) U fun b u q => by
    by_cases hb : b = a
    · subst hb
      rw [upd_same] at q
      cases q
      exact ok
    · rw [upd_ne hb] at q
      exact (I.hok b u q).stay (fun c v _ z => z) (fun c hc => by rw [upd_ne (ne hc (nw b))]; exact hc) fun c xs hc => by rw [upd_ne (ne hc (nt xs))]; exact hc
/-- an object that was made behind the entry, not tracked as yet, is tracked -/
theorem Inv.track (I : Inv X pins σ H s) (na : H a = none) (n0 : X.s_0.heap.get? a = none) (nL : a ≠ X.env.locals) (nC : ∀ x c, X.env.cells.lookup x = some c → c ≠ a) (nP : ∀ p ∈ X.pn ++ pins, p.1 ≠ a)
    (new : ObjOk X.prog X.w (upd H a o) s.heap a o) : Inv X pins σ (upd H a o) s where
  ok := I.ok
  os := I.os
  bare := I.bare
  loc := I.loc
  cell := I.cell
  len := I.len
  free := (upd_ne nL.symm).trans I.free
  freeC := fun x c e => (upd_ne (nC x c e)).trans (I.freeC x c e)
  pin := fun p hp => let ⟨p1, p2, r⟩ := I.pin p hp; ⟨p1, (upd_ne (nP p hp)).trans p2, r⟩
  base := {
    keep := I.base.keep
    slot := I.base.slot
    there := I.base.there
    free := fun b ob e n hx => (upd_ne fun z => by rw [z, n0] at e; cases e).trans (I.base.free b ob e n hx)
    tups := fun b xs q => (upd_ne (ne_of_none (I.base.tups b xs q) na)).trans (I.base.tups b xs q)
    frzs := fun b ob u q => (upd_ne (ne_of_none (I.base.frzs b ob u q) na)).trans (I.base.frzs b ob u q)
    tbls := fun b ps q => let ⟨m, y⟩ := I.base.tbls b ps q; ⟨m, (upd_ne (ne_of_none y na)).trans y⟩ }
  hok := fun b u e => by
    by_cases hb : b = a
    · cases hb
      rw [upd_same] at e
      cases e
      exact new
    · rw [upd_ne hb] at e
      exact (I.hok b u e).stay (fun c v _ z => z) (fun c hc => (upd_ne (ne_of_none hc na)).trans hc) fun c xs hc => (upd_ne (ne_of_none hc na)).trans hc
end
/-! ### e.f, isinstance(e, c), e such an exception -/
def tXfT (K : PySem.W.Frag) (f : Str) (te : TE) : TE := fun σ H Q => te σ H fun x H1 => ∃ (a C dd : Addr) (fs : List (Str × V)) (v : V), x = .ref a ∧ XfC K C ∧ PySem.W.findIn K (.ref C) f = some none ∧ H1 a = some (xob a C (some dd)) ∧ H1 dd = some (.xd fs) ∧ fs.lookup f = some v ∧ Q v H1
theorem pe_xfT {X : Cx} {e : Expr} {te : TE} {pos : Pos} {n : Str} (he : PE X e te) (hb : attributeBase e n X.env (eval e X.env) = eval e X.env := by rfl) : PE X (.Attribute e n pos) (tXfT X.K n te) where
  run := fun pins s σ H Q I h => attr_of hb (thn (he.run pins s σ H _ I h) fun u s1 ⟨x, H1, I1, rx, a, C, dd, fs, v, ex, T, no, ea, ed, lk, q⟩ => by
    cases ex
    cases rx
    obtain ⟨oe, od, J, look⟩ := xob_inst I1.hok ea ed
    obtain ⟨u, hu, ru⟩ := look n v lk
    exact HandSPX.exc_get I1.kIn J T.ga T.gg T.exC (PySem.W.findObj_own T.hdC no rfl hu) (handed_of ru) ⟨v, H1, I1.tok _, ru, q⟩)
/-- an exception's dict: none, or told -/
def OdAt (H : Hp) (d : Option Addr) : Prop := d = none ∨ ∃ dd fs, d = some dd ∧ H dd = some (.xd fs)
def rIsT (K : PySem.W.Frag) : List V → Hp → VK → Prop := fun xs H Q => ∃ (a C : Addr) (d : Option Addr) (c : V) (cv : Value) (b : Bool), xs = [.ref a, c] ∧ H a = some (xob a C d) ∧ OdAt H d ∧ ExcC K C ∧ (∀ u, RelV c u → u = cv) ∧ PySem.W.kitOne K (.ref C) cv = some b ∧ Q (.bl b) H
theorem call_isT {X : Cx} : CallR X (.builtin "isinstance") (rIsT X.K) := fun pins s σ H xs us Q I r ⟨a, D, d, c, cv, b, ex, ea, hd, C, hcv, e, q⟩ => by
  cases ex
  obtain ⟨u, v, rfl, ru, rv⟩ := vals2 r
  cases ru
  cases hcv v rv
  have some_cls : (PySem.W.clsIn X.K D).isSome = true := by
    obtain ⟨cd, h1, _⟩ := PySem.W.any_some C.hd
    rw [h1]; rfl
  have inst : ∃ oe od, PySem.W.InstAt s.heap a oe D od := by
    rcases hd with rfl | ⟨dd, fs, rfl, hdd⟩
    · obtain ⟨oe, J⟩ := xob_inst0 I.hok ea
      exact ⟨oe, _, J⟩
    · obtain ⟨oe, od, J, _⟩ := xob_inst I.hok ea hdd
      exact ⟨oe, _, J⟩
  obtain ⟨oe, od, J⟩ := inst
  exact PySem.W.kia_one (PySem.W.kitx_exc some_cls C.hg C.hk C.hs C.ha C.hn C.ht C.hm) I.kIn J e (fun z => nomatch z) fun tk => ⟨.bl b, H, I.kept (t' := tk) fun _ _ z => z, rfl, q⟩

/-! ### defs that may be called where an exception is handled -/
abbrev RoomW := L2H.RoomH
theorem roomW {k : Nat} {A : Around} (r : Room k A) : RoomW k A := L2H.roomH_of r
structure FnW (P : Program) (w : World) (K : PySem.W.Frag) (mg : Str → Option Value) (base : Heap) (CX : CXT) (k : Nat) (f : Addr) (fd : FuncData) (ps : List Str) (sp : Sp) : Prop where
  arity : ∀ vs H Q E, sp vs H Q E → vs.length = ps.length
  go : ∀ (A : Around) (outer : List Env) (s : Shared) (H : Hp) (args : Args) (us : List Value) (vs : List V) (Q : VK) (E : XK), RoomW k A → Env0 P w K mg base A outer s H → BindsTo s fd args (ps.zip us) → Vals vs us → sp vs H Q E → codeAny (model P w) A (.call (.ref f) args) (CR CX outer P w H s Q E) s
theorem FnW.ok {P : Program} {w : World} {K : PySem.W.Frag} {mg : Str → Option Value} {base : Heap} {CX : CXT} {k : Nat} {f : Addr} {fd : FuncData} {ps : List Str} {sp : Sp} (F : FnW P w K mg base CX k f fd ps sp) : FnOk P w K mg base CX k f fd ps sp :=
  ⟨F.arity, fun A outer s H args us vs Q E hr => F.go A outer s H args us vs Q E (roomW hr)⟩
/-- the context of such a def's body: nothing is said of what is handled -/
abbrev Cx.warm (X : Cx) (A : Around) (xe : Value → Shared → Prop) : Cx := { X with A := A, calm := false, xe := xe }
theorem Inv.warm {X : Cx} {pins : List (Addr × Obj)} {σ : St} {H : Hp} {s : Shared} {A : Around} {xe : Value → Shared → Prop} (I : Inv X pins σ H s) (hA : A.frames = some X.stack) : Inv (X.warm A xe) pins σ H s where
  ok := { I.ok with hd := fun z => (Bool.false_ne_true z).elim, frames := hA }
  os := I.os
  bare := I.bare
  base := I.base
  loc := I.loc
  cell := I.cell
  free := I.free
  freeC := I.freeC
  pin := I.pin
  hok := I.hok
  len := I.len
/-- the body's context -/
abbrev cxW (CX : CXT) (P : Program) (w : World) (K : PySem.W.Frag) (mg : Str → Option Value) (base : Heap) (N : List Str) (qual : Str) (scope : Scope) (f : Addr) (cd : Value) (A : Around) (outer : List Env) (s : Shared) (H : Hp) (E : XK) : Cx :=
  { cxOf CX P w K mg base N qual scope f cd A outer s H E with calm := false }
theorem Fun.okW {P : Program} {w : World} {K : PySem.W.Frag} {mg : Str → Option Value} {base : Heap} {x qual : Str} {st : Stmt} {f : Addr} {fd : FuncData} {N ps : List Str} {k : Nat} {sp : Sp} (F : Fun K x qual st f fd) (S : FnScope N ps (defScope st)) (hps : ∀ vs H Q E, sp vs H Q E → vs.length = ps.length)
    (body : ∀ (cdv : Value) (A : Around) (outer : List Env) (s : Shared) (H : Hp) (vs : List V) (Q : VK) (E : XK), RoomW k (A.deeper (envOfC qual (defScope st) s.heap.objs.size f cdv)) → sp vs H Q E →
      ∃ t, PSs (cxW CX0 P w K mg base N qual (defScope st) f cdv A outer s H E).nox (defBody st) t ∧ t { nx := fun _ H' => Q .non H', rt := Q } (start N vs) H) : FnW P w K mg base CX0 (k + 1) f fd ps sp := by
  obtain ⟨_, _, kV, doc, pm, an, cdv, ct, _, rfl, here, code⟩ := F.ex
  refine ⟨hps, fun A outer s H args us vs Q E room e0 bind r h => ?_⟩
  have KX : K.In s.heap := e0.mod.kin.keeps fun _ _ e => (e0.bs _ _ e).1
  have many := hps _ _ _ _ h
  refine Att.call_fn KX (e0.mod.nolimit.keeps fun _ _ e => (e0.bs _ _ e).1) here code room.depth bind ?_ (fun s1 ic => ?_) S.co S.gen S.kind
  · refine List.all_eq_true.mpr fun y hy => ?_
    rcases S.par y.1 (List.of_mem_zip (show (y.1, y.2) ∈ ps.zip us from hy)).1 with z | z <;> simp [z]
  · obtain ⟨t, ht, q⟩ := body cdv A outer s H vs Q E (room.deeper _) h
    have e1 : Env0 P w K mg base { A with handled := none } outer s H := ⟨e0.frames, e0.mod, e0.bs, e0.bsz, e0.funs, e0.frf, e0.hok, e0.bare⟩
    have I0 := inv_start (CX := CX0) (P := P) (w := w) (mg := mg) (base := base) (f := f) (cd := cdv) (A := { A with handled := none }) (E := E) S rfl e1 many r ic
    have I : Inv (cxW CX0 P w K mg base N qual (defScope st) f cdv A outer s H E) [] (start N vs) H s1 := I0.warm (A := A.deeper (envOfC qual (defScope st) s.heap.objs.size f cdv)) (Around.frames_deeper e0.frames)
    refine wpAny_mono (ht.nox.run [] s1 _ H _ I q) (fun fl s2 hs => ?_) fun _ _ z => z
    cases fl with
    | ret u =>
      obtain ⟨v, _, H', J, rv, q'⟩ := hs
      exact ⟨v, H', J.os, J.bare, J.base, J.hok, rv, q'⟩
    | next =>
      obtain ⟨_, H', J, q'⟩ := hs
      exact ⟨.non, H', J.os, J.bare, J.base, J.hok, rfl, q'⟩
    | brk => exact hs.elim fun _ z => z.elim fun _ z => z.2.elim
    | cont => exact hs.elim fun _ z => z.elim fun _ z => z.2.elim
/-- f(e, ..) of such a def -/
theorem pe_callW {X : Cx} {CX : CXT} {k : Nat} {f : Addr} {fd : FuncData} {ps : List Str} {sp : Sp} {E : XK} {x : Str} {q pos : Pos} {e : Expr} {es : List Expr} {t : TA}
    (F : FnW X.prog X.w X.K X.mg X.base CX k f fd ps sp) (room : RoomW k X.A) (gl : Gl X x) (is : X.mg x = some (.ref f)) (kp : PySem.W.keepIn X.K (.ref f) = true) (bind : Binds X.K fd ps []) (pass : Passes CX X E) (args : PA X (e :: es) t)
    (nodebug : (x == ("__debug__" : Str)) = false := by decide) (first : starEach (e :: es) X.env = (false, eval e X.env) :: starEach es X.env := by rfl) (nostar : (backTo pos (starEach es X.env)).any (·.1) = false := by rfl) :
    PE X (.Call (.Name x q) (e :: es) [] pos) (fun σ H Q => t σ H fun vs H1 => sp vs H1 Q E) where
  run := fun pins s σ H Q I h => wpAny_Call_Name_kw (ld_glob I gl is (PySem.W.callWith_K (h₀ := X.base) I.ok.mod.kin kp (thn (args.run pos pins s σ H _ I h) fun us s1 ⟨vs, H1, I1, r, y⟩ => ⟨I1.kIn, by
    have n : us.length = ps.length := r.length.symm.trans (F.arity _ _ _ _ y)
    have b := bind s1 us I1.kIn (by simpa using n)
    simp only [List.append_nil] at b
    refine wpAny_call (codeAny_mono (F.go X.A X.stack s1 H1 ⟨us, []⟩ us vs Q E room I1.env0 b r y) fun res s2 z => ?_)
    match res, z with
    | .error er, z => exact pass pins σ H1 s1 er s2 I1 z
    | .ok (.ret _), z => exact I1.after z⟩) first nostar) nodebug)

/-! ### try: body, except M as n: suite, where every exception of the body is an own one that M names -/
section
variable {X : Cx} {pins : List (Addr × Obj)} {σ : St} {H : Hp} {s : Shared}
/-- the suite's context, the exception tracked, not pinned -/
theorem Inv.inSuite (I : Inv X pins σ H s) (a : Addr) : Inv (X.suite a (X.pn ++ pins)) [] σ H s where
  ok := I.ok.suite a _
  os := I.os
  bare := I.bare
  base := I.base
  loc := I.loc
  cell := I.cell
  free := I.free
  freeC := I.freeC
  pin := fun p hp => I.pin p ((List.append_nil (X.pn ++ pins)) ▸ hp)
  hok := I.hok
  len := I.len
theorem Inv.outSuite {a : Addr} (I : Inv (X.suite a (X.pn ++ pins)) [] σ H s) (ok : X.Ok) : Inv X pins σ H s where
  ok := ok
  os := I.os
  bare := I.bare
  base := I.base
  loc := I.loc
  cell := I.cell
  free := I.free
  freeC := I.freeC
  pin := fun p hp => I.pin p ((List.append_nil (X.pn ++ pins)).symm ▸ hp)
  hok := I.hok
  len := I.len
end
/-- the ends of a suite: slot i is emptied -/
def Ends.less (D : Ends) (i : Nat) : Ends := { nx := fun σ H => D.nx (σ.set i none) H, rt := D.rt, bk := fun σ H => D.bk (σ.set i none) H, ct := fun σ H => D.ct (σ.set i none) H }
/-- what is wished of an exception of the body -/
def wAsT (K : PySem.W.Frag) (c : Value) (i : Nat) (ts : TS) (D : Ends) : WX := fun cls d σ H => PySem.W.exmOne K cls c = some true ∧ ∃ C : Addr, cls = .ref C ∧ ∀ a, H a = none → ts (D.less i) (σ.set i (some (.ref a))) (upd H a (xob a C d))
section
variable {X : Cx} {x n : Str} {c : Value} {i : Nat} {body suite : List Stmt} {b0 : Stmt} {p1 p2 p3 : Pos} {tb : WX → TS} {ts : TS}
/-- what came behind the state I is none of its things -/
theorem newcomer {pins : List (Addr × Obj)} {σ : St} {H : Hp} {s : Shared} {a : Addr} (I : Inv X pins σ H s) (alone : X.ex = []) (no : s.heap.get? a = none) :
    X.s_0.heap.get? a = none ∧ a ≠ X.env.locals ∧ (∀ x c, X.env.cells.lookup x = some c → c ≠ a) ∧ ∀ p ∈ X.pn ++ pins, p.1 ≠ a := by
  have some_not : ∀ {b : Addr} {o : Obj}, s.heap.get? b = some o → b ≠ a := fun {b o} e z => by rw [z, no] at e; cases e
  refine ⟨Option.eq_none_iff_forall_ne_some.mpr fun o e => ?_, ?_, fun x c e => ?_, fun p hp => some_not (I.pin p hp).1⟩
  · obtain ⟨o', z⟩ := I.base.there a o e (by simp [alone])
    exact some_not z rfl
  · obtain ⟨m, ⟨o, _, _, e, _⟩, _⟩ := I.loc
    exact (some_not e).symm
  · obtain ⟨v, o, e', _⟩ := I.cell x c e
    exact some_not e'
/-- an exception has come to the try: its suite runs -/
theorem caught {pins : List (Addr × Obj)} {D : Ends} {u : Value} {s : Shared} {xe : Value → Shared → Prop} (alone : X.ex = []) (top : X.stack = X.env :: X.outer) (frame : X.env.frame = some X.env.locals) (nodup : X.N.Nodup) (slot : X.N[i]? = some n) (loc : X.env.kindOf n = some .local) (names : Names X x c) (ok : X.Ok)
    (run : ∀ (a : Addr) (pn : List (Addr × Obj)), PSs (X.suite a pn) (b0 :: suite) ts) (fly : XE (X.tr (X.pn ++ pins) xe) (wAsT X.K c i ts D) u s) :
    wpAny (model X.prog X.w) X.A (noteFrame u X.env) (fun _ s2 => wpAny (model X.prog X.w) X.A (setFlight u none) (fun _ s3 => wpAny (model X.prog X.w) X.A (handleBy u X.env [.ExceptHandler (some (.Name x p1)) (some n) (b0 :: suite) p2]) (SP X pins D) X.xe s3) X.xe s2) X.xe s := by
  obtain ⟨a, ground, sI, _, σ1, H1, cls, d, rfl, Jt, stays, slots, sky, free, os, gens, named, C, rfl, wish⟩ := fly
  have J : Inv X pins σ1 H1 sI := Jt.ofTry ok
  refine Sky.land Zc.steady (ok.frames.trans (congrArg some top)) frame (top ▸ sky) fun h3 f3 up3 => ?_
  obtain ⟨o3, v3, g3, z3, d3⟩ := f3.there
  have notFrame : a ∉ frs X.stack := fun hm => by
    obtain ⟨_, o, e, other⟩ := f3.2.2.1.mem (top ▸ hm)
    exact other v3 (Option.some.inj (e.symm.trans g3) ▸ d3)
  have absent : sI.heap.get? a = none := Option.eq_none_iff_forall_ne_some.mpr fun o e => by
    have z := stays a o e notFrame
    rw [f3.2.1] at z
    cases z
  obtain ⟨n0, nL, nC, nP⟩ := newcomer J alone absent
  have J3 : Inv X pins σ1 H1 { s with heap := h3 } := J.landed stays f3.1 (slots.trans up3) os gens
  have clause : ∀ {Q : Value → Shared → Prop} {E : Value → Shared → Prop}, Q c { s with heap := h3 } → wpAny (model X.prog X.w) (X.A.mark (some (.ref a))) (eval (.Name x p1) X.env) Q E { s with heap := h3 } := fun {Q E} q => by
    rcases names with ⟨gl, dbg, is | ⟨no, boot, other⟩⟩
    · exact ld_glob (J3.inSuite a) gl is q dbg
    · exact ld_blt (J3.inSuite a) gl no boot q other dbg
  have cls3 : PySem.W.Looks (model X.prog X.w) h3 (typeOf (.ref a)) (.ref C) := fun _ _ _ _ keep q => wpAny_typeOf_ref (keep _ _ g3) (z3.1.symm ▸ q)
  refine wpAny_handleBy_cons (codeAny_handlers_test (clause ((PySem.W.exm_one (M := model X.prog X.w) J3.kIn cls3 named).here ?_))) (fun z => nomatch z)
  refine codeAny_handlers_suite_as (HandSPX.lands_againZ f3 fun h4 f4 up4 => ?_)
  obtain ⟨o4, v4, g4, z4, d4⟩ := f4.there
  have J4 : Inv X pins σ1 H1 { s with heap := h4 } := J.landed stays f4.1 ((slots.trans up3).trans up4) os gens
  have J5 := (J4.track free n0 nL nC nP (xob_ok g4 z4 d4)).inSuite a
  refine store_ok (X := X.suite a (X.pn ++ pins)) (v := .ref a) J5 nodup slot (.inl loc) rfl (fun s5 S5 => ?_) (.inr loc)
  have leave : ∀ {σ6 : St} {H6 : Hp} {s6 : Shared} {Q : Shared → Prop}, Inv (X.suite a (X.pn ++ pins)) [] σ6 H6 s6 → (∀ s7, Inv X pins (σ6.set i none) H6 s7 → Q s7) → wpAny (model X.prog X.w) X.A (do bindName X.env n .none; unbindBehindTheSuite X.env n p2) (fun _ s7 => Q s7) X.xe s6 :=
    fun S6 q => gone_ok (S6.outSuite ok) nodup slot loc q
  refine wpAny_mono ((run a (X.pn ++ pins)).run [] s5 _ _ _ S5 (wish a free)) (fun fl s6 q => ?_) fun _ _ z => z.elim
  match fl, q with
  | .next, ⟨_, _, S6, q⟩ => exact leave S6 fun _ J7 => ⟨_, _, J7, q⟩
  | .brk, ⟨_, _, S6, q⟩ => exact leave S6 fun _ J7 => ⟨_, _, J7, q⟩
  | .cont, ⟨_, _, S6, q⟩ => exact leave S6 fun _ J7 => ⟨_, _, J7, q⟩
  | .ret _, ⟨_, _, _, S6, r, q⟩ => exact leave S6 fun _ J7 => ⟨_, _, _, J7, r, q⟩
theorem ps_try_asT (alone : X.ex = []) (top : X.stack = X.env :: X.outer) (frame : X.env.frame = some X.env.locals) (nodup : X.N.Nodup) (slot : X.N[i]? = some n) (loc : X.env.kindOf n = some .local) (names : Names X x c)
    (try_ : ∀ (W : WX) (pn : List (Addr × Obj)) (xe : Value → Shared → Prop), Takes (X.tr pn xe) W → PSs (X.tr pn xe) body (tb W)) (run : ∀ (a : Addr) (pn : List (Addr × Obj)), PSs (X.suite a pn) (b0 :: suite) ts) :
    PS X (.Try body [.ExceptHandler (some (.Name x p1)) (some n) (b0 :: suite) p2] [] [] p3) (fun D σ H => tb (wAsT X.K c i ts D) D σ H) where
  run := fun pins s σ H D I h => by
    have ok := I.ok
    refine wpAny_Try_except (wpAny_mono ((try_ (wAsT X.K c i ts D) (X.pn ++ pins) _ fun u s' y => caught alone top frame nodup slot loc names ok run y).run [] s σ H D (I.toTry _) h) (fun fl s1 q => ?_) fun _ _ z => z)
    match fl, q with
    | .next, ⟨_, _, J, q⟩ => exact wpAny_execs_nil ⟨_, _, J.ofTry ok, q⟩
    | .brk, ⟨_, _, J, q⟩ => exact ⟨_, _, J.ofTry ok, q⟩
    | .cont, ⟨_, _, J, q⟩ => exact ⟨_, _, J.ofTry ok, q⟩
    | .ret _, ⟨_, _, _, J, r, q⟩ => exact ⟨_, _, _, J.ofTry ok, r, q⟩
end
end L2

namespace L2
open PySem PySem.Spec PyProof.Rows
/-! ### an own exception made as a value -/
/-- C(k = v, ..), C's own __init__ keeping sp -/
def tXMk (C : Addr) (n : Nat) (sp : Sp) (gV : List V → List V → List V) (tk : TA) : TE := fun σ H Q => tk σ H fun zs H1 => zs.length = n ∧ ∀ a, H1 a = none → sp (gV [.ref a] zs) (upd H1 a (exo a C none))
  (fun v H2 => v = .non ∧ ∃ (d : Addr) (fs : List (Str × V)), H2 a = some (exo a C (some d)) ∧ H2 d = some (exd d fs) ∧ d ≠ a ∧ Q (.ref a) (upd (upd H2 d (.xd fs)) a (xob a C (some d)))) (fun _ _ _ => False)
section
variable {X : Cx} {CX : CXT} {k : Nat} {C fI : Addr} {fd : FuncData} {ps ks : List Str} {sp : Sp} {x : Str} {p pos : Pos} {kws : List Keyword} {tk : TA} {g : List Value → List Value → List Value} {gV : List V → List V → List V}
/-- behind __init__ the exception stands as a made one -/
theorem Inv.finished {pins : List (Addr × Obj)} {σ : St} {H : Hp} {s : Shared} {a d : Addr} {fs : List (Str × V)} (I : Inv X pins σ H s) (ea : H a = some (exo a C (some d))) (ed : H d = some (exd d fs)) (ne : d ≠ a) : Inv X pins σ (upd (upd H d (.xd fs)) a (xob a C (some d))) s := by
  have J : Inv X pins σ (upd H d (.xd fs)) s := I.retell ed True.intro (exd_at I.hok ed)
  have ea' : (upd H d (.xd fs)) a = some (exo a C (some d)) := (upd_ne ne.symm).trans ea
  obtain ⟨t, at_⟩ := exo_at J.hok ea'
  exact J.retell ea' True.intro (xob_ok at_ ⟨rfl, rfl⟩ rfl)
theorem pe_xmk (T : OexC X.K C) (ini : PySem.W.findIn X.K (.ref C) "__init__" = some (some (.ref fI))) (fn : PySem.W.typeIn X.K (.ref fI) = some (.type "function"))
    (fnok : FnOk X.prog X.w X.K X.mg X.base CX k fI fd ps sp) (room : Room (k + 1) X.A) (bind : KBn X.K fd ps 1 ks g gV) (pass : Passes CX X (fun _ _ _ => False)) (gl : Gl X x) (is : X.mg x = some (.ref C)) (vals : PK X kws tk)
    (named : (backToKw pos (keywordEach kws X.env)).all (·.1.isSome) = true := by rfl) (names : (backToKw pos (keywordEach kws X.env)).filterMap (·.1) = ks := by rfl) (nodebug : (x == ("__debug__" : Str)) = false := by decide)
    (plain : ((backTo pos (starEach [] X.env)).any (·.1) || (backToKw pos (keywordEach kws X.env)).any (·.1.isNone)) = false := by rfl) : PE X (.Call (.Name x p) [] kws pos) (tXMk C ks.length sp gV tk) where
  run := fun pins s σ H Q I h => by
    obtain ⟨_, _, _, _, bm, _, _, _, _, _, _, _, _, _, _, cls, mro⟩ := T.cls
    refine wpAny_Call_Name_kw (ld_glob I gl is (PySem.W.callWith_KW0 (h₀ := X.base) I.ok.mod.kin T.kC named (thn (vals.run pos pins s σ H _ I h) fun ws s1 ⟨zs, H1, I1, rz, hz, q1⟩ => ⟨I1.kIn, ?_⟩) plain) nodebug)
    obtain ⟨hp, gs, dr, tks, os⟩ := s1
    have new : H1 (hp.objs.size + 1) = none := I1.hok.fresh (Nat.le_succ _)
    have I2 : Inv X pins σ (upd H1 (hp.objs.size + 1) (exo (hp.objs.size + 1) C none)) ⟨(hp.push (PySem.W.kdv_tup [])).push (PySem.HandSPX.excO C hp.objs.size), gs, dr, tks, os⟩ :=
      I1.laid (t' := tks) (o := exo (hp.objs.size + 1) C none) (fun _ _ e => Heap.get?_push_of_some _ (Heap.get?_push_of_some _ e)) (Nat.le_succ _) (exo_ok (by heap_get))
    have q2 := q1 _ new
    rw [names]
    show wpAny _ _ (call (.ref C) [] (ks.zip ws)) _ _ _
    refine wpAny_call (Own.made (kw := ks.zip ws) PySem.F.excBase_ValueError (fun Y => PySem.HandSPX.refsVE_contains Y bm mro) (I1.kIn _ _ cls) (PySem.W.looks_findIn I1.kIn ini) (fun me => PySem.W.bind_fn I1.kIn me fn)
      (codeAny_mono (fnok.run _ X.stack _ _ ⟨[.ref (hp.objs.size + 1)], ks.zip ws⟩ (g [.ref (hp.objs.size + 1)] ws) _ _ (fun _ _ _ => False) (room.make C [] (ks.zip ws)) (I2.env0.make C [] (ks.zip ws))
        (bind.to _ [.ref (hp.objs.size + 1)] ws I2.kIn rfl (rz.length.symm.trans hz)) (bind.rel (show Vals [V.ref (hp.objs.size + 1)] [Value.ref (hp.objs.size + 1)] from .cons rfl .nil) rz) q2) fun r s2 y => ?_))
    match r, y with
    | .error er, y => exact pass pins σ _ _ er s2 I2 y
    | .ok (.ret u), y =>
      obtain ⟨_, H3, I3, rv, rfl, d, fs, ea, ed, ne, q3⟩ := I2.after y
      exact ⟨rv, .ref (hp.objs.size + 1), _, I3.finished ea ed ne, rfl, q3⟩
/-- C(), C without own __init__, as a value; raised -/
theorem pe_xmk0 {full : List Value} {Base new ini : String} (F : ExcBaseFacts Base new ini full) (own : PySem.W.excIn X.K C full new = true) (is : X.mg x = some (.ref C)) (kp : PySem.W.keepIn X.K (.ref C) = true) (gl : Gl X x) (nodebug : (x == ("__debug__" : Str)) = false := by decide) :
    PE X (.Call (.Name x p) [] [] pos) (fun _ H Q => ∀ a, H a = none → Q (.ref a) (upd H a (xob a C none))) where
  run := fun pins s σ H Q I h => wpAny_Call_Name_kw (ld_glob I gl is (PySem.W.callWith_K0 I.kIn kp (by
    obtain ⟨_, _, _, _, _, _, _, _, _, _, _, _, _, _, _, _, _, cls, ns, no, tl⟩ := exc_obj I.kIn own
    refine wpAny_call_exc_subT F tl cls ns no (fun h' a m => ?_) (Nat.zero_le _)
    have free := I.hok.gone m.new
    obtain ⟨_, at_, _⟩ := m.there
    exact ⟨.ref a, _, I.laidN m.keeps m.new free (xob_ok at_ ⟨rfl, rfl⟩ rfl), rfl, h a free⟩)) nodebug)
theorem pmk_own0 {full : List Value} {Base new ini : String} (F : ExcBaseFacts Base new ini full) (own : PySem.W.excIn X.K C full new = true) (is : X.mg x = some (.ref C)) (kp : PySem.W.keepIn X.K (.ref C) = true) (r : Raises X (.ref C)) (gl : Gl X x) (nodebug : (x == ("__debug__" : Str)) = false := by decide) :
    PMk X (.Call (.Name x p) [] [] pos) (fun _ H Q => Q (.ref C) none H) := fun pins s σ H Q I h => wpAny_Call_Name_kw (ld_glob I gl is (PySem.W.callWith_K0 I.kIn kp (by
    obtain ⟨_, _, _, _, _, _, _, _, _, _, _, _, _, _, _, _, _, cls, ns, no, tl⟩ := exc_obj I.kIn own
    exact wpAny_call_exc_subT F tl cls ns no (fun h' e m => mk_of I m r h (I.hok.gone m.new)) (Nat.zero_le _))) nodebug)
end
end L2

namespace Kx
open PySem L2
def top (i : Nat) : Stmt := PySem.Challenge.pw_nevermiss_k12_whole_first_unlike_texts.main.body.getD i (.Pass ⟨0, 0, 0, 0⟩)
abbrev s__law_pen : Stmt := top 40
abbrev s__law_draw : Stmt := top 41
abbrev s__law_pick : Stmt := top 42
/-- a def of the text, as it stands behind the top -/
structure DefT (K : PySem.W.Frag) (mg : Str → Option Value) (name qual : Str) (st : Stmt) (ps : List Str) (f : Addr) (fd : FuncData) : Prop where
  g : mg name = some (.ref f)
  F : Fun K name qual st f fd
  b : Binds K fd ps []
/-! ### the pen -/
/-- all but what stands at p is as it was -/
def SameBut (p : Addr) (H H' : Hp) : Prop := ∀ b o, H b = some o → b ≠ p → H' b = some o
theorem SameBut.refl (p : Addr) (H : Hp) : SameBut p H H := fun _ _ h _ => h
theorem SameBut.trans {p : Addr} {H H1 H2 : Hp} (a : SameBut p H H1) (b : SameBut p H1 H2) : SameBut p H H2 := fun c o h n => b c o (a c o h n) n
theorem SameBut.of {p : Addr} {H H' : Hp} (a : Same H H') : SameBut p H H' := fun c o h _ => a c o h
theorem Same.upd {H : Hp} {p : Addr} {o : HO} (h : H p = none) : Same H (upd H p o) := fun b u e => by rw [upd_ne (ne_of_none e h)]; exact e
theorem SameBut.upd {H : Hp} {p : Addr} {o : HO} : SameBut p H (upd H p o) := fun b u e n => by rw [upd_ne n]; exact e
theorem SameBut.new {H : Hp} {p q : Addr} {o : HO} (h : H q = none) : SameBut p H (L2.upd H q o) := .of (Same.upd h)
abbrev kCells : Key := Sum.inr "cells"
abbrev kAt : Key := Sum.inr "at"
abbrev kLeft : Key := Sum.inr "left"
def penKvs (c : Addr) (a l : Int) : List (Key × V) := [(kCells, .ref c), (kAt, .int a), (kLeft, .int l)]
theorem n_ca : ¬ (kCells = kAt) := by decide +kernel
theorem n_cl : ¬ (kCells = kLeft) := by decide +kernel
theorem n_al : ¬ (kAt = kLeft) := by decide +kernel
theorem pen_cells (c : Addr) (a l : Int) : valV (penKvs c a l) kCells = some (.ref c) := valV_pos rfl
theorem pen_at (c : Addr) (a l : Int) : valV (penKvs c a l) kAt = some (.int a) := by
  unfold penKvs
  rw [valV_neg n_ca]
  exact valV_pos rfl
theorem pen_left (c : Addr) (a l : Int) : valV (penKvs c a l) kLeft = some (.int l) := by
  unfold penKvs
  rw [valV_neg n_cl, valV_neg n_al]
  exact valV_pos rfl
theorem put_at (c : Addr) (a l x : Int) : putK (penKvs c a l) kAt (.int x) = penKvs c x l := by
  have h : ((penKvs c a l).any fun kv => decide (kv.1 = kAt)) = true := by
    rw [valV_any, pen_at]; rfl
  unfold putK
  rw [if_pos h]
  show [if kCells = kAt then (kCells, V.int x) else (kCells, V.ref c), if kAt = kAt then (kAt, V.int x) else (kAt, V.int a), if kLeft = kAt then (kLeft, V.int x) else (kLeft, V.int l)] = _
  rw [if_neg n_ca, if_pos rfl, if_neg (Ne.symm n_al)]
  rfl
theorem put_left (c : Addr) (a l x : Int) : putK (penKvs c a l) kLeft (.int x) = penKvs c a x := by
  have h : ((penKvs c a l).any fun kv => decide (kv.1 = kLeft)) = true := by
    rw [valV_any, pen_left]; rfl
  unfold putK
  rw [if_pos h]
  show [if kCells = kLeft then (kCells, V.int x) else (kCells, V.ref c), if kAt = kLeft then (kAt, V.int x) else (kAt, V.int a), if kLeft = kLeft then (kLeft, V.int x) else (kLeft, V.int l)] = _
  rw [if_neg n_cl, if_neg n_al, if_pos rfl]
  rfl
/-- a pen at p: n bounds the places that were read -/
def PenAt (H : Hp) (p c : Addr) (n : Nat) : Prop := ∃ (ns : List Int) (a l : Int), H p = some (.dK (penKvs c a l)) ∧ H c = some (.lst (ns.map V.int)) ∧ ns.length ≤ 63 ∧ 0 ≤ a ∧ a ≤ n
theorem PenAt.ne {H : Hp} {p c : Addr} {n : Nat} (h : PenAt H p c n) {b : Addr} {xs : List V} (e : H b = some (.lst xs)) : b ≠ p := by
  obtain ⟨ns, a, l, h1, _⟩ := h
  exact ne_of e h1 (by intro z; cases z)
theorem PenAt.keep {H H' : Hp} {p c : Addr} {n : Nat} (h : PenAt H p c n) (s : Same H H') : PenAt H' p c n := by
  obtain ⟨ns, a, l, h1, h2, r⟩ := h
  exact ⟨ns, a, l, s _ _ h1, s _ _ h2, r⟩
/-- a store elsewhere -/
theorem PenAt.put {H : Hp} {p c : Addr} {n : Nat} (h : PenAt H p c n) {d : Addr} {o : HO} (np : d ≠ p) (nc : d ≠ c) : PenAt (upd H d o) p c n := by
  obtain ⟨ns, a, l, h1, h2, r⟩ := h
  exact ⟨ns, a, l, by rw [upd_ne (Ne.symm np)]; exact h1, by rw [upd_ne (Ne.symm nc)]; exact h2, r⟩
theorem PenAt.apart {H : Hp} {p c : Addr} {n : Nat} (h : PenAt H p c n) {d : Addr} (e : H d = none) : d ≠ p ∧ d ≠ c := by
  obtain ⟨ns, a, l, h1, h2, r⟩ := h
  exact ⟨fun z => (by rw [z, h1] at e; cases e), fun z => (by rw [z, h2] at e; cases e)⟩
theorem PenAt.mono {H : Hp} {p c : Addr} {n m : Nat} (h : PenAt H p c n) (s : n ≤ m) : PenAt H p c m := by
  obtain ⟨ns, a, l, h1, h2, h3, h4, h5⟩ := h
  exact ⟨ns, a, l, h1, h2, h3, h4, by omega⟩
def spPen (K : PySem.W.Frag) : Sp := fun vs H Q _ => ∃ (s : Addr) (ns : List Int), vs = [.ref s] ∧ SqL K H s (ns.map V.int) ∧ ns.length ≤ 63 ∧ ∀ p c H', H p = none → Same H H' → PenAt H' p c 0 → Q (.ref p) H'
def spDraw : Sp := fun vs H Q _ => ∃ (p c : Addr) (many : Int) (n : Nat), vs = [.ref p, .int many] ∧ PenAt H p c n ∧ n ≤ 1000000 ∧ 0 < many ∧ many < 1073741824 ∧
  ∀ (r : Int) H', 0 ≤ r → r < many → PenAt H' p c (n + 1) → SameBut p H H' → Q (.int r) H'
def spPick : Sp := fun vs H Q _ => ∃ (p c q : Addr) (xs : List V) (n : Nat), vs = [.ref p, .ref q] ∧ PenAt H p c n ∧ n ≤ 1000000 ∧ H q = some (.lst xs) ∧ 0 < xs.length ∧ xs.length ≤ 1000000 ∧
  ∀ (v : V) (i : Nat) H', xs[i]? = some v → PenAt H' p c (n + 1) → SameBut p H H' → Q v H'
structure TxtP (K : PySem.W.Frag) (mg : Str → Option Value) (f1 f2 f3 : Addr) (d1 d2 d3 : FuncData) : Prop where
  D__law_pen : DefT K mg "_law_pen" "_law_pen" s__law_pen ["script"] f1 d1
  D__law_draw : DefT K mg "_law_draw" "_law_draw" s__law_draw ["pen", "many"] f2 d2
  D__law_pick : DefT K mg "_law_pick" "_law_pick" s__law_pick ["pen", "items"] f3 d3
  n_list : mg "list" = none
  n_int : mg "int" = none
  n_len : mg "len" = none
local macro_rules | `(tactic| walk_at "g") => `(tactic| first | refine ⟨_, _, rfl, rfl, ?_⟩ | refine ⟨_, rfl, ?_⟩ | refine ⟨rfl, ?_⟩)
theorem cut63 (ns : List Int) : ∃ ms : List Int, cutV (ns.map V.int) none (some 63) = ms.map V.int ∧ ms.length ≤ ns.length := by
  refine ⟨(ns.drop (HT.sIx (ns.map V.int).length 0 none)).take (HT.sIx (ns.map V.int).length (ns.map V.int).length (some 63) - HT.sIx (ns.map V.int).length 0 none), ?_, ?_⟩
  · unfold cutV
    rw [List.map_take, List.map_drop]
  · rw [List.length_take, List.length_drop]; omega
section
variable {P : Program} {w : World} {K : PySem.W.Frag} {mg : Str → Option Value} {base : Heap} {f1 f2 f3 : Addr} {d1 d2 d3 : FuncData}
theorem sc_pen : FnScope ["script"] ["script"] (defScope s__law_pen) := ⟨rfl, rfl, rfl, by decide +kernel, rfl, by decide +kernel, by decide +kernel⟩
theorem ok_pen (T : TxtP K mg f1 f2 f3 d1 d2 d3) : FnOk P w K mg base CX0 1 f1 d1 ["script"] (spPen K) := by
  have sc := sc_pen
  refine T.D__law_pen.F.ok sc (fun vs H Q E h => ?_) (fun cdv A outer s H vs Q E hr h => ?_)
  · obtain ⟨_, _, rfl, _⟩ := h; rfl
  · obtain ⟨a, ns, rfl, hs, hl, k⟩ := h
    have hu := hu_of hr
    refine ⟨_, (pss_one (ps_ret (pe_disp (pps_cons pe_str (pe_callTy call_list_of (by rfl) T.n_list (by decide +kernel) (pa_cons (pe_slice sl_list (pv 0) po_none (po_some pe_int)) pa_nil)) (pps_cons pe_str pe_int (pps_cons pe_str pe_int pps_nil))) (by rfl) (by rfl) (fun z => by cases z) (by decide)))), ?_⟩
    intro p hp
    have s1 : Same H (upd H p (.dK [])) := Same.upd hp
    obtain ⟨ms, em, lm⟩ := cut63 ns
    refine ⟨_, rfl, _, rfl, a, _, rfl, s1.seq hs, fun q hq => ?_⟩
    rw [em]
    refine ⟨q, ms.map V.int, rfl, .inl (SqL.of upd_same), fun l hl2 => ?_⟩
    have npq : p ≠ q := ne_of_none upd_same hq
    have npl : p ≠ l := ne_of_none (by rw [upd_ne npq]; exact upd_same) hl2
    refine ⟨by rw [upd_ne npl, upd_ne npq, upd_same], penKvs l 0 0, rfl, (by show 3 ≤ 15; decide), ?_⟩
    refine k p l _ hp (fun b o e => ?_) ⟨ms, 0, 0, ?_, ?_, by omega, by omega, by omega⟩
    · have e1 : upd H p (.dK []) b = some o := s1 b o e
      have e2 : upd (upd H p (.dK [])) q (.lst (ms.map V.int)) b = some o := Same.upd hq b o e1
      rw [upd_ne (ne_of_none e hp)]
      exact Same.upd hl2 b o e2
    · rw [upd_same]
      rfl
    · rw [upd_ne npl.symm, upd_same]
theorem dg_left {H : Hp} {p c : Addr} {a l : Int} (h : H p = some (.dK (penKvs c a l))) : DGet H p (.str "left") (some (.int l)) := by
  have q := DGet.k (k := kLeft) h
  rw [pen_left] at q
  exact q
theorem dg_at {H : Hp} {p c : Addr} {a l : Int} (h : H p = some (.dK (penKvs c a l))) : DGet H p (.str "at") (some (.int a)) := by
  have q := DGet.k (k := kAt) h
  rw [pen_at] at q
  exact q
theorem dg_cells {H : Hp} {p c : Addr} {a l : Int} (h : H p = some (.dK (penKvs c a l))) : DGet H p (.str "cells") (some (.ref c)) := by
  have q := DGet.k (k := kCells) h
  rw [pen_cells] at q
  exact q
theorem dp_left {H : Hp} {p c : Addr} {a l x : Int} (h : H p = some (.dK (penKvs c a l))) : DPut H p (.str "left") (.int x) (upd H p (.dK (penKvs c a x))) := by
  have q := DPut.k (k := kLeft) (v := .int x) h (by show 3 < sizeLine; decide)
  rw [put_left] at q
  exact q
theorem dp_at {H : Hp} {p c : Addr} {a l x : Int} (h : H p = some (.dK (penKvs c a l))) : DPut H p (.str "at") (.int x) (upd H p (.dK (penKvs c x l))) := by
  have q := DPut.k (k := kAt) (v := .int x) h (by show 3 < sizeLine; decide)
  rw [put_at] at q
  exact q
theorem dpInts (K : PySem.W.Frag) (H : Hp) : ∀ ns : List Int, DpAll K H (ns.map V.int) (ns.map PyData.int)
  | [] => .nil
  | n :: ns => .cons (.int n) (dpInts K H ns)
/-- data of a small depth -/
def Sh (n : Nat) (d : PyData) : Prop := d.canLay0 = true ∧ d.depth ≤ n
theorem Sh.int {n : Nat} (i : Int) : Sh n (.int i) := ⟨by simp [PyData.canLay0], by rw [PyData.depth]; omega⟩
theorem Sh.bl {n : Nat} (b : Bool) : Sh n (.bool b) := ⟨by simp [PyData.canLay0], by rw [PyData.depth]; omega⟩
theorem Sh.str {n : Nat} {x : Str} (h : PyData.strOk x = true) : Sh n (.str x) := ⟨by simp [PyData.canLay0, h], by rw [PyData.depth]; omega⟩
theorem Sh.all {n : Nat} : ∀ {xs : List PyData}, (∀ x ∈ xs, Sh n x) → PyData.canLayAll0 xs = true ∧ PyData.depthAll xs ≤ n
  | [], _ => ⟨by simp [PyData.canLayAll0], by rw [PyData.depthAll]; omega⟩
  | x :: xs, h => by
    obtain ⟨a, b⟩ := Sh.all (xs := xs) fun y hy => h y (List.mem_cons_of_mem _ hy)
    obtain ⟨c, d⟩ := h x List.mem_cons_self
    refine ⟨by rw [PyData.canLayAll0, c, a]; rfl, ?_⟩
    rw [PyData.depthAll]
    exact Nat.max_le.mpr ⟨d, b⟩
theorem Sh.list {n : Nat} {xs : List PyData} (h : ∀ x ∈ xs, Sh n x) : Sh (n + 1) (.list xs) := by
  obtain ⟨a, b⟩ := Sh.all h
  exact ⟨by rw [PyData.canLay0]; exact a, by rw [PyData.depth]; omega⟩
theorem Sh.tup {n : Nat} {xs : List PyData} (h : ∀ x ∈ xs, Sh n x) : Sh (n + 1) (.tuple xs) := by
  obtain ⟨a, b⟩ := Sh.all h
  exact ⟨by rw [PyData.canLay0]; exact a, by rw [PyData.depth]; omega⟩
theorem Sh.ok {n : Nat} {d : PyData} (h : Sh n d) (hn : n ≤ 64) : SeqAt.shaped d = true := by
  unfold SeqAt.shaped
  rw [h.1, decide_eq_true (Nat.le_trans h.2 hn)]
  rfl
theorem Sh.refl {n : Nat} {d : PyData} (h : Sh n d) : PyData.eqv d d = true := PySem.SeqAt.eqv_refl d h.1
theorem ifT {c A B : Prop} [Decidable c] (h : c) (a : A) : if decide c = true then A else B := by rw [if_pos (decide_eq_true h)]; exact a
theorem ifF {c A B : Prop} [Decidable c] (h : ¬ c) (b : B) : if decide c = true then A else B := by rw [if_neg (by simpa using h)]; exact b
theorem ifTn {c A B : Prop} [Decidable c] (h : ¬ c) (a : A) : if (!decide c) = true then A else B := by rw [if_pos (by simpa using h)]; exact a
theorem ifFn {c A B : Prop} [Decidable c] (h : c) (b : B) : if (!decide c) = true then A else B := by rw [if_neg (by simpa using h)]; exact b
theorem shInts (ns : List Int) : SeqAt.shaped (.list (ns.map PyData.int)) = true := (Sh.list (n := 0) fun x hx => by
  obtain ⟨i, _, rfl⟩ := List.mem_map.mp hx
  exact Sh.int i).ok (by decide)
theorem eqv_ints_nil (ns : List Int) : PyData.eqv (.list (ns.map PyData.int)) (.list []) = decide (ns = []) := by
  cases ns with
  | nil => rw [List.map_nil, PyData.eqv, PyData.eqvAll]; rfl
  | cons a r => rw [List.map_cons, PyData.eqv, PyData.eqvAll]; rfl
theorem sc_draw : FnScope ["pen", "many", "digit", "at", "cell", "mixed"] ["pen", "many"] (defScope s__law_draw) := ⟨rfl, rfl, rfl, by decide +kernel, rfl, by decide +kernel, by decide +kernel⟩
theorem ok_draw (T : TxtP K mg f1 f2 f3 d1 d2 d3) : FnOk P w K mg base CX0 1 f2 d2 ["pen", "many"] spDraw := by
  have sc := sc_draw
  refine T.D__law_draw.F.ok sc (fun vs H Q E h => ?_) (fun cdv A outer s H vs Q E hr h => ?_)
  · obtain ⟨_, _, _, _, rfl, _⟩ := h; rfl
  · obtain ⟨p, c, many, n, rfl, ⟨ns, a, l, h1, h2, h3, h4, h5⟩, hn, m0, m1, k⟩ := h
    have hu := hu_of hr
    have ncp : c ≠ p := ne_of h2 h1 (by intro z; cases z)
    refine ⟨_, (pss_cons (ps_if (pt_cmpR op_ge (pe_dget hu (pv 0) pe_str (fun _ _ => rfl)) (pv 1) (nomark _)) (pss_cons (ps_set (i := 2) sc.nd rfl (Or.inl rfl) (pe_op op_mod (pe_callTy call_int1 (by rfl) T.n_int (by decide +kernel) (pa_cons (pe_dget hu (pv 0) pe_str (fun _ _ => rfl)) pa_nil)) (pv 1)))
      (pss_cons (ps_dput hu (pv 0) pe_str (pe_op op_fdiv (pe_dget hu (pv 0) pe_str (fun _ _ => rfl)) (pv 1)) rfl)
      (pss_one (ps_ret (pv 2)))))
        pss_nil)
      (pss_cons (ps_set (i := 3) sc.nd rfl (Or.inl rfl) (pe_dget hu (pv 0) pe_str (fun _ _ => rfl)))
      (pss_cons (ps_dput hu (pv 0) pe_str (pe_op op_add (pv 3) pe_int) rfl)
      (pss_cons (ps_set (i := 4) sc.nd rfl (Or.inl rfl) (pe_op op_add (pe_op op_mul pe_int (pv 3)) pe_int))
      (C8.pss_cut (ps_if (pt_cmpR (op_neD hr.units) (pe_dget hu (pv 0) pe_str (fun _ _ => rfl)) (pe_lst pa_nil) (nomark _)) (pss_one (ps_set (i := 4) sc.nd rfl (Or.inl rfl) (pe_ix ix_list (pe_dget hu (pv 0) pe_str (fun _ _ => rfl)) (pe_op op_mod (pe_callTy call_int1 (by rfl) T.n_int (by decide +kernel) (pa_cons (pv 3) pa_nil)) (pe_callB call_len (by rfl) T.n_len (by decide +kernel) (pa_cons (pe_dget hu (pv 0) pe_str (fun _ _ => rfl)) pa_nil))) (fun _ _ => rfl))))
        pss_nil)
      (pss_cons (ps_if (PW.pt (pw_and (pt_cmpR op_lt (pv 3) (pe_callB call_len (by rfl) T.n_len (by decide +kernel) (pa_cons (pe_dget hu (pv 0) pe_str (fun _ _ => rfl)) pa_nil)) (nomark _)) (pw_and1 (pt_cmpR op_ge (pv 4) (pe_op op_pow pe_int pe_int) (nomark _))))) (pss_cons (ps_dput hu (pv 0) pe_str (pe_op op_fdiv (pe_op op_sub (pv 4) (pe_op op_pow pe_int pe_int)) (pv 1)) rfl)
      (pss_one (ps_ret (pe_op op_mod (pe_callTy call_int1 (by rfl) T.n_int (by decide +kernel) (pa_cons (pe_op op_sub (pv 4) (pe_op op_pow pe_int pe_int)) pa_nil)) (pv 1)))))
        pss_nil)
      (pss_cons (ps_set (i := 5) sc.nd rfl (Or.inl rfl) (pe_op op_add (pe_op op_add (pe_op op_add (pe_op op_mul (pe_op op_mod (pe_callTy call_int1 (by rfl) T.n_int (by decide +kernel) (pa_cons (pv 4) pa_nil)) pe_int) pe_int) (pe_op op_mul (pe_op op_mul pe_int (pv 3)) (pv 3))) (pe_op op_mul pe_int (pv 3))) pe_int))
      (pss_cons (ps_set (i := 5) sc.nd rfl (Or.inl rfl) (pe_op op_mod (pe_callTy call_int1 (by rfl) T.n_int (by decide +kernel) (pa_cons (pv 5) pa_nil)) pe_int))
      (pss_cons (ps_set (i := 5) sc.nd rfl (Or.inl rfl) (pe_op op_mod (pe_callTy call_int1 (by rfl) T.n_int (by decide +kernel) (pa_cons (pe_op op_mul (pv 5) (pe_op op_add (pv 5) pe_int)) pa_nil)) pe_int))
      (pss_one (ps_ret (pe_op op_mod (pe_callTy call_int1 (by rfl) T.n_int (by decide +kernel) (pa_cons (pe_op op_fdiv (pe_op op_mod (pe_callTy call_int1 (by rfl) T.n_int (by decide +kernel) (pa_cons (pe_op op_mul (pv 5) (pv 5)) pa_nil)) pe_int) pe_int) pa_nil)) (pv 1))))))))))))), ?_⟩
    refine ⟨_, rfl, p, .int l, rfl, dg_left h1, _, rfl, _, _, rfl, rfl, _, rfl, ?_⟩
    by_cases c1 : many ≤ l
    · refine ifT c1 ?_
      refine ⟨_, rfl, p, .int l, rfl, dg_left h1, .inl ⟨_, rfl, _, rfl, _, _, rfl, rfl, m0, ?_⟩⟩
      refine ⟨_, rfl, p, .int l, rfl, dg_left h1, _, rfl, _, _, rfl, rfl, ⟨m0, m1⟩, _, rfl, p, _, rfl, dp_left h1, ?_⟩
      refine ⟨_, rfl, ?_⟩
      refine k _ _ (Int.emod_nonneg _ (by omega)) (Int.emod_lt_of_pos _ m0) ⟨ns, a, _, upd_same, by rw [upd_ne ncp]; exact h2, h3, h4, by omega⟩ .upd
    · refine ifF c1 ?_
      refine ⟨_, rfl, p, .int a, rfl, dg_at h1, ?_⟩
      refine ⟨_, rfl, _, _, rfl, rfl, _, rfl, p, _, rfl, dp_at h1, ?_⟩
      have g1 : upd H p (.dK (penKvs c (a + 1) l)) p = some (.dK (penKvs c (a + 1) l)) := upd_same
      have g2 : upd H p (.dK (penKvs c (a + 1) l)) c = some (.lst (ns.map V.int)) := by rw [upd_ne ncp]; exact h2
      have g3 : SameBut p H (upd H p (.dK (penKvs c (a + 1) l))) := .upd
      generalize upd H p (.dK (penKvs c (a + 1) l)) = H1 at g1 g2 g3 ⊢
      refine ⟨_, rfl, _, _, rfl, rfl, .inl ⟨by decide, by decide⟩, _, _, rfl, rfl, ?_⟩
      -- if pen['cells'] != []
      refine ⟨fun σ' H' => ∃ cell : Int, σ' = [some (.ref p), some (.int many), none, some (.int a), some (.int cell), none] ∧ Same H1 H', ?_, ?_⟩
      · refine ⟨_, rfl, p, .ref c, rfl, dg_cells g1, (by decide), fun lz hz => ?_⟩
        refine ⟨.list (ns.map PyData.int), .list [], .lst (SqL.of (Same.upd hz _ _ g2)) (dpInts _ _ _), .lst (SqL.of upd_same) .nil, shInts ns, shInts [], _, rfl, ?_⟩
        rw [eqv_ints_nil]
        by_cases c2 : ns = []
        · refine ifFn c2 ?_
          exact ⟨_, rfl, Same.upd hz⟩
        · refine ifTn c2 ?_
          have hpos : 0 < ns.length := List.length_pos_iff.mpr c2
          have hsu := Same.upd (o := .lst ([] : List V)) hz
          have e2 := hsu _ _ g2
          have e1 := hsu _ _ g1
          have hm0 : 0 ≤ a % (ns.length : Int) := Int.emod_nonneg _ (by omega)
          have hm1 : a % (ns.length : Int) < ns.length := Int.emod_lt_of_pos _ (by omega)
          obtain ⟨x, hx⟩ : ∃ x, ns[(a % (ns.length : Int)).toNat]? = some x := ⟨_, List.getElem?_eq_getElem (by omega)⟩
          refine ⟨_, rfl, p, .ref c, rfl, dg_cells e1, _, rfl, .inl ⟨_, rfl, ?_⟩⟩
          refine ⟨_, rfl, p, .ref c, rfl, dg_cells e1, .ref c, ns.length, rfl, .inl ⟨_, SqL.of e2, by rw [List.length_map]⟩, _, _, rfl, rfl, by omega, ?_⟩
          refine ⟨c, ns.map V.int, _, .int x, rfl, rfl, SqL.of e2, ?_, ?_⟩
          · have q := atI_nat (xs := ns.map V.int) (j := (a % (ns.length : Int)).toNat) (v := .int x) (by rw [List.getElem?_map, hx]; rfl)
            rw [Int.toNat_of_nonneg hm0] at q
            exact q
          · exact ⟨x, rfl, hsu⟩
      · rintro σ' H' ⟨cell, rfl, s1⟩
        have e1 := s1 _ _ g1
        have e2 := s1 _ _ g2
        refine ⟨_, rfl, _, rfl, p, .ref c, rfl, dg_cells e1, .ref c, ns.length, rfl, .inl ⟨_, SqL.of e2, by rw [List.length_map]⟩, _, _, rfl, rfl, _, rfl, ?_⟩
        have P18 : CPow 10 18 := ⟨by decide, by decide, by decide⟩
        have fin : ∀ (r : Int) (H2 : Hp) (l2 : Int), 0 ≤ r → r < many → H2 = upd H' p (.dK (penKvs c (a + 1) l2)) ∨ H2 = H' → Q (.int r) H2 := by
          intro r H2 l2 r0 r1 e
          have g3' : SameBut p H H' := g3.trans (.of s1)
          rcases e with rfl | rfl
          · exact k r _ r0 r1 ⟨ns, a + 1, l2, upd_same, by rw [upd_ne ncp]; exact e2, h3, by omega, by omega⟩ (g3'.trans .upd)
          · exact k r _ r0 r1 ⟨ns, a + 1, l, e1, e2, h3, by omega, by omega⟩ g3'
        have last : (tSeq (tAsg (tOp (rI0 fun i j => .int (i + j)) (tOp (rI0 fun i j => .int (i + j)) (tOp (rI0 fun i j => .int (i + j)) (tOp (rI CMul fun i j => .int (i * j)) (tOp (rI (fun _ j => 0 < j) fun i j => .int (i % j)) (tCB (fun xs H Q => (∃ i, xs = [V.int i] ∧ Q (.int i) H) ∨ ∃ k, xs = [V.bl k] ∧ Q (.int (if k then 1 else 0)) H) (tCons (tVar 4) tNil)) (tC (.int 2147483587))) (tC (.int 48271))) (tOp (rI CMul fun i j => .int (i * j)) (tOp (rI CMul fun i j => .int (i * j)) (tC (.int 40014)) (tVar 3)) (tVar 3))) (tOp (rI CMul fun i j => .int (i * j)) (tC (.int 59)) (tVar 3))) (tC (.int 17))) (gName 5))
            (tSeq (tAsg (tOp (rI (fun _ j => 0 < j) fun i j => .int (i % j)) (tCB (fun xs H Q => (∃ i, xs = [V.int i] ∧ Q (.int i) H) ∨ ∃ k, xs = [V.bl k] ∧ Q (.int (if k then 1 else 0)) H) (tCons (tVar 5) tNil)) (tC (.int 2147483629))) (gName 5))
            (tSeq (tAsg (tOp (rI (fun _ j => 0 < j) fun i j => .int (i % j)) (tCB (fun xs H Q => (∃ i, xs = [V.int i] ∧ Q (.int i) H) ∨ ∃ k, xs = [V.bl k] ∧ Q (.int (if k then 1 else 0)) H) (tCons (tOp (rI CMul fun i j => .int (i * j)) (tVar 5) (tOp (rI0 fun i j => .int (i + j)) (tVar 5) (tC (.int 69621)))) tNil)) (tC (.int 2147483549))) (gName 5))
            (tRet (tOp (rI (fun _ j => 0 < j) fun i j => .int (i % j)) (tCB (fun xs H Q => (∃ i, xs = [V.int i] ∧ Q (.int i) H) ∨ ∃ k, xs = [V.bl k] ∧ Q (.int (if k then 1 else 0)) H) (tCons (tOp (rI CDiv fun i j => .int (i / j)) (tOp (rI (fun _ j => 0 < j) fun i j => .int (i % j)) (tCB (fun xs H Q => (∃ i, xs = [V.int i] ∧ Q (.int i) H) ∨ ∃ k, xs = [V.bl k] ∧ Q (.int (if k then 1 else 0)) H) (tCons (tOp (rI CMul fun i j => .int (i * j)) (tVar 5) (tVar 5)) tNil)) (tC (.int 2147483579))) (tC (.int 32))) tNil)) (tVar 1))))))
            { nx := fun _ H' => Q .non H', rt := Q } [some (.ref p), some (.int many), none, some (.int a), some (.int cell), none] H' := by
          refine ⟨_, rfl, .inl ⟨_, rfl, _, _, rfl, rfl, (show (0 : Int) < 2147483587 by decide), _, _, rfl, rfl, .inr ⟨by decide, by decide⟩, _, rfl, _, _, rfl, rfl, .inl ⟨by decide, by decide⟩, _, rfl, _, _, rfl, rfl, .inr ⟨by omega, by omega⟩, _, _, rfl, rfl, _, rfl, _, _, rfl, rfl, .inl ⟨by decide, by decide⟩, _, _, rfl, rfl, _, _, rfl, rfl, ?_⟩⟩
          refine ⟨_, rfl, .inl ⟨_, rfl, _, _, rfl, rfl, (show (0 : Int) < 2147483629 by decide), ?_⟩⟩
          have x0 := Int.emod_nonneg (cell % 2147483587 * 48271 + 40014 * a * a + 59 * a + 17) (show (2147483629 : Int) ≠ 0 by decide)
          have x1 := Int.emod_lt_of_pos (cell % 2147483587 * 48271 + 40014 * a * a + 59 * a + 17) (show (0 : Int) < 2147483629 by decide)
          generalize (cell % 2147483587 * 48271 + 40014 * a * a + 59 * a + 17) % 2147483629 = x at x0 x1 ⊢
          refine ⟨_, rfl, _, rfl, _, _, rfl, rfl, _, _, rfl, rfl, .inl ⟨by omega, by omega⟩, .inl ⟨_, rfl, _, _, rfl, rfl, (show (0 : Int) < 2147483549 by decide), ?_⟩⟩
          have y0 := Int.emod_nonneg (x * (x + 69621)) (show (2147483549 : Int) ≠ 0 by decide)
          have y1 := Int.emod_lt_of_pos (x * (x + 69621)) (show (0 : Int) < 2147483549 by decide)
          generalize (x * (x + 69621)) % 2147483549 = y at y0 y1 ⊢
          refine ⟨_, rfl, _, rfl, _, _, rfl, rfl, .inl ⟨by omega, by omega⟩, .inl ⟨_, rfl, _, _, rfl, rfl, (show (0 : Int) < 2147483579 by decide), _, _, rfl, rfl, ⟨by decide, by decide⟩, .inl ⟨_, rfl, _, rfl, _, _, rfl, rfl, m0, ?_⟩⟩⟩
          exact fin _ _ l (Int.emod_nonneg _ (by omega)) (Int.emod_lt_of_pos _ m0) (.inr rfl)
        by_cases c3 : a < ns.length
        · refine ifT c3 ?_
          refine ⟨_, rfl, _, _, rfl, rfl, P18, _, _, rfl, rfl, _, rfl, ?_⟩
          by_cases c4 : (10 : Int) ^ (18 : Int).toNat ≤ cell
          · refine ifT c4 ?_
            refine ⟨_, rfl, _, _, rfl, rfl, P18, _, _, rfl, rfl, _, rfl, _, _, rfl, rfl, ⟨m0, m1⟩, _, rfl, p, _, rfl, dp_left e1, ?_⟩
            refine ⟨_, rfl, _, _, rfl, rfl, P18, _, _, rfl, rfl, .inl ⟨_, rfl, _, rfl, _, _, rfl, rfl, m0, ?_⟩⟩
            exact fin _ _ _ (Int.emod_nonneg _ (by omega)) (Int.emod_lt_of_pos _ m0) (.inl rfl)
          · refine ifF c4 ?_
            exact last
        · refine ifF c3 ?_
          exact last
theorem sc_pick : FnScope ["pen", "items"] ["pen", "items"] (defScope s__law_pick) := ⟨rfl, rfl, rfl, by decide +kernel, rfl, by decide +kernel, by decide +kernel⟩
theorem ok_pick (T : TxtP K mg f1 f2 f3 d1 d2 d3) : FnOk P w K mg base CX0 2 f3 d3 ["pen", "items"] spPick := by
  have sc := sc_pick
  have G__law_draw : FnOk P w K mg base CX0 1 f2 d2 ["pen", "many"] spDraw := ok_draw T
  refine T.D__law_pick.F.ok sc (fun vs H Q E h => ?_) (fun cdv A outer s H vs Q E hr h => ?_)
  · obtain ⟨_, _, _, _, _, rfl, _⟩ := h; rfl
  · obtain ⟨p, c, q, xs, n, rfl, hp, hn, hq, x0, x1, k⟩ := h
    refine ⟨_, (pss_one (ps_ret (pe_ix ix_list (pv 1) (pe_call G__law_draw (hr.mono (by decide)) rfl T.D__law_draw.g T.D__law_draw.F.kp T.D__law_draw.b .nil pass0 (pa_cons (pv 0) (pa_cons (pe_callB call_len (by rfl) T.n_len (by decide +kernel) (pa_cons (pv 1) pa_nil)) pa_nil))) (fun _ _ => rfl)))), ?_⟩
    refine ⟨_, rfl, _, rfl, _, rfl, .ref q, xs.length, rfl, .inl ⟨_, SqL.of hq, rfl⟩, p, c, _, n, rfl, hp, hn, by omega, by omega, fun r H' r0 r1 hp' sb => ?_⟩
    obtain ⟨x, hx⟩ : ∃ x, xs[r.toNat]? = some x := ⟨_, List.getElem?_eq_getElem (by omega)⟩
    refine ⟨q, xs, r, x, rfl, rfl, SqL.of (sb _ _ hq (hp.ne hq)), ?_, k x _ H' hx hp' sb⟩
    have z := atI_nat hx
    rw [Int.toNat_of_nonneg r0] at z
    exact z
end
end Kx

namespace Own
open PySem L2 PyProof.Rows PySem.Froz
/-! ### sets of texts, as they grow -/
/-- the table stands in its order, and is told -/
def Tidy (w : World) (D : SD) : Prop := Ris D.2.2.place.toList ∧ (w.params.followText "set-order" = true ∨ D.2.2.led = true)
theorem tidy_tail {w : World} {ep : Nat} {es : Array (Int × Value)} {t : SetTable} {b : Bool} (h : Tidy w (es, ep, t)) : Tidy w (tailTx ep es t b) := by
  unfold tailTx
  split
  · exact ⟨relayAll_ris t es _, h.2.imp id fun z => (relayAll_led t es _).trans z⟩
  · exact h
theorem tidy_add {w : World} {k : Int} {v : Value} {D : SD} (h : Tidy w D) : Tidy w (addTx k v D) := by
  refine tidy_tail ?_
  have r := layNew_ris D.2.2 D.1 k v h.1
  have l := layNew_led D.2.2 D.1 k v
  split
  · exact ⟨r, h.2.imp id fun z => l.trans z⟩
  · exact ⟨r, h.2.imp id fun z => l.trans z⟩
/-- the set at a holds the texts l, each once -/
def SetS (P : Program) (w : World) (h : Heap) (a : Addr) (l : List Str) : Prop := ∃ D : SD, h.get? a = some (sObj "set" D) ∧ Tidy w D ∧ TxOk P w D l ∧ l.Nodup
section
variable {P : Program} {w : World} {A : Around} {E : Value → Shared → Prop} {s : Shared} {a : Addr} {l : List Str} {k : Str} {u : Tok}
theorem SetS.at {h h' : Heap} (R : SetS P w h a l) (e : ∀ o, h.get? a = some o → h'.get? a = some o) : SetS P w h' a l := by
  obtain ⟨D, q, r⟩ := R
  exact ⟨D, e _ q, r⟩
/-- a text that is there already -/
theorem stay_s {D : SD} {Q : Bool → Shared → Prop} (ho : s.heap.get? a = some (sObj "set" D)) (F : TxOk P w D l) (hb : l.length < scanBound) (hk : k ∈ l) (q : Q false s) : wpAny (model P w) A (setAddHashed a (.str k u) (hashStr w k)) Q E s := by
  obtain ⟨es, ep, t⟩ := D
  have sz : es.size < scanBound := by rw [show es.size = l.length from F.sz]; exact hb
  unfold setAddHashed setAddHashedIn
  refine wpAny_holding (wpAny_bind (wpAny_setState_of ho rfl F.fit ?_))
  dsimp only
  rw [byScan_of (knd := strKind P w) rfl sz F.el]
  simp only [↓reduceIte]
  unfold setAddByScan
  refine wpAny_bind (wpAny_bind (wpAny_rule (wpAny_bind (wpAny_setScan_of (knd := strKind P w) (k := k) (is_str k u) ho rfl F.fit F.el ?_))))
  obtain ⟨e, he, hq⟩ := (F.mem k).mp hk
  cases c : List.findIdx? (fun e => (strKind P w).is k e.2) es.toList with
  | some j => exact wpAny_pure (wpAny_pure q)
  | none =>
    have z := List.findIdx?_eq_none_iff.mp c e he
    rw [hq] at z
    cases z
/-- one more text -/
theorem put_s {Q : Bool → Shared → Prop} (R : SetS P w s.heap a l) (hb : l.length + 1 < scanBound) (q : ∀ h' l' b, Heap.SameBut a s.heap h' → SetS P w h' a l' → (∀ x, x ∈ l' ↔ x ∈ l ∨ x = k) → l'.length ≤ l.length + 1 → Q b { s with heap := h' }) :
    wpAny (model P w) A (setAddHashed a (.str k u) (hashStr w k)) Q E s := by
  obtain ⟨D, ho, td, F, nd⟩ := R
  by_cases c : k ∈ l
  · exact stay_s ho F (by omega) c (q s.heap l false (.refl _ _) ⟨D, ho, td, F, nd⟩ (fun x => ⟨.inl, fun z => z.elim id fun e => e ▸ c⟩) (by omega))
  · refine add_x ho F c hb (q _ (k :: l) true (Heap.SameBut.update _ _ _) ⟨_, get_upd _ ho rfl, tidy_add td, add_ok u F, List.nodup_cons.mpr ⟨c, nd⟩⟩ (fun x => ?_) (Nat.le_refl _))
    rw [List.mem_cons]
    exact Or.comm
/-- set.update's loop over a walk of texts -/
theorem fill_s {I : Addr} {fp wr : List Addr} {n : Nat} {St : Nat → Heap → Prop} {Pv : Nat → Value → Prop} {R : Result → Shared → Prop} (W : Walks P w A.in1 I fp wr n Pv St) (ha : a ∉ fp) (xs : List Str) (hn : n = xs.length) (hb : n + 1 < scanBound) (hv : ∀ i v, Pv i v → ∃ x t, xs[i]? = some x ∧ v = .str x t)
    (fin : ∀ (h' : Heap) tk l', (∀ b o, b ≠ a → b ∉ wr → s.heap.get? b = some o → h'.get? b = some o) → SetS P w h' a l' → (∀ x, x ∈ l' ↔ x ∈ xs) → l'.length ≤ xs.length → R (.ok (.ret .none)) { s with heap := h', toks := tk }) :
    ∀ (m i : Nat) (h1 : Heap) (tk : Nat), i + m = n → St i h1 → (∀ b o, b ≠ a → b ∉ wr → s.heap.get? b = some o → h1.get? b = some o) → (∃ l, SetS P w h1 a l ∧ (∀ x, x ∈ l ↔ x ∈ xs.take i) ∧ l.length ≤ i) →
      codeAny (model P w) A (.builtin "set.update.loop" ⟨[.ref a, .ref I], []⟩) R { s with heap := h1, toks := tk } := by
  have hw : a ∉ wr := fun z => ha (W.sub _ z)
  intro m
  induction m with
  | zero =>
    intro i h1 tk e st k1 ⟨l, hs, hm, hl⟩
    have e' : i = n := e
    subst e'
    refine codeAny_builtin F.entry_set_update_loop ?_
    rw [Around.under_plainId F.plain_set_update_loop _]
    refine wpAny_bind (W.done { s with heap := h1, toks := tk } _ _ st fun h2 t2 k2 => wpAny_pure (fin h2 t2 l (fun b o b1 b2 e => k2 b o b2 (k1 b o b1 b2 e)) (hs.at fun o e => k2 a o hw e) (fun x => ?_) (by omega)))
    rw [hm x, List.take_of_length_le (by omega)]
  | succ m ih =>
    intro i h1 tk e st k1 ⟨l, hs, hm, hl⟩
    refine codeAny_builtin F.entry_set_update_loop ?_
    rw [Around.under_plainId F.plain_set_update_loop _]
    refine wpAny_bind (W.item i { s with heap := h1, toks := tk } _ _ (by omega) st fun v h2 t2 hp st2 k2 => ?_)
    obtain ⟨x, t, hx, rfl⟩ := hv i v hp
    refine wpAny_bind (m := holding _ (setAdd a _)) (wpAny_holding ?_)
    unfold setAdd
    refine wpAny_holding (wpAny_bind ((strKind P w).pyHash (k := x) (is_str x t) ?_))
    refine put_s (s := { s with heap := h2, toks := t2 + 1 }) (hs.at fun o e => k2 a o hw e) (by omega) fun h3 l3 b sb hs3 hm3 hl3 => ?_
    have k3 : ∀ b o, b ≠ a → h2.get? b = some o → h3.get? b = some o := fun b o q z => (sb.2 b q).trans z
    refine wpAny_pure ⟨plainId_quiet F.plain_set_update_loop _, ih (i + 1) h3 _ (by omega) (W.frame _ _ _ st2 fun b hbf o z => k3 b o (fun q => ha (q ▸ hbf)) z) (fun b o b1 b2 z => k3 b o b1 (k2 b o b2 (k1 b o b1 b2 z))) ⟨l3, hs3, fun y => ?_, by omega⟩⟩
    rw [hm3 y, hm y, List.take_add_one, hx]
    simp
end
end Own

namespace Own
open PySem L2 PyProof.Rows PySem.Froz
/-- the set that has just been made -/
def newSetO (w : World) : Obj := { cls := .type "set", dict := none, data := .set #[] 0 (.fresh 0 0 (!w.params.followText "set-order")) }
theorem new_s (P : Program) (w : World) {h : Heap} {a : Addr} (e : h.get? a = some (newSetO w)) : SetS P w h a [] := by
  refine ⟨(#[], 0, .fresh 0 0 (!w.params.followText "set-order")), e, ⟨List.Pairwise.nil, ?_⟩, .nil (by rfl), List.nodup_nil⟩
  show _ ∨ (!w.params.followText "set-order") = true
  cases w.params.followText "set-order"
  · exact .inr rfl
  · exact .inl rfl
/-- what can be walked, and gives the texts xs: x of the type T -/
structure Gives (P : Program) (w : World) (E : Value → Shared → Prop) (s : Shared) (x : Value) (T : String) (xs : List Str) : Prop where
  ty : ∀ s1 : Shared, (∀ b o, s.heap.get? b = some o → s1.heap.get? b = some o) → s1.TypeIs x T
  no1 : isSubtype (.type T) (.type "set") = pure false
  no2 : isSubtype (.type T) (.type "frozenset") = pure false
  no3 : (Value.type T == Value.type "dict") = false
  it : ∀ (A : Around) (s1 : Shared) (Q : Value → Shared → Prop), A.handled = none → (∀ b o, s.heap.get? b = some o → s1.heap.get? b = some o) →
    (∀ (o : Obj) (fp : List Addr) (St : Nat → Heap → Prop) (Pv : Nat → Value → Prop), (∀ B : Around, B.handled = none → Walks P w B s1.heap.objs.size fp [s1.heap.objs.size] xs.length Pv St) →
      (∀ b ∈ fp, b = s1.heap.objs.size ∨ ∃ o, s.heap.get? b = some o) → (∀ i v, Pv i v → ∃ y t, xs[i]? = some y ∧ v = .str y t) → St 0 (s1.heap.push o) → Q (.ref s1.heap.objs.size) { s1 with heap := s1.heap.push o }) →
    wpAny (model P w) A (pyIter x) Q E s1
section
variable {P : Program} {w : World} {A : Around} {E : Value → Shared → Prop} {s : Shared} {x : Value} {T : String} {xs : List Str}
theorem upd_fr {a : Addr} {s1 : Shared} {Q : Unit → Shared → Prop} (g : Gives P w E s x T xs) (hh : A.handled = none) (k : ∀ b o, s.heap.get? b = some o → s1.heap.get? b = some o) (na : s.heap.get? a = none) (S : SetS P w s1.heap a []) (hb : xs.length + 1 < scanBound)
    (q : ∀ (h' : Heap) tk l, (∀ b o, b ≠ a → s1.heap.get? b = some o → h'.get? b = some o) → SetS P w h' a l → (∀ y, y ∈ l ↔ y ∈ xs) → l.length ≤ xs.length → Q () { s1 with heap := h', toks := tk }) :
    wpAny (model P w) A (Builtin.Frozenset.updateFrom "set.__init__" a x) Q E s1 := by
  have ty := g.ty s1 k
  unfold Builtin.Frozenset.updateFrom
  refine wpAny_bind (m := Builtin.Frozenset.isAnySet x) ?_
  · unfold Builtin.Frozenset.isAnySet orM
    refine wpAny_bind (wpAny_isInstance ty g.no1 ?_)
    refine wpAny_isInstance ty g.no2 ?_
    dsimp only
    simp only [Bool.false_eq_true, ↓reduceIte]
    refine wpAny_bind (wpAny_typeOf ty ?_)
    rw [g.no3]
    simp only [Bool.false_eq_true, ↓reduceIte]
    refine wpAny_bind (g.it A s1 _ hh k fun o fp St Pv W hfp hv st => ?_)
    have ha : a < s1.heap.objs.size := by
      obtain ⟨D, e, _⟩ := S
      exact Heap.lt_size e
    have hf : a ∉ fp := fun z => by
      rcases hfp a z with e | ⟨o, e⟩
      · exact Nat.ne_of_lt ha e
      · rw [na] at e; cases e
    refine wpAny_bind (wpAny_runValue ?_)
    refine fill_s (s := { s1 with heap := s1.heap.push o }) (W A.in1 hh) hf xs rfl hb hv (fun h' tk l kk hs hm hl => ?_) xs.length 0 (s1.heap.push o) s1.toks (by omega) st (fun b o' _ _ e => e) ⟨[], S.at fun o' e => Heap.get?_push_of_some _ e, fun y => by simp, Nat.le_refl _⟩
    refine wpAny_pure (q h' tk l (fun b u hb' e => kk b u hb' (fun z => ?_) (Heap.get?_push_of_some _ e)) hs hm hl)
    exact Nat.ne_of_lt (Heap.lt_size e) (List.mem_singleton.mp z)
theorem call_setG (g : Gives P w E s x T xs) (hh : A.handled = none) (hb : xs.length + 1 < scanBound) {Q : Value → Shared → Prop}
    (q : ∀ (h' : Heap) tk l, (∀ b o, s.heap.get? b = some o → h'.get? b = some o) → SetS P w h' s.heap.objs.size l → (∀ y, y ∈ l ↔ y ∈ xs) → l.length ≤ xs.length → Q (.ref s.heap.objs.size) { s with heap := h', toks := tk }) :
    wpAny (model P w) A (call (.type "set") [x]) Q E s := by
  obtain ⟨c, tl, hmro⟩ := F.called_set.mro
  have k1 := F.called_set.made
  have k2 := F.called_set.sub
  have k3 := F.called_set.notType
  have k4 := F.called_set.canCreate
  have k5 := F.typeCall_set_1 x
  refine wpAny_call (codeAny_of_tree ?_)
  show wpAny _ _ (callAny (.type "set") _) _ _ _
  refine wpAny_pure ⟨Code.quiet_builtin _ (by decide +kernel), codeAny_builtin F.entry_type_call ?_⟩
  rw [Around.under_plain (weight_type_call_type "set" [x] []) rfl]
  repeat (any_goals (first | assumption | wp_step))
  have na : s.heap.get? s.heap.objs.size = none := by
    cases e : s.heap.get? s.heap.objs.size with
    | none => rfl
    | some o => exact absurd (Heap.lt_size e) (Nat.lt_irrefl _)
  have hp : ∀ b o, s.heap.get? b = some o → (s.heap.push (newSetO w)).get? b = some o := fun b o e => Heap.get?_push_of_some _ e
  have hn : (s.heap.push (newSetO w)).get? s.heap.objs.size = some (newSetO w) := Heap.get?_push_size _ rfl
  refine codeAny_mono (code_set_led1 x (E := E) (Q₁ := fun obj z => obj = .ref s.heap.objs.size ∧ z = { s with heap := s.heap.push (newSetO w) }) ⟨rfl, rfl⟩) fun r z hr => ?_
  cases r with
  | error e => exact hr
  | ok fl =>
    cases fl with
    | ret obj =>
      obtain ⟨rfl, rfl⟩ := hr
      have hT : Shared.TypeIs { s with heap := s.heap.push (newSetO w) } (.ref s.heap.objs.size) "set" := ⟨_, hn, rfl⟩
      have k6 := F.called_set.init.lookup
      have k7 := F.called_set.init.bind (.ref s.heap.objs.size)
      repeat (any_goals (first | assumption | wp_step))
      refine codeAny_mono (codeAny_call_builtin (R := wants (fun r z => r = .none ∧ ∃ h' tk l, z = { s with heap := h', toks := tk } ∧ (∀ b o, s.heap.get? b = some o → h'.get? b = some o) ∧ SetS P w h' s.heap.objs.size l ∧ (∀ y, y ∈ l ↔ y ∈ xs) ∧ l.length ≤ xs.length) E)
        F.called_set.init.plain F.entry_set_init (check_set_init_1 hT ?_)) fun r2 z2 hr2 => ?_
      · unfold Builtin.«set.__init__» noKeywords
        generalize hU : @Builtin.Frozenset.updateFrom = U
        wp_walk
        subst hU
        refine upd_fr (E := E) (s1 := { s with heap := s.heap.push (newSetO w) }) g hh hp na (new_s P w hn) hb fun h' tk l kk hs hm hl => ?_
        exact wpAny_pure ⟨rfl, h', tk, l, rfl, fun b o e => kk b o (Nat.ne_of_lt (Heap.lt_size e)) (hp b o e), hs, hm, hl⟩
      · cases r2 with
        | error e => exact hr2
        | ok fl2 =>
          cases fl2 with
          | ret r =>
            obtain ⟨rfl, h', tk, l, rfl, kk, hs, hm, hl⟩ := hr2
            repeat (any_goals (first | assumption | wp_step))
            exact q h' tk l kk hs hm hl
          | _ => exact hr2.elim
    | _ => exact hr.elim
end
end Own

namespace Own
open PySem PySem.Spec L2 PyProof.Rows PySem.Froz
section
variable {P : Program} {w : World} {A : Around} {E : Value → Shared → Prop} {s : Shared} {xs : List Str}
/-- a list of texts -/
theorem gives_list {l : Addr} {us : List Value} (hl : s.heap.IsList l us.toArray) (hu : StrsAre us xs) : Gives P w E s (.ref l) "list" xs where
  ty := fun s1 k => by
    obtain ⟨o, e, r⟩ := hl
    exact ⟨o, k l o e, r.1⟩
  no1 := F.sub_list_set
  no2 := F.sub_list_frozenset
  no3 := by decide
  it := fun A s1 Q hh k q => by
    have hl1 : s1.heap.IsList l us.toArray := by
      obtain ⟨o, e, r⟩ := hl
      exact ⟨o, k l o e, r⟩
    have hb : l < s1.heap.objs.size := by
      obtain ⟨o, e, _⟩ := hl1
      exact Heap.lt_size e
    have hz : us.toArray.size = xs.length := by rw [List.size_toArray]; exact hu.length
    refine wpAny_pyIter_list hl1 (q _ [s1.heap.objs.size, l] (fun i h => h.IsListIter s1.heap.objs.size l i ∧ h.IsList l us.toArray) (fun i v => us.toArray[i]? = some v) (fun B hB => ?_) (fun b hb => ?_) (fun i v e => ?_) ⟨⟨_, Heap.get?_push_size _ rfl, rfl, rfl⟩, hl1.push _⟩)
    · rw [← hz]
      exact Walks.list hB _ l (Nat.ne_of_lt hb) us.toArray
    · rcases List.mem_cons.mp hb with z | z
      · exact .inl z
      · rw [List.mem_singleton.mp z]
        obtain ⟨o, e, _⟩ := hl
        exact .inr ⟨o, e⟩
    · obtain ⟨y, t, z, e2⟩ := hu.item i v (by rw [← e]; simp)
      exact ⟨y, t, e2, z⟩
/-- a tuple of texts -/
theorem gives_tup {l : Addr} {us : List Value} (hl : s.heap.IsTuple l us.toArray) (hu : StrsAre us xs) : Gives P w E s (.ref l) "tuple" xs where
  ty := fun s1 k => by
    obtain ⟨o, e, r⟩ := hl
    exact ⟨o, k l o e, r.1⟩
  no1 := F.sub_tuple_set
  no2 := F.sub_tuple_frozenset
  no3 := by decide
  it := fun A s1 Q hh k q => by
    have hl1 : s1.heap.IsTuple l us.toArray := by
      obtain ⟨o, e, r⟩ := hl
      exact ⟨o, k l o e, r⟩
    have hb : l < s1.heap.objs.size := by
      obtain ⟨o, e, _⟩ := hl1
      exact Heap.lt_size e
    have hz : us.toArray.size = xs.length := by rw [List.size_toArray]; exact hu.length
    refine wpAny_pyIter_tuple hl1 (q _ [s1.heap.objs.size, l] (fun i h => h.IsTupleIter s1.heap.objs.size l i ∧ h.IsTuple l us.toArray) (fun i v => us.toArray[i]? = some v) (fun B hB => ?_) (fun b hb => ?_) (fun i v e => ?_) ⟨⟨_, Heap.get?_push_size _ rfl, rfl, rfl⟩, hl1.push _⟩)
    · rw [← hz]
      exact Walks.tuple hB _ l (Nat.ne_of_lt hb) us.toArray
    · rcases List.mem_cons.mp hb with z | z
      · exact .inl z
      · rw [List.mem_singleton.mp z]
        obtain ⟨o, e, _⟩ := hl
        exact .inr ⟨o, e⟩
    · obtain ⟨y, t, z, e2⟩ := hu.item i v (by rw [← e]; simp)
      exact ⟨y, t, e2, z⟩
/-- the letters of a text -/
def letters (x : Str) : List Str := x.cps.toList.map sing
theorem gives_str {x : Str} {t : Tok} : Gives P w E s (.str x t) "str" (letters x) where
  ty := fun s1 _ => typeIs_str _ _ _
  no1 := PySem.F.sub_str_set
  no2 := PySem.F.sub_str_frozenset
  no3 := by decide
  it := fun A s1 Q hh k q => by
    refine wpAny_pyIter_str fun o St W st => q o [s1.heap.objs.size] St (SignAt x) (fun B hB => ?_) (fun b hb => .inl (List.mem_singleton.mp hb)) (fun i v e => ?_) st
    · have hz : (letters x).length = x.cps.size := by unfold letters; rw [List.length_map, Array.length_toList]
      rw [hz]
      exact W B hB
    · obtain ⟨c, u, e1, e2⟩ := e
      refine ⟨sing c, u, ?_, e2⟩
      unfold letters
      rw [List.getElem?_map, Array.getElem?_toList, e1]
      rfl
/-- a row of texts that has all of l, and is no longer -/
theorem perm_s : ∀ (l ys : List Str), l.Nodup → (∀ x ∈ l, x ∈ ys) → ys.length ≤ l.length → ys.Perm l
  | [], ys, _, _, h => by
    cases ys with
    | nil => exact .nil
    | cons y r => simp at h
  | x :: l, ys, nd, hs, h => by
    obtain ⟨n1, n2⟩ := List.nodup_cons.mp nd
    have hx := hs x List.mem_cons_self
    have le : (ys.erase x).length ≤ l.length := by
      rw [List.length_erase_of_mem hx]
      rw [List.length_cons] at h
      omega
    refine (List.perm_cons_erase hx).trans ((perm_s l (ys.erase x) n2 (fun y hy => ?_) le).cons x)
    exact (List.mem_erase_of_ne (fun e : y = x => n1 (e ▸ hy))).mpr (hs y (List.mem_cons_of_mem _ hy))
def textOf : Value → Str
  | .str x _ => x
  | _ => Str.empty
theorem strs_map : ∀ vs : List Value, (∀ v ∈ vs, ∃ x t, v = .str x t) → StrsAre vs (vs.map textOf)
  | [], _ => .nil
  | v :: vs, h => by
    obtain ⟨x, t, rfl⟩ := h v List.mem_cons_self
    exact .cons x t (strs_map vs fun u hu => h u (List.mem_cons_of_mem _ hu))
/-- sorted(set) -/
theorem sorted_s {a : Addr} {l : List Str} {Q : Value → Shared → Prop} (R : SetS P w s.heap a l) (hh : A.handled = none) (hb : l.length < scanBound)
    (q : ∀ s' p (out : Array Value) (c : Nat) (ys : List Str), (∀ b o, s.heap.get? b = some o → s'.heap.get? b = some o) → s'.gens = s.gens → s'.os = s.os → s.heap.objs.size ≤ p →
      s'.heap.get? p = some (seqObj "list" out c) → StrsAre out.toList ys → ys.Perm l → sortedS ys = true → Q (.ref p) s') :
    wpAny (model P w) A (call (.builtin "sorted") [.ref a]) Q E s := by
  obtain ⟨D, ho, td, F, nd⟩ := R
  refine Calls.call_function_entry kind_sorted plain_sorted entry_sorted (args_sorted1 _) ?_
  unfold Builtin.«sorted»
  refine wpAny_bind (m := checkCount "sorted" 1 1 _) (wpAny_pure ?_)
  have sz : D.1.size = l.length := F.sz
  refine wpAny_bind (collect_set (A := A.in1) hh ⟨_, ho, rfl, rfl⟩ F.fit (by rw [sz]; exact hb) td.1 td.2 fun s1 vs k1 z1 g1 o1 pm => ?_)
  have sv : ∀ v ∈ vs, ∃ x t, v = .str x t ∧ ∃ e ∈ D.1.toList, e.2 = v := fun v hv => by
    obtain ⟨e, he, e2⟩ := List.mem_map.mp (pm.mem_iff.mp hv)
    obtain ⟨⟨k, hk, _⟩, _⟩ := F.el e he
    obtain ⟨t, z⟩ := Value.isStrOf_shape (x := k) (v := e.2) hk
    exact ⟨k, t, e2.symm.trans z, e, he, e2⟩
  have hS : StrsAre vs (vs.map textOf) := strs_map vs fun v hv => let ⟨x, t, z, _⟩ := sv v hv; ⟨x, t, z⟩
  have hlen : vs.length = l.length := by rw [pm.length_eq, List.length_map, Array.length_toList]; exact sz
  have hp : (vs.map textOf).Perm l := perm_s l _ nd (fun x hx => by
    obtain ⟨e, he, z⟩ := (F.mem x).mp hx
    obtain ⟨t, z2⟩ := Value.isStrOf_shape (x := x) (v := e.2) z
    exact List.mem_map.mpr ⟨e.2, pm.mem_iff.mpr (List.mem_map.mpr ⟨e, he, rfl⟩), by rw [z2]; rfl⟩) (by rw [List.length_map]; omega)
  have fit : vs.length ≤ sizeLine := by rw [hlen]; exact fits_of_scanBound hb
  refine wpAny_bind (wpAny_newList ?_ fit)
  have hoL : (s1.heap.push (seqObj "list" vs.toArray 0)).get? s1.heap.objs.size = some (seqObj "list" vs.toArray 0) := Heap.get?_push_size _ rfl
  refine wpAny_bind (wpAny_holding (wpAny_call_entry slot_list_sort ⟨_, hoL, rfl⟩ entry_list_sort
    (list_sort_treeKAny strKind_oneLt hoL hS.keysOf (fun v₁ v₂ rest e => keyKind_strs (by rw [← e]; exact hS)) fit fun st a1 a2 => ⟨_, rfl, ?_⟩) (args_list_sort _)))
  obtain ⟨ys, b1, b2, b3⟩ := sorted_out_str hS a1 a2
  obtain ⟨c, hc⟩ := sortedHeap_at (vs := vs) (out := (arrOf st).map (·.2)) hoL
  refine wpAny_pure ⟨_, rfl, q _ s1.heap.objs.size _ c ys (fun b u e => ?_) g1 o1 z1 hc b1 (b2.trans hp) b3⟩
  have e1 := k1 b u e
  have lt := Heap.lt_size e1
  have e2 := sortedHeap_old (h := s1.heap.push (seqObj "list" vs.toArray 0)) (a := s1.heap.objs.size) (vs := vs) (out := (arrOf st).map (·.2)) (b := b) (Nat.ne_of_lt lt) (by rw [size_push']; exact Nat.lt_succ_of_lt lt)
  exact e2.trans (Heap.get?_push_of_some _ e1)
/-- len(set) -/
theorem len_s {a : Addr} {l : List Str} {Q : Value → Shared → Prop} (R : SetS P w s.heap a l) (hb : l.length < scanBound) (q : Q (.int l.length (s.toks + 1)) { s with toks := s.toks + 1 + 1 }) :
    wpAny (model P w) A (call (.builtin "len") [.ref a]) Q E s := by
  obtain ⟨D, ho, td, F, nd⟩ := R
  have sz : D.1.size = l.length := F.sz
  refine call_len_set ho ⟨rfl, rfl, rfl⟩ rfl F.fit ?_ (by rw [sz]; exact q)
  rw [sz]
  have : (l.length : Int) < 4096 := by unfold scanBound at hb; omega
  exact Int.lt_of_lt_of_le this (by decide +kernel)
/-- x in set -/
theorem in_s {a : Addr} {l : List Str} (R : SetS P w s.heap a l) (hb : l.length < scanBound) : s.heap.SetOf (PySem.strKind P w) a (fun k => decide (k ∈ l)) l.length := by
  obtain ⟨D, ho, td, F, nd⟩ := R
  exact ⟨_, D.1, D.2.1, D.2.2, ho, ⟨rfl, rfl, rfl⟩, rfl, F.el, fun k => by rw [decide_eq_true_eq]; exact F.mem k, by rw [show D.1.size = l.length from F.sz]; exact hb, F.fit, F.sz⟩
end
end Own

namespace Own
open PySem PySem.Spec L2 PyProof.Rows PySem.Froz
/-- a set of texts on the tracked heap -/
def SetT (P : Program) (w : World) (a : Addr) (l : List Str) : HO := .ext fun h => SetS P w h a l
theorem setT_ok {P : Program} {w : World} {H : Hp} {h : Heap} {a : Addr} {l : List Str} (R : SetS P w h a l) : ObjOk P w H h a (SetT P w a l) := by
  have ⟨D, e, _⟩ := R
  exact ⟨R, ⟨_, e⟩, fun h1 h2 p k => SetS.at p k⟩
/-- what gives the texts xs: a list, a tuple, a text letter by letter -/
inductive Texts (K : PySem.W.Frag) (H : Hp) : V → List Str → Prop
  | list {a xs} : SqL K H a (xs.map V.str) → Texts K H (.ref a) xs
  | tup {a xs} : SqT K H a (xs.map V.str) → Texts K H (.ref a) xs
  | text (y : Str) : Texts K H (.str y) (letters y)
def rSetT (P : Program) (w : World) (K : PySem.W.Frag) : List V → Hp → VK → Prop := fun vs H Q => ∃ x xs, vs = [x] ∧ Texts K H x xs ∧ xs.length + 1 < scanBound ∧
  ∀ (p : Addr) (l : List Str), H p = none → l.Nodup → (∀ y, y ∈ l ↔ y ∈ xs) → l.length ≤ xs.length → Q (.ref p) (upd H p (SetT P w p l))
def rSortT (P : Program) (w : World) : List V → Hp → VK → Prop := fun vs H Q => ∃ (a : Addr) (l : List Str), vs = [.ref a] ∧ H a = some (SetT P w a l) ∧ l.length < scanBound ∧
  ∀ (p : Addr) (ys : List Str), H p = none → ys.Perm l → sortedS ys = true → Q (.ref p) (upd H p (.lst (ys.map V.str)))
def rLenT (P : Program) (w : World) : List V → Hp → VK → Prop := fun vs H Q => ∃ (a : Addr) (l : List Str), vs = [.ref a] ∧ H a = some (SetT P w a l) ∧ l.length < scanBound ∧ Q (.int l.length) H
theorem SetS.nodup {P : Program} {w : World} {h : Heap} {a : Addr} {l : List Str} (R : SetS P w h a l) : l.Nodup := by
  obtain ⟨_, _, _, _, nd⟩ := R
  exact nd
section
variable {X : Cx}
theorem setT_at {pins : List (Addr × Obj)} {σ : L2.St} {H : Hp} {s : Shared} {a : Addr} {l : List Str} (I : Inv X pins σ H s) (ha : H a = some (SetT X.prog X.w a l)) : SetS X.prog X.w s.heap a l := (I.hok a _ ha).1
theorem IsTup.isTuple {h : Heap} {a : Addr} {items : Array Value} (e : IsTup h a items) : h.IsTuple a items := e
theorem cr_setT (hc : X.calm = true) : CallR X (.type "set") (rSetT X.prog X.w X.K) := by
  intro pins s σ H vs us Q I r h
  obtain ⟨x, xs, rfl, tx, hb, q⟩ := h
  obtain ⟨u, rfl, rx⟩ := vals1 r
  have go : ∀ T, Gives X.prog X.w X.xe s u T xs → wpAny (model X.prog X.w) X.A (call (.type "set") [u]) (EP X pins σ Q) X.xe s := fun T g =>
    call_setG g (I.ok.hd hc) hb fun h' tk l k S hm hl =>
      ⟨.ref _, upd H s.heap.objs.size (SetT X.prog X.w s.heap.objs.size l), I.laid (t' := tk) k (Nat.le_refl _) (setT_ok S), rfl, q _ l (I.hok.fresh (Nat.le_refl _)) S.nodup hm hl⟩
  cases tx with
  | list hs =>
    obtain ⟨its, rv, hl, _⟩ := I.list hs
    cases rx
    exact go _ (gives_list hl.isList rv.strs)
  | tup hs =>
    obtain ⟨its, rv, hl, _⟩ := I.tuple hs
    cases rx
    exact go _ (gives_tup (IsTup.isTuple hl) rv.strs)
  | text y =>
    obtain ⟨t, rfl⟩ := rx
    exact go _ gives_str
theorem cr_sortT (hc : X.calm = true) : CallR X (.builtin "sorted") (rSortT X.prog X.w) := by
  intro pins s σ H vs us Q I r h
  obtain ⟨a, l, rfl, ha, hb, q⟩ := h
  rw [Vals.ref1 r]
  refine sorted_s (setT_at I ha) (I.ok.hd hc) hb fun s' p out c ys k g o hp hg hi pm hs => ?_
  have hz : (ys.map V.str).length ≤ sizeLine := by rw [List.length_map, pm.length_eq]; exact fits_of_scanBound hb
  have hn : H p = none := I.hok.fresh hp
  have J : Inv X pins σ (upd H p (.lst (ys.map V.str))) { s with heap := s'.heap, gens := s'.gens, drawn := s'.drawn, toks := s'.toks } :=
    I.call (ch := []) (Un.laid k hp hn) (I.hok.laid k hp ⟨hz, out.toList, c, vals_of_strs hi, hg⟩) (by rw [g]; exact I.bare) (fun _ z => nomatch z)
  have e : s' = { s with heap := s'.heap, gens := s'.gens, drawn := s'.drawn, toks := s'.toks } := by
    obtain ⟨_, _, _, _, _⟩ := s'
    obtain ⟨_, _, _, _, _⟩ := s
    cases o
    rfl
  rw [e]
  exact ⟨.ref p, _, J, rfl, q p ys hn pm hs⟩
theorem cr_lenT : CallR X (.builtin "len") (rLenT X.prog X.w) := by
  intro pins s σ H vs us Q I r h
  obtain ⟨a, l, rfl, ha, hb, q⟩ := h
  rw [Vals.ref1 r]
  exact len_s (setT_at I ha) hb ⟨.int l.length, H, I.tok _, ⟨_, rfl⟩, q⟩
/-- a text in a set, or not in it -/
def rInT (P : Program) (w : World) (f : Bool → Bool) : V → V → Hp → VK → Prop := fun x y H Q => ∃ (k : Str) (a : Addr) (l : List Str), x = .str k ∧ y = .ref a ∧ H a = some (SetT P w a l) ∧ l.length < scanBound ∧ Q (.bl (f (decide (k ∈ l)))) H
theorem or_inT : OpR X (compareOp .In) (rInT X.prog X.w id) := by
  intro pins s σ H x y v u Q I rx ry h
  obtain ⟨k, a, l, rfl, rfl, ha, hb, q⟩ := h
  obtain ⟨t, rfl⟩ := rx
  cases ry
  exact wpAny_inSet_of (knd := PySem.strKind X.prog X.w) (k := k) (is_str k t) rfl (in_s (setT_at I ha) hb) ⟨.bl _, H, I.tok _, rfl, q⟩
theorem or_notinT : OpR X (compareOp .NotIn) (rInT X.prog X.w not) := by
  intro pins s σ H x y v u Q I rx ry h
  obtain ⟨k, a, l, rfl, rfl, ha, hb, q⟩ := h
  obtain ⟨t, rfl⟩ := rx
  cases ry
  exact wpAny_notInSet_of (knd := PySem.strKind X.prog X.w) (k := k) (is_str k t) rfl (in_s (setT_at I ha) hb) ⟨.bl _, H, I.tok _, rfl, q⟩
end
end Own

namespace Own
open PySem PySem.Spec L2 PyProof.Rows PySem.Froz
/-! ### the keys of a row of texts: each once, in ascending order -/
def leS (a b : Str) : Prop := ltCps b.cps.toList a.cps.toList = false
theorem leS_iff (a b : Str) : leS a b ↔ a.cps.toList ≤ b.cps.toList := by
  unfold leS
  rw [ltCps_eq, decide_eq_false_iff_not]
  exact List.not_lt
theorem leS_trans {a b c : Str} (h : leS a b) (k : leS b c) : leS a c := (leS_iff a c).mpr (List.le_trans ((leS_iff a b).mp h) ((leS_iff b c).mp k))
theorem leS_total (a b : Str) : leS a b ∨ leS b a := (List.le_total a.cps.toList b.cps.toList).imp (leS_iff a b).mpr (leS_iff b a).mpr
theorem leS_anti {a b : Str} (h : leS a b) (k : leS b a) : a = b := by
  have e := List.le_antisymm ((leS_iff a b).mp h) ((leS_iff b a).mp k)
  obtain ⟨⟨x⟩⟩ := a
  obtain ⟨⟨y⟩⟩ := b
  have e' : x = y := e
  rw [e']
theorem pair_rising : ∀ (l : List Str) (p : Str), risingS p l = true → (p :: l).Pairwise leS
  | [], p, _ => List.pairwise_singleton _ _
  | x :: l, p, h => by
    unfold risingS at h
    rw [Bool.and_eq_true] at h
    have ih := pair_rising l x h.2
    have px : leS p x := by
      have q := h.1
      unfold leS
      simpa using q
    refine List.pairwise_cons.mpr ⟨fun y hy => ?_, ih⟩
    rcases List.mem_cons.mp hy with rfl | z
    · exact px
    · exact leS_trans px ((List.pairwise_cons.mp ih).1 y z)
theorem pair_sorted {l : List Str} (h : sortedS l = true) : l.Pairwise leS := by
  cases l with
  | nil => exact .nil
  | cons x r => exact pair_rising r x h
theorem same_sorted : ∀ (xs ys : List Str), xs.Perm ys → xs.Pairwise leS → ys.Pairwise leS → xs = ys
  | [], ys, p, _, _ => (List.nil_perm.mp p).symm
  | x :: r, [], p, _, _ => (List.perm_nil.mp p)
  | x :: r, y :: t, p, a, b => by
    obtain ⟨a1, a2⟩ := List.pairwise_cons.mp a
    obtain ⟨b1, b2⟩ := List.pairwise_cons.mp b
    have e : x = y := by
      have hx := p.mem_iff.mp (List.mem_cons_self (a := x) (l := r))
      have hy := p.mem_iff.mpr (List.mem_cons_self (a := y) (l := t))
      rcases List.mem_cons.mp hx with z | z
      · exact z
      · rcases List.mem_cons.mp hy with z2 | z2
        · exact z2.symm
        · exact leS_anti (a1 y z2) (b1 x z)
    subst e
    rw [same_sorted r t p.cons_inv a2 b2]
instance (a b : Str) : Decidable (leS a b) := by unfold leS; exact inferInstance
def once (xs : List Str) : List Str := xs.foldr (fun x l => if x ∈ l then l else x :: l) []
theorem once_mem (y : Str) : ∀ xs : List Str, y ∈ once xs ↔ y ∈ xs
  | [] => Iff.rfl
  | x :: xs => by
    have ih := once_mem y xs
    show y ∈ (if x ∈ once xs then once xs else x :: once xs) ↔ _
    split
    · rename_i c
      rw [List.mem_cons, ih]
      exact ⟨.inr, fun z => z.elim (fun e => by rw [e]; exact (once_mem x xs).mp c) id⟩
    · rw [List.mem_cons, List.mem_cons, ih]
theorem once_nodup : ∀ xs : List Str, (once xs).Nodup
  | [] => List.nodup_nil
  | x :: xs => by
    show (if x ∈ once xs then once xs else x :: once xs).Nodup
    split
    · exact once_nodup xs
    · rename_i c
      exact List.nodup_cons.mpr ⟨c, once_nodup xs⟩
theorem once_len : ∀ xs : List Str, (once xs).length ≤ xs.length
  | [] => Nat.le_refl _
  | x :: xs => by
    have ih := once_len xs
    show (if x ∈ once xs then once xs else x :: once xs).length ≤ _
    split
    · rw [List.length_cons]; omega
    · rw [List.length_cons, List.length_cons]; omega
/-- tuple(sorted(set(xs))) -/
def kl (xs : List Str) : List Str := (once xs).mergeSort fun a b => decide (leS a b)
theorem kl_perm (xs : List Str) : (kl xs).Perm (once xs) := List.mergeSort_perm _ _
theorem kl_mem {xs : List Str} {y : Str} : y ∈ kl xs ↔ y ∈ xs := (kl_perm xs).mem_iff.trans (once_mem y xs)
theorem kl_nodup (xs : List Str) : (kl xs).Nodup := (kl_perm xs).nodup_iff.mpr (once_nodup xs)
theorem kl_len (xs : List Str) : (kl xs).length ≤ xs.length := by rw [(kl_perm xs).length_eq]; exact once_len xs
theorem kl_pair (xs : List Str) : (kl xs).Pairwise leS := by
  have h := List.pairwise_mergeSort (le := fun a b => decide (leS a b)) (fun a b c h k => by
    rw [decide_eq_true_eq] at h k ⊢
    exact leS_trans h k) (fun a b => by
    rw [Bool.or_eq_true, decide_eq_true_eq, decide_eq_true_eq]
    exact leS_total a b) (once xs)
  exact h.imp fun z => by rwa [decide_eq_true_eq] at z
theorem perm_mem {l ys : List Str} (a : l.Nodup) (b : ys.Nodup) (h : ∀ y, y ∈ l ↔ y ∈ ys) : l.Perm ys := by
  refine (perm_s l ys a (fun x hx => (h x).mp hx) ?_).symm
  exact (perm_len ys l b fun x hx => (h x).mpr hx)
where perm_len : ∀ (u v : List Str), u.Nodup → (∀ x ∈ u, x ∈ v) → u.length ≤ v.length
  | [], _, _, _ => Nat.zero_le _
  | x :: u, v, nd, hs => by
    obtain ⟨n1, n2⟩ := List.nodup_cons.mp nd
    have hx := hs x List.mem_cons_self
    have ih := perm_len u (v.erase x) n2 fun y hy => (List.mem_erase_of_ne (fun e : y = x => n1 (e ▸ hy))).mpr (hs y (List.mem_cons_of_mem _ hy))
    have e := List.length_erase_of_mem hx
    have p := List.length_pos_of_mem hx
    rw [List.length_cons]
    omega
theorem kl_uniq {xs ys : List Str} (a : ys.Nodup) (s : ys.Pairwise leS) (h : ∀ y, y ∈ ys ↔ y ∈ xs) : ys = kl xs :=
  same_sorted _ _ (perm_mem a (kl_nodup xs) fun y => (h y).trans kl_mem.symm) s (kl_pair xs)
theorem kl_of {xs l ys : List Str} (p : ys.Perm l) (s : sortedS ys = true) (nd : l.Nodup) (h : ∀ y, y ∈ l ↔ y ∈ xs) : ys = kl xs :=
  kl_uniq (p.nodup_iff.mpr nd) (pair_sorted s) fun y => p.mem_iff.trans (h y)
theorem kl_congr {xs ys : List Str} (h : ∀ y, y ∈ xs ↔ y ∈ ys) : kl xs = kl ys := kl_uniq (kl_nodup xs) (kl_pair xs) fun y => kl_mem.trans (h y)
theorem kl_kl (xs : List Str) : kl (kl xs) = kl xs := kl_congr fun _ => kl_mem
theorem len_once {xs l : List Str} (nd : l.Nodup) (h : ∀ y, y ∈ l ↔ y ∈ xs) : l.length = (kl xs).length := (perm_mem nd (kl_nodup xs) fun y => (h y).trans kl_mem.symm).length_eq
theorem kl_sub {xs ys : List Str} (h : ∀ y ∈ xs, y ∈ ys) : (kl xs).length ≤ (kl ys).length := perm_mem.perm_len _ _ (kl_nodup xs) fun y hy => kl_mem.mpr (h y (kl_mem.mp hy))
end Own

/-! list comprehensions of any number of clauses -/
namespace Own
open PySem PySem.Spec PyProof.Rows L2
/-- what a clause whose tests hold does next -/
def onward (elt : Expr) (gs : List Comprehension) (scope : Scope) (pos : Pos) (d : Nat) (acc : Value) (env : Env) : Sem Unit := match gs[d]? with
  | some g' => do
    let x ← eval g'.iter env
    standAt g'.iter.pos
    let x ← if g'.is_async != 0 then foldedIterable g'.iter x else foldedSetIterable g'.iter env x
    let _ ← runOwn (.compStart (.ListComp elt gs scope pos) d (← holding [x] (if g'.is_async != 0 then asyncIter x else pyIter x)) acc env) env
  | none => do
    let _ ← call (.builtin "list.append") [acc, ← eval elt env]
/-- the clause at d is there, or d is the end -/
def Nextly (gs : List Comprehension) (d : Nat) : Prop := gs[d]? = none ∨ ∃ t i fs, gs[d]? = some ⟨t, i, fs, 0⟩
theorem turn_of {elt tg iter : Expr} {ifs : List Expr} {gs : List Comprehension} {scope : Scope} {pos : Pos} {d : Nat} {it acc : Value} {env : Env} (hg : gs[d]? = some ⟨tg, iter, ifs, 0⟩) (hn : Nextly gs (d + 1)) :
    compTurn (.ListComp elt gs scope pos) d it acc env = (do
      standAt iter.pos
      match ← pyNext it with
      | none => pure (.done .next)
      | some v =>
        letOwnedTupleGo tg it v
        assign tg env v
        let mut ok := true
        for c in ifs do
          if ok then ok ← isTrue c env (eval c env)
        if ok then
          onward elt gs scope pos (d + 1) acc env
          again (.compLoop (.ListComp elt gs scope pos) d it acc env)
        else again (.compLoop (.ListComp elt gs scope pos) d it acc env)) := by
  unfold compTurn onward
  dsimp only
  rw [hg]
  have z : ((0 : Int) != 0) = false := rfl
  rcases hn with hn | ⟨t, i, fs, hn⟩
  · rw [hn]
    simp only [z, Bool.false_eq_true, if_false, bind_assoc, pure_bind]
    try rfl
  · rw [hn]
    simp only [z, Bool.false_eq_true, if_false, bind_assoc, pure_bind]
    try rfl
section
variable {prog : Program} {w : World} {A : Around} {R : Result → Shared → Prop} {s : Shared} {elt tg iter : Expr} {ifs : List Expr} {gs : List Comprehension} {scope : Scope} {pos : Pos} {d : Nat} {it acc : Value} {env : Env}
/-- a clause's loop, nothing raised -/
theorem loop_of (hg : gs[d]? = some ⟨tg, iter, ifs, 0⟩) (hn : Nextly gs (d + 1)) (I : Nat → Shared → Prop)
    (turn : ∀ n s, I n s → wpAny (model prog w) A (pyNext it) (fun r s1 => match r with
      | none => R (.ok .next) s1
      | some v => wpAny (model prog w) A (letOwnedTupleGo tg it v) (fun _ s2 => wpAny (model prog w) A (assign tg env v) (fun _ s3 =>
          wpAny (model prog w) A (forIn ifs true fun c r => if r = true then do let ok ← isTrue c env (eval c env); pure (ForInStep.yield ok) else pure (ForInStep.yield r)) (fun ok s4 =>
            if ok = true then wpAny (model prog w) A (onward elt gs scope pos (d + 1) acc env) (fun _ s5 => ∃ m, m < n ∧ I m s5) (fun _ _ => False) s4 else ∃ m, m < n ∧ I m s4) (fun _ _ => False) s3) (fun _ _ => False) s2) (fun _ _ => False) s1) (fun _ _ => False) s)
    (n : Nat) (h : I n s) : codeAny (model prog w) A (.compLoop (.ListComp elt gs scope pos) d it acc env) R s := by
  have no : ∀ (E : Value → Shared → Prop) (x : Value) (z : Shared), False → E x z := fun _ _ _ z => z.elim
  refine codeAny_loop rfl I (fun n s hI => ?_) n h
  show wpAny _ A ((compTurn (.ListComp elt gs scope pos) d it acc env).onRaise (fun x => do noteFrame x env; theTreesLotGoes x)) _ _ s
  refine wpAny_noted ?_
  rw [turn_of hg hn]
  refine wpAny_bind (wpAny_standAt (wpAny_bind (wpAny_mono (turn n s hI) (fun r s1 h1 => ?_) (no _))))
  cases r with
  | none => exact wpAny_pure h1
  | some v =>
    refine wpAny_bind (wpAny_mono h1 (fun _ s2 h2 => wpAny_bind (wpAny_mono h2 (fun _ s3 h3 => wpAny_bind (wpAny_mono h3 (fun b s4 h4 => ?_) (no _))) (no _))) (no _))
    cases b with
    | false => exact wpAny_pure ⟨rfl, h4⟩
    | true => exact wpAny_bind (wpAny_mono h4 (fun _ s5 h5 => wpAny_pure ⟨rfl, h5⟩) (no _))
theorem start_of (hg : gs[d]? = some ⟨tg, iter, ifs, 0⟩) (h0 : codeAny (model prog w) A (.compLoop (.ListComp elt gs scope pos) d it acc env) R s)
    (h : wpAny (model prog w) A (pyIter it) (fun it' s' => codeAny (model prog w) A (.compLoop (.ListComp elt gs scope pos) d it' acc env) R s') (fun _ _ => False) s) :
    codeAny (model prog w) A (.compStart (.ListComp elt gs scope pos) d it acc env) R s := by
  refine codeAny_of_tree ?_
  show wpAny _ _ ((compStart (.ListComp elt gs scope pos) d it acc env).onRaise (fun x => do noteFrame x env; standAt theWindowsPlace)) _ _ s
  refine wpAny_notedAt ?_
  unfold compStart
  have hc : clausesOf (.ListComp elt gs scope pos) = gs := rfl
  rw [hc, hg]
  show wpAny _ _ (ask >>= _) _ _ s
  refine wpAny_bind (wpAny_askSetting (wpAny_ite ?_))
  split
  · first
      | exact wpAny_bind (wpAny_pure (wpAny_pure (And.intro rfl h0)))
      | exact wpAny_pure (And.intro rfl h0)
  · refine wpAny_bind (wpAny_rule ?_)
    show wpAny _ _ (standAt iter.pos >>= _) _ _ s
    exact wpAny_bind (wpAny_standAt (wpAny_bind (wpAny_mono h (fun it' s' h' => wpAny_pure (And.intro rfl h')) fun _ _ x => x.elim)))
end
/-- from slots and heap to what is reached -/
abbrev TN := L2.St → Hp → (Hp → Prop) → Prop
/-- the onward step at depth d, the list at D, the slots vs its own -/
structure Does (Y : Cx) (elt : Expr) (gs : List Comprehension) (scope : Scope) (pos : Pos) (d : Nat) (D : Addr) (vs : List Nat) (t : TN) : Prop where
  run : ∀ (pins : List (Addr × Obj)) (s : Shared) (σ : L2.St) (H : Hp) (Nx : Hp → Prop) (R : Shared → Prop), Inv Y pins σ H s → t σ H Nx →
    (∀ s' σ' H', Inv Y pins σ' H' s' → σ'.length = σ.length → (∀ (i : Nat) v, i ∉ vs → σ[i]? = some (some v) → σ'[i]? = some (some v)) → Nx H' → R s') →
    wpAny (model Y.prog Y.w) Y.A (onward elt gs scope pos d (.ref D) Y.env) (fun _ => R) (fun _ _ => False) s
def tEmit (te : TE) (D : Addr) : TN := fun σ H Nx => te σ H fun y H4 => ∃ acc, H4 D = some (.lst acc) ∧ acc.length < sizeLine ∧ Nx (upd H4 D (.lst (acc ++ [y])))
def tLoop (g : TG) (tt : TT) (t : TN) (vs : List Nat) (J : It) : TN := fun σ H Nx => ∃ W : Nat → Nat → Hp → Prop, (∃ m, W 0 m H) ∧ ∀ j k H, W j k H →
  (J.stop j H ∧ Nx H) ∨ (J.go j H ∧ ∃ N1 : Hp → Prop, (∀ H', N1 H' → ∃ k', k' < k ∧ W (j + 1) k' H') ∧ ∀ x H', J.yld j H x H' → g x (wipe σ vs) H' fun σ3 H5 => wipe σ3 vs = wipe σ vs ∧ tt σ3 H5 fun b H6 =>
    if b = true then t σ3 H6 N1 else N1 H6)
/-- a further clause, and what stands behind it -/
def tFor (wi : TI) (g : TG) (tt : TT) (vs : List Nat) (t : Addr → TN) : Addr → TN := fun D σ H Nx => wi σ H fun J H4 => tLoop g tt (t D) vs J σ H4 Nx
section
variable {Y : Cx} {elt tg iter : Expr} {ifs : List Expr} {gs : List Comprehension} {scope : Scope} {pos : Pos} {d : Nat} {D : Addr} {g : TG} {tt : TT} {te : TE} {t : TN} {wi : TI} {vs vs1 : List Nat}
theorem does_emit (hg : gs[d]? = none) (hx : Y.xe = fun _ _ => False) (pe : PE Y elt te) : Does Y elt gs scope pos d D [] (tEmit te D) := by
  refine ⟨fun pins s σ H Nx R I h k => ?_⟩
  unfold onward
  rw [hg]
  refine wpAny_bind ?_
  have r := pe.run pins s σ H _ I h
  rw [hx] at r
  refine thnF r fun z s1 ⟨y, H1, I1, r1, acc, e, hz, nx⟩ => ?_
  exact wpAny_bind (app_ok I1 e hz r1 fun s2 I2 => wpAny_pure (k s2 σ _ I2 rfl (fun _ _ _ e => e) nx))
theorem loop_n (hg : gs[d]? = some ⟨tg, iter, ifs, 0⟩) (hn : Nextly gs (d + 1)) (hc : Y.calm = true) (hx : Y.xe = fun _ _ => False) (pg : PG Y tg g) (pt : PTs Y ifs tt) (dn : Does Y elt gs scope pos (d + 1) D vs1 t) (hv : ∀ i ∈ vs1, i ∈ vs)
    {pins : List (Addr × Obj)} {s : Shared} {σ : L2.St} {H : Hp} {Nx : Hp → Prop} {R : Result → Shared → Prop} {J : It} {fp : List Addr} {it : Addr} {tn : Nat → Heap → Prop} (I : Inv Y pins σ H s) (T : Turn Y.prog Y.w Y.K tg J fp it tn) (st : tn 0 s.heap) (hf : ∀ b ∈ fp, FpOk Y pins H b)
    (h : tLoop g tt t vs J σ H Nx) (fin : ∀ s' H', Inv Y pins (wipe σ vs) H' s' → Nx H' → R (.ok .next) s') :
    codeAny (model Y.prog Y.w) Y.A (.compLoop (.ListComp elt gs scope pos) d (.ref it) (.ref D) Y.env) R s := by
  obtain ⟨W, ⟨m0, w0⟩, turn⟩ := h
  have ok : ∀ {H' : Hp}, (∀ b ∈ fp, H' b = none) → ∀ b ∈ fp, FpOk Y pins H' b := fun hn b hb => ⟨hn b hb, (hf b hb).2⟩
  refine loop_of hg hn (fun n z => ∃ i H', Inv Y pins (wipe σ vs) H' z ∧ tn i z.heap ∧ (∀ b ∈ fp, H' b = none) ∧ W i n H') ?_ m0 ⟨0, H, I.weak (wipe_length _ _) fun _ _ e => (wipe_some e).1, st, fun b hb => (hf b hb).1, w0⟩
  rintro n z ⟨i, H1, I1, st1, n1, w1⟩
  rcases turn i n H1 w1 with ⟨stop, nx⟩ | ⟨go, N1, back, step⟩
  · refine thnF (T.done Y rfl rfl rfl hc i pins z _ H1 (fun _ _ => False) I1 (ok n1) st1 stop) fun r z2 ⟨hr, I2⟩ => ?_
    rw [hr]
    exact fin z2 H1 I2 nx
  · refine thnF (T.item Y rfl rfl rfl hc i pins z _ H1 (fun _ _ => False) I1 (ok n1) st1 go) fun r z2 ⟨u, hr, h2⟩ => ?_
    rw [hr]
    refine thnF h2 fun _ z3 ⟨x, H3, I3, r3, y3, st3, n3⟩ => ?_
    have J3 := I3.pinned (ok n3) (T.obj _ _ st3)
    have a := pg.run _ z3 _ H3 x u _ J3 r3 (step x H3 y3)
    rw [hx] at a
    refine thnF a fun _ z4 ⟨σ4, H4, I4, e4, q4⟩ => ?_
    have b := pt.run _ z4 σ4 H4 _ I4 q4
    rw [hx] at b
    refine thnF b fun ok5 z5 ⟨H5, I5, q5⟩ => ?_
    -- the end of a turn
    have fin1 : ∀ z6 σ6 H6, Inv Y (pins ++ pinsAt fp z3.heap) σ6 H6 z6 → σ6.length = σ4.length → (∀ (j : Nat) v, j ∉ vs1 → σ4[j]? = some (some v) → σ6[j]? = some (some v)) → N1 H6 → ∃ m, m < n ∧ ∃ i H', Inv Y pins (wipe σ vs) H' z6 ∧ tn i z6.heap ∧ (∀ b ∈ fp, H' b = none) ∧ W i m H' := fun z6 σ6 H6 I6 l6 k6 nx => by
      obtain ⟨m, lt, w6⟩ := back H6 nx
      have pin : ∀ b ∈ fp, ∀ o, z3.heap.get? b = some o → z6.heap.get? b = some o ∧ H6 b = none := fun b hb o e =>
        have q := I6.pin (b, o) (List.mem_append_right _ (List.mem_append_right _ (mem_pinsAt hb e)))
        ⟨q.1, q.2.1⟩
      refine ⟨m, lt, i + 1, H6, I6.unpinned.weak ?_ fun j v e => ?_, T.keep _ _ _ st3 fun b hb o e => (pin b hb o e).1, fun b hb => ?_, w6⟩
      · rw [l6, ← e4, wipe_length]
      · rw [← e4] at e
        obtain ⟨p, q⟩ := wipe_some e
        exact k6 j v (fun m => q (hv j m)) p
      · obtain ⟨o, e, _⟩ := T.obj _ _ st3 b hb
        exact (pin b hb o e).2
    cases ok5 with
    | false =>
      simp only [Bool.false_eq_true, if_false] at q5 ⊢
      exact fin1 z5 σ4 H5 I5 rfl (fun _ _ _ e => e) q5
    | true =>
      simp only [if_true] at q5 ⊢
      exact dn.run _ z5 σ4 H5 N1 _ I5 q5 fin1
theorem does_for {t : Addr → TN} (hg : gs[d]? = some ⟨tg, iter, ifs, 0⟩) (hn : Nextly gs (d + 1)) (hc : Y.calm = true) (hx : Y.xe = fun _ _ => False) (pi : PI Y tg iter wi) (hs : ∀ x, foldedSetIterable iter Y.env x = pure x) (pg : PG Y tg g) (pt : PTs Y ifs tt)
    (dn : Does Y elt gs scope pos (d + 1) D vs1 (t D)) (hv : ∀ i ∈ vs1, i ∈ vs) : Does Y elt gs scope pos d D vs (tFor wi g tt vs t D) := by
  refine ⟨fun pins s σ H Nx R I h k => ?_⟩
  unfold onward
  rw [hg]
  have r := pi.run pins s σ H _ I h
  rw [hx] at r
  refine wpAny_bind (thnF r fun v s1 h1 => wpAny_bind (wpAny_standAt ?_))
  dsimp only
  rw [show ((0 : Int) != 0) = false from rfl]
  simp only [Bool.false_eq_true, if_false]
  refine wpAny_bind (wpAny_of_eq (hs v) (wpAny_bind (wpAny_holding (thnF h1 fun itv s2 h2 => ?_))))
  obtain ⟨it, fp, tn, J, H2, e, I2, T, st2, f2, q⟩ := h2
  subst e
  have lp : codeAny (model Y.prog Y.w) Y.A (.compLoop (.ListComp elt gs scope pos) d (.ref it) (.ref D) Y.env) (fun r s' => match r with
      | .ok _ => R s'
      | .error _ => False) s2 :=
    loop_n hg hn hc hx pg pt dn hv I2 T st2 f2 q fun s' H' I' nx => k s' _ H' I' (wipe_length _ _) (fun i v hi e => by rw [wipe_out hi]; exact e) nx
  refine wpAny_bind (wpAny_runOwn ?_)
  rw [Around.mark_none]
  refine codeAny_mono (start_of hg lp (T.self Y.A 0 _ _ _ st2 lp)) fun r s' hr => ?_
  cases r with
  | ok f => exact wpAny_pure hr
  | error e => exact hr.elim
end
section
variable {X : Cx} {elt tg iter : Expr} {ifs : List Expr} {rest : List Comprehension} {scope : Scope} {own : List (Str × Nat)} {pos : Pos} {g : TG} {tt : TT} {wi : TI} {vs1 : List Nat} {t : Addr → TN}
/-- [elt for tg in iter if .. for ..]; t: what stands behind the first clause -/
def tLcN (wi : TI) (g : TG) (tt : TT) (t : Addr → TN) (vs : List Nat) : TE := fun σ H Q => wi σ H fun J H1 => ∀ D, H1 D = none → tLoop g tt (t D) vs J (wipe σ vs) (upd H1 D (.lst [])) (Q (.ref D))
theorem lcN_core {pins : List (Addr × Obj)} {s : Shared} {σ : L2.St} {H : Hp} {Q : VK} {pos' : Pos} {use : Option (Value → Sem Unit)} {Qf : Value → Shared → Prop} (hc : X.calm = true) (hN : X.N.Nodup) (hi : PI X tg iter wi) (ok : BlkOk X.N X.env.scope scope own) (hn : Nextly (⟨tg, iter, ifs, 0⟩ :: rest) 1) (hv : ∀ i ∈ vs1, i ∈ own.map (·.2))
    (hg : ∀ (s : Shared) (H : Hp) (C : Addr) (cl : List (Str × Addr)) (fp : List Addr), PG (X.blk s H scope (compEnvC scope cl C X.env) fp) tg g) (ht : ∀ (s : Shared) (H : Hp) (C : Addr) (cl : List (Str × Addr)) (fp : List Addr), PTs (X.blk s H scope (compEnvC scope cl C X.env) fp) ifs tt)
    (hd : ∀ (s : Shared) (H : Hp) (C : Addr) (cl : List (Str × Addr)) (fp : List Addr) (D : Addr), Does (X.blk s H scope (compEnvC scope cl C X.env) fp) elt (⟨tg, iter, ifs, 0⟩ :: rest) scope pos 1 D vs1 (t D)) (hs : ∀ x, foldedSetIterable iter X.env x = pure x)
    (I : Inv X pins σ H s) (h : tLcN wi g tt t (own.map (·.2)) σ H Q) (done : ∀ D C s' m H', Inv X pins σ H' s' → Q (.ref D) H' → s'.heap.Ns C m → FpOk X pins H' C → compPost (model X.prog X.w) X.A X.xe use Qf (.ref D) C (.ok .next) s') :
    wpAny (model X.prog X.w) X.A (comprehension (.ListComp elt (⟨tg, iter, ifs, 0⟩ :: rest) scope pos) scope X.env pos' (newList []) false (eval iter X.env) use) Qf X.xe s := by
  have cl : closureFor scope X.env = pure (cloFrom X.env.cells scope.names []) := closure_ok fun y hy e => I.ok.has _ (ok.free y hy e)
  refine wpAny_comprehension_free (use := use) rfl hs cl ok.kind (fun y hy e => (ok.uniq y hy).trans (by rw [e])) (thn (hi.run pins s σ H _ I h) fun xv s1 h1 => thn h1 fun itv s2 h2 => ?_)
  obtain ⟨it, fp, tn, J, H2, rfl, I2, T, st2, f2, q⟩ := h2
  refine wpAny_newObj_type (newEnv_comp ?_) (Nat.zero_le _)
  have q := q s2.heap.objs.size (I2.hok.fresh (Nat.le_refl _))
  have lt : ∀ b ∈ fp, b < s2.heap.objs.size := fun b hb => by
    obtain ⟨o, e, _⟩ := T.obj _ _ st2 b hb
    exact Heap.lt_size e
  have new : ∀ b o, s2.heap.get? b = some o → (s2.heap.push { cls := .type "list", data := .seq ([] : List Value).toArray }).get? b = some o := fun b o e => Heap.get?_push_of_some _ e
  -- the list is there
  have I3 := I2.laid (t' := s2.toks) (o := .lst []) (a := s2.heap.objs.size) new (Nat.le_refl _) ⟨Nat.zero_le _, [], 0, .nil, Heap.get?_push_size _ rfl⟩
  have f3 : ∀ b ∈ fp, FpOk X pins (upd H2 s2.heap.objs.size (.lst [])) b := fun b hb => ⟨by rw [upd_ne (Nat.ne_of_lt (lt b hb))]; exact (f2 b hb).1, (f2 b hb).2⟩
  have st3 := T.keep _ _ _ st2 fun b _ o e => new b o e
  generalize s2.heap.objs.size = D at q I3 f3 lt ⊢
  generalize upd H2 D (.lst []) = H3 at q I3 f3 ⊢
  have lt3 : ∀ b ∈ fp, b < (s2.heap.push { cls := .type "list", data := .seq ([] : List Value).toArray }).objs.size := fun b hb => by
    obtain ⟨o, e, _⟩ := T.obj _ _ st3 b hb
    exact Heap.lt_size e
  change Inv X pins σ H3 { s2 with heap := s2.heap.push { cls := .type "list", data := .seq ([] : List Value).toArray } } at I3
  generalize hz : ({ s2 with heap := s2.heap.push { cls := .type "list", data := .seq ([] : List Value).toArray } } : Shared) = z at I3 ⊢
  have ez : s2.heap.push { cls := .type "list", data := .seq ([] : List Value).toArray } = z.heap := by rw [← hz]
  rw [ez] at st3 lt3
  have I4 := block_start I3 ok hN fun b hb => ⟨f3 b hb, lt3 b hb⟩
  have st4 := T.keep 0 _ (pushCells (z.heap.push { cls := .type "dict", data := .dict #[] }) scope.names) st3 fun b _ o e => pushCells_keeps _ _ _ _ (Heap.get?_push_of_some _ e)
  have pg := hg z H3 z.heap.objs.size (cellsFrom (z.heap.objs.size + 1) scope.names (cloFrom X.env.cells scope.names [])) fp
  have pt := ht z H3 z.heap.objs.size (cellsFrom (z.heap.objs.size + 1) scope.names (cloFrom X.env.cells scope.names [])) fp
  have pd := hd z H3 z.heap.objs.size (cellsFrom (z.heap.objs.size + 1) scope.names (cloFrom X.env.cells scope.names [])) fp D
  change codeAny (model X.prog X.w) X.A (.compStart _ 0 (.ref it) (.ref D) (compEnvC scope (cellsFrom (z.heap.objs.size + 1) scope.names (cloFrom X.env.cells scope.names [])) z.heap.objs.size X.env)) (compPost (model X.prog X.w) X.A X.xe use Qf (.ref D) z.heap.objs.size) { z with heap := pushCells (z.heap.push { cls := .type "dict", data := .dict #[] }) scope.names }
  have fY : ∀ b ∈ fp, FpOk (X.blk z H3 scope (compEnvC scope (cellsFrom (z.heap.objs.size + 1) scope.names (cloFrom X.env.cells scope.names [])) z.heap.objs.size X.env) fp) [] H3 b := fun b hb =>
    ⟨(f3 b hb).1, (I4.ok.exf b hb).1, I4.ok.exfs b hb, .inl hb, fun x c e => (I4.ok.exf b hb).2 x c e, fun p hp => nomatch (show p ∈ ([] : List (Addr × Obj)) from by simpa using hp)⟩
  have free : X.calm = true := hc
  have lp := loop_n (Y := X.blk z H3 scope (compEnvC scope (cellsFrom (z.heap.objs.size + 1) scope.names (cloFrom X.env.cells scope.names [])) z.heap.objs.size X.env) fp) (R := compPost (model X.prog X.w) X.A X.xe use Qf (.ref D) z.heap.objs.size) rfl hn hc rfl pg pt pd hv I4 T st4 fY q fun s' H' I' q' => by
    have J : Inv X pins σ H' s' := I3.call' (ch := fp) I'.os I'.base I'.hok I'.bare fun b hb =>
      have f := f3 b hb
      ⟨f.2.2.2.1, f.2.1, f.2.2.2.2.1, f.2.2.2.2.2⟩
    obtain ⟨m, ns, _⟩ := I'.loc
    have f := I3.fpOk (b := z.heap.objs.size) (H' := H') (Nat.le_refl _) I'.free
    exact done D _ s' m H' J q' ns f
  exact codeAny_compStart_list lp (T.self X.A 0 _ _ _ st4 lp)
theorem pe_lcN (hc : X.calm = true) (hN : X.N.Nodup) (hi : PI X tg iter wi) (ok : BlkOk X.N X.env.scope scope own) (hn : Nextly (⟨tg, iter, ifs, 0⟩ :: rest) 1) (hv : ∀ i ∈ vs1, i ∈ own.map (·.2))
    (hg : ∀ (s : Shared) (H : Hp) (C : Addr) (cl : List (Str × Addr)) (fp : List Addr), PG (X.blk s H scope (compEnvC scope cl C X.env) fp) tg g) (ht : ∀ (s : Shared) (H : Hp) (C : Addr) (cl : List (Str × Addr)) (fp : List Addr), PTs (X.blk s H scope (compEnvC scope cl C X.env) fp) ifs tt)
    (hd : ∀ (s : Shared) (H : Hp) (C : Addr) (cl : List (Str × Addr)) (fp : List Addr) (D : Addr), Does (X.blk s H scope (compEnvC scope cl C X.env) fp) elt (⟨tg, iter, ifs, 0⟩ :: rest) scope pos 1 D vs1 (t D)) (hs : ∀ x, foldedSetIterable iter X.env x = pure x := by intro _; rfl) :
    PE X (.ListComp elt (⟨tg, iter, ifs, 0⟩ :: rest) scope pos) (tLcN wi g tt t (own.map (·.2))) := by
  refine ⟨fun pins s σ H Q I h => ?_⟩
  rw [eval_ListComp]
  refine lcN_core hc hN hi ok hn hv hg ht hd hs I h fun D C s' m H' J q ns f => ⟨m, ns, fun h sb => ⟨.ref D, H', J.turned (t' := s'.toks) (fun b o hb e => (sb.2 b hb).trans e) f.1 f.2.1 f.2.2.2.1 f.2.2.2.2.1 f.2.2.2.2.2, rfl, q⟩⟩
/-- y = [..] on one line, y a local -/
theorem ps_setLcN {i : Nat} {y : Str} {py spos : Pos} (hc : X.calm = true) (hN : X.N.Nodup) (hy : X.N[i]? = some y) (hyl : X.env.scope.names.lookup y = some .local)
    (hsw : swapsWith (.ListComp elt (⟨tg, iter, ifs, 0⟩ :: rest) scope pos) (some (.Name y py)) spos.line X.env = pure true) (hi : PI X tg iter wi) (ok : BlkOk X.N X.env.scope scope own) (hn : Nextly (⟨tg, iter, ifs, 0⟩ :: rest) 1) (hv : ∀ i ∈ vs1, i ∈ own.map (·.2))
    (hg : ∀ (s : Shared) (H : Hp) (C : Addr) (cl : List (Str × Addr)) (fp : List Addr), PG (X.blk s H scope (compEnvC scope cl C X.env) fp) tg g) (ht : ∀ (s : Shared) (H : Hp) (C : Addr) (cl : List (Str × Addr)) (fp : List Addr), PTs (X.blk s H scope (compEnvC scope cl C X.env) fp) ifs tt)
    (hd : ∀ (s : Shared) (H : Hp) (C : Addr) (cl : List (Str × Addr)) (fp : List Addr) (D : Addr), Does (X.blk s H scope (compEnvC scope cl C X.env) fp) elt (⟨tg, iter, ifs, 0⟩ :: rest) scope pos 1 D vs1 (t D)) (hs : ∀ x, foldedSetIterable iter X.env x = pure x := by intro _; rfl) :
    PS X (.Assign [.Name y py] (.ListComp elt (⟨tg, iter, ifs, 0⟩ :: rest) scope pos) spos) (tAsg (tLcN wi g tt t (own.map (·.2))) (gName i)) := by
  refine ⟨fun pins s σ H D I h => ?_⟩
  rw [exec_Assign_Name_used _ _ _ _ hsw]
  refine wpAny_bind (wpAny_standAt (wpAny_bind (m := comprehension _ scope X.env _ (newList []) false (eval iter X.env) (some (assign (.Name y py) X.env)) >>= fun _ => pure ()) ?_))
  refine wpAny_bind (thn (lcN_core (Q := fun x H1 => gName i x σ H1 D.nx) (Qf := fun _ z => SP X pins D .next z) hc hN hi ok hn hv hg ht hd hs I h fun L C s1 m H1 J q ns f => ?_) fun _ z hq => wpAny_pure (wpAny_pure hq))
  show wpAny _ _ (assign (.Name y py) X.env (.ref L)) _ _ _
  refine wpAny_assign_Name (store_ok2 (v := V.ref L) J hN hy (.inl hyl) rfl (fun s2 J2 ⟨a, sb, ha⟩ => ?_) (.inr hyl))
  have ne : C ≠ a := ha.elim (fun z => by rw [z]; exact f.2.1) fun z e => f.2.2.2.2.1 y a z e.symm
  exact ⟨m, ns.sameBut sb ne, fun h3 sb3 => ⟨_, H1, J2.turned (t' := s2.toks) (fun b o hb e => (sb3.2 b hb).trans e) f.1 f.2.1 f.2.2.2.1 f.2.2.2.2.1 f.2.2.2.2.2, q⟩⟩
end
section
variable {J : It} {n : Nat} {G : Hp → Prop} {Yl : Nat → Hp → V → Hp → Prop} {g : TG} {tt : TT} {t : TN} {vs : List Nat} {σ : L2.St} {H : Hp} {Nx : Hp → Prop}
/-- a clause's turns, by what holds after each; τ: the slots ahead of a turn, written out -/
theorem lp_it (τ : L2.St) (ht : wipe σ vs = τ) (w : L2.Walk J n G Yl) (Pv : Nat → Hp → Prop) (h0 : Pv 0 H) (hG : ∀ i H, i ≤ n → Pv i H → G H)
    (hs : ∀ i x H H', i < n → Pv i H → Yl i H x H' → g x τ H' fun σ3 H5 => wipe σ3 vs = τ ∧ tt σ3 H5 fun b H6 => if b = true then t σ3 H6 (Pv (i + 1)) else Pv (i + 1) H6) (hd : ∀ H, Pv n H → Nx H) :
    tLoop g tt t vs J σ H Nx := by
  subst ht
  refine ⟨fun i m H => m + i = n ∧ Pv i H, ⟨n, rfl, h0⟩, fun i m H ⟨e, p⟩ => ?_⟩
  have q := hG i H (by omega) p
  by_cases c : i = n
  · subst c
    exact .inl ⟨w.stops H q, hd H p⟩
  · exact .inr ⟨w.goes i H (by omega) q, Pv (i + 1), fun H' p' => ⟨m - 1, by omega, by omega, p'⟩, fun x H' y => hs i x H H' (by omega) p (w.yields i H x H' (by omega) q y)⟩
end
end Own

/-! zip over a text and a tuple -/
namespace Own
open PySem PySem.Spec PyProof.Rows L2 PySem.Froz
/-- an iterator that is drawn from by zip: n items; At i k: k of them have come from the one at i; keep: what else it rests on -/
structure Draws (P : Program) (w : World) (n : Nat) (itm : Nat → Value → Prop) (At : Addr → Nat → Heap → Prop) (rest : Addr → Prop) : Prop where
  keep : ∀ i k h h', At i k h → (∀ b o, b = i ∨ rest b → h.get? b = some o → h'.get? b = some o) → At i k h'
  has : ∀ i k h, At i k h → ∃ o, h.get? i = some o ∧ ∀ v, o.data ≠ .cell v
  item : ∀ (A : Around) (E : Value → Shared → Prop) (s : Shared) (Q : Value → Shared → Prop) i k, k < n → At i k s.heap → ¬ rest i → (∀ v h' tk, itm k v → At i (k + 1) h' → Heap.SameBut i s.heap h' → Q v { s with heap := h', toks := tk }) →
    wpAny (model P w) A (Builtin.SmallTypes.nextOf (.ref i)) Q E s
  stop : ∀ (A : Around) (E : Value → Shared → Prop) (s : Shared) (Q : Value → Shared → Prop) i, A.handled = none → At i n s.heap → (∀ h' e, Heap.ExtBut i s.heap h' → (∃ o, h'.get? e = some o ∧ o.cls = .type "StopIteration") → E (.ref e) { s with heap := h' }) →
    wpAny (model P w) A (Builtin.SmallTypes.nextOf (.ref i)) Q E s
/-- a text's letters -/
theorem draws_text (P : Program) (w : World) (x : Str) (u : Tok) : Draws P w x.cps.size (fun k v => ∃ c t, x.cps[k]? = some c ∧ v = .str (sing c) t) (fun i k h => h.get? i = some (itObj x u k)) (fun _ => False) where
  keep := fun i k h h' e kk => kk i _ (.inl rfl) e
  has := fun i k h e => ⟨_, e, fun v z => nomatch z⟩
  item := fun A E s Q i k lt ho _ q => by
    obtain ⟨c, hc⟩ : ∃ c, x.cps[k]? = some c := ⟨_, Array.getElem?_eq_getElem lt⟩
    have hT : s.TypeIs (.ref i) "str_ascii_iterator" := ⟨_, ho, rfl⟩
    have hd : (itObj x u k).data = .fields #[.str x u, .int k 0] := rfl
    unfold Builtin.SmallTypes.nextOf
    refine wpAny_bind (wpAny_callSpecial?_slot (name := Str.ofString "__next__") hT F.slot_str_ascii_iterator_next
      (wpAny_call_entry F.slot_str_ascii_iterator_next hT F.entry_str_ascii_iterator_next ?_ (F.args_str_ascii_iterator_next_1 _)))
    refine wpAny_bind (m := field (.ref i) 0) (wpAny_field ho hd (x := .str x u) rfl ?_)
    refine wpAny_bind (m := field (.ref i) 1) (wpAny_field ho hd (x := .int k 0) rfl ?_)
    simp only [Int.toNat_natCast, hc]
    refine wpAny_bind (wpAny_setField ho hd (by simp) (wpAny_bind (wpAny_mkStr (wpAny_pure ⟨_, rfl, wpAny_pure (q _ _ _ ⟨c, _, hc, rfl⟩ ?_ (Heap.SameBut.update ..))⟩) (by show 1 ≤ sizeLine; decide))))
    have e := upd_const (Obj.mapFields (fun vs => vs.setIfInBounds 1 (rawInt ((k : Int) + 1)))) ho
    show (s.heap.update i (Obj.mapFields (fun vs => vs.setIfInBounds 1 (rawInt ((k : Int) + 1))))).get? i = _
    rw [e, it_step x u k]
    exact get_upd _ ho rfl
  stop := fun A E s Q i hh ho q => by
    have hc : x.cps[x.cps.size]? = none := by simp
    have hT : s.TypeIs (.ref i) "str_ascii_iterator" := ⟨_, ho, rfl⟩
    have hd : (itObj x u x.cps.size).data = .fields #[.str x u, .int x.cps.size 0] := rfl
    unfold Builtin.SmallTypes.nextOf
    refine wpAny_bind (wpAny_callSpecial?_slot (name := Str.ofString "__next__") hT F.slot_str_ascii_iterator_next
      (wpAny_call_entry F.slot_str_ascii_iterator_next hT F.entry_str_ascii_iterator_next ?_ (F.args_str_ascii_iterator_next_1 _)))
    refine wpAny_bind (m := field (.ref i) 0) (wpAny_field ho hd (x := .str x u) rfl ?_)
    refine wpAny_bind (m := field (.ref i) 1) (wpAny_field ho hd (x := .int x.cps.size 0) rfl ?_)
    simp only [Int.toNat_natCast, hc]
    refine wpAny_bind (wpAny_rule (wpAny_bind (wpAny_setField ho hd (by simp) (wpAny_bind (wpAny_letGo ?_)))))
    refine wpAny_bind (m := newExc (.type "StopIteration") []) ?_
    simp only [newExc, newTuple]
    refine wpAny_bind (wpAny_newObj_type ?_ (by size_fits))
    refine wpAny_bind (m := firstArgMember _ _) (wpAny_of_eq (a := Value.none) (by first | rfl | (simp only [firstArgMember]; rfl)) (wpAny_newObj_type ?_ (by size_fits)))
    simp only [raiseNew]
    refine wpAny_bind (wpAny_handled ?_)
    first | rw [show A.in1.handled = none from hh] | rw [hh]
    exact wpAny_bind (wpAny_pure (wpAny_throw (q _ _ (((Heap.SameBut.update ..).extBut.push _).push _) ⟨_, Heap.get?_push_size _ rfl, rfl⟩)))
/-- a tuple's items -/
theorem draws_tup (P : Program) (w : World) (l : Addr) (items : Array Value) : Draws P w items.size (fun k v => items[k]? = some v) (fun i k h => h.IsTupleIter i l k ∧ h.IsTuple l items ∧ l ≠ i) (fun b => b = l) where
  keep := fun i k h h' e kk => ⟨e.1.at fun o z => kk i o (.inl rfl) z, (by
    obtain ⟨_, ⟨o, z, r⟩, _⟩ := e
    exact ⟨o, kk l o (.inr rfl) z, r⟩), e.2.2⟩
  has := fun i k h e => by
    obtain ⟨⟨o, z, _, d⟩, _⟩ := e
    exact ⟨o, z, fun v y => by rw [d] at y; cases y⟩
  item := fun A E s Q i k lt ho _ q => RZ.nextOf_tuple_item ho.1 ho.2.1 (Array.getElem?_eq_getElem lt) fun h' it sb => q _ h' s.toks (Array.getElem?_eq_getElem lt) ⟨it, (by
    obtain ⟨o, z, r⟩ := ho.2.1
    exact ⟨o, (sb.2 l ho.2.2).trans z, r⟩), ho.2.2⟩ sb
  stop := fun A E s Q i hh ho q => RZ.nextOf_tuple_end hh ho.1 ho.2.1 (by simp) q
/-- the places of a zip's turning are unlike; what its sources rest on is elsewhere -/
structure Far (z TI TO i1 i2 : Addr) (r1 r2 : Addr → Prop) : Prop where
  a : TI ≠ z
  b : TO ≠ z
  c : i1 ≠ z
  d : i2 ≠ z
  e : TI ≠ TO
  f : TI ≠ i1
  g : TI ≠ i2
  h : TO ≠ i1
  i : TO ≠ i2
  j : i1 ≠ i2
  r : ∀ q, r1 q ∨ r2 q → q ≠ z ∧ q ≠ TO ∧ q ≠ i1 ∧ q ≠ i2
section
variable {P : Program} {w : World} {A : Around} {E : Value → Shared → Prop} {s : Shared} {n1 n2 k : Nat} {it1 it2 : Nat → Value → Prop} {At1 At2 : Addr → Nat → Heap → Prop} {r1 r2 : Addr → Prop} {z TI TO i1 i2 : Addr} {x0 y0 : Value}
/-- both have an item -/
theorem zip_item (D1 : Draws P w n1 it1 At1 r1) (D2 : Draws P w n2 it2 At2 r2) (F : Far z TI TO i1 i2 r1 r2) (hz : IsZip s.heap z TI TO .none) (hI : IsPair s.heap TI (.ref i1) (.ref i2)) (hO : IsPair s.heap TO x0 y0) (h1 : At1 i1 k s.heap) (h2 : At2 i2 k s.heap) (l1 : k < n1) (l2 : k < n2)
    {Q : Value → Shared → Prop} (q : ∀ (h' : Heap) tk v1 v2, it1 k v1 → it2 k v2 → IsZip h' z TI TO (rawInt s.heap.objs.size) → IsPair h' TO v1 v2 → At1 i1 (k + 1) h' → At2 i2 (k + 1) h' → IsPair h' s.heap.objs.size v1 v2 →
      (∀ c o, c ≠ z → c ≠ TO → c ≠ i1 → c ≠ i2 → s.heap.get? c = some o → h'.get? c = some o) → Q (.ref s.heap.objs.size) { s with heap := h', toks := tk }) :
    wpAny (model P w) A (Builtin.«zip.__next__» ⟨[.ref z], []⟩) (fun fin s' => ∃ v, fin = .done (.ret v) ∧ Q v s') E s := by
  have n1r : ¬ r1 i1 := fun z => (F.r i1 (.inl z)).2.2.1 rfl
  have n2r : ¬ r2 i2 := fun z => (F.r i2 (.inr z)).2.2.2 rfl
  refine wpAny_bind (m := field (.ref z) 2) (wpAny_field hz rfl (x := .bool false) rfl ?_)
  refine wpAny_bind (m := field (.ref z) 3) (wpAny_field hz rfl (x := .ref TI) rfl ?_)
  refine wpAny_bind (wpAny_seqItems hI rfl ?_)
  refine wpAny_bind (m := Builtin.SmallTypes.ownedTupleIsFree (.ref z)) ?_
  unfold Builtin.SmallTypes.ownedTupleIsFree
  refine wpAny_bind (wpAny_field hz rfl (x := .none) rfl (wpAny_pure ?_))
  simp only [if_true]
  refine wpAny_bind (wpAny_rule (wpAny_bind (wpAny_field hz rfl (x := .ref TO) rfl (wpAny_bind (wpAny_setField_rec hz (by simp) fun ha za sa => ?_)))))
  replace za : IsZip ha z TI TO .ellipsis := za
  refine wpAny_bind ?_
  simp only [List.zipIdx_cons, List.zipIdx_nil, List.forIn_cons, List.forIn_nil]
  -- the first
  refine wpAny_bind (wpAny_bind (wpAny_onRaise (wpAny_bind (m := Builtin.SmallTypes.nextOf (.ref i1)) ?_)))
  refine D1.item _ _ { s with heap := ha } _ i1 k l1 (D1.keep _ _ _ _ h1 fun b o hb e => (sa.2 b (hb.elim (fun e => e ▸ F.c) fun r => (F.r b (.inl r)).1)).trans e) n1r fun v1 hb tb p1 a1 sb => wpAny_pure ?_
  have Ob : IsPair hb TO x0 y0 := (sb.2 TO F.h).trans ((sa.2 TO F.b).trans hO)
  refine wpAny_bind (wpAny_seqItems Ob rfl (wpAny_bind (wpAny_updateSeq_pair Ob fun hc Oc sc => wpAny_bind (wpAny_letGo (wpAny_pure ?_)))))
  replace Oc : IsPair hc TO v1 y0 := Oc
  -- the second
  refine wpAny_bind (wpAny_bind (wpAny_onRaise (wpAny_bind (m := Builtin.SmallTypes.nextOf (.ref i2)) ?_)))
  have h2c : At2 i2 k hc := D2.keep _ _ _ _ h2 fun b o hb e => by
    have f : b ≠ z ∧ b ≠ TO ∧ b ≠ i1 := hb.elim (fun e => by rw [e]; exact ⟨F.d, F.i.symm, F.j.symm⟩) fun r => have g := F.r b (.inr r); ⟨g.1, g.2.1, g.2.2.1⟩
    exact (sc.2 b f.2.1).trans ((sb.2 b f.2.2).trans ((sa.2 b f.1).trans e))
  refine D2.item _ _ { s with heap := hc, toks := tb } _ i2 k l2 h2c n2r fun v2 hd td p2 a2 sd => wpAny_pure ?_
  have Od : IsPair hd TO v1 y0 := (sd.2 TO F.i).trans Oc
  refine wpAny_bind (wpAny_seqItems Od rfl (wpAny_bind (wpAny_updateSeq_pair Od fun he Oe se => wpAny_bind (wpAny_letGo (wpAny_pure (wpAny_pure ?_))))))
  replace Oe : IsPair he TO v1 v2 := Oe
  refine wpAny_bind (wpAny_seqItems Oe rfl (wpAny_bind (wpAny_newTuple ?_)))
  have sz : he.objs.size = s.heap.objs.size := by rw [se.1, sd.1, sc.1, sb.1, sa.1]
  -- what stands as before
  have kp : ∀ c o, c ≠ z → c ≠ TO → c ≠ i1 → c ≠ i2 → s.heap.get? c = some o → he.get? c = some o := fun c o c1 c2 c3 c4 e => (se.2 c c2).trans ((sd.2 c c4).trans ((sc.2 c c2).trans ((sb.2 c c3).trans ((sa.2 c c1).trans e))))
  have ze : IsZip he z TI TO .ellipsis := (se.2 z F.b.symm).trans ((sd.2 z F.d.symm).trans ((sc.2 z F.b.symm).trans ((sb.2 z F.c.symm).trans za)))
  have a1e : At1 i1 (k + 1) he := D1.keep _ _ _ _ a1 fun b o hb e => by
    have f : b ≠ TO ∧ b ≠ i2 := hb.elim (fun e => by rw [e]; exact ⟨F.h.symm, F.j⟩) fun r => have g := F.r b (.inl r); ⟨g.2.1, g.2.2.2⟩
    exact (se.2 b f.1).trans ((sd.2 b f.2).trans ((sc.2 b f.1).trans e))
  have a2e : At2 i2 (k + 1) he := D2.keep _ _ _ _ a2 fun b o hb e => by
    have f : b ≠ TO := hb.elim (fun e => by rw [e]; exact F.i.symm) fun r => (F.r b (.inr r)).2.1
    exact (se.2 b f).trans e
  refine wpAny_bind (m := Builtin.SmallTypes.ownedTupleHandOut (.ref z) (.ref he.objs.size)) ?_
  unfold Builtin.SmallTypes.ownedTupleHandOut
  have zf : IsZip (he.push { cls := .type "tuple", data := .seq #[v1, v2] }) z TI TO .ellipsis := Heap.get?_push_of_some _ ze
  refine wpAny_bind (wpAny_setField_rec zf (by simp) fun hg zg sg => ?_)
  replace zg : IsZip hg z TI TO (rawInt he.objs.size) := zg
  refine wpAny_setField_rec zg (by simp) fun hh zh sh => ?_
  replace zh : IsZip hh z TI TO (rawInt he.objs.size) := zh
  have up : ∀ c o, c ≠ z → he.get? c = some o → hh.get? c = some o := fun c o c1 e => (sh.2 c c1).trans ((sg.2 c c1).trans (Heap.get?_push_of_some _ e))
  have zlt : z < he.objs.size := Heap.lt_size ze
  have new : IsPair hh he.objs.size v1 v2 := (sh.2 _ (Nat.ne_of_gt zlt)).trans ((sg.2 _ (Nat.ne_of_gt zlt)).trans (Heap.get?_push_size _ rfl))
  rw [sz] at zh new
  refine wpAny_pure ⟨_, rfl, ?_⟩
  show Q (.ref he.objs.size) _
  rw [sz]
  refine q hh _ v1 v2 p1 p2 zh (up _ _ F.b Oe) (D1.keep _ _ _ _ a1e fun b o hb e => up b o (hb.elim (fun e => e ▸ F.c) fun r => (F.r b (.inl r)).1) e) (D2.keep _ _ _ _ a2e fun b o hb e => up b o (hb.elim (fun e => e ▸ F.d) fun r => (F.r b (.inr r)).1) e) new fun c o c1 c2 c3 c4 e => up c o c1 (kp c o c1 c2 c3 c4 e)
/-- the first is at its end -/
theorem zip_stop (D1 : Draws P w n1 it1 At1 r1) (F : Far z TI TO i1 i2 r1 r2) (hh : A.handled = none) (hz : IsZip s.heap z TI TO .none) (hI : IsPair s.heap TI (.ref i1) (.ref i2)) (h1 : At1 i1 n1 s.heap)
    {Q : Fin → Shared → Prop} (q : ∀ (h' : Heap) e, (∀ c o, c ≠ z → c ≠ TO → c ≠ i1 → c ≠ i2 → s.heap.get? c = some o → h'.get? c = some o) → (∃ o, h'.get? e = some o ∧ o.cls = .type "StopIteration") → E (.ref e) { s with heap := h' }) :
    wpAny (model P w) A (Builtin.«zip.__next__» ⟨[.ref z], []⟩) Q E s := by
  refine wpAny_bind (m := field (.ref z) 2) (wpAny_field hz rfl (x := .bool false) rfl ?_)
  refine wpAny_bind (m := field (.ref z) 3) (wpAny_field hz rfl (x := .ref TI) rfl ?_)
  refine wpAny_bind (wpAny_seqItems hI rfl ?_)
  refine wpAny_bind (m := Builtin.SmallTypes.ownedTupleIsFree (.ref z)) ?_
  unfold Builtin.SmallTypes.ownedTupleIsFree
  refine wpAny_bind (wpAny_field hz rfl (x := .none) rfl (wpAny_pure ?_))
  simp only [if_true]
  refine wpAny_bind (wpAny_rule (wpAny_bind (wpAny_field hz rfl (x := .ref TO) rfl (wpAny_bind (wpAny_setField_rec hz (by simp) fun ha za sa => ?_)))))
  replace za : IsZip ha z TI TO .ellipsis := za
  refine wpAny_bind ?_
  simp only [List.zipIdx_cons, List.zipIdx_nil, List.forIn_cons, List.forIn_nil]
  refine wpAny_bind (wpAny_bind (wpAny_onRaise (wpAny_bind (m := Builtin.SmallTypes.nextOf (.ref i1)) ?_)))
  refine D1.stop _ _ { s with heap := ha } _ i1 hh (D1.keep _ _ _ _ h1 fun b o hb e => (sa.2 b (hb.elim (fun e => e ▸ F.c) fun r => (F.r b (.inl r)).1)).trans e) fun hb e kb ⟨o, ho, co⟩ => ?_
  have zb : IsZip hb z TI TO .ellipsis := kb z _ F.c.symm za
  have ne : e ≠ z := fun x => by
    rw [x, zb] at ho
    cases ho
    simp at co
  exact wpAny_setField_rec zb (by simp) fun hc zc sc => q hc e (fun c o c1 _ c3 _ x => (sc.2 c c1).trans (kb c o c3 ((sa.2 c c1).trans x))) ⟨o, (sc.2 e ne).trans ho, co⟩
end
end Own

namespace Own
open PySem PySem.Spec PyProof.Rows L2 PySem.Froz
abbrev zs1 (h : Heap) (x : Str) (u : Tok) : Heap := h.push (itObj x u 0)
abbrev zs2 (h : Heap) (x : Str) (u : Tok) (l : Addr) : Heap := (zs1 h x u).push { cls := .type "tuple_iterator", data := .fields #[.ref l, .int 0 0] }
abbrev zs3 (h : Heap) (x : Str) (u : Tok) (l : Addr) : Heap := (zs2 h x u l).push { cls := .type "tuple", data := .seq #[.ref h.objs.size, .ref (zs1 h x u).objs.size] }
abbrev zs4 (h : Heap) (x : Str) (u : Tok) (l : Addr) : Heap := (zs3 h x u l).push { cls := .type "tuple", data := .seq #[.none, .none] }
abbrev zs5 (h : Heap) (x : Str) (u : Tok) (l : Addr) : Heap := (zs4 h x u l).push { cls := .type "zip", data := .fields #[.none, .bool false, .bool false, .ref (zs2 h x u l).objs.size, .ref (zs3 h x u l).objs.size] }
theorem zip_made (x : Str) (u : Tok) (l : Addr) (ys : Array Value) (ha : x.cps.all (· < 128) = true) :
    Meets (Builtin.«zip.__new__» ⟨[.type "zip", .str x u, .ref l], []⟩) (fun _ R s => s.heap.IsTuple l ys ∧ R (.ok (.ret (.ref (zs4 s.heap x u l).objs.size))) { s with heap := zs5 s.heap x u l }) :=
  .of_wp fun prog w A R s h => by
    obtain ⟨hp, g, d, tk, os⟩ := s
    obtain ⟨hl, h⟩ := h
    have hsub := sub_zip
    have hL : Heap.IsTuple (Shared.heap ⟨hp.push { cls := .type "str_ascii_iterator", data := .fields #[.str x u, .int 0 0] }, g, d, tk, os⟩) l ys := Heap.IsTuple.push hl _
    wp_walk using wpAny_pyIter_ascii (x := x) (t := u) ha, wpAny_pyIter_tuple hL
    exact ⟨_, rfl, h⟩
section
variable {P : Program} {w : World} {A : Around} {E : Value → Shared → Prop} {s : Shared} {n1 n2 k : Nat} {it1 it2 : Nat → Value → Prop} {At1 At2 : Addr → Nat → Heap → Prop} {r1 r2 : Addr → Prop} {z TI TO i1 i2 : Addr} {x0 y0 : Value}
theorem call_zipS {x : Str} {u : Tok} {l : Addr} {ys : Array Value} {Q : Value → Shared → Prop} (ha : x.cps.all (· < 128) = true) (hl : s.heap.IsTuple l ys)
    (q : ∀ h', IsZip h' (s.heap.objs.size + 4) (s.heap.objs.size + 2) (s.heap.objs.size + 3) .none → IsPair h' (s.heap.objs.size + 2) (.ref s.heap.objs.size) (.ref (s.heap.objs.size + 1)) → IsPair h' (s.heap.objs.size + 3) .none .none →
      h'.get? s.heap.objs.size = some (itObj x u 0) → h'.IsTupleIter (s.heap.objs.size + 1) l 0 → (∀ c o, s.heap.get? c = some o → h'.get? c = some o) → Q (.ref (s.heap.objs.size + 4)) { s with heap := h' }) :
    wpAny (model P w) A (call (.type "zip") [.str x u, .ref l]) Q E s := by
  refine callType_new F.called_zip (by decide) (F.typeCall_zip_2 _ _) (F.newCall_zip_2 _ _) (fun obj => F.args_object_init_3 obj _ _) F.entry_zip_new (zip_made x u l ys ha) ⟨hl, ?_⟩
  have e1 : (zs1 s.heap x u).objs.size = s.heap.objs.size + 1 := Heap.size_push ..
  have e2 : (zs2 s.heap x u l).objs.size = s.heap.objs.size + 2 := by rw [Heap.size_push, e1]
  have e3 : (zs3 s.heap x u l).objs.size = s.heap.objs.size + 3 := by rw [Heap.size_push, e2]
  have e4 : (zs4 s.heap x u l).objs.size = s.heap.objs.size + 4 := by rw [Heap.size_push, e3]
  have up : ∀ {h : Heap} {o : Obj} {c : Addr} {v : Obj}, h.get? c = some v → (h.push o).get? c = some v := fun e => Heap.get?_push_of_some _ e
  have g5 : (zs5 s.heap x u l).get? (zs4 s.heap x u l).objs.size = some _ := Heap.get?_push_size _ rfl
  have g4 : (zs5 s.heap x u l).get? (zs3 s.heap x u l).objs.size = some _ := up (Heap.get?_push_size _ rfl)
  have g3 : (zs5 s.heap x u l).get? (zs2 s.heap x u l).objs.size = some _ := up (up (Heap.get?_push_size _ rfl))
  have g2 : (zs5 s.heap x u l).get? (zs1 s.heap x u).objs.size = some _ := up (up (up (Heap.get?_push_size _ rfl)))
  have g1 : (zs5 s.heap x u l).get? s.heap.objs.size = some (itObj x u 0) := up (up (up (up (Heap.get?_push_size _ rfl))))
  rw [e1] at g2 g3
  rw [e2] at g3 g5
  rw [e3] at g4 g5
  rw [e4] at g5
  show _ ∧ _
  rw [e4]
  exact ⟨⟨_, g5, rfl⟩, q _ g5 g3 g4 g1 ⟨_, g2, rfl, rfl⟩ fun c o e => up (up (up (up (up e))))⟩
theorem next_item (D1 : Draws P w n1 it1 At1 r1) (D2 : Draws P w n2 it2 At2 r2) (F : Far z TI TO i1 i2 r1 r2) (hz : IsZip s.heap z TI TO .none) (hI : IsPair s.heap TI (.ref i1) (.ref i2)) (hO : IsPair s.heap TO x0 y0) (h1 : At1 i1 k s.heap) (h2 : At2 i2 k s.heap) (l1 : k < n1) (l2 : k < n2)
    {Q : Option Value → Shared → Prop} (q : ∀ (h' : Heap) tk v1 v2, it1 k v1 → it2 k v2 → IsZip h' z TI TO (rawInt s.heap.objs.size) → IsPair h' TO v1 v2 → At1 i1 (k + 1) h' → At2 i2 (k + 1) h' → IsPair h' s.heap.objs.size v1 v2 →
      (∀ c o, c ≠ z → c ≠ TO → c ≠ i1 → c ≠ i2 → s.heap.get? c = some o → h'.get? c = some o) → Q (some (.ref s.heap.objs.size)) { s with heap := h', toks := tk }) : wpAny (model P w) A (pyNext (.ref z)) Q E s := by
  have hT : s.TypeIs (.ref z) "zip" := ⟨_, hz, rfl⟩
  unfold pyNext
  exact wpAny_bind (wpAny_attempt (wpAny_callSpecial?_slot (name := Str.ofString "__next__") hT PySem.F.slot_zip_next
    (wpAny_call_entry PySem.F.slot_zip_next hT PySem.F.entry_zip_next (zip_item D1 D2 F hz hI hO h1 h2 l1 l2 fun h' tk v1 v2 b1 b2 b3 b4 b5 b6 b7 b8 => wpAny_pure (q h' tk v1 v2 b1 b2 b3 b4 b5 b6 b7 b8)) (PySem.F.args_zip_next_1 _))))
theorem next_stop (D1 : Draws P w n1 it1 At1 r1) (F : Far z TI TO i1 i2 r1 r2) (hh : A.handled = none) (hz : IsZip s.heap z TI TO .none) (hI : IsPair s.heap TI (.ref i1) (.ref i2)) (h1 : At1 i1 n1 s.heap)
    {Q : Option Value → Shared → Prop} (q : ∀ h', (∀ c o, c ≠ z → c ≠ TO → c ≠ i1 → c ≠ i2 → s.heap.get? c = some o → h'.get? c = some o) → Q none { s with heap := h' }) : wpAny (model P w) A (pyNext (.ref z)) Q E s := by
  have hT : s.TypeIs (.ref z) "zip" := ⟨_, hz, rfl⟩
  unfold pyNext
  refine wpAny_bind (wpAny_attempt (wpAny_callSpecial?_slot (name := Str.ofString "__next__") hT PySem.F.slot_zip_next
    (wpAny_call_entry PySem.F.slot_zip_next hT PySem.F.entry_zip_next ?_ (PySem.F.args_zip_next_1 _))))
  refine zip_stop D1 F (show A.in1.handled = none from hh) hz hI h1 fun h' e kk ⟨o, ho, co⟩ => ?_
  exact wpAny_bind (wpAny_isInstance (T := "StopIteration") (b := true) ⟨o, ho, co⟩ isSubtype_stop (wpAny_pure (q h' kk)))
end
end Own

namespace Own
open PySem PySem.Spec PyProof.Rows L2 PySem.Froz
/-- the text y and the tuple at b, that is no shorter, item by item in new pairs -/
def Itzs (K : PySem.W.Frag) (y : Str) (b : Addr) : It :=
  ⟨fun i H => ∃ (ys : List V) (v : V), i < y.cps.size ∧ SqT K H b ys ∧ ys[i]? = some v,
    fun i H v H' => ∃ T c x, v = .ref T ∧ H T = none ∧ H' = upd H T (.tup [.str (sing c), x]) ∧ y.cps[i]? = some c ∧ ∀ ys, SqT K H b ys → ys[i]? = some x,
    fun i H => i = y.cps.size ∧ ∃ ys : List V, SqT K H b ys⟩
/-- the objects of such a walk -/
def ZipSt (y : Str) (u : Tok) (b z TI TO i1 i2 : Addr) (i : Nat) (h : Heap) : Prop :=
  IsZip h z TI TO .none ∧ IsPair h TI (.ref i1) (.ref i2) ∧ (∃ p q, IsPair h TO p q) ∧ h.get? i1 = some (itObj y u i) ∧ h.IsTupleIter i2 b i
theorem turn_zips {P : Program} {w : World} {K : PySem.W.Frag} {elts : List Expr} {kk : Nat} {tpos : Pos} {y : Str} {u : Tok} {b z TI TO i1 i2 : Addr} (F : Far z TI TO i1 i2 (fun _ => False) (fun q => q = b)) :
    Turn P w K (.Tuple elts kk tpos) (Itzs K y b) [z, TI, TO, i1, i2] z (ZipSt y u b z TI TO i1 i2) where
  mem := List.mem_cons_self
  obj := fun i h ⟨hz, hI, ⟨p, q, hO⟩, h1, ⟨o, h2, _, d2⟩⟩ c hc => by
    simp only [List.mem_cons, List.not_mem_nil, or_false] at hc
    rcases hc with rfl | rfl | rfl | rfl | rfl
    · exact ⟨_, hz, fun v e => nomatch e⟩
    · exact ⟨_, hI, fun v e => nomatch e⟩
    · exact ⟨_, hO, fun v e => nomatch e⟩
    · exact ⟨_, h1, fun v e => nomatch e⟩
    · exact ⟨_, h2, fun v e => by rw [d2] at e; cases e⟩
  keep := fun i h h' ⟨hz, hI, ⟨p, q, hO⟩, h1, h2⟩ k =>
    ⟨k z (by simp) _ hz, k TI (by simp) _ hI, ⟨p, q, k TO (by simp) _ hO⟩, k i1 (by simp) _ h1, h2.at fun o e => k i2 (by simp) o e⟩
  item := fun X hP hw hK hc i pins s σ H E I hf ⟨hz, hI, ⟨p, q, hO⟩, h1, h2⟩ ⟨ys, v, hi, hq, hv⟩ => by
    subst hP hw hK
    obtain ⟨its, rv, hb, _⟩ := I.tuple hq
    obtain ⟨r, hr, rr⟩ := rv.get hv
    have hi2 : i < its.toArray.size := by rw [List.size_toArray]; exact (List.getElem?_eq_some_iff.mp hr).1
    have zlt : z < s.heap.objs.size := Heap.lt_size hz
    have far := F.r b (.inr rfl)
    refine next_item (draws_text X.prog X.w y u) (draws_tup X.prog X.w b its.toArray) F hz hI hO h1 ⟨h2, hb, far.2.2.2⟩ hi hi2 fun h' tk v1 v2 ⟨c, t, hc1, e1⟩ e2 z' O' a1 a2 T' kp => ?_
    have e3 : v2 = r := by
      have q : its.toArray[i]? = some r := by simpa using hr
      rw [q] at e2
      exact (Option.some.inj e2).symm
    subst e1 e3
    refine ⟨_, rfl, wpAny_letOwnedTupleGo_zip (s := { s with heap := h', toks := tk }) z' fun h3 z3 sb => ?_⟩
    have kp3 : ∀ c o, c ∉ [z, TI, TO, i1, i2] → s.heap.get? c = some o → h3.get? c = some o := fun c o hn e => by
      simp only [List.mem_cons, List.not_mem_nil, or_false, not_or] at hn
      exact (sb.2 c hn.1).trans (kp c o hn.1 hn.2.2.1 hn.2.2.2.1 hn.2.2.2.2 e)
    have T3 : h3.get? s.heap.objs.size = some { cls := .type "tuple", data := .seq #[.str (sing c) t, v2] } := (sb.2 _ (Nat.ne_of_gt zlt)).trans T'
    have new : ObjOk X.prog X.w (upd H s.heap.objs.size (.tup [.str (sing c), v])) h3 s.heap.objs.size (.tup [.str (sing c), v]) :=
      ⟨by show 2 ≤ sizeLine; decide, [.str (sing c) t, v2], .cons ⟨t, rfl⟩ (.cons rr .nil), ⟨_, T3, rfl, _, rfl⟩⟩
    have J : Inv X pins σ (upd H s.heap.objs.size (.tup [.str (sing c), v])) { s with heap := h3, toks := tk } := I.turnedNew (t' := tk) (ch := [z, TI, TO, i1, i2]) kp3 hf (Nat.le_refl _) new
    refine ⟨.ref s.heap.objs.size, _, J, rfl, ⟨_, c, v, rfl, I.hok.fresh (Nat.le_refl _), rfl, hc1, fun l hl => by rw [I.tuple_inj hl hq]; exact hv⟩, ⟨z3, ?_, ⟨_, _, (sb.2 _ F.b).trans O'⟩, (sb.2 _ F.c).trans a1, a2.1.at fun o e => (sb.2 _ F.d).trans e⟩, fun d hd => ?_⟩
    · exact (sb.2 _ F.a).trans (kp _ _ F.a F.e F.f F.g hI)
    · have lt : d < s.heap.objs.size := by
        simp only [List.mem_cons, List.not_mem_nil, or_false] at hd
        rcases hd with rfl | rfl | rfl | rfl | rfl
        · exact zlt
        · exact Heap.lt_size hI
        · exact Heap.lt_size hO
        · exact Heap.lt_size h1
        · obtain ⟨_, e, _⟩ := h2; exact Heap.lt_size e
      rw [upd_ne (Nat.ne_of_lt lt)]
      exact (hf d hd).1
  done := fun X hP hw hK hc i pins s σ H E I hf ⟨hz, hI, ⟨p, q, hO⟩, h1, h2⟩ ⟨hi, ys, hq⟩ => by
    subst hP hw hK hi
    exact next_stop (draws_text X.prog X.w y u) F (I.ok.hd hc) hz hI h1 fun h' kp => ⟨rfl, I.turnedL (t' := s.toks) (ch := [z, TI, TO, i1, i2]) (fun c o hn e => by
      simp only [List.mem_cons, List.not_mem_nil, or_false, not_or] at hn
      exact kp c o hn.1 hn.2.2.1 hn.2.2.2.1 hn.2.2.2.2 e) hf⟩
  self := fun A i s Q E st h => wpAny_pyIter_zip st.1 h
/-- zip(text, tuple) -/
def iZips (K : PySem.W.Frag) (ta : TA) : TI := fun σ H R => ta σ H fun vs H1 => ∃ (y : Str) (b : Addr) (ys : List V), vs = [.str y, .ref b] ∧ y.cps.all (· < 128) = true ∧ SqT K H1 b ys ∧ R (Itzs K y b) H1
theorem pi_zips {X : Cx} {e e2 : Expr} {ta : TA} {p pos tpos : Pos} {elts : List Expr} {kk : Nat} (hg : Gl X "zip") (hm : X.mg "zip" = none) (ha : PA X [e, e2] ta)
    (hs : starEach [e, e2] X.env = (false, eval e X.env) :: starEach [e2] X.env := by rfl) (hpl : (backTo pos (starEach [e2] X.env)).any (·.1) = false := by rfl) :
    PI X (.Tuple elts kk tpos) (.Call (.Name "zip" p) [e, e2] [] pos) (iZips X.K ta) := by
  refine ⟨fun pins s σ H R I h => Call_ (ld_blt I hg hm PyProof.Rows.boot_zip (PyProof.Rows.callWith_type1 (thn (ha.run pos pins s σ H _ I h) fun us s1 ⟨vs, H1, I1, r1, y, b, ys, ev, asc, hq, q⟩ => ?_) hs hpl))⟩
  subst ev
  cases r1 with
  | cons r rr =>
    cases rr with
    | cons r' r2 =>
      cases r2
      obtain ⟨u, rfl⟩ := r
      cases r'
      obtain ⟨its, rv, hb, _⟩ := I1.tuple hq
      have lt : b < s1.heap.objs.size := by
        obtain ⟨o, e, _⟩ := id hb
        exact Heap.lt_size e
      refine call_zipS asc (show s1.heap.IsTuple b its.toArray from hb) fun h' hz hI hO h1 h2 kp => wpAny_pyIter_zip hz ?_
      have J : Inv X pins σ H1 { s1 with heap := h' } := I1.kept (t' := s1.toks) kp
      have far : Far (s1.heap.objs.size + 4) (s1.heap.objs.size + 2) (s1.heap.objs.size + 3) s1.heap.objs.size (s1.heap.objs.size + 1) (fun _ => False) (fun q => q = b) := by
        have nn : ∀ {m n : Nat}, m ≠ n → (m : Addr) ≠ n := fun h => h
        refine ⟨nn (by omega), nn (by omega), nn (by omega), nn (by omega), nn (by omega), nn (by omega), nn (by omega), nn (by omega), nn (by omega), nn (by omega), fun q hq => ?_⟩
        rcases hq with f | e
        · exact f.elim
        · have lt' : q < s1.heap.objs.size := e.symm ▸ lt
          exact ⟨nn (Nat.ne_of_lt (Nat.lt_add_right _ lt')), nn (Nat.ne_of_lt (Nat.lt_add_right _ lt')), nn (Nat.ne_of_lt lt'), nn (Nat.ne_of_lt (Nat.lt_add_right _ lt'))⟩
      refine ⟨s1.heap.objs.size + 4, [s1.heap.objs.size + 4, s1.heap.objs.size + 2, s1.heap.objs.size + 3, s1.heap.objs.size, s1.heap.objs.size + 1], ZipSt y u b (s1.heap.objs.size + 4) (s1.heap.objs.size + 2) (s1.heap.objs.size + 3) s1.heap.objs.size (s1.heap.objs.size + 1), _, H1, rfl, J, turn_zips far, ⟨hz, hI, ⟨_, _, hO⟩, h1, h2⟩, fun c hc => ?_, q⟩
      have le : s1.heap.objs.size ≤ c := by
        simp only [List.mem_cons, List.not_mem_nil, or_false] at hc
        rcases hc with e | e | e | e | e <;> rw [e] <;> first | exact Nat.le_add_right _ _ | exact Nat.le_refl _
      exact I1.fpOk le (I1.hok.fresh le)
theorem walk_zips {K : PySem.W.Frag} {y : Str} {b : Addr} {ys : List V} (hl : y.cps.size ≤ ys.length) : L2.Walk (Itzs K y b) y.cps.size (fun H => SqT K H b ys) (YPair (fun i => (y.cps[i]?).map fun c => .str (sing c)) (fun i => ys[i]?)) := by
  refine ⟨fun i H hi q => ⟨ys, ys[i], hi, q, List.getElem?_eq_getElem (by omega)⟩, fun H q => ⟨rfl, ys, q⟩, fun i H x H' hi q ⟨T, c, v, e1, e2, e3, e4, e5⟩ => ⟨T, .str (sing c), v, e1, e2, e3, ?_, e5 ys q⟩⟩
  show (y.cps[i]?).map _ = _
  rw [e4]
  rfl
end Own

namespace Kx
open PySem L2 Own
abbrev s_is_whole : Stmt := top 8
abbrev s_key_list : Stmt := top 12
abbrev s_check_ways : Stmt := top 33
abbrev s_keys_in : Stmt := top 34
/-! ### rows of machines -/
abbrev Way := Int × List Str
/-- a tuple of keys -/
def KeysT (H : Hp) (v : V) (ks : List Str) : Prop := ∃ a, v = .ref a ∧ H a = some (.tup (ks.map V.str))
def WayT (H : Hp) (v : V) (w : Way) : Prop := ∃ a kv, v = .ref a ∧ H a = some (.tup [.int w.1, kv]) ∧ KeysT H kv w.2
def RowT (H : Hp) (v : V) (r : List Way) : Prop := ∃ a vs, v = .ref a ∧ H a = some (.tup vs) ∧ Paired (WayT H) vs r
theorem KeysT.keep {H H' : Hp} (s : ∀ b xs, H b = some (.tup xs) → H' b = some (.tup xs)) {v : V} {ks : List Str} (h : KeysT H v ks) : KeysT H' v ks := by
  obtain ⟨a, e, h⟩ := h
  exact ⟨a, e, s _ _ h⟩
theorem WayT.keep {H H' : Hp} (s : ∀ b xs, H b = some (.tup xs) → H' b = some (.tup xs)) {v : V} {r : Way} (h : WayT H v r) : WayT H' v r := by
  obtain ⟨a, kv, e, h, k⟩ := h
  exact ⟨a, kv, e, s _ _ h, k.keep s⟩
theorem RowT.keep {H H' : Hp} (s : ∀ b xs, H b = some (.tup xs) → H' b = some (.tup xs)) {v : V} {r : List Way} (h : RowT H v r) : RowT H' v r := by
  obtain ⟨a, vs, e, h, k⟩ := h
  exact ⟨a, vs, e, s _ _ h, L2.Paired.mapP k fun _ _ z => z.keep s⟩
theorem tups {H H' : Hp} (s : Same H H') : ∀ b xs, H b = some (.tup xs) → H' b = some (.tup xs) := fun b xs e => s b _ e
def keysOfRows (R : List (List Way)) : List Str := R.flatMap fun r => r.flatMap fun w => w.2
/-- the defs of machines -/
structure MAd where
  f1 : Addr
  f2 : Addr
  f3 : Addr
  f4 : Addr
  d1 : FuncData
  d2 : FuncData
  d3 : FuncData
  d4 : FuncData
structure TxtM (K : PySem.W.Frag) (mg : Str → Option Value) (B : MAd) : Prop where
  D_is_whole : DefT K mg "is_whole" "is_whole" s_is_whole ["value"] B.f1 B.d1
  D_key_list : DefT K mg "key_list" "key_list" s_key_list ["given"] B.f2 B.d2
  D_check_ways : DefT K mg "check_ways" "check_ways" s_check_ways ["rows"] B.f3 B.d3
  D_keys_in : DefT K mg "keys_in" "keys_in" s_keys_in ["rows", "ends"] B.f4 B.d4
  n_isinstance : mg "isinstance" = none
  n_int : mg "int" = none
  n_bool : mg "bool" = none
  n_len : mg "len" = none
  n_set : mg "set" = none
  n_sorted : mg "sorted" = none
  n_tuple : mg "tuple" = none
  n_zip : mg "zip" = none
  n_enumerate : mg "enumerate" = none
section
variable {P : Program} {w : World} {K : PySem.W.Frag} {mg : Str → Option Value} {base : Heap} {B : MAd}
def spWhole : Sp := fun vs H Q _ => ∃ i : Int, vs = [.int i] ∧ Q (.bl true) H
theorem sc_is_whole : FnScope ["value"] ["value"] (defScope s_is_whole) := ⟨rfl, rfl, rfl, by decide +kernel, rfl, by decide +kernel, by decide +kernel⟩
theorem ok_is_whole (T : TxtM K mg B) : FnOk P w K mg base CX0 1 B.f1 B.d1 ["value"] spWhole := by
  have sc := sc_is_whole
  refine T.D_is_whole.F.ok sc (fun vs H Q E h => ?_) (fun cdv A1 outer s H vs Q E hr h => ?_)
  · obtain ⟨_, rfl, _⟩ := h; rfl
  · obtain ⟨i, rfl, q⟩ := h
    refine ⟨_, pss_one (ps_ret (pe_and (pe_callB call_isi (by rfl) T.n_isinstance (by decide +kernel) (pa_cons (pv 0) (pa_cons (pe_bltn (v := .ty "int") rfl T.n_int (by decide +kernel) rfl) pa_nil)))
      (pe_one (pe_notT (pe_callB call_isi (by rfl) T.n_isinstance (by decide +kernel) (pa_cons (pv 0) (pa_cons (pe_bltn (v := .ty "bool") rfl T.n_bool (by decide +kernel) rfl) pa_nil))))))), ?_⟩
    refine ⟨_, rfl, _, _, _, _, true, rfl, ClsV.ty _, .base (.int i), kit_ty (by decide +kernel), true, rfl, ?_⟩
    exact ⟨_, rfl, _, _, _, _, false, rfl, ClsV.ty _, .base (.int i), kit_ty (by decide +kernel), false, rfl, q⟩
def spKl (K : PySem.W.Frag) : Sp := fun vs H Q _ => ∃ (x : V) (xs : List Str), vs = [x] ∧ Texts K H x xs ∧ xs.length + 1 < scanBound ∧
  ∀ p H', H p = none → Same H H' → H' p = some (.tup ((kl xs).map V.str)) → Q (.ref p) H'
theorem sc_key_list : FnScope ["given"] ["given"] (defScope s_key_list) := ⟨rfl, rfl, rfl, by decide +kernel, rfl, by decide +kernel, by decide +kernel⟩
theorem ok_key_list (T : TxtM K mg B) : FnOk P w K mg base CX0 1 B.f2 B.d2 ["given"] (spKl K) := by
  have sc := sc_key_list
  refine T.D_key_list.F.ok sc (fun vs H Q E h => ?_) (fun cdv A1 outer s H vs Q E hr h => ?_)
  · obtain ⟨_, _, rfl, _⟩ := h; rfl
  · obtain ⟨x, xs, rfl, tx, hb, q⟩ := h
    refine ⟨_, pss_one (ps_ret (pe_tupleOf rfl T.n_tuple (pe_callB (cr_sortT rfl) (by rfl) T.n_sorted (by decide +kernel) (pa_cons (pe_callTy (cr_setT rfl) (by rfl) T.n_set (by decide +kernel) (pa_cons (pv 0) pa_nil)) pa_nil)))), ?_⟩
    refine ⟨_, rfl, x, xs, rfl, tx, hb, fun p l hp nd hm hl => ?_⟩
    refine ⟨p, l, rfl, upd_same, by omega, fun p2 ys hp2 pm hs => ?_⟩
    refine .inl ⟨p2, _, rfl, SqL.of upd_same, fun p3 hp3 => ?_⟩
    rw [kl_of pm hs nd hm] at *
    have h3 : H p3 = none := by
      cases e : H p3 with
      | none => rfl
      | some o => exact absurd ((Same.upd hp2 _ _ (Same.upd hp _ _ e)).symm.trans hp3) (by simp)
    exact q p3 _ h3 (fun b o e => Same.upd hp3 _ _ (Same.upd hp2 _ _ (Same.upd hp _ _ e))) upd_same
end
end Kx

namespace Kx
open PySem L2 Own
section
variable {P : Program} {w : World} {K : PySem.W.Frag} {mg : Str → Option Value} {base : Heap} {B : MAd}
local macro_rules | `(tactic| walk_at "g") => `(tactic| first | refine ⟨_, _, rfl, rfl, ?_⟩ | refine ⟨_, rfl, ?_⟩ | refine ⟨rfl, ?_⟩)
theorem pat {α β : Type} {F : α → β → Prop} : ∀ {l : List α} {m : List β} {i : Nat} {x : α}, Paired F l m → l[i]? = some x → ∃ y, m[i]? = some y ∧ F x y
  | _, _, i, _, .nil, h => by cases i <;> cases h
  | _, _, 0, _, .cons r _, h => ⟨_, rfl, by cases h; exact r⟩
  | _, _, i + 1, _, .cons _ t, h => pat (i := i) t h
theorem flat_step {α : Type} (f : α → List Str) : ∀ {l : List α} {i : Nat} {x : α}, l[i]? = some x → (l.take (i + 1)).flatMap f = (l.take i).flatMap f ++ f x
  | [], i, _, h => by cases i <;> cases h
  | a :: l, 0, x, h => by
    have e : a = x := Option.some.inj h
    subst e
    simp
  | a :: l, i + 1, x, h => by
    have ih := flat_step f (l := l) (i := i) h
    rw [List.take_succ_cons, List.take_succ_cons, List.flatMap_cons, List.flatMap_cons, ih, List.append_assoc]
theorem flat_le {α : Type} (f : α → List Str) : ∀ {l : List α} {i : Nat} {x : α}, l[i]? = some x → ((l.take i).flatMap f).length + (f x).length ≤ (l.flatMap f).length
  | [], i, _, h => by cases i <;> cases h
  | a :: l, 0, x, h => by
    have e : a = x := Option.some.inj h
    subst e
    simp
  | a :: l, i + 1, x, h => by
    have ih := flat_le f (l := l) (i := i) h
    rw [List.take_succ_cons, List.flatMap_cons, List.flatMap_cons, List.length_append, List.length_append]
    omega
theorem bound_line {n : Nat} (h : n < scanBound) : n < sizeLine := by
  rw [sizeLine_eq]
  unfold scanBound at h
  omega
def spKin (K : PySem.W.Frag) : Sp := fun vs H Q _ => ∃ (r e : Addr) (rv ev : List V) (R : List (List Way)) (Es : List (List Str)), vs = [.ref r, .ref e] ∧ H r = some (.tup rv) ∧ Paired (RowT H) rv R ∧ H e = some (.tup ev) ∧ Paired (KeysT H) ev Es ∧
  (keysOfRows R ++ Es.flatten).length + 1 < scanBound ∧ ∀ p H', H p = none → Same H H' → H' p = some (.tup ((kl (keysOfRows R ++ Es.flatten)).map V.str)) → Q (.ref p) H'
theorem sc_keys_in : FnScope ["rows", "ends", "on_ways", "row", "way", "key", "end"] ["rows", "ends"] (defScope s_keys_in) := ⟨rfl, rfl, rfl, by decide +kernel, rfl, by decide +kernel, by decide +kernel⟩
theorem ok_keys_in (T : TxtM K mg B) : FnOk P w K mg base CX0 2 B.f4 B.d4 ["rows", "ends"] (spKin K) := by
  have sc := sc_keys_in
  have G_key_list : FnOk P w K mg base CX0 1 B.f2 B.d2 ["given"] (spKl K) := ok_key_list T
  refine T.D_keys_in.F.ok sc (fun vs H Q E h => ?_) (fun cdv A1 outer s H vs Q E hr h => ?_)
  · obtain ⟨_, _, _, _, _, _, rfl, _⟩ := h; rfl
  · obtain ⟨r, e, rv, ev, R, Es, rfl, hrv, pR, hev, pE, hb, q⟩ := h
    refine ⟨_, (pss_cons (ps_setLcN (i := 2) (own := [("row", 3), ("way", 4), ("key", 5)]) (vs1 := [4, 5]) (g := gName 3) (tt := tYes) (t := tFor (iTup K (tVar 3)) (gName 4) tYes [4, 5] (tFor (iTup K (tOp (rIxT K) (tVar 4) (tC (.int 1)))) (gName 5) tYes [5] (tEmit (tVar 5)))) rfl sc.nd rfl rfl (sw_true rfl rfl rfl (by decide +kernel)) (pi_tup (pv 0)) (blkOk_by (N := ["rows", "ends", "on_ways", "row", "way", "key", "end"]) (sc := defScope s_keys_in) (own := [("row", 3), ("way", 4), ("key", 5)]) (by decide +kernel)) (.inr ⟨_, _, _, rfl⟩) (by decide)
        (fun _ _ _ _ _ => (pg_name (i := 3) sc.nd rfl (Or.inl rfl))) (fun _ _ _ _ _ => pts_nil)
        (fun _ _ _ _ _ D => does_for rfl (.inr ⟨_, _, _, rfl⟩) rfl rfl (pi_tup (pv 3)) (fun _ => rfl) (pg_name (i := 4) sc.nd rfl (Or.inl rfl)) pts_nil
          (does_for rfl (.inl rfl) rfl rfl (pi_tup (pe_ix ix_tup (pv 4) pe_int (fun _ _ => rfl))) (fun _ => rfl) (pg_name (i := 5) sc.nd rfl (Or.inl rfl)) pts_nil (does_emit rfl rfl (pv 5)) (by decide)) (by decide)))
      (pss_one (ps_ret (pe_call G_key_list (hr.mono (by decide)) rfl T.D_key_list.g T.D_key_list.F.kp T.D_key_list.b .nil pass0 (pa_cons (pe_lst (StX.pa_star (pv 2) (StX.pa_star
        (pe_lcN (own := [("end", 6), ("key", 5)]) (vs1 := [5]) (g := gName 6) (tt := tYes) (t := tFor (iTup K (tVar 6)) (gName 5) tYes [5] (tEmit (tVar 5))) rfl sc.nd (pi_tup (pv 1)) (blkOk_by (N := ["rows", "ends", "on_ways", "row", "way", "key", "end"]) (sc := defScope s_keys_in) (own := [("end", 6), ("key", 5)]) (by decide +kernel)) (.inr ⟨_, _, _, rfl⟩) (by decide)
          (fun _ _ _ _ _ => (pg_name (i := 6) sc.nd rfl (Or.inl rfl))) (fun _ _ _ _ _ => pts_nil)
          (fun _ _ _ _ _ D => does_for rfl (.inl rfl) rfl rfl (pi_tup (pv 6)) (fun _ => rfl) (pg_name (i := 5) sc.nd rfl (Or.inl rfl)) pts_nil (does_emit rfl rfl (pv 5)) (by decide)))
        pa_nil))) pa_nil))))), ?_⟩
    have hb1 : (keysOfRows R).length + Es.flatten.length + 1 < scanBound := by rw [List.length_append] at hb; exact hb
    -- on_ways
    refine ⟨_, rfl, r, rfl, ⟨_, SqT.of hrv⟩, fun D hD => ?_⟩
    have put : ∀ {H' : Hp} {xs : List V}, Same H H' → Same H (upd H' D (.lst xs)) := fun {H' xs} s1 b o e => by rw [upd_ne (ne_of_none e hD)]; exact s1 b o e
    refine lp_it [some (.ref r), some (.ref e), none, none, none, none, none] rfl walk_tup (fun i H' => Same H H' ∧ H' D = some (.lst ((keysOfRows (R.take i)).map V.str))) ⟨Same.upd hD, upd_same⟩ (fun i H' _ z => SqT.of (z.1 _ _ hrv)) ?_ ?_
    · rintro i x H1 _ hi ⟨s1, h1⟩ ⟨rfl, hx⟩
      obtain ⟨rw1, hrw, a, vs, rfl, ha, pr⟩ := pat pR hx
      have l1 := flat_le (fun r : List Way => r.flatMap fun w => w.2) hrw
      refine ⟨rfl, _, rfl, a, rfl, ⟨_, SqT.of (s1 _ _ ha)⟩, ?_⟩
      refine lp_it [some (.ref r), some (.ref e), none, some (.ref a), none, none, none] rfl walk_tup (fun j H' => Same H H' ∧ H' D = some (.lst ((keysOfRows (R.take i) ++ (rw1.take j).flatMap fun w => w.2).map V.str))) ⟨s1, by simpa using h1⟩ (fun j H' _ z => SqT.of (z.1 _ _ ha)) ?_ ?_
      · rintro j y H2 _ hj ⟨s2, h2⟩ ⟨rfl, hy⟩
        obtain ⟨wy, hwy, b, kv, rfl, hb2, kt, rfl, hk⟩ := pat pr hy
        have l2 := flat_le (fun w : Way => w.2) hwy
        refine ⟨rfl, _, rfl, b, _, 1, _, rfl, rfl, SqT.of (s2 _ _ hb2), atI_nat (j := 1) rfl, kt, rfl, ⟨_, SqT.of (s2 _ _ hk)⟩, ?_⟩
        refine lp_it [some (.ref r), some (.ref e), none, some (.ref a), some (.ref b), none, none] rfl walk_tup (fun k H' => Same H H' ∧ H' D = some (.lst ((keysOfRows (R.take i) ++ ((rw1.take j).flatMap fun w => w.2) ++ wy.2.take k).map V.str))) ⟨s2, by simpa using h2⟩ (fun k H' _ z => SqT.of (z.1 _ _ hk)) ?_ ?_
        · rintro k z H3 _ hk3 ⟨s3, h3⟩ ⟨rfl, hz⟩
          rw [List.getElem?_map] at hz
          obtain ⟨key, hkey, rfl⟩ := Option.map_eq_some_iff.mp hz
          refine ⟨rfl, _, rfl, _, h3, ?_, put s3, ?_⟩
          · refine bound_line ?_
            rw [List.length_map, List.length_append, List.length_append, List.length_take]
            unfold keysOfRows at hb1 ⊢
            omega
          · rw [upd_same, List.take_add_one, hkey]
            simp
        · rintro H3 ⟨s3, h3⟩
          refine ⟨s3, ?_⟩
          rw [List.length_map, List.take_length] at h3
          rw [flat_step _ hwy, ← List.append_assoc]
          exact h3
      · rintro H2 ⟨s2, h2⟩
        refine ⟨s2, ?_⟩
        have e : vs.length = rw1.length := Paired.length pr
        rw [e, List.take_length] at h2
        show H2 D = some (.lst (((R.take (i + 1)).flatMap _).map V.str))
        rw [flat_step _ hrw]
        exact h2
    rintro H1 ⟨s1, h1⟩
    have e1 : rv.length = R.length := Paired.length pR
    rw [e1, List.take_length] at h1
    -- the display
    refine ⟨_, rfl, D, _, rfl, .inr (SqL.of h1), ?_⟩
    refine ⟨_, rfl, e, rfl, ⟨_, SqT.of (s1 _ _ hev)⟩, fun D2 hD2 => ?_⟩
    have put2 : ∀ {H' : Hp} {xs : List V}, Same H1 H' → Same H1 (upd H' D2 (.lst xs)) := fun {H' xs} s1 b o e => by rw [upd_ne (ne_of_none e hD2)]; exact s1 b o e
    refine lp_it [some (.ref r), some (.ref e), some (.ref D), none, none, none, none] rfl walk_tup (fun i H' => Same H1 H' ∧ H' D2 = some (.lst (((Es.take i).flatMap id).map V.str))) ⟨Same.upd hD2, upd_same⟩ (fun i H' _ z => SqT.of (z.1 _ _ (s1 _ _ hev))) ?_ ?_
    · rintro i x H2 _ hi ⟨s2, h2⟩ ⟨rfl, hx⟩
      obtain ⟨ks, hks, kt, rfl, hk⟩ := pat pE hx
      have l1 := flat_le id hks
      have l2 : (Es.flatMap id).length = Es.flatten.length := by rw [List.flatMap_id]
      refine ⟨rfl, _, rfl, kt, rfl, ⟨_, SqT.of (s2 _ _ (s1 _ _ hk))⟩, ?_⟩
      refine lp_it [some (.ref r), some (.ref e), some (.ref D), none, none, none, some (.ref kt)] rfl walk_tup (fun k H' => Same H1 H' ∧ H' D2 = some (.lst (((Es.take i).flatMap id ++ ks.take k).map V.str))) ⟨s2, by simpa using h2⟩ (fun k H' _ z => SqT.of (z.1 _ _ (s1 _ _ hk))) ?_ ?_
      · rintro k z H3 _ hk3 ⟨s3, h3⟩ ⟨rfl, hz⟩
        rw [List.getElem?_map] at hz
        obtain ⟨key, hkey, rfl⟩ := Option.map_eq_some_iff.mp hz
        refine ⟨rfl, _, rfl, _, h3, ?_, put2 s3, ?_⟩
        · refine bound_line ?_
          rw [List.length_map, List.length_append, List.length_take]
          have l3 : (id ks).length = ks.length := rfl
          omega
        · rw [upd_same, List.take_add_one, hkey]
          simp
      · rintro H3 ⟨s3, h3⟩
        refine ⟨s3, ?_⟩
        rw [List.length_map, List.take_length] at h3
        rw [flat_step _ hks]
        exact h3
    rintro H2 ⟨s2, h2⟩
    have e2 : ev.length = Es.length := Paired.length pE
    rw [e2, List.take_length, List.flatMap_id] at h2
    refine ⟨D2, _, rfl, .inr (SqL.of h2), ?_⟩
    have eL : (keysOfRows R).map V.str ++ (Es.flatten.map V.str ++ []) = (keysOfRows R ++ Es.flatten).map V.str := by simp
    refine ⟨?_, fun l hl => ?_⟩
    · show ((keysOfRows R).map V.str ++ (Es.flatten.map V.str ++ [])).length ≤ sizeLine
      rw [eL, List.length_map]
      exact Nat.le_of_lt (bound_line (by omega))
    have nl : H l = none := by
      cases c : H l with
      | none => rfl
      | some o => exact absurd ((s2 _ _ (s1 _ _ c)).symm.trans hl) (by simp)
    refine ⟨.ref l, _, rfl, .list (SqL.of (upd_same.trans (congrArg (fun z => some (HO.lst z)) eL))), hb, fun p H' hp s3 h3 => ?_⟩
    have up : Same H (upd H2 l (.lst ((keysOfRows R).map V.str ++ (Es.flatten.map V.str ++ [])))) := fun b o c => Same.upd hl _ _ (s2 _ _ (s1 _ _ c))
    refine q p H' ?_ (fun b o c => s3 _ _ (up _ _ c)) h3
    cases c : H p with
    | none => rfl
    | some o => exact absurd ((up _ _ c).symm.trans hp) (by simp)
end
end Kx

namespace Kx
open PySem L2 Own
abbrev s_copied : Stmt := top 20
abbrev s_BadMachine : Stmt := inClass (top 16) 0
abbrev s_TooMany : Stmt := inClass (top 18) 0
/-! ### the errors of machines: their fields are numbers and words -/
def Flat (v : V) : Prop := (∃ i, v = .int i) ∨ ∃ x, v = .str x
abbrev tailM (M : Addr) : List Value := [.ref M, .type "ValueError", .type "Exception", .type "BaseException", .type "object"]
structure ErrC (K : PySem.W.Frag) (mg : Str → Option Value) (name : Str) (C M : Addr) : Prop where
  g : mg name = some (.ref C)
  oex : OexC K C
  exc : ExcC K C
  cls : PySem.W.isClsIn K C = true
  sub : ∀ b : Value, PySem.W.subIn K (.ref C) b = some ((Value.ref C :: tailM M).contains b)
theorem ErrC.xf {K : PySem.W.Frag} {mg : Str → Option Value} {name : Str} {C M : Addr} (e : ErrC K mg name C M) : XfC K C := ⟨e.exc.hg, e.exc.hk, e.exc.hs, e.exc.hd⟩
structure IniT (K : PySem.W.Frag) (qual : Str) (st : Stmt) (C f : Addr) (fd : FuncData) (ps : List Str) : Prop where
  iC : PySem.W.findIn K (.ref C) "__init__" = some (some (.ref f))
  tI : PySem.W.typeIn K (.ref f) = some (.type "function")
  F : Fun K "__init__" qual st f fd
  b : Binds K fd ps []
structure EAd where
  M : Addr
  c1 : Addr
  c2 : Addr
  i1 : Addr
  i2 : Addr
  e1 : FuncData
  e2 : FuncData
  fc : Addr
  dc : FuncData
structure TxtE (K : PySem.W.Frag) (mg : Str → Option Value) (A : EAd) : Prop where
  E_BadMachine : ErrC K mg "BadMachine" A.c1 A.M
  I_BadMachine : IniT K "BadMachine.__init__" s_BadMachine A.c1 A.i1 A.e1 ["self", "state", "place"]
  N_state : PySem.W.findIn K (.ref A.c1) "state" = some none
  N_place : PySem.W.findIn K (.ref A.c1) "place" = some none
  E_TooMany : ErrC K mg "TooMany" A.c2 A.M
  I_TooMany : IniT K "TooMany.__init__" s_TooMany A.c2 A.i2 A.e2 ["self", "what"]
  N_what : PySem.W.findIn K (.ref A.c2) "what" = some none
  D_copied : DefT K mg "copied" "copied" s_copied ["field"] A.fc A.dc
  n_isinstance : mg "isinstance" = none
  n_list : mg "list" = none
  n_tuple : mg "tuple" = none
  n_dict : mg "dict" = none
section
variable {P : Program} {w : World} {K : PySem.W.Frag} {mg : Str → Option Value} {base : Heap} {A : EAd}
def spFlat : Sp := fun vs H Q _ => ∃ v : V, vs = [v] ∧ Flat v ∧ Q v H
theorem sc_copied : FnScope ["field", "part", "key"] ["field"] (defScope s_copied) := ⟨rfl, rfl, rfl, by decide +kernel, rfl, by decide +kernel, by decide +kernel⟩
theorem ok_copied (T : TxtE K mg A) : FnOk P w K mg base CX0 1 A.fc A.dc ["field"] spFlat := by
  have sc := sc_copied
  refine T.D_copied.F.ok sc (fun vs H Q E h => ?_) (fun cdv A1 outer s H vs Q E hr h => ?_)
  · obtain ⟨_, rfl, _⟩ := h; rfl
  · obtain ⟨v, rfl, hf, q⟩ := h
    refine ⟨_, (pss_cons (ps_if (pt_val (pe_callB call_isi (by rfl) T.n_isinstance (by decide +kernel) (pa_cons (pv 0) (pa_cons (pe_bltn (v := .ty "list") rfl T.n_list (by decide +kernel) rfl) pa_nil)))) (pss_one ps_never)
        pss_nil)
      (pss_cons (ps_if (pt_val (pe_callB call_isi (by rfl) T.n_isinstance (by decide +kernel) (pa_cons (pv 0) (pa_cons (pe_bltn (v := .ty "tuple") rfl T.n_tuple (by decide +kernel) rfl) pa_nil)))) (pss_one ps_never)
        pss_nil)
      (pss_cons (ps_if (pt_val (pe_callB call_isi (by rfl) T.n_isinstance (by decide +kernel) (pa_cons (pv 0) (pa_cons (pe_bltn (v := .ty "dict") rfl T.n_dict (by decide +kernel) rfl) pa_nil)))) (pss_one ps_never)
        pss_nil)
      (pss_one (ps_ret (pv 0)))))), ?_⟩
    rcases hf with ⟨i, rfl⟩ | ⟨x, rfl⟩
    · refine ⟨_, rfl, _, _, _, _, false, rfl, ClsV.ty _, .base (.int i), kit_ty (by decide +kernel), _, rfl, iteF ?_⟩
      refine ⟨_, rfl, _, _, _, _, false, rfl, ClsV.ty _, .base (.int i), kit_ty (by decide +kernel), _, rfl, iteF ?_⟩
      refine ⟨_, rfl, _, _, _, _, false, rfl, ClsV.ty _, .base (.int i), kit_ty (by decide +kernel), _, rfl, iteF ?_⟩
      exact ⟨_, rfl, q⟩
    · refine ⟨_, rfl, _, _, _, _, false, rfl, ClsV.ty _, .base (.str x), kit_ty (by decide +kernel), _, rfl, iteF ?_⟩
      refine ⟨_, rfl, _, _, _, _, false, rfl, ClsV.ty _, .base (.str x), kit_ty (by decide +kernel), _, rfl, iteF ?_⟩
      refine ⟨_, rfl, _, _, _, _, false, rfl, ClsV.ty _, .base (.str x), kit_ty (by decide +kernel), _, rfl, iteF ?_⟩
      exact ⟨_, rfl, q⟩
/-- an error's __init__ of the fields fs -/
def spErr (C : Addr) (names : List Str) : Sp := fun vs H Q _ => ∃ (a : Addr) (us : List V), vs = .ref a :: us ∧ us.length = names.length ∧ H a = some (exo a C none) ∧ (∀ u ∈ us, Flat u) ∧
  ∀ (dx : Addr) (H' : Hp), H dx = none → dx ≠ a → H' a = some (exo a C (some dx)) → H' dx = some (exd dx (names.zip us).reverse) → (∀ b o, H b = some o → b ≠ a → H' b = some o) → Q .non H'
theorem sc_TooMany : FnScope ["self", "what"] ["self", "what"] (defScope s_TooMany) := ⟨rfl, rfl, rfl, by decide +kernel, rfl, by decide +kernel, by decide +kernel⟩
theorem ok_TooMany (T : TxtE K mg A) : FnOk P w K mg base CX0 2 A.i2 A.e2 ["self", "what"] (spErr A.c2 ["what"]) := by
  have sc := sc_TooMany
  have G_copied : FnOk P w K mg base CX0 1 A.fc A.dc ["field"] spFlat := ok_copied T
  refine T.I_TooMany.F.ok sc (fun vs H Q E h => ?_) (fun cdv A1 outer s H vs Q E hr h => ?_)
  · obtain ⟨_, us, rfl, l, _⟩ := h
    rw [List.length_cons, l]; rfl
  · obtain ⟨a, us, rfl, l, ha, hf, k⟩ := h
    obtain ⟨v, rfl⟩ : ∃ v, us = [v] := List.length_eq_one_iff.mp l
    refine ⟨_, (pss_one (ps_ost (pv 0) (pe_call G_copied (hr.mono (by decide)) rfl T.D_copied.g T.D_copied.F.kp T.D_copied.b .nil pass0 (pa_cons (pv 1) pa_nil)))), ?_⟩
    refine ⟨_, rfl, v, rfl, hf v List.mem_cons_self, _, rfl, a, A.c2, rfl, T.E_TooMany.oex, T.N_what, .inl ⟨ha, fun dx hd ne => ?_⟩⟩
    refine k dx _ hd ne upd_same (by rw [upd_ne ne, upd_same]; rfl) fun b o e nb => ?_
    rw [upd_ne nb, upd_ne (ne_of_none e hd)]
    exact e
theorem sc_BadMachine : FnScope ["self", "state", "place"] ["self", "state", "place"] (defScope s_BadMachine) := ⟨rfl, rfl, rfl, by decide +kernel, rfl, by decide +kernel, by decide +kernel⟩
theorem ok_BadMachine (T : TxtE K mg A) : FnOk P w K mg base CX0 2 A.i1 A.e1 ["self", "state", "place"] (spErr A.c1 ["state", "place"]) := by
  have sc := sc_BadMachine
  have G_copied : FnOk P w K mg base CX0 1 A.fc A.dc ["field"] spFlat := ok_copied T
  refine T.I_BadMachine.F.ok sc (fun vs H Q E h => ?_) (fun cdv A1 outer s H vs Q E hr h => ?_)
  · obtain ⟨_, us, rfl, l, _⟩ := h
    rw [List.length_cons, l]; rfl
  · obtain ⟨a, us, rfl, l, ha, hf, k⟩ := h
    obtain ⟨v, u, rfl⟩ : ∃ v u, us = [v, u] := by
      match us, l with
      | [v, u], _ => exact ⟨v, u, rfl⟩
    refine ⟨_, (pss_cons (ps_ost (pv 0) (pe_call G_copied (hr.mono (by decide)) rfl T.D_copied.g T.D_copied.F.kp T.D_copied.b .nil pass0 (pa_cons (pv 1) pa_nil)))
      (pss_one (ps_ost (pv 0) (pe_call G_copied (hr.mono (by decide)) rfl T.D_copied.g T.D_copied.F.kp T.D_copied.b .nil pass0 (pa_cons (pv 2) pa_nil))))), ?_⟩
    refine ⟨_, rfl, v, rfl, hf v (by simp), _, rfl, a, A.c1, rfl, T.E_BadMachine.oex, T.N_state, .inl ⟨ha, fun dx hd ne => ?_⟩⟩
    have q1 : (upd (upd H dx (exd dx [("state", v)])) a (exo a A.c1 (some dx))) a = some (exo a A.c1 (some dx)) := upd_same
    have q2 : (upd (upd H dx (exd dx [("state", v)])) a (exo a A.c1 (some dx))) dx = some (exd dx [("state", v)]) := by rw [upd_ne ne, upd_same]
    have q3 : ∀ b o, H b = some o → b ≠ a → (upd (upd H dx (exd dx [("state", v)])) a (exo a A.c1 (some dx))) b = some o := fun b o e nb => by
      rw [upd_ne nb, upd_ne (ne_of_none e hd)]
      exact e
    generalize upd (upd H dx (exd dx [("state", v)])) a (exo a A.c1 (some dx)) = H2 at q1 q2 q3 ⊢
    refine ⟨_, rfl, u, rfl, hf u (by simp), _, rfl, a, A.c1, rfl, T.E_BadMachine.oex, T.N_place, .inr ⟨dx, [("state", v)], q1, q2, (by show 1 ≤ 900; decide), ?_⟩⟩
    refine k dx _ hd ne (by rw [upd_ne (Ne.symm ne)]; exact q1) upd_same fun b o e nb => ?_
    rw [upd_ne (ne_of_none e hd)]
    exact q3 b o e nb
/-- the reading of C(e, ..) behind raise -/
theorem rsE {H : Hp} {C : Addr} {names : List Str} {us : List V} {W : XK} (l : us.length = names.length) (l2 : us.length ≤ 1000) (hf : ∀ u ∈ us, Flat u) (k : ∀ dx H', H dx = none → Same H H' → H' dx = some (.xd (names.zip us).reverse) → W (.ref C) (some dx) H') :
    us.length ≤ 1000 ∧ ∀ a, H a = none → spErr C names (.ref a :: (us ++ [])) (upd H a (exo a C none)) (fun u H2 => u = .non ∧ ∃ (dx : Addr) (fs : List (Str × V)), H2 a = some (exo a C (some dx)) ∧ H2 dx = some (exd dx fs) ∧ H dx = none ∧ W (.ref C) (some dx) (upd (del H2 a) dx (.xd fs))) (fun _ _ _ => False) := by
  refine ⟨l2, fun a ha => ⟨a, us, by rw [List.append_nil], l, upd_same, hf, fun dx H2 hd ne e1 e2 kp => ?_⟩⟩
  have hd0 : H dx = none := by rw [upd_ne ne] at hd; exact hd
  refine ⟨rfl, dx, _, e1, e2, hd0, k dx _ hd0 (fun b o z => ?_) upd_same⟩
  have nb : b ≠ a := ne_of_none z ha
  rw [upd_ne (ne_of_none z hd0), del_ne nb]
  exact kp b o (by rw [upd_ne nb]; exact z) nb
theorem ErrC.raises {X : Cx} {name : Str} {C M : Addr} (e : ErrC X.K X.mg name C M) : Raises X (.ref C) := raises_own e.oex.exC e.oex.tyC
end
end Kx

namespace Kx
open PySem L2 Own
/-! ### what is handed to a machine: lists of lists of tuples -/
def WayS (K : PySem.W.Frag) (H : Hp) (v : V) (w : Way) : Prop := ∃ a kv, v = .ref a ∧ H a = some (.tup [.int w.1, kv]) ∧ Texts K H kv w.2
def RowL (K : PySem.W.Frag) (H : Hp) (v : V) (r : List Way) : Prop := ∃ a vs, v = .ref a ∧ H a = some (.lst vs) ∧ Paired (WayS K H) vs r
theorem seqT {K : PySem.W.Frag} {H H' : Hp} {a : Addr} {xs : List V} (s : Same H H') (h : SqT K H a xs) : SqT K H' a xs := by
  rcases h with h | h
  · exact .inl (h.imp (s _ _) fun ⟨o, z⟩ => ⟨o, s _ _ z⟩)
  · exact .inr h
theorem _root_.Own.Texts.keep {K : PySem.W.Frag} {H H' : Hp} (s : Same H H') {v : V} {xs : List Str} (h : Texts K H v xs) : Texts K H' v xs := by
  cases h with
  | list h => exact .list (s.seq h)
  | tup h => exact .tup (seqT s h)
  | text y => exact .text y
theorem WayS.keep {K : PySem.W.Frag} {H H' : Hp} (s : Same H H') {v : V} {w : Way} (h : WayS K H v w) : WayS K H' v w := by
  obtain ⟨a, kv, e, h, k⟩ := h
  exact ⟨a, kv, e, s _ _ h, k.keep s⟩
theorem RowL.keep {K : PySem.W.Frag} {H H' : Hp} (s : Same H H') {v : V} {r : List Way} (h : RowL K H v r) : RowL K H' v r := by
  obtain ⟨a, vs, e, h, k⟩ := h
  exact ⟨a, vs, e, s _ _ h, L2.Paired.mapP k fun _ _ z => z.keep s⟩
def Okw (n : Nat) (w : Way) : Prop := 0 ≤ w.1 ∧ w.1 < n
section
variable {P : Program} {w : World} {K : PySem.W.Frag} {mg : Str → Option Value} {base : Heap} {A : EAd} {B : MAd}
def spCheck (K : PySem.W.Frag) (A : EAd) : Sp := fun vs H Q E => ∃ (r : Addr) (rv : List V) (R : List (List Way)), vs = [.ref r] ∧ H r = some (.lst rv) ∧ Paired (RowL K H) rv R ∧
  (∀ H', Same H H' → (∀ (i : Nat) q, R[i]? = some q → ∀ w ∈ q, Okw R.length w) → Q .non H') ∧
  ∀ (i j : Nat) (q : List Way) (w : Way) (dx : Addr) (H' : Hp), R[i]? = some q → q[j]? = some w → ¬ Okw R.length w → (∀ (i' : Nat) q', i' < i → R[i']? = some q' → ∀ w ∈ q', Okw R.length w) → (∀ (j' : Nat) w', j' < j → q[j']? = some w' → Okw R.length w') →
    H dx = none → Same H H' → H' dx = some (.xd [("place", .int j), ("state", .int i)]) → E (.ref A.c1) (some dx) H'
theorem sc_check : FnScope ["rows", "state", "row", "place", "way"] ["rows"] (defScope s_check_ways) := ⟨rfl, rfl, rfl, by decide +kernel, rfl, by decide +kernel, by decide +kernel⟩
theorem ok_check (T : TxtM K mg B) (TE : TxtE K mg A) : FnOk P w K mg base (L2.CX P w) 4 B.f3 B.d3 ["rows"] (spCheck K A) := by
  have sc := sc_check
  have G_is_whole : FnOk P w K mg base CX0 1 B.f1 B.d1 ["value"] spWhole := ok_is_whole T
  refine T.D_check_ways.F.okX sc (fun vs H Q E h => ?_) (fun cdv A1 outer s H vs Q E hr h => ?_)
  · obtain ⟨_, _, _, rfl, _⟩ := h; rfl
  · obtain ⟨r, rv, R, rfl, hrv, pR, good, bad⟩ := h
    refine ⟨_, (pss_one (ps_for (passes_of rfl) rfl (pi_enum (by rfl) T.n_enumerate (pa_cons (pv 0) pa_nil)) (pg_tup rfl (pgs_cons (pg_name (i := 1) sc.nd rfl (Or.inl rfl)) (pgs_cons (pg_name (i := 2) sc.nd rfl (Or.inl rfl)) pgs_nil)))
      (pss_one (ps_for (passes_of rfl) rfl (pi_enum (by rfl) T.n_enumerate (pa_cons (pv 2) pa_nil)) (pg_tup rfl (pgs_cons (pg_name (i := 3) sc.nd rfl (Or.inl rfl)) (pgs_cons (pg_name (i := 4) sc.nd rfl (Or.inl rfl)) pgs_nil)))
        (pss_one (ps_if (PW.pt (pw_or (pt_not (pt_val (pe_call G_is_whole (hr.mono (by decide)) rfl T.D_is_whole.g T.D_is_whole.F.kp T.D_is_whole.b .nil pass0 (pa_cons (pe_ix ix_tup (pv 4) pe_int (fun _ _ => rfl)) pa_nil)))) (pw_or (pt_cmpR op_lt (pe_ix ix_tup (pv 4) pe_int (fun _ _ => rfl)) pe_int (nomark _)) (pw_or1 (pt_cmpR op_ge (pe_ix ix_tup (pv 4) pe_int (fun _ _ => rfl)) (pe_callB call_len (by rfl) T.n_len (by decide +kernel) (pa_cons (pv 0) pa_nil)) (nomark _))))))
          (pss_one (ps_raise rfl (takes_of rfl rfl rfl rfl) (pmk_oex TE.E_BadMachine.oex TE.I_BadMachine.iC TE.I_BadMachine.tI (ok_BadMachine TE) (hr.mono (by decide)) TE.I_BadMachine.b .nil pass0 rfl TE.E_BadMachine.g (pa_cons (pv 1) (pa_cons (pv 3) pa_nil)))))
          pss_nil)))))), ?_⟩
    have shut : ∀ {b : Addr} {o : HO}, H b = none → H b = some o → False := fun e1 e2 => by rw [e1] at e2; cases e2
    refine ⟨_, rfl, r, rv, rfl, SqL.of hrv, ?_⟩
    refine for_it walk_enum (fun i σ H' => (∃ x1 x2 x3 x4, σ = [some (.ref r), x1, x2, x3, x4]) ∧ Same H H' ∧ ∀ (i' : Nat) q', i' < i → R[i']? = some q' → ∀ w ∈ q', Okw R.length w) ⟨⟨_, _, _, _, rfl⟩, Same.refl _, fun i' q' h => nomatch h⟩ (fun i σ H' _ z => SqL.of (z.2.1 _ _ hrv)) ?_ ?_
    · rintro i x σ H1 H1' hi ⟨⟨x1, x2, x3, x4, rfl⟩, s1, g1⟩ ⟨t1, u1, y, rfl, nt1, rfl, eu, hy⟩
      cases eu
      obtain ⟨q, hq, a, vs, rfl, ha, pr⟩ := pat pR hy
      have s2 : Same H (upd H1 t1 (.tup [.int (i : Nat), .ref a])) := fun b o e => Same.upd nt1 _ _ (s1 _ _ e)
      refine ⟨t1, _, rfl, SqT.of upd_same, rfl, _, _, rfl, _, _, rfl, rfl, ?_⟩
      generalize upd H1 t1 (.tup [.int (i : Nat), .ref a]) = H2 at s2 ⊢
      refine ⟨_, rfl, a, vs, rfl, SqL.of (s2 _ _ ha), ?_⟩
      refine for_it walk_enum (fun j σ H' => (∃ x3 x4, σ = [some (.ref r), some (.int (i : Nat)), some (.ref a), x3, x4]) ∧ Same H H' ∧ ∀ (j' : Nat) w', j' < j → q[j']? = some w' → Okw R.length w') ⟨⟨_, _, rfl⟩, s2, fun i' q' h => nomatch h⟩ (fun i σ H' _ z => SqL.of (z.2.1 _ _ ha)) ?_ ?_
      · rintro j x σ H3 H3' hj ⟨⟨x3, x4, rfl⟩, s3, g3⟩ ⟨t2, u2, z, rfl, nt2, rfl, eu, hz⟩
        cases eu
        obtain ⟨wy, hwy, b, kv, rfl, hb, kt⟩ := pat pr hz
        have s4 : Same H (upd H3 t2 (.tup [.int (j : Nat), .ref b])) := fun c o e => Same.upd nt2 _ _ (s3 _ _ e)
        refine ⟨t2, _, rfl, SqT.of upd_same, rfl, _, _, rfl, _, _, rfl, rfl, ?_⟩
        generalize upd H3 t2 (.tup [.int (j : Nat), .ref b]) = H4 at s4 ⊢
        have hw : SqT K H4 b [.int wy.1, kv] := SqT.of (s4 _ _ hb)
        have at0 : atI ([.int wy.1, kv] : List V) 0 = some (.int wy.1) := atI_nat (j := 0) rfl
        have go : ¬ Okw R.length wy → ([V.int (i : Nat), V.int (j : Nat)] : List V).length ≤ 1000 ∧ ∀ a, H4 a = none → spErr A.c1 ["state", "place"] (.ref a :: ([V.int (i : Nat), V.int (j : Nat)] ++ [])) (upd H4 a (exo a A.c1 none)) (fun u H2 => u = .non ∧ ∃ (dx : Addr) (fs : List (Str × V)), H2 a = some (exo a A.c1 (some dx)) ∧ H2 dx = some (exd dx fs) ∧ H4 dx = none ∧ E (.ref A.c1) (some dx) (upd (del H2 a) dx (.xd fs))) (fun _ _ _ => False) := fun nb =>
          rsE rfl (by show 2 ≤ 1000; decide) (fun u hu => .inl (by
            rcases List.mem_cons.mp hu with rfl | hu
            · exact ⟨_, rfl⟩
            · rw [List.mem_singleton.mp hu]; exact ⟨_, rfl⟩)) fun dx H5 hd s5 h5 => bad i j q wy dx H5 hq hwy nb g1 g3 (s4.free hd) (fun b o e => s5 _ _ (s4 _ _ e)) h5
        refine ⟨_, rfl, b, _, 0, _, rfl, rfl, hw, at0, wy.1, rfl, _, rfl, iteF ?_⟩
        refine ⟨_, rfl, b, _, 0, _, rfl, rfl, hw, at0, _, _, rfl, rfl, _, rfl, ?_⟩
        by_cases c1 : wy.1 < 0
        · refine ifT c1 ?_
          refine ⟨_, rfl, _, rfl, ?_⟩
          exact go fun h => by have := h.1; omega
        refine ifF c1 ?_
        refine ⟨_, rfl, b, _, 0, _, rfl, rfl, hw, at0, _, rfl, .ref r, rv.length, rfl, .inl ⟨_, SqL.of (s4 _ _ hrv), rfl⟩, _, _, rfl, rfl, _, rfl, ?_⟩
        have el : rv.length = R.length := Paired.length pR
        by_cases c2 : (rv.length : Int) ≤ wy.1
        · refine ifT c2 ?_
          refine ⟨_, rfl, _, rfl, ?_⟩
          exact go fun h => by have := h.2; omega
        refine ifF c2 ?_
        refine ⟨⟨_, _, rfl⟩, s4, fun j' w' lt hw' => ?_⟩
        by_cases c : j' < j
        · exact g3 j' w' c hw'
        · have ej : j' = j := by omega
          subst ej
          rw [hwy] at hw'
          cases hw'
          exact ⟨by omega, by omega⟩
      · rintro σ H3 ⟨⟨x3, x4, rfl⟩, s3, g3⟩
        have e : vs.length = q.length := Paired.length pr
        refine ⟨⟨_, _, _, _, rfl⟩, s3, fun i' q' lt hq' w hw => ?_⟩
        by_cases c : i' < i
        · exact g1 i' q' c hq' w hw
        · have ei : i' = i := by omega
          subst ei
          rw [hq] at hq'
          cases hq'
          obtain ⟨j', hj'⟩ := List.getElem?_of_mem hw
          exact g3 j' w (by rw [e]; exact (List.getElem?_eq_some_iff.mp hj').1) hj'
    · rintro σ H1 ⟨_, s1, g1⟩
      refine good H1 s1 fun i q hq => g1 i q ?_ hq
      rw [Paired.length pR]
      exact (List.getElem?_eq_some_iff.mp hq).1
end
end Kx

namespace Kx
open PySem L2 Own
abbrev s_init : Stmt := inClass (top 32) 0
/-- the dict of a row's ways after i signs -/
def kvUp (sg : Str) (vs : List V) : Nat → List (Key × V)
  | 0 => []
  | i + 1 => match sg.cps[i]?, vs[i]? with
    | some c, some x => putK (kvUp sg vs i) (Sum.inr (Froz.sing c)) x
    | _, _ => kvUp sg vs i
structure CAd where
  C : Addr
  f : Addr
  d : FuncData
structure TxtC (K : PySem.W.Frag) (mg : Str → Option Value) (Z : CAd) : Prop where
  cl : Cls K Z.C
  make : Mk K Z.C Z.f
  F : Fun K "__init__" "Machine.__init__" s_init Z.f Z.d
  b : Binds K Z.d ["self", "signs", "rows", "ends"] []
  g : mg "Machine" = some (.ref Z.C)
  a1 : NoAttr K Z.C "signs"
  a2 : NoAttr K Z.C "rows"
  a3 : NoAttr K Z.C "ends"
  a4 : NoAttr K Z.C "all_keys"
  a5 : NoAttr K Z.C "_ways"
  g_MOST_KEYS : ∃ t, mg "MOST_KEYS" = some (.int 12 t)
/-- what the inner displays of __init__ ask -/
def rowsTe (K : PySem.W.Frag) : TE := tThen (tLc (iList K (tVar 4)) (gTup K 2 (gCons (gName 5) (gCons (gName 6) gNil))) tYes (tTup (tCons (tVar 5) (tCons (tCall (spKl K) [] E0 (tCons (tVar 6) tNil)) tNil))) [5, 6]) (kTup K)
def waysTe (K : PySem.W.Frag) : TE := tDc (iZips K (tCons (tVar 1) (tCons (tVar 4) tNil))) (gTup K 2 (gCons (gName 8) (gCons (gName 9) gNil))) tYes (tVar 8) (tVar 9) [8, 9]
section
variable {P : Program} {w : World} {K : PySem.W.Frag} {mg : Str → Option Value} {base : Heap} {A : EAd} {B : MAd} {Z : CAd}
theorem sc_init : FnScope ["self", "signs", "rows", "ends", "row", "to", "given", "end", "sign", "way"] ["self", "signs", "rows", "ends"] (defScope s_init) := ⟨rfl, rfl, rfl, by decide +kernel, rfl, by decide +kernel, by decide +kernel⟩
end
end Kx

namespace Kx
open PySem L2 Own
/-- the turns of a display, the slots written out -/
theorem lcs_it {J : It} {n : Nat} {G : Hp → Prop} {Yl : Nat → Hp → V → Hp → Prop} {g : TG} {tt : TT} {te : TE} {vs : List Nat} {σ : L2.St} {H1 : Hp} {D : Addr} {Qd : Hp → Prop} (τ : L2.St) (ht : wipe σ vs = τ) (w : L2.Walk J n G Yl) (Pv : Nat → Hp → Prop) (h0 : Pv 0 (upd H1 D (.lst []))) (hG : ∀ i H, i ≤ n → Pv i H → G H)
    (hs : ∀ i x H H', i < n → Pv i H → Yl i H x H' → g x τ H' fun σ2 H2 => wipe σ2 vs = τ ∧ tt σ2 H2 fun b H3 =>
      if b = true then te σ2 H3 fun y H4 => ∃ acc, H4 D = some (.lst acc) ∧ acc.length < sizeLine ∧ Pv (i + 1) (upd H4 D (.lst (acc ++ [y]))) else Pv (i + 1) H3) (hd : ∀ H, Pv n H → Qd H) :
    ∃ W : Nat → Nat → Hp → Prop, (∃ m, W 0 m (upd H1 D (.lst []))) ∧ ∀ i m H, W i m H →
      (J.stop i H ∧ Qd H) ∨ (J.go i H ∧ ∃ Nx : Hp → Prop, (∀ H', Nx H' → ∃ m', m' < m ∧ W (i + 1) m' H') ∧ ∀ x H', J.yld i H x H' → g x (wipe σ vs) H' fun σ2 H2 => wipe σ2 vs = wipe σ vs ∧ tt σ2 H2 fun b H3 =>
        if b = true then te σ2 H3 fun y H4 => ∃ acc, H4 D = some (.lst acc) ∧ acc.length < sizeLine ∧ Nx (upd H4 D (.lst (acc ++ [y]))) else Nx H3) := by
  subst ht
  exact lc_it w Pv h0 hG hs hd
/-- the same of a display of a dict -/
theorem dcs_it {J : It} {n : Nat} {G : Hp → Prop} {Yl : Nat → Hp → V → Hp → Prop} {g : TG} {tt : TT} {tk tv : TE} {vs : List Nat} {σ : L2.St} {H1 : Hp} {D : Addr} {Qd : Hp → Prop} (τ : L2.St) (ht : wipe σ vs = τ) (w : L2.Walk J n G Yl) (Pv : Nat → Hp → Prop) (h0 : Pv 0 (upd H1 D (.dK []))) (hG : ∀ i H, i ≤ n → Pv i H → G H)
    (hs : ∀ i x H H', i < n → Pv i H → Yl i H x H' → g x τ H' fun σ2 H2 => wipe σ2 vs = τ ∧ tt σ2 H2 fun b H3 =>
      if b = true then tk σ2 H3 fun y H4 => tv σ2 H4 fun z H5 => ∃ kvs k, y = kV k ∧ H5 D = some (.dK kvs) ∧ kvs.length < sizeLine ∧ Pv (i + 1) (upd H5 D (.dK (putK kvs k z))) else Pv (i + 1) H3) (hd : ∀ H, Pv n H → Qd H) :
    ∃ W : Nat → Nat → Hp → Prop, (∃ m, W 0 m (upd H1 D (.dK []))) ∧ ∀ i m H, W i m H →
      (J.stop i H ∧ Qd H) ∨ (J.go i H ∧ ∃ Nx : Hp → Prop, (∀ H', Nx H' → ∃ m', m' < m ∧ W (i + 1) m' H') ∧ ∀ x H', J.yld i H x H' → g x (wipe σ vs) H' fun σ2 H2 => wipe σ2 vs = wipe σ vs ∧ tt σ2 H2 fun b H3 =>
        if b = true then tk σ2 H3 fun y H4 => tv σ2 H4 fun z H5 => ∃ kvs k, y = kV k ∧ H5 D = some (.dK kvs) ∧ kvs.length < sizeLine ∧ Nx (upd H5 D (.dK (putK kvs k z))) else Nx H3) := by
  subst ht
  refine ⟨fun i m H => m + i = n ∧ Pv i H, ⟨n, rfl, h0⟩, fun i m H ⟨e, p⟩ => ?_⟩
  have q := hG i H (by omega) p
  by_cases c : i = n
  · subst c
    exact .inl ⟨w.stops H q, hd H p⟩
  · exact .inr ⟨w.goes i H (by omega) q, Pv (i + 1), fun H' p' => ⟨m - 1, by omega, by omega, p'⟩, fun x H' y => hs i x H H' (by omega) p (w.yields i H x H' (by omega) q y)⟩
/-- a way, a row as a machine keeps them -/
def nw (w : Way) : Way := (w.1, kl w.2)
def nrm (r : List Way) : List Way := r.map nw
theorem psnoc {α β : Type} {F : α → β → Prop} : ∀ {l : List α} {m : List β} {x : α} {y : β}, Paired F l m → F x y → Paired F (l ++ [x]) (m ++ [y])
  | _, _, _, _, .nil, h => .cons h .nil
  | _, _, _, _, .cons r t, h => .cons r (psnoc t h)
/-- [(to, key_list(given)) for to, given in row] behind tuple: a row as it is kept -/
theorem row_made {K : PySem.W.Frag} {v0 v1 v2 v3 : V} {H : Hp} {a : Addr} {vs : List V} {q : List Way} {Q : VK} (ha : H a = some (.lst vs)) (pr : Paired (WayS K H) vs q) (hz : q.length ≤ 1000) (hb : ∀ w ∈ q, w.2.length + 1 < scanBound)
    (k : ∀ p H', H p = none → Same H H' → RowT H' (.ref p) (nrm q) → Q (.ref p) H') : rowsTe K [some v0, some v1, some v2, some v3, some (.ref a), none, none, none, none, none] H Q := by
  have hv : vs.length = q.length := Paired.length pr
  refine ⟨_, rfl, a, rfl, ⟨_, SqL.of ha⟩, fun D hD => ?_⟩
  have put : ∀ {H' : Hp} {xs : List V}, Same H H' → Same H (upd H' D (.lst xs)) := fun {H' xs} s1 b o e => by rw [upd_ne (ne_of_none e hD)]; exact s1 b o e
  refine lcs_it [some v0, some v1, some v2, some v3, some (.ref a), none, none, none, none, none] rfl walk_list (fun j H' => Same H H' ∧ ∃ acc, H' D = some (.lst acc) ∧ acc.length = j ∧ Paired (WayT H') acc ((q.take j).map nw)) ⟨Same.upd hD, [], upd_same, rfl, .nil⟩ (fun i H' _ z => SqL.of (z.1 _ _ ha)) ?_ ?_
  · rintro j x _ H1 hj ⟨s1, acc, hacc, hl, pa⟩ ⟨rfl, hx⟩
    obtain ⟨w, hw, b, kv, rfl, hb2, kt⟩ := pat pr hx
    refine ⟨b, _, rfl, SqT.of (s1 _ _ hb2), rfl, _, _, rfl, _, _, rfl, rfl, rfl, ?_⟩
    refine ⟨_, rfl, _, rfl, kv, w.2, rfl, kt.keep s1, hb w (List.mem_of_getElem? hw), fun p H2 hp s2 h2 => ?_⟩
    refine ⟨by show 2 ≤ sizeLine; decide, fun t ht => ⟨acc, ?_, ?_, ?_, acc ++ [.ref t], upd_same, by rw [List.length_append, hl]; rfl, ?_⟩⟩
    · exact Same.upd ht _ _ (s2 _ _ hacc)
    · rw [hl]
      exact Nat.lt_of_lt_of_le (Nat.lt_of_lt_of_le hj (hv ▸ hz)) (by decide)
    · exact put fun c o e => Same.upd ht _ _ (s2 _ _ (s1 _ _ e))
    · have tk : (q.take (j + 1)).map nw = (q.take j).map nw ++ [nw w] := by rw [List.take_add_one, hw]; simp
      rw [tk]
      have kp : ∀ b xs, H1 b = some (.tup xs) → (upd (upd H2 t (.tup [.int w.1, .ref p])) D (.lst (acc ++ [.ref t]))) b = some (.tup xs) := fun b xs e => by
        have e1 := Same.upd (o := .tup [.int w.1, .ref p]) ht _ _ (s2 _ _ e)
        rw [upd_ne (ne_of e1 (Same.upd ht _ _ (s2 _ _ hacc)) (by intro z; cases z))]
        exact e1
      have nt : t ≠ D := fun e => by
        have := s2 _ _ hacc
        rw [← e, ht] at this
        cases this
      refine psnoc (L2.Paired.mapP pa fun _ _ z => z.keep kp) ⟨t, .ref p, rfl, by rw [upd_ne nt, upd_same]; rfl, p, rfl, ?_⟩
      have e1 := Same.upd (o := .tup [.int w.1, .ref p]) ht _ _ h2
      rw [upd_ne (ne_of e1 (Same.upd ht _ _ (s2 _ _ hacc)) (by intro z; cases z))]
      exact e1
  · rintro H1 ⟨s1, acc, hacc, hl, pa⟩
    rw [hv, List.take_length] at pa
    refine .inl ⟨D, acc, rfl, SqL.of hacc, fun p hp => ?_⟩
    refine k p _ (s1.free hp) (fun b o e => Same.upd hp _ _ (s1 _ _ e)) ⟨p, acc, rfl, upd_same, L2.Paired.mapP pa fun _ _ z => z.keep (tups (Same.upd hp))⟩
theorem kvUp_len (sg : Str) (vs : List V) : ∀ i, (kvUp sg vs i).length ≤ i
  | 0 => Nat.le_refl _
  | i + 1 => by
    have ih := kvUp_len sg vs i
    unfold kvUp
    split
    · rename_i c x _ _
      have := length_putK (kvUp sg vs i) (Sum.inr (Froz.sing c)) x
      omega
    · omega
/-- {sign: way for sign, way in zip(signs, row)} -/
theorem ways_made {K : PySem.W.Frag} {v0 v2 v3 : V} {sg : Str} {H : Hp} {a : Addr} {vs : List V} {Q : VK} (ha : H a = some (.tup vs)) (asc : sg.cps.all (· < 128) = true) (hl : sg.cps.size ≤ vs.length) (hz : sg.cps.size ≤ 1000)
    (k : ∀ d H', H d = none → Same H H' → H' d = some (.dK (kvUp sg vs sg.cps.size)) → Q (.ref d) H') : waysTe K [some v0, some (.str sg), some v2, some v3, some (.ref a), none, none, none, none, none] H Q := by
  refine ⟨_, rfl, _, rfl, sg, a, vs, rfl, asc, SqT.of ha, fun D hD => ?_⟩
  refine dcs_it [some v0, some (.str sg), some v2, some v3, some (.ref a), none, none, none, none, none] rfl (walk_zips hl) (fun i H' => Same H H' ∧ H' D = some (.dK (kvUp sg vs i))) ⟨Same.upd hD, upd_same⟩ (fun i H' _ z => SqT.of (z.1 _ _ ha)) ?_ (fun H' z => k D H' hD z.1 z.2)
  rintro i x H1 H1' hi ⟨s1, h1⟩ ⟨t, y, z, rfl, nt, rfl, ey, ez⟩
  obtain ⟨c, hc, rfl⟩ := Option.map_eq_some_iff.mp ey
  have ln := kvUp_len sg vs i
  refine ⟨t, _, rfl, SqT.of upd_same, rfl, _, _, rfl, _, _, rfl, rfl, rfl, _, rfl, _, rfl, kvUp sg vs i, Sum.inr (Froz.sing c), rfl, Same.upd nt _ _ h1, ?_, ?_, ?_⟩
  · rw [sizeLine_eq]; omega
  · intro b o e
    rw [upd_ne (ne_of_none e hD)]
    exact Same.upd nt _ _ (s1 _ _ e)
  · rw [upd_same]
    have e : kvUp sg vs (i + 1) = putK (kvUp sg vs i) (Sum.inr (Froz.sing c)) z := by
      show (match sg.cps[i]?, vs[i]? with
        | some c, some x => putK (kvUp sg vs i) (Sum.inr (Froz.sing c)) x
        | _, _ => kvUp sg vs i) = _
      rw [hc, show vs[i]? = some z from ez]
    rw [e]
end Kx

namespace Kx
open PySem L2 Own
/-- an instance stands at m; all but it is as it was -/
def Kd (m : Addr) (H H' : Hp) : Prop := (∃ C dx fs, H m = some (.ins C dx fs)) ∧ ∀ b o, H b = some o → b ≠ m → H' b = some o
section
variable {m : Addr} {H H' H2 : Hp}
theorem Kd.of {C dx : Addr} {fs : List (Str × V)} (hm : H m = some (.ins C dx fs)) (s : Same H H') : Kd m H H' := ⟨⟨C, dx, fs, hm⟩, fun b o e _ => s b o e⟩
theorem Kd.trans (a : Kd m H H') (s : Same H' H2) : Kd m H H2 := ⟨a.1, fun b o e n => s b o (a.2 b o e n)⟩
theorem Kd.get (s : Kd m H H') {b : Addr} {o : HO} (e : H b = some o) (n : ∀ C dx fs, o ≠ .ins C dx fs) : H' b = some o := by
  obtain ⟨⟨C, dx, fs, hm⟩, k⟩ := s
  exact k b o e (ne_of e hm (n C dx fs))
theorem Kd.lst (s : Kd m H H') {b : Addr} {xs : List V} (e : H b = some (.lst xs)) : H' b = some (.lst xs) := s.get e fun _ _ _ z => by cases z
theorem Kd.tup (s : Kd m H H') {b : Addr} {xs : List V} (e : H b = some (.tup xs)) : H' b = some (.tup xs) := s.get e fun _ _ _ z => by cases z
end
theorem Kd.texts {K : PySem.W.Frag} {m : Addr} {H H' : Hp} (s : Kd m H H') {v : V} {xs : List Str} (h : Texts K H v xs) : Texts K H' v xs := by
  cases h with
  | list h =>
    rcases h with (h | ⟨o, h⟩) | h
    · exact .list (.inl (.inl (s.lst h)))
    · exact .list (.inl (.inr ⟨o, s.get h fun _ _ _ z => by cases z⟩))
    · exact .list (.inr h)
  | tup h =>
    rcases h with (h | ⟨o, h⟩) | h
    · exact .tup (.inl (.inl (s.tup h)))
    · exact .tup (.inl (.inr ⟨o, s.get h fun _ _ _ z => by cases z⟩))
    · exact .tup (.inr h)
  | text y => exact .text y
theorem Kd.row {K : PySem.W.Frag} {m : Addr} {H H' : Hp} (s : Kd m H H') {v : V} {r : List Way} (h : RowL K H v r) : RowL K H' v r := by
  obtain ⟨a, vs, e, h, k⟩ := h
  refine ⟨a, vs, e, s.lst h, L2.Paired.mapP k fun _ _ ⟨b, kv, e1, e2, e3⟩ => ⟨b, kv, e1, s.tup e2, s.texts e3⟩⟩
/-- the dicts of a machine's ways -/
def WaysD (sg : Str) (H : Hp) (d : V) (rw : V) : Prop := ∃ a b vs, d = .ref a ∧ rw = .ref b ∧ H b = some (.tup vs) ∧ H a = some (.dK (kvUp sg vs sg.cps.size))
/-- a machine of the signs sg, the rows R and the ends Es stands at m -/
def MachAt (C : Addr) (H : Hp) (m : Addr) (sg : Str) (R : List (List Way)) (Es : List (List Str)) : Prop := ∃ (dx r e k w : Addr) (rv ev wv : List V),
  H m = some (.ins C dx [("signs", .str sg), ("rows", .ref r), ("ends", .ref e), ("all_keys", .ref k), ("_ways", .ref w)]) ∧ H r = some (.tup rv) ∧ Paired (RowT H) rv R ∧ H e = some (.tup ev) ∧ Paired (KeysT H) ev Es ∧
  H k = some (.tup ((kl (keysOfRows R ++ Es.flatten)).map V.str)) ∧ H w = some (.tup wv) ∧ Paired (WaysD sg H) wv rv
theorem way_le {R : List (List Way)} {i : Nat} {q : List Way} {w : Way} (hq : R[i]? = some q) (hw : w ∈ q) : w.2.length ≤ (keysOfRows R).length := by
  obtain ⟨j, hj⟩ := List.getElem?_of_mem hw
  have a := flat_le (fun r : List Way => r.flatMap fun w => w.2) hq
  have b := flat_le (fun w : Way => w.2) hj
  unfold keysOfRows
  omega
theorem snap {α β : Type} (f : α → β) {l : List α} {i : Nat} {x : α} (h : l[i]? = some x) : (l.take (i + 1)).map f = (l.take i).map f ++ [f x] := by rw [List.take_add_one, h]; simp
theorem tyes {σ : L2.St} {H : Hp} {F : Bool → Hp → Prop} (h : F true H) : tYes σ H F := h
theorem mem_nrm {R : List (List Way)} {y : Str} : y ∈ keysOfRows (R.map nrm) ↔ y ∈ keysOfRows R := by
  unfold keysOfRows nrm
  simp only [List.mem_flatMap, List.mem_map]
  constructor
  · rintro ⟨_, ⟨q, hq, rfl⟩, w, hw, hy⟩
    obtain ⟨w0, hw0, rfl⟩ := List.mem_map.mp hw
    exact ⟨q, hq, w0, hw0, kl_mem.mp hy⟩
  · rintro ⟨q, hq, w, hw, hy⟩
    exact ⟨_, ⟨q, hq, rfl⟩, nw w, List.mem_map.mpr ⟨w, hw, rfl⟩, kl_mem.mpr hy⟩
theorem mem_ends {Es : List (List Str)} {y : Str} : y ∈ (Es.map kl).flatten ↔ y ∈ Es.flatten := by
  simp only [List.mem_flatten, List.mem_map]
  constructor
  · rintro ⟨_, ⟨q, hq, rfl⟩, hy⟩
    exact ⟨q, hq, kl_mem.mp hy⟩
  · rintro ⟨q, hq, hy⟩
    exact ⟨_, ⟨q, hq, rfl⟩, kl_mem.mpr hy⟩
theorem len_row : ∀ r : List Way, ((nrm r).flatMap fun w => w.2).length ≤ (r.flatMap fun w => w.2).length
  | [] => Nat.le_refl _
  | w :: r => by
    have ih := len_row r
    have k := kl_len w.2
    unfold nrm at ih ⊢
    rw [List.map_cons, List.flatMap_cons, List.flatMap_cons, List.length_append, List.length_append]
    show (kl w.2).length + _ ≤ _
    omega
theorem len_nrm : ∀ R : List (List Way), (keysOfRows (R.map nrm)).length ≤ (keysOfRows R).length
  | [] => Nat.le_refl _
  | r :: R => by
    have ih := len_nrm R
    have k := len_row r
    unfold keysOfRows at ih ⊢
    rw [List.map_cons, List.flatMap_cons, List.flatMap_cons, List.length_append, List.length_append]
    omega
theorem len_ends : ∀ Es : List (List Str), (Es.map kl).flatten.length ≤ Es.flatten.length
  | [] => Nat.le_refl _
  | e :: Es => by
    have ih := len_ends Es
    have k := kl_len e
    rw [List.map_cons, List.flatten_cons, List.flatten_cons, List.length_append, List.length_append]
    omega
theorem WaysD.keep {sg : Str} {H H' : Hp} (s : ∀ b xs, H b = some (.tup xs) → H' b = some (.tup xs)) (s2 : ∀ b xs, H b = some (.dK xs) → H' b = some (.dK xs)) {d rw1 : V} (h : WaysD sg H d rw1) : WaysD sg H' d rw1 := by
  obtain ⟨a, b, vs, e1, e2, e3, e4⟩ := h
  exact ⟨a, b, vs, e1, e2, s _ _ e3, s2 _ _ e4⟩
section
variable {P : Program} {w : World} {K : PySem.W.Frag} {mg : Str → Option Value} {base : Heap} {A : EAd} {B : MAd} {Z : CAd}
def spInit (K : PySem.W.Frag) (A : EAd) (Z : CAd) : Sp := fun vs H Q E => ∃ (m r e dx : Addr) (sg : Str) (rv ev : List V) (R : List (List Way)) (Es : List (List Str)), vs = [.ref m, .str sg, .ref r, .ref e] ∧ H m = some (.ins Z.C dx []) ∧
  H r = some (.lst rv) ∧ Paired (RowL K H) rv R ∧ H e = some (.lst ev) ∧ Paired (Texts K H) ev Es ∧ sg.cps.all (· < 128) = true ∧ sg.cps.size ≤ 1000 ∧ (∀ q ∈ R, sg.cps.size ≤ q.length ∧ q.length ≤ 1000) ∧ R.length ≤ 1000 ∧ Es.length ≤ 1000 ∧ (keysOfRows R ++ Es.flatten).length + 1 < scanBound ∧
  (∀ (i j : Nat) (q : List Way) (w : Way) (d : Addr) (H' : Hp), R[i]? = some q → q[j]? = some w → ¬ Okw R.length w → (∀ (i' : Nat) q', i' < i → R[i']? = some q' → ∀ w ∈ q', Okw R.length w) → (∀ (j' : Nat) w', j' < j → q[j']? = some w' → Okw R.length w') →
    H d = none → Kd m H H' → H' d = some (.xd [("place", .int j), ("state", .int i)]) → E (.ref A.c1) (some d) H') ∧
  ((∀ (i : Nat) q, R[i]? = some q → ∀ w ∈ q, Okw R.length w) → ∀ H', Kd m H H' → (12 < (kl (keysOfRows R ++ Es.flatten)).length → ∀ d, H d = none → H' d = some (.xd [("what", .str "keys")]) → E (.ref A.c2) (some d) H') ∧
    ((kl (keysOfRows R ++ Es.flatten)).length ≤ 12 → MachAt Z.C H' m sg (R.map nrm) (Es.map kl) → Q .non H'))
theorem ok_init (T : TxtM K mg B) (TE : TxtE K mg A) (TC : TxtC K mg Z) : FnOk P w K mg base (L2.CX P w) 5 Z.f Z.d ["self", "signs", "rows", "ends"] (spInit K A Z) := by
  have sc := sc_init
  have G_check : FnOk P w K mg base (L2.CX P w) 4 B.f3 B.d3 ["rows"] (spCheck K A) := ok_check T TE
  have G_key_list : FnOk P w K mg base CX0 1 B.f2 B.d2 ["given"] (spKl K) := ok_key_list T
  have G_keys_in : FnOk P w K mg base CX0 2 B.f4 B.d4 ["rows", "ends"] (spKin K) := ok_keys_in T
  obtain ⟨tk, g12⟩ := TC.g_MOST_KEYS
  refine TC.F.okX sc (fun vs H Q E h => ?_) (fun cdv A1 outer s H vs Q E hr h => ?_)
  · obtain ⟨_, _, _, _, _, _, _, _, _, rfl, _⟩ := h; rfl
  · obtain ⟨m, r, e, dx, sg, rv, ev, R, Es, rfl, hm, hrv, pR, hev, pE, asc, sz, rl, Rl, El, hb, bad, good⟩ := h
    refine ⟨_, (pss_cons (ps_expr (pe_callS G_check (hr.mono (by decide)) rfl T.D_check_ways.g T.D_check_ways.F.kp T.D_check_ways.b (fun σ => passAt (takes_of rfl rfl rfl rfl) σ) (pa_cons (pv 2) pa_nil)))
      (pss_cons (ps_fld (pv 0) (pv 1) rfl)
      (pss_cons (ps_fld (pv 0) (pe_tupleOf rfl T.n_tuple (pe_lc (own := [("row", 4)]) (g := gName 4) (tt := tYes) (te := rowsTe K) rfl sc.nd (pi_list (pv 2)) (blkOk_by (N := ["self", "signs", "rows", "ends", "row", "to", "given", "end", "sign", "way"]) (sc := defScope s_init) (own := [("row", 4)]) (by decide +kernel)) (fun _ _ _ _ _ => (pg_name (i := 4) sc.nd rfl (Or.inl rfl))) (fun _ _ _ _ _ => pts_nil)
        (fun _ _ _ _ _ => pe_tupleOf rfl T.n_tuple (pe_lc (own := [("to", 5), ("given", 6)]) (tt := tYes) rfl sc.nd (pi_list (pv 4)) (blkOk_by (own := [("to", 5), ("given", 6)]) (by rfl)) (fun _ _ _ _ _ => pg_tup rfl (pgs_cons (pg_name (i := 5) sc.nd rfl (Or.inl rfl)) (pgs_cons (pg_name (i := 6) sc.nd rfl (Or.inl rfl)) pgs_nil))) (fun _ _ _ _ _ => pts_nil)
          (fun _ _ _ _ _ => pe_tup (pa_cons (pv 5) (pa_cons (pe_call G_key_list (hr.mono (by decide)) rfl T.D_key_list.g T.D_key_list.F.kp T.D_key_list.b .nil pass0 (pa_cons (pv 6) pa_nil)) pa_nil))))))) rfl)
      (pss_cons (ps_fld (pv 0) (pe_tupleOf rfl T.n_tuple (pe_lc (own := [("end", 7)]) (g := gName 7) (tt := tYes) rfl sc.nd (pi_list (pv 3)) (blkOk_by (N := ["self", "signs", "rows", "ends", "row", "to", "given", "end", "sign", "way"]) (sc := defScope s_init) (own := [("end", 7)]) (by decide +kernel)) (fun _ _ _ _ _ => (pg_name (i := 7) sc.nd rfl (Or.inl rfl))) (fun _ _ _ _ _ => pts_nil)
        (fun _ _ _ _ _ => pe_call G_key_list (hr.mono (by decide)) rfl T.D_key_list.g T.D_key_list.F.kp T.D_key_list.b .nil pass0 (pa_cons (pv 7) pa_nil)))) rfl)
      (pss_cons (ps_fld (pv 0) (pe_call G_keys_in (hr.mono (by decide)) rfl T.D_keys_in.g T.D_keys_in.F.kp T.D_keys_in.b .nil pass0 (pa_cons (pe_fld (pv 0) rfl) (pa_cons (pe_fld (pv 0) rfl) pa_nil))) rfl)
      (pss_cons (ps_if (pt_cmpR op_gt (pe_callB call_len (by rfl) T.n_len (by decide +kernel) (pa_cons (pe_fld (pv 0) rfl) pa_nil)) (pe_glob (v := .int 12) rfl g12 ⟨_, rfl⟩) (nomark _))
          (pss_one (ps_raise rfl (takes_of rfl rfl rfl rfl) (pmk_oex TE.E_TooMany.oex TE.I_TooMany.iC TE.I_TooMany.tI (ok_TooMany TE) (hr.mono (by decide)) TE.I_TooMany.b .nil pass0 rfl TE.E_TooMany.g (pa_cons pe_str pa_nil))))
          pss_nil)
      (pss_one (ps_fld (pv 0) (pe_tupleOf rfl T.n_tuple (pe_lc (own := [("row", 4)]) (g := gName 4) (tt := tYes) (te := waysTe K) rfl sc.nd (pi_tup (pe_fld (pv 0) rfl)) (blkOk_by (N := ["self", "signs", "rows", "ends", "row", "to", "given", "end", "sign", "way"]) (sc := defScope s_init) (own := [("row", 4)]) (by decide +kernel)) (fun _ _ _ _ _ => (pg_name (i := 4) sc.nd rfl (Or.inl rfl))) (fun _ _ _ _ _ => pts_nil)
        (fun _ _ _ _ _ => pe_dc (own := [("sign", 8), ("way", 9)]) (tt := tYes) rfl sc.nd (pi_zips (by rfl) T.n_zip (pa_cons (pv 1) (pa_cons (pv 4) pa_nil))) (blkOk_by (own := [("sign", 8), ("way", 9)]) (by rfl)) (fun _ _ _ _ _ => pg_tup rfl (pgs_cons (pg_name (i := 8) sc.nd rfl (Or.inl rfl)) (pgs_cons (pg_name (i := 9) sc.nd rfl (Or.inl rfl)) pgs_nil))) (fun _ _ _ _ _ => pts_nil) (fun _ _ _ _ _ => pv 8) (fun _ _ _ _ _ => pv 9)))) rfl)))))))), ?_⟩
    refine ⟨_, rfl, r, rv, R, rfl, hrv, pR, fun H1 s1 ok => ?_, fun i j q w d H1 hq hw nb g1 g2 hd s1 h1 => bad i j q w d H1 hq hw nb g1 g2 hd (.of hm s1) h1⟩
    replace good := good ok
    -- self.signs
    refine ⟨_, rfl, _, rfl, m, Z.C, dx, [], rfl, s1 _ _ hm, TC.cl, TC.a1, (by show 0 < 1000; decide), ?_⟩
    have k2 : Kd m H (upd H1 m (.ins Z.C dx (putF "signs" (.str sg) []))) := ⟨⟨_, _, _, hm⟩, fun b o e n => by
      rw [upd_ne n]
      exact s1 _ _ e⟩
    have m2 : (upd H1 m (.ins Z.C dx (putF "signs" (.str sg) []))) m = some (.ins Z.C dx [("signs", .str sg)]) := upd_same
    generalize upd H1 m (.ins Z.C dx (putF "signs" (.str sg) [])) = H2 at k2 m2 ⊢
    -- self.rows
    refine ⟨_, rfl, r, rfl, ⟨_, SqL.of (k2.lst hrv)⟩, fun D hD => ?_⟩
    refine lcs_it [some (.ref m), some (.str sg), some (.ref r), some (.ref e), none, none, none, none, none, none] rfl walk_list (fun i H' => Same H2 H' ∧ ∃ acc, H' D = some (.lst acc) ∧ acc.length = i ∧ Paired (RowT H') acc ((R.take i).map nrm)) ⟨Same.upd hD, [], upd_same, rfl, .nil⟩ (fun i H' _ z => SqL.of (z.1 _ _ (k2.lst hrv))) ?_ ?_
    · rintro i x _ H3 hi ⟨s3, acc, hacc, hl, pa⟩ ⟨rfl, hx⟩
      obtain ⟨q, hq, a, vs, rfl, ha, pr⟩ := pat (L2.Paired.mapP pR fun _ _ z => k2.row z) hx
      refine ⟨rfl, ?_⟩
      refine row_made (s3 _ _ ha) (L2.Paired.mapP pr fun _ _ z => z.keep s3) (rl q (List.mem_of_getElem? hq)).2 (fun w hw => ?_) fun p H4 hp s4 h4 => ?_
      · have := way_le hq hw
        rw [List.length_append] at hb
        omega
      · have pl : rv.length = R.length := Paired.length pR
        have kp : ∀ b xs, H4 b = some (.tup xs) → (upd H4 D (.lst (acc ++ [.ref p]))) b = some (.tup xs) := fun b xs e => by
          rw [upd_ne (ne_of e (s4 _ _ hacc) (by intro z; cases z))]
          exact e
        refine ⟨acc, s4 _ _ hacc, ?_, fun b o e => ?_, acc ++ [.ref p], upd_same, by rw [List.length_append, hl]; rfl, ?_⟩
        · rw [sizeLine_eq]; omega
        · rw [upd_ne (ne_of_none e hD)]
          exact s4 _ _ (s3 _ _ e)
        · rw [snap nrm hq]
          exact psnoc (L2.Paired.mapP pa fun _ _ z => z.keep fun b xs e => kp b xs (s4 _ _ e)) (h4.keep kp)
    rintro H3 ⟨s3, rv3, hacc, hl, pa⟩
    rw [show rv.length = R.length from Paired.length pR, List.take_length] at pa
    refine .inl ⟨D, rv3, rfl, SqL.of hacc, fun r3 hr3 => ?_⟩
    have s4 : Same H2 (upd H3 r3 (.tup rv3)) := fun b o e => Same.upd hr3 _ _ (s3 _ _ e)
    have r4 : (upd H3 r3 (.tup rv3)) r3 = some (.tup rv3) := upd_same
    have pa4 : Paired (RowT (upd H3 r3 (.tup rv3))) rv3 (R.map nrm) := L2.Paired.mapP pa fun _ _ z => z.keep (tups (Same.upd hr3))
    generalize upd H3 r3 (.tup rv3) = H4 at s4 r4 pa4 ⊢
    refine ⟨_, rfl, m, Z.C, dx, [("signs", .str sg)], rfl, s4 _ _ m2, TC.cl, TC.a2, (by show 1 < 1000; decide), ?_⟩
    have next : ∀ {Ha Hb : Hp} {fs fs' : List (Str × V)}, Kd m H Ha → Same Ha Hb → Hb m = some (.ins Z.C dx fs) → Kd m H (upd Hb m (.ins Z.C dx fs')) := fun {Ha Hb fs fs'} k s e => ⟨k.1, fun b o e1 n => by
      rw [upd_ne n]
      exact s _ _ (k.2 b o e1 n)⟩
    have k5 : Kd m H (upd H4 m (.ins Z.C dx (putF "rows" (.ref r3) [("signs", .str sg)]))) := next k2 s4 (s4 _ _ m2)
    have m5 : (upd H4 m (.ins Z.C dx (putF "rows" (.ref r3) [("signs", .str sg)]))) m = some (.ins Z.C dx [("signs", .str sg), ("rows", .ref r3)]) := upd_same
    have j5 : ∀ b xs, H4 b = some (.tup xs) → (upd H4 m (.ins Z.C dx (putF "rows" (.ref r3) [("signs", .str sg)]))) b = some (.tup xs) := fun b xs e => by
      rw [upd_ne (ne_of e (s4 _ _ m2) (by intro z; cases z))]
      exact e
    have r5 := j5 _ _ r4
    have pa5 := L2.Paired.mapP pa4 fun _ _ z => z.keep j5
    clear j5
    generalize upd H4 m (.ins Z.C dx (putF "rows" (.ref r3) [("signs", .str sg)])) = H5 at k5 m5 r5 pa5 ⊢
    -- self.ends
    refine ⟨_, rfl, e, rfl, ⟨_, SqL.of (k5.lst hev)⟩, fun D5 hD5 => ?_⟩
    refine lcs_it [some (.ref m), some (.str sg), some (.ref r), some (.ref e), none, none, none, none, none, none] rfl walk_list (fun i H' => Same H5 H' ∧ ∃ acc, H' D5 = some (.lst acc) ∧ acc.length = i ∧ Paired (KeysT H') acc ((Es.take i).map kl)) ⟨Same.upd hD5, [], upd_same, rfl, .nil⟩ (fun i H' _ z => SqL.of (z.1 _ _ (k5.lst hev))) ?_ ?_
    · rintro i x _ H6 hi ⟨s6, acc, hacc, hl, pa⟩ ⟨rfl, hx⟩
      obtain ⟨ks, hks, kt⟩ := pat (L2.Paired.mapP pE fun _ _ z => k5.texts z) hx
      have l1 := flat_le id hks
      have l2 : (Es.flatMap id).length = Es.flatten.length := by rw [List.flatMap_id]
      refine ⟨rfl, _, rfl, x, ks, rfl, kt.keep s6, ?_, fun p H7 hp s7 h7 => ?_⟩
      · have l3 : (id ks).length = ks.length := rfl
        rw [List.length_append] at hb
        omega
      · have pl : ev.length = Es.length := Paired.length pE
        have kp : ∀ b xs, H7 b = some (.tup xs) → (upd H7 D5 (.lst (acc ++ [.ref p]))) b = some (.tup xs) := fun b xs e => by
          rw [upd_ne (ne_of e (s7 _ _ hacc) (by intro z; cases z))]
          exact e
        refine ⟨acc, s7 _ _ hacc, ?_, fun b o e => ?_, acc ++ [.ref p], upd_same, by rw [List.length_append, hl]; rfl, ?_⟩
        · rw [sizeLine_eq]; omega
        · rw [upd_ne (ne_of_none e hD5)]
          exact s7 _ _ (s6 _ _ e)
        · rw [snap kl hks]
          exact psnoc (L2.Paired.mapP pa fun _ _ z => z.keep fun b xs e => kp b xs (s7 _ _ e)) ⟨p, rfl, kp _ _ h7⟩
    rintro H6 ⟨s6, ev6, hacc6, hl6, pe6⟩
    rw [show ev.length = Es.length from Paired.length pE, List.take_length] at pe6
    refine .inl ⟨D5, ev6, rfl, SqL.of hacc6, fun e6 he6 => ?_⟩
    have s7 : Same H5 (upd H6 e6 (.tup ev6)) := fun b o e => Same.upd he6 _ _ (s6 _ _ e)
    have e7 : (upd H6 e6 (.tup ev6)) e6 = some (.tup ev6) := upd_same
    have pe7 : Paired (KeysT (upd H6 e6 (.tup ev6))) ev6 (Es.map kl) := L2.Paired.mapP pe6 fun _ _ z => z.keep (tups (Same.upd he6))
    generalize upd H6 e6 (.tup ev6) = H7 at s7 e7 pe7 ⊢
    refine ⟨_, rfl, m, Z.C, dx, [("signs", .str sg), ("rows", .ref r3)], rfl, s7 _ _ m5, TC.cl, TC.a3, (by show 2 < 1000; decide), ?_⟩
    have k8 : Kd m H (upd H7 m (.ins Z.C dx (putF "ends" (.ref e6) [("signs", .str sg), ("rows", .ref r3)]))) := next k5 s7 (s7 _ _ m5)
    have m8 : (upd H7 m (.ins Z.C dx (putF "ends" (.ref e6) [("signs", .str sg), ("rows", .ref r3)]))) m = some (.ins Z.C dx [("signs", .str sg), ("rows", .ref r3), ("ends", .ref e6)]) := upd_same
    have j8 : ∀ b xs, H7 b = some (.tup xs) → (upd H7 m (.ins Z.C dx (putF "ends" (.ref e6) [("signs", .str sg), ("rows", .ref r3)]))) b = some (.tup xs) := fun b xs e => by
      rw [upd_ne (ne_of e (s7 _ _ m5) (by intro z; cases z))]
      exact e
    have r8 := j8 _ _ (s7 _ _ r5)
    have pa8 := L2.Paired.mapP pa5 fun _ _ z => z.keep fun b xs e => j8 b xs (s7 _ _ e)
    have e8 := j8 _ _ e7
    have pe8 := L2.Paired.mapP pe7 fun _ _ z => z.keep j8
    clear j8
    generalize upd H7 m (.ins Z.C dx (putF "ends" (.ref e6) [("signs", .str sg), ("rows", .ref r3)])) = H8 at k8 m8 r8 pa8 e8 pe8 ⊢
    -- self.all_keys
    have mem : ∀ y, y ∈ keysOfRows (R.map nrm) ++ (Es.map kl).flatten ↔ y ∈ keysOfRows R ++ Es.flatten := fun y => by
      rw [List.mem_append, List.mem_append, mem_nrm, mem_ends]
    have len8 : (keysOfRows (R.map nrm) ++ (Es.map kl).flatten).length ≤ (keysOfRows R ++ Es.flatten).length := by
      have a := len_nrm R
      have b := len_ends Es
      rw [List.length_append, List.length_append]
      omega
    refine ⟨_, rfl, m, Z.C, dx, _, _, rfl, m8, TC.cl, TC.a2, rfl, _, rfl, m, Z.C, dx, _, _, rfl, m8, TC.cl, TC.a3, rfl, ?_⟩
    refine ⟨r3, e6, rv3, ev6, R.map nrm, Es.map kl, rfl, r8, pa8, e8, pe8, by omega, fun k9 H9 hk9 s9 h9 => ?_⟩
    rw [kl_congr mem] at h9
    refine ⟨_, rfl, m, Z.C, dx, [("signs", .str sg), ("rows", .ref r3), ("ends", .ref e6)], rfl, s9 _ _ m8, TC.cl, TC.a4, (by show 3 < 1000; decide), ?_⟩
    have k10 : Kd m H (upd H9 m (.ins Z.C dx (putF "all_keys" (.ref k9) [("signs", .str sg), ("rows", .ref r3), ("ends", .ref e6)]))) := next k8 s9 (s9 _ _ m8)
    have m10 : (upd H9 m (.ins Z.C dx (putF "all_keys" (.ref k9) [("signs", .str sg), ("rows", .ref r3), ("ends", .ref e6)]))) m = some (.ins Z.C dx [("signs", .str sg), ("rows", .ref r3), ("ends", .ref e6), ("all_keys", .ref k9)]) := upd_same
    have j10 : ∀ b xs, H9 b = some (.tup xs) → (upd H9 m (.ins Z.C dx (putF "all_keys" (.ref k9) [("signs", .str sg), ("rows", .ref r3), ("ends", .ref e6)]))) b = some (.tup xs) := fun b xs e => by
      rw [upd_ne (ne_of e (s9 _ _ m8) (by intro z; cases z))]
      exact e
    have f10 : ∀ d, (upd H9 m (.ins Z.C dx (putF "all_keys" (.ref k9) [("signs", .str sg), ("rows", .ref r3), ("ends", .ref e6)]))) d = none → H d = none := fun d hd => by
      have nd : d ≠ m := fun e => by rw [e, m10] at hd; cases hd
      rw [upd_ne nd] at hd
      cases c : H d with
      | none => rfl
      | some o =>
        have := s9 _ _ (k8.2 d o c nd)
        rw [hd] at this
        cases this
    have r10 := j10 _ _ (s9 _ _ r8)
    have pa10 := L2.Paired.mapP pa8 fun _ _ z => z.keep fun b xs e => j10 b xs (s9 _ _ e)
    have e10 := j10 _ _ (s9 _ _ e8)
    have pe10 := L2.Paired.mapP pe8 fun _ _ z => z.keep fun b xs e => j10 b xs (s9 _ _ e)
    have a10 := j10 _ _ h9
    clear j10
    generalize upd H9 m (.ins Z.C dx (putF "all_keys" (.ref k9) [("signs", .str sg), ("rows", .ref r3), ("ends", .ref e6)])) = H10 at k10 m10 f10 r10 pa10 e10 pe10 a10 ⊢
    -- if len(self.all_keys) > MOST_KEYS
    refine ⟨_, rfl, m, Z.C, dx, _, _, rfl, m10, TC.cl, TC.a4, rfl, .ref k9, _, rfl, .inr ⟨_, SqT.of a10, rfl⟩, _, _, rfl, rfl, _, rfl, ?_⟩
    rw [List.length_map]
    by_cases c : (12 : Int) < ((kl (keysOfRows R ++ Es.flatten)).length : Nat)
    · refine ifT c ?_
      refine rsE rfl (by show 1 ≤ 1000; decide) (fun u hu => ?_) fun d H11 hd s11 h11 => (good H11 (k10.trans s11)).1 (by omega) d (f10 d hd) h11
      rw [List.mem_singleton.mp hu]
      exact .inr ⟨_, rfl⟩
    refine ifF c ?_
    -- self._ways
    refine ⟨_, rfl, m, Z.C, dx, _, _, rfl, m10, TC.cl, TC.a2, rfl, r3, rfl, ⟨_, SqT.of r10⟩, fun W hW => ?_⟩
    have rl3 : rv3.length = R.length := (Paired.length pa10).trans (List.length_map ..)
    refine lcs_it [some (.ref m), some (.str sg), some (.ref r), some (.ref e), none, none, none, none, none, none] rfl walk_tup (fun i H' => Same H10 H' ∧ ∃ acc, H' W = some (.lst acc) ∧ acc.length = i ∧ Paired (WaysD sg H') acc (rv3.take i)) ⟨Same.upd hW, [], upd_same, rfl, .nil⟩ (fun i H' _ z => SqT.of (z.1 _ _ r10)) ?_ ?_
    · rintro i x _ H11 hi ⟨s11, acc, hacc, hl, pw⟩ ⟨rfl, hx⟩
      obtain ⟨row, hrow, a, vs, rfl, ha, pr⟩ := pat pa10 hx
      rw [List.getElem?_map] at hrow
      obtain ⟨q, hq, rfl⟩ := Option.map_eq_some_iff.mp hrow
      have vl : vs.length = q.length := (Paired.length pr).trans (List.length_map ..)
      have q1 := rl q (List.mem_of_getElem? hq)
      refine ⟨rfl, tyes ?_⟩
      simp only [if_true]
      refine ways_made (s11 _ _ ha) asc (by omega) sz fun d H12 hd s12 h12 => ?_
      have kt : ∀ b xs, H12 b = some (.tup xs) → (upd H12 W (.lst (acc ++ [.ref d]))) b = some (.tup xs) := fun b xs e => by
        rw [upd_ne (ne_of e (s12 _ _ hacc) (by intro z; cases z))]
        exact e
      have kd : ∀ b xs, H12 b = some (.dK xs) → (upd H12 W (.lst (acc ++ [.ref d]))) b = some (.dK xs) := fun b xs e => by
        rw [upd_ne (ne_of e (s12 _ _ hacc) (by intro z; cases z))]
        exact e
      refine ⟨acc, s12 _ _ hacc, ?_, fun b o e => ?_, acc ++ [.ref d], upd_same, by rw [List.length_append, hl]; rfl, ?_⟩
      · rw [sizeLine_eq]; omega
      · rw [upd_ne (ne_of_none e hW)]
        exact s12 _ _ (s11 _ _ e)
      · have tk : rv3.take (i + 1) = rv3.take i ++ [.ref a] := by rw [List.take_add_one, hx]; rfl
        rw [tk]
        exact psnoc (L2.Paired.mapP pw fun _ _ z => z.keep (fun b xs e => kt b xs (s12 _ _ e)) fun b xs e => kd b xs (s12 _ _ e)) ⟨d, a, vs, rfl, rfl, kt _ _ (s12 _ _ (s11 _ _ ha)), kd _ _ h12⟩
    rintro H11 ⟨s11, wv, hacc, hl, pw⟩
    rw [List.take_length] at pw
    refine .inl ⟨W, wv, rfl, SqL.of hacc, fun w6 hw6 => ?_⟩
    have s12 : Same H10 (upd H11 w6 (.tup wv)) := fun b o e => Same.upd hw6 _ _ (s11 _ _ e)
    have w12 : (upd H11 w6 (.tup wv)) w6 = some (.tup wv) := upd_same
    have pw12 : Paired (WaysD sg (upd H11 w6 (.tup wv))) wv rv3 := L2.Paired.mapP pw fun _ _ z => z.keep (tups (Same.upd hw6)) fun b xs e => Same.upd hw6 _ _ e
    generalize upd H11 w6 (.tup wv) = H12 at s12 w12 pw12 ⊢
    refine ⟨_, rfl, m, Z.C, dx, [("signs", .str sg), ("rows", .ref r3), ("ends", .ref e6), ("all_keys", .ref k9)], rfl, s12 _ _ m10, TC.cl, TC.a5, (by show 4 < 1000; decide), ?_⟩
    have j : ∀ b xs, H12 b = some (.tup xs) → (upd H12 m (.ins Z.C dx (putF "_ways" (.ref w6) [("signs", .str sg), ("rows", .ref r3), ("ends", .ref e6), ("all_keys", .ref k9)]))) b = some (.tup xs) := fun b xs e => by
      rw [upd_ne (ne_of e (s12 _ _ m10) (by intro z; cases z))]
      exact e
    have jd : ∀ b xs, H12 b = some (.dK xs) → (upd H12 m (.ins Z.C dx (putF "_ways" (.ref w6) [("signs", .str sg), ("rows", .ref r3), ("ends", .ref e6), ("all_keys", .ref k9)]))) b = some (.dK xs) := fun b xs e => by
      rw [upd_ne (ne_of e (s12 _ _ m10) (by intro z; cases z))]
      exact e
    refine (good _ (next k10 s12 (s12 _ _ m10))).2 (by omega) ⟨dx, r3, e6, k9, w6, rv3, ev6, wv, upd_same, j _ _ (s12 _ _ r10), ?_, j _ _ (s12 _ _ e10), ?_, ?_, j _ _ w12, ?_⟩
    · exact L2.Paired.mapP pa10 fun _ _ z => z.keep fun b xs e => j b xs (s12 _ _ e)
    · exact L2.Paired.mapP pe10 fun _ _ z => z.keep fun b xs e => j b xs (s12 _ _ e)
    · rw [kl_congr mem]
      exact j _ _ (s12 _ _ a10)
    · exact L2.Paired.mapP pw12 fun _ _ z => z.keep j jd
end
end Kx

/-! enumerate over a text -/
namespace Own
open PySem PySem.Spec PyProof.Rows L2 PySem.Froz
/-- the letters of the text y, each in a new pair with its place -/
def Ites (y : Str) : It :=
  ⟨fun i _ => i < y.cps.size, fun i H v H' => ∃ T c, v = .ref T ∧ H T = none ∧ H' = upd H T (.tup [.int (i : Nat), .str (sing c)]) ∧ y.cps[i]? = some c, fun i _ => i = y.cps.size⟩
theorem turn_enumS {P : Program} {w : World} {K : PySem.W.Frag} {elts : List Expr} {kk : Nat} {tpos : Pos} (y : Str) (u : Tok) (e it : Addr) :
    Turn P w K (.Tuple elts kk tpos) (Ites y) [e, it] e (fun i h => (∃ old, IsEnum h e it ((i : Nat) : Int) old) ∧ h.IsStrIter it (strIterType y) y u i ∧ e ≠ it) where
  mem := List.mem_cons_self
  obj := fun i h ⟨⟨old, he⟩, ⟨o, ho, hc, hd⟩, _⟩ b hb => by
    rcases List.mem_cons.mp hb with rfl | hb
    · exact ⟨_, he, fun v q => nomatch q⟩
    · rw [List.mem_singleton.mp hb]
      exact ⟨o, ho, fun v q => by rw [hd] at q; cases q⟩
  keep := fun i h h' ⟨⟨old, he⟩, ⟨o, ho, r⟩, hne⟩ k => ⟨⟨old, k e (by simp) _ he⟩, ⟨o, k it (by simp) _ ho, r⟩, hne⟩
  item := fun X hP hw hK hc i pins s σ H E I hf ⟨⟨old, he⟩, hit, hne⟩ hi => by
    subst hP hw hK
    have elt : e < s.heap.objs.size := Heap.lt_size he
    have ilt : it < s.heap.objs.size := by
      obtain ⟨_, q, _⟩ := hit
      exact Heap.lt_size q
    have ef : e ∉ [it] := fun m => hne (List.mem_singleton.mp m)
    refine wpAny_pyNext_enum_itemD (Draws.text (A := X.A.in1) (I.ok.hd hc) it y u) he hit hi hne ef fun x h' tk ⟨c, t, hc1, ex⟩ ho hit' hT hz kk => ?_
    subst ex
    refine ⟨_, rfl, wpAny_letOwnedTupleGo_enum (s := { s with heap := h', toks := tk + 1 }) ho fun h2 he2 sb => ?_⟩
    have hT2 : h2.get? s.heap.objs.size = some { cls := .type "tuple", data := .seq #[.int i tk, .str (sing c) t] } := (sb.2 _ (Nat.ne_of_gt elt)).trans hT
    have new : ObjOk X.prog X.w (upd H s.heap.objs.size (.tup [.int (i : Nat), .str (sing c)])) h2 s.heap.objs.size (.tup [.int (i : Nat), .str (sing c)]) :=
      ⟨by show 2 ≤ sizeLine; decide, [.int i tk, .str (sing c) t], .cons ⟨_, rfl⟩ (.cons ⟨t, rfl⟩ .nil), ⟨_, hT2, rfl, _, rfl⟩⟩
    have kp : ∀ b o, b ∉ [e, it] → s.heap.get? b = some o → h2.get? b = some o := fun b o nb q => by
      simp only [List.mem_cons, List.not_mem_nil, or_false, not_or] at nb
      exact (sb.2 b nb.1).trans (kk b o nb.1 nb.2 q)
    have J := I.turnedNew (h' := h2) (t' := tk + 1) (ch := [e, it]) kp hf (Nat.le_refl _) new
    refine ⟨.ref s.heap.objs.size, _, J, rfl, ⟨_, c, rfl, I.hok.fresh (Nat.le_refl _), rfl, hc1⟩, ⟨⟨.str (sing c) t, ?_⟩, ?_, hne⟩, fun b hb => ?_⟩
    · have e1 : ((i + 1 : Nat) : Int) = (i : Int) + 1 := by omega
      rw [e1]
      exact he2
    · obtain ⟨o, q, r⟩ := hit'
      exact ⟨o, (sb.2 it (Ne.symm hne)).trans q, r⟩
    · have lt : b < s.heap.objs.size := by
        rcases List.mem_cons.mp hb with rfl | hb
        · exact elt
        · rw [List.mem_singleton.mp hb]
          exact ilt
      rw [upd_ne (Nat.ne_of_lt lt)]
      exact (hf b hb).1
  done := fun X hP hw hK hc i pins s σ H E I hf ⟨⟨old, he⟩, hit, hne⟩ hi => by
    subst hP hw hK
    have hi : i = y.cps.size := hi
    subst hi
    obtain ⟨f0, f1, f2, f3, f4, f5⟩ := hf it (by simp)
    exact wpAny_pyNext_enum_endD (Draws.text (A := X.A.in1) (I.ok.hd hc) it y u) he hit fun h' eb => ⟨rfl, I.turned (t' := s.toks) (fun b o nb q => eb b o nb q) f0 f1 f3 f4 f5⟩
  self := fun A i s Q E ⟨⟨_, he⟩, _⟩ h => wpAny_pyIter_enum he h
/-- enumerate(text) -/
def iEnumS (ta : TA) : TI := fun σ H R => ta σ H fun vs H1 => ∃ y : Str, vs = [.str y] ∧ R (Ites y) H1
theorem pi_enumS {X : Cx} {e : Expr} {ta : TA} {p pos tpos : Pos} {elts : List Expr} {kk : Nat} (hg : Gl X "enumerate") (hm : X.mg "enumerate" = none) (ha : PA X [e] ta) (hs : starEach [e] X.env = [(false, eval e X.env)] := by rfl) :
    PI X (.Tuple elts kk tpos) (.Call (.Name "enumerate" p) [e] [] pos) (iEnumS ta) := by
  refine ⟨fun pins s σ H R I h => Call_ (ld_blt I hg hm boot_enumerate (PyProof.Rows.callWith_type1 (thn (ha.run pos pins s σ H _ I h) fun us s1 ⟨vs, H1, I1, r1, y, ev, q⟩ => ?_) hs rfl))⟩
  subst ev
  obtain ⟨v, rfl, u, rfl⟩ := vals1 r1
  refine call_enumerate_str fun h' he hit hz kp => wpAny_pyIter_enum he ?_
  have J : Inv X pins σ H1 { s1 with heap := h' } := I1.kept (t' := s1.toks) kp
  refine ⟨s1.heap.objs.size + 1, [s1.heap.objs.size + 1, s1.heap.objs.size], _, _, H1, rfl, J, turn_enumS y u (s1.heap.objs.size + 1) s1.heap.objs.size, ⟨⟨.none, he⟩, hit, Nat.succ_ne_self _⟩, fun b hb => ?_, q⟩
  have le : s1.heap.objs.size ≤ b := by
    rcases List.mem_cons.mp hb with rfl | hb
    · exact Nat.le_add_right _ _
    · rw [List.mem_singleton.mp hb]
      exact Nat.le_refl _
  exact I1.fpOk le (I1.hok.fresh le)
theorem walk_enumS {y : Str} : L2.Walk (Ites y) y.cps.size (fun _ => True) (YPair (fun i => some (.int (i : Nat))) (fun i => (y.cps[i]?).map fun c => .str (sing c))) :=
  ⟨fun _ _ hi _ => hi, fun _ _ => rfl, fun i H x H' hi _ ⟨T, c, e1, e2, e3, e4⟩ => ⟨T, .int (i : Nat), .str (sing c), e1, e2, e3, rfl, by show (y.cps[i]?).map _ = _; rw [e4]; rfl⟩⟩
end Own

namespace Kx
open PySem L2 Own
abbrev s_BadSign : Stmt := inClass (top 17) 0
abbrev s_Machine_walk : Stmt := inClass (top 32) 4
/-! ### reading in plain lists -/
/-- the way of the letter c from the state s -/
def stepW (sg : Str) (R : List (List Way)) (s c : Nat) : Option Way := (sg.cps.toList.idxOf? c).bind fun j => (R[s]?).bind fun q => q[j]?
def acc1 (sg : Str) (R : List (List Way)) (p : Nat × List Str) (c : Nat) : Nat × List Str := match stepW sg R p.1 c with
  | some w => (w.1.toNat, p.2 ++ w.2)
  | none => p
/-- the state behind some letters, and the keys on the way -/
def runW (sg : Str) (R : List (List Way)) (s : Nat) (cs : List Nat) : Nat × List Str := cs.foldl (acc1 sg R) (s, [])
theorem runW_snoc (sg : Str) (R : List (List Way)) (s : Nat) (cs : List Nat) (c : Nat) : runW sg R s (cs ++ [c]) = acc1 sg R (runW sg R s cs) c := by
  unfold runW
  rw [List.foldl_append]
  rfl
/-- a machine as all of them are that were made -/
structure Full (sg : Str) (R : List (List Way)) (Es : List (List Str)) : Prop where
  nd : sg.cps.toList.Nodup
  row : ∀ q ∈ R, q.length = sg.cps.size ∧ ∀ w ∈ q, Okw R.length w
  ends : Es.length = R.length
  pos : 0 < R.length
  size : (keysOfRows R ++ Es.flatten).length + 1 < scanBound
theorem Full.way {sg : Str} {R : List (List Way)} {Es : List (List Str)} (F : Full sg R Es) {s j c : Nat} (hs : s < R.length) (hc : sg.cps[j]? = some c) : ∃ q w, R[s]? = some q ∧ q[j]? = some w ∧ stepW sg R s c = some w ∧ Okw R.length w := by
  have hq : R[s]? = some R[s] := List.getElem?_eq_getElem hs
  obtain ⟨l, g⟩ := F.row R[s] (List.getElem_mem hs)
  have hj : j < sg.cps.size := by
    obtain ⟨h, _⟩ := Array.getElem?_eq_some_iff.mp hc
    exact h
  have hw : R[s][j]? = some R[s][j] := List.getElem?_eq_getElem (by omega)
  refine ⟨R[s], R[s][j], hq, hw, ?_, g _ (List.getElem_mem _)⟩
  have hi : sg.cps.toList.idxOf? c = some j := by
    rw [List.idxOf?_eq_some_iff]
    obtain ⟨h, e⟩ := Array.getElem?_eq_some_iff.mp hc
    refine ⟨by simpa using h, by simpa using e, fun i hi => ?_⟩
    have nd := List.pairwise_iff_getElem.mp F.nd i j (by simp; omega) (by simpa using h) hi
    simp only [Array.getElem_toList, beq_iff_eq] at nd ⊢
    rw [e] at nd
    simpa using nd
  unfold stepW
  rw [hi, hq]
  exact hw
theorem Full.out {sg : Str} {R : List (List Way)} {s c : Nat} (hc : c ∉ sg.cps.toList) : stepW sg R s c = none := by
  unfold stepW
  rw [List.idxOf?_eq_none_iff.mpr hc]
  rfl
/-- what a reading within the signs comes to -/
theorem Full.run {sg : Str} {R : List (List Way)} {Es : List (List Str)} (F : Full sg R Es) {s : Nat} (hs : s < R.length) : ∀ cs : List Nat, (runW sg R s cs).1 < R.length ∧ ∀ y ∈ (runW sg R s cs).2, y ∈ keysOfRows R := by
  suffices h : ∀ (cs : List Nat) (p : Nat × List Str), p.1 < R.length → (∀ y ∈ p.2, y ∈ keysOfRows R) → (cs.foldl (acc1 sg R) p).1 < R.length ∧ ∀ y ∈ (cs.foldl (acc1 sg R) p).2, y ∈ keysOfRows R from
    fun cs => h cs (s, []) hs (fun _ z => nomatch z)
  intro cs
  induction cs with
  | nil => exact fun p a b => ⟨a, b⟩
  | cons c cs ih =>
    intro p a b
    refine ih (acc1 sg R p c) ?_ ?_
    all_goals
      unfold acc1
      cases e : stepW sg R p.1 c with
      | none => first | exact a | exact b
      | some w =>
        unfold stepW at e
        obtain ⟨j, _, e⟩ := Option.bind_eq_some_iff.mp e
        obtain ⟨q, hq, e⟩ := Option.bind_eq_some_iff.mp e
        have hqm := List.mem_of_getElem? hq
        have hwm := List.mem_of_getElem? e
        first
        | exact (by have := (F.row q hqm).2 w hwm; show w.1.toNat < R.length; have h1 := this.1; have h2 := this.2; omega)
        | exact fun y hy => (by
            rcases List.mem_append.mp hy with hy | hy
            · exact b y hy
            · exact List.mem_flatMap.mpr ⟨q, hqm, List.mem_flatMap.mpr ⟨w, hwm, hy⟩⟩)
/-! ### the dicts of ways, and of keys -/
abbrev lk (c : Nat) : Key := Sum.inr (Froz.sing c)
theorem sing_inj {a b : Nat} (h : lk a = lk b) : a = b := by
  have h1 : Froz.sing a = Froz.sing b := Sum.inr.inj h
  have h2 : (#[a] : Array Nat) = #[b] := congrArg Str.cps h1
  simpa using h2
theorem kvUp_out {sg : Str} {vs : List V} {c : Nat} (hc : c ∉ sg.cps.toList) : ∀ i, valV (kvUp sg vs i) (lk c) = none
  | 0 => rfl
  | i + 1 => by
    have ih := kvUp_out hc (vs := vs) i
    unfold kvUp
    split
    · rename_i d x hd _
      rw [valV_put, if_neg, ih]
      intro e
      have e' := sing_inj e
      subst e'
      exact hc (Array.mem_toList_iff.mpr (Array.mem_of_getElem? hd))
    · exact ih
theorem kvUp_in {sg : Str} {vs : List V} {c j : Nat} (nd : sg.cps.toList.Nodup) (hc : sg.cps[j]? = some c) : ∀ i, j < i → i ≤ sg.cps.size → sg.cps.size ≤ vs.length → valV (kvUp sg vs i) (lk c) = vs[j]?
  | i + 1, hj, hi, hl => by
    have h1 : sg.cps[i]? = some (sg.cps[i]'(by omega)) := Array.getElem?_eq_getElem (by omega)
    have h2 : vs[i]? = some (vs[i]'(by omega)) := List.getElem?_eq_getElem (by omega)
    unfold kvUp
    rw [h1, h2]
    dsimp only
    rw [valV_put]
    by_cases e : j = i
    · subst e
      have e1 : sg.cps[j]'(by omega) = c := by
        rw [h1] at hc
        exact Option.some.inj hc
      rw [e1, if_pos rfl, h2]
    · rw [if_neg]
      · exact kvUp_in nd hc i (by omega) (by omega) hl
      · intro z
        have z' := sing_inj z
        obtain ⟨hj', ec⟩ := Array.getElem?_eq_some_iff.mp hc
        have p := List.pairwise_iff_getElem.mp nd j i (by simpa using hj') (by simp; omega) (by omega)
        simp only [Array.getElem_toList] at p
        exact p (ec.trans z')
/-- a dict with the keys ys, each True -/
def gotK (ys : List Str) : List (Key × V) := ys.map fun y => (Sum.inr y, V.bl true)
theorem got_val (ys : List Str) (y : Str) : valV (gotK ys) (Sum.inr y) = if y ∈ ys then some (.bl true) else none := by
  induction ys with
  | nil => rfl
  | cons a r ih =>
    unfold gotK at ih ⊢
    rw [List.map_cons]
    by_cases e : a = y
    · subst e
      rw [valV_pos rfl, if_pos List.mem_cons_self]
    · rw [valV_neg (by simpa using e), ih]
      by_cases m : y ∈ r
      · rw [if_pos m, if_pos (List.mem_cons_of_mem _ m)]
      · rw [if_neg m, if_neg (by simp only [List.mem_cons, not_or]; exact ⟨fun z => e z.symm, m⟩)]
theorem got_put (ys : List Str) (y : Str) : putK (gotK ys) (Sum.inr y) (.bl true) = gotK (if y ∈ ys then ys else ys ++ [y]) := by
  unfold putK
  rw [valV_any, got_val]
  by_cases m : y ∈ ys
  · rw [if_pos m, if_pos m, if_pos (show (some (V.bl true)).isSome = true from rfl)]
    unfold gotK
    rw [List.map_map]
    refine List.map_congr_left fun a _ => ?_
    simp only [Function.comp]
    by_cases e : (Sum.inr a : Key) = Sum.inr y
    · rw [if_pos e]
    · rw [if_neg e]
  · rw [if_neg m, if_neg m, if_neg (show ¬ (none : Option V).isSome = true by simp)]
    unfold gotK
    rw [List.map_append]
    rfl
theorem nd_sub_len {α : Type} [DecidableEq α] : ∀ {l m : List α}, l.Nodup → (∀ x ∈ l, x ∈ m) → l.length ≤ m.length
  | [], _, _, _ => Nat.zero_le _
  | a :: l, m, nd, h => by
    obtain ⟨na, nl⟩ := List.nodup_cons.mp nd
    have ha := h a List.mem_cons_self
    have ih := nd_sub_len (l := l) (m := m.erase a) nl fun x hx => (List.mem_erase_of_ne fun z : x = a => na (z ▸ hx)).mpr (h x (List.mem_cons_of_mem _ hx))
    rw [List.length_erase_of_mem ha] at ih
    have := List.length_pos_of_mem ha
    rw [List.length_cons]
    omega
theorem got_grow {ys zs : List Str} (nd : ys.Nodup) (y : Str) : (if y ∈ ys then ys else ys ++ [y]).Nodup ∧ ∀ x, x ∈ (if y ∈ ys then ys else ys ++ [y]) ↔ x ∈ ys ∨ x = y := by
  by_cases m : y ∈ ys
  · rw [if_pos m]
    exact ⟨nd, fun x => ⟨.inl, fun z => z.elim id fun e => e ▸ m⟩⟩
  · rw [if_neg m]
    refine ⟨List.nodup_append.mpr ⟨nd, by simp, fun a ha b hb => ?_⟩, fun x => by simp⟩
    rw [List.mem_singleton.mp hb]
    exact fun e => m (e ▸ ha)
end Kx

namespace Kx
open PySem L2 Own
structure SAd where
  c : Addr
  i : Addr
  e : FuncData
  fw : Addr
  fk : Addr
  dw : FuncData
  dk : FuncData
structure TxtS (K : PySem.W.Frag) (mg : Str → Option Value) (A : EAd) (Z : CAd) (S : SAd) : Prop where
  E_BadSign : ErrC K mg "BadSign" S.c A.M
  I_BadSign : IniT K "BadSign.__init__" s_BadSign S.c S.i S.e ["self", "place"]
  N_place : PySem.W.findIn K (.ref S.c) "place" = some none
  M_walk : Meth K Z.C "walk" S.fw
  F_walk : Fun K "walk" "Machine.walk" s_Machine_walk S.fw S.dw
  b_walk : Binds K S.dw ["self", "state", "text"] []
section
variable {P : Program} {w : World} {K : PySem.W.Frag} {mg : Str → Option Value} {base : Heap} {A : EAd} {B : MAd} {Z : CAd} {S : SAd}
theorem sc_BadSign : FnScope ["self", "place"] ["self", "place"] (defScope s_BadSign) := ⟨rfl, rfl, rfl, by decide +kernel, rfl, by decide +kernel, by decide +kernel⟩
theorem ok_BadSign (T : TxtE K mg A) (TS : TxtS K mg A Z S) : FnOk P w K mg base CX0 2 S.i S.e ["self", "place"] (spErr S.c ["place"]) := by
  have sc := sc_BadSign
  have G_copied : FnOk P w K mg base CX0 1 A.fc A.dc ["field"] spFlat := ok_copied T
  refine TS.I_BadSign.F.ok sc (fun vs H Q E h => ?_) (fun cdv A1 outer s H vs Q E hr h => ?_)
  · obtain ⟨_, us, rfl, l, _⟩ := h
    rw [List.length_cons, l]; rfl
  · obtain ⟨a, us, rfl, l, ha, hf, k⟩ := h
    obtain ⟨v, rfl⟩ : ∃ v, us = [v] := List.length_eq_one_iff.mp l
    refine ⟨_, (pss_one (ps_ost (pv 0) (pe_call G_copied (hr.mono (by decide)) rfl T.D_copied.g T.D_copied.F.kp T.D_copied.b .nil pass0 (pa_cons (pv 1) pa_nil)))), ?_⟩
    refine ⟨_, rfl, v, rfl, hf v List.mem_cons_self, _, rfl, a, S.c, rfl, TS.E_BadSign.oex, TS.N_place, .inl ⟨ha, fun dx hd ne => ?_⟩⟩
    refine k dx _ hd ne upd_same (by rw [upd_ne ne, upd_same]; rfl) fun b o e nb => ?_
    rw [upd_ne nb, upd_ne (ne_of_none e hd)]
    exact e
/-- self.walk(state, text): the state behind the text and the keys on the way, or the place of the first letter that is no sign -/
def spWalk (Z : CAd) (S : SAd) : Sp := fun vs H Q E => ∃ (m : Addr) (st : Nat) (y sg : Str) (R : List (List Way)) (Es : List (List Str)), vs = [.ref m, .int st, .str y] ∧ MachAt Z.C H m sg R Es ∧ Full sg R Es ∧ st < R.length ∧
  ((∀ c ∈ y.cps.toList, c ∈ sg.cps.toList) → ∀ (p k : Addr) H', Same H H' → H' p = some (.tup [.int (runW sg R st y.cps.toList).1, .ref k]) → H' k = some (.tup ((kl (runW sg R st y.cps.toList).2).map V.str)) → Q (.ref p) H') ∧
  (∀ (i : Nat) (c : Nat) (d : Addr) H', y.cps[i]? = some c → c ∉ sg.cps.toList → (∀ (j : Nat) c', j < i → y.cps[j]? = some c' → c' ∈ sg.cps.toList) → H d = none → Same H H' → H' d = some (.xd [("place", .int i)]) → E (.ref S.c) (some d) H')
theorem sc_walk : FnScope ["self", "state", "text", "got", "place", "letter", "way", "given", "key"] ["self", "state", "text"] (defScope s_Machine_walk) := ⟨rfl, rfl, rfl, by decide +kernel, rfl, by decide +kernel, by decide +kernel⟩
theorem wayT_at {sg : Str} {H : Hp} {rv wv : List V} {R : List (List Way)} {s j c : Nat} {q : List Way} {w : Way} (pr : Paired (RowT H) rv R) (pw : Paired (WaysD sg H) wv rv) (nd : sg.cps.toList.Nodup) (hq : R[s]? = some q) (hl : q.length = sg.cps.size) (hw : q[j]? = some w) (hc : sg.cps[j]? = some c) :
    ∃ (d b kv : Addr) (kvs : List (Key × V)), wv[s]? = some (.ref d) ∧ H d = some (.dK kvs) ∧ valV kvs (lk c) = some (.ref b) ∧ H b = some (.tup [.int w.1, .ref kv]) ∧ H kv = some (.tup (w.2.map V.str)) := by
  have hs : s < R.length := (List.getElem?_eq_some_iff.mp hq).1
  have l1 := Paired.length pr
  have l2 := Paired.length pw
  have hwv : wv[s]? = some (wv[s]'(by omega)) := List.getElem?_eq_getElem (by omega)
  obtain ⟨rw1, hrw, d, b, vs, ed, eb, hb, hd⟩ := pat pw hwv
  obtain ⟨q', hq', b', vs', eb', hb', pq⟩ := pat pr hrw
  rw [hq] at hq'
  cases hq'
  rw [eb] at eb'
  cases eb'
  rw [hb] at hb'
  cases hb'
  have lv : vs.length = q.length := Paired.length pq
  have hj : j < q.length := (List.getElem?_eq_some_iff.mp hw).1
  have hvj : vs[j]? = some (vs[j]'(by omega)) := List.getElem?_eq_getElem (by omega)
  obtain ⟨w', hw', a, kv, ea, ha, kt, ek, hk⟩ := pat pq hvj
  rw [hw] at hw'
  cases hw'
  rw [ek] at ha
  refine ⟨d, a, kt, _, by rw [hwv, ed], hd, ?_, ha, hk⟩
  rw [kvUp_in nd hc sg.cps.size (by omega) (Nat.le_refl _) (by omega), hvj, ea]
theorem dict_at {sg : Str} {H : Hp} {rv wv : List V} {s c : Nat} (pw : Paired (WaysD sg H) wv rv) (hs : s < rv.length) (hc : c ∉ sg.cps.toList) : ∃ (d : Addr) (kvs : List (Key × V)), wv[s]? = some (.ref d) ∧ H d = some (.dK kvs) ∧ valV kvs (lk c) = none := by
  have l2 := Paired.length pw
  have hwv : wv[s]? = some (wv[s]'(by omega)) := List.getElem?_eq_getElem (by omega)
  obtain ⟨rw1, hrw, d, b, vs, ed, eb, hb, hd⟩ := pat pw hwv
  exact ⟨d, _, by rw [hwv, ed], hd, kvUp_out hc _⟩
theorem ok_walk (T : TxtM K mg B) (TE : TxtE K mg A) (TC : TxtC K mg Z) (TS : TxtS K mg A Z S) : FnOk P w K mg base (L2.CX P w) 4 S.fw S.dw ["self", "state", "text"] (spWalk Z S) := by
  have sc := sc_walk
  have G_key_list : FnOk P w K mg base CX0 1 B.f2 B.d2 ["given"] (spKl K) := ok_key_list T
  refine TS.F_walk.okX sc (fun vs H Q E h => ?_) (fun cdv A1 outer s H vs Q E hr h => ?_)
  · obtain ⟨_, _, _, _, _, _, rfl, _⟩ := h; rfl
  · obtain ⟨m, st, y, sg, R, Es, rfl, hm, F, hst, good, bad⟩ := h
    have hu := hu_of hr
    refine ⟨_, (pss_cons (ps_set (i := 3) sc.nd rfl (Or.inl rfl) pe_dnewK)
      (pss_cons (ps_for (passes_of rfl) rfl (pi_enumS (by rfl) T.n_enumerate (pa_cons (pv 2) pa_nil)) (pg_tup rfl (pgs_cons (pg_name (i := 4) sc.nd rfl (Or.inl rfl)) (pgs_cons (pg_name (i := 5) sc.nd rfl (Or.inl rfl)) pgs_nil)))
        (pss_cons (ps_set (i := 6) sc.nd rfl (Or.inl rfl) (pe_dget1 hu (pe_ix ix_tup (pe_fld (pv 0) rfl) (pv 1) (fun _ _ => rfl)) (pv 5) ⟨by rfl, by rfl, by rfl, by rfl⟩))
        (pss_cons (ps_if (pt_cmpR op_isN (pv 6) pe_non (nomark _))
          (pss_one (ps_raise rfl (takes_of rfl rfl rfl rfl) (pmk_oex TS.E_BadSign.oex TS.I_BadSign.iC TS.I_BadSign.tI (ok_BadSign TE TS) (hr.mono (by decide)) TS.I_BadSign.b .nil pass0 rfl TS.E_BadSign.g (pa_cons (pv 4) pa_nil))))
          pss_nil)
        (pss_cons (ps_asg (pv 6) (pg_tup rfl (pgs_cons (pg_name (i := 1) sc.nd rfl (Or.inl rfl)) (pgs_cons (pg_name (i := 7) sc.nd rfl (Or.inl rfl)) pgs_nil))))
        (pss_one (ps_for (passes_of rfl) rfl (pi_tup (pv 7)) (pg_name (i := 8) sc.nd rfl (Or.inl rfl))
          (pss_one (ps_dput hu (pv 3) (pv 8) pe_bl rfl))))))))
      (pss_one (ps_ret (pe_tup (pa_cons (pv 1) (pa_cons (pe_call G_key_list (hr.mono (by decide)) rfl T.D_key_list.g T.D_key_list.F.kp T.D_key_list.b .nil pass0 (pa_cons (pe_callTy (call_list_dK rfl) (by rfl) TE.n_list (by decide +kernel) (pa_cons (pv 3) pa_nil)) pa_nil)) pa_nil))))))), ?_⟩
    intro D hD
    obtain ⟨dx, r, e, k, w5, rv, ev, wv, hm0, hr0, pr, he0, pe, hk0, hw0, pw⟩ := hm
    have rl : rv.length = R.length := Paired.length pr
    have keepT : ∀ {H' : Hp}, Same H H' → Paired (RowT H') rv R := fun s1 => L2.Paired.mapP pr fun _ _ z => z.keep (tups s1)
    have keepW : ∀ {H' : Hp}, Same H H' → Paired (WaysD sg H') wv rv := fun s1 => L2.Paired.mapP pw fun _ _ z => z.keep (tups s1) fun b xs z => s1 b _ z
    have put : ∀ {H' : Hp} {o : HO}, Same H H' → Same H (upd H' D o) := fun {H' o} s1 b u z => by rw [upd_ne (ne_of_none z hD)]; exact s1 b u z
    refine ⟨_, rfl, y, rfl, ?_⟩
    refine for_it walk_enumS (fun i σ H' => (∃ x4 x5 x6 x7 x8, σ = [some (.ref m), some (.int (runW sg R st (y.cps.toList.take i)).1), some (.str y), some (.ref D), x4, x5, x6, x7, x8]) ∧ Same H H' ∧ (∃ ys, H' D = some (.dK (gotK ys)) ∧ ys.Nodup ∧ ∀ x, x ∈ ys ↔ x ∈ (runW sg R st (y.cps.toList.take i)).2) ∧ ∀ (j : Nat) c', j < i → y.cps[j]? = some c' → c' ∈ sg.cps.toList)
      ⟨⟨_, _, _, _, _, rfl⟩, Same.upd hD, ⟨[], upd_same, .nil, fun x => Iff.rfl⟩, fun j c' z => nomatch z⟩ (fun _ _ _ _ _ => trivial) ?_ ?_
    · rintro i x σ H1 H1' hi ⟨⟨x4, x5, x6, x7, x8, rfl⟩, s1, ⟨ys, hys, nd, mem⟩, g1⟩ ⟨t1, u1, v1, rfl, nt1, rfl, eu, ev1⟩
      cases eu
      obtain ⟨c, hc, rfl⟩ := Option.map_eq_some_iff.mp ev1
      have hct : y.cps.toList[i]? = some c := by rw [Array.getElem?_toList]; exact hc
      have s2 : Same H (upd H1 t1 (.tup [.int (i : Nat), .str (Froz.sing c)])) := fun b o z => Same.upd nt1 _ _ (s1 _ _ z)
      have hy2 : (upd H1 t1 (.tup [.int (i : Nat), .str (Froz.sing c)])) D = some (.dK (gotK ys)) := Same.upd nt1 _ _ hys
      refine ⟨t1, _, rfl, SqT.of upd_same, rfl, _, _, rfl, _, _, rfl, rfl, ?_⟩
      generalize upd H1 t1 (.tup [.int (i : Nat), .str (Froz.sing c)]) = H2 at s2 hy2 ⊢
      obtain ⟨run1, run2⟩ := F.run hst (y.cps.toList.take i)
      generalize hrun : runW sg R st (y.cps.toList.take i) = rn at run1 run2 mem ⊢
      refine ⟨_, rfl, m, Z.C, dx, _, _, rfl, s2 _ _ hm0, TC.cl, TC.a5, rfl, _, rfl, w5, wv, ((rn.1 : Nat) : Int), ?_⟩
      by_cases cm : c ∈ sg.cps.toList
      · obtain ⟨j, hj⟩ := List.getElem?_of_mem cm
        rw [Array.getElem?_toList] at hj
        obtain ⟨q, wy, hq, hw, hstep, okw⟩ := F.way run1 hj
        obtain ⟨d, b, kv, kvs, ewv, hd, hv, hb, hkv⟩ := wayT_at pr pw F.nd hq (F.row q (List.mem_of_getElem? hq)).1 hw hj
        have dg : DGet H2 d (.str (Froz.sing c)) (some (.ref b)) := by
          have z := DGet.k (k := lk c) (s2 _ _ hd)
          rw [hv] at z
          exact z
        refine ⟨_, rfl, rfl, SqT.of (s2 _ _ hw0), atI_nat ewv, d, rfl, .inl ⟨kvs, .inl (s2 _ _ hd)⟩, _, rfl, some (.ref b), dg, ?_⟩
        have hnn : 0 ≤ wy.1 := okw.1
        have hrun2 : runW sg R st (y.cps.toList.take (i + 1)) = (wy.1.toNat, rn.2 ++ wy.2) := by
          rw [List.take_add_one, hct]
          show runW sg R st (y.cps.toList.take i ++ [c]) = _
          rw [runW_snoc, hrun]
          unfold acc1
          rw [hstep]
        have kb : ∀ x ∈ rn.2 ++ wy.2, x ∈ keysOfRows R := fun x hx => by
          rcases List.mem_append.mp hx with hx | hx
          · exact run2 x hx
          · exact List.mem_flatMap.mpr ⟨q, List.mem_of_getElem? hq, List.mem_flatMap.mpr ⟨wy, List.mem_of_getElem? hw, hx⟩⟩
        refine ⟨_, rfl, rfl, _, rfl, iteF ?_⟩
        refine ⟨_, rfl, b, _, rfl, SqT.of (s2 _ _ hb), rfl, _, _, rfl, _, _, rfl, rfl, ?_⟩
        refine ⟨_, rfl, kv, rfl, ⟨_, SqT.of (s2 _ _ hkv)⟩, ?_⟩
        refine for_it walk_tup (fun j2 σ H' => (∃ x8, σ = [some (.ref m), some (.int wy.1), some (.str y), some (.ref D), some (.int (i : Nat)), some (.str (Froz.sing c)), some (.ref b), some (.ref kv), x8]) ∧ Same H H' ∧ ∃ ys, H' D = some (.dK (gotK ys)) ∧ ys.Nodup ∧ ∀ x, x ∈ ys ↔ x ∈ rn.2 ++ wy.2.take j2)
          ⟨⟨_, rfl⟩, s2, ys, hy2, nd, fun x => by simpa using mem x⟩ (fun j2 σ H' _ z => SqT.of (z.2.1 _ _ hkv)) ?_ ?_
        · rintro j2 x σ H3 H3' hj2 ⟨⟨x8, rfl⟩, s3, ys3, hys3, nd3, mem3⟩ ⟨rfl, hx⟩
          rw [List.getElem?_map] at hx
          obtain ⟨key, hkey, rfl⟩ := Option.map_eq_some_iff.mp hx
          have kin : key ∈ wy.2 := List.mem_of_getElem? hkey
          have small : (gotK ys3).length < sizeLine := by
            have l1 : ys3.length ≤ (keysOfRows R).length := nd_sub_len nd3 fun x hx => kb x (by
              rcases List.mem_append.mp ((mem3 x).mp hx) with z | z
              · exact List.mem_append_left _ z
              · exact List.mem_append_right _ (List.mem_of_mem_take z))
            have l2 := F.size
            rw [List.length_append] at l2
            unfold gotK
            rw [List.length_map]
            exact bound_line (by omega)
          refine ⟨_, rfl, _, rfl, D, _, rfl, DPut.k (k := Sum.inr key) hys3 small, ?_⟩
          obtain ⟨g2, g3⟩ := got_grow (zs := []) nd3 key
          rw [got_put]
          refine ⟨⟨_, rfl⟩, put s3, _, upd_same, g2, fun x => ?_⟩
          rw [g3, mem3, List.take_add_one, hkey]
          simp only [List.mem_append, Option.toList_some, List.mem_singleton]
          constructor
          · rintro ((z | z) | z)
            · exact .inl z
            · exact .inr (.inl z)
            · exact .inr (.inr z)
          · rintro (z | z | z)
            · exact .inl (.inl z)
            · exact .inl (.inr z)
            · exact .inr z
        · rintro σ H3 ⟨⟨x8, rfl⟩, s3, ys3, hys3, nd3, mem3⟩
          rw [List.length_map, List.take_length] at mem3
          have e0 : (((runW sg R st (y.cps.toList.take (i + 1))).1 : Nat) : Int) = wy.1 := by
            rw [hrun2]
            exact Int.toNat_of_nonneg hnn
          refine ⟨⟨some (.int (i : Nat)), some (.str (Froz.sing c)), some (.ref b), some (.ref kv), x8, by rw [e0]⟩, s3, ⟨ys3, hys3, nd3, ?_⟩, fun j' c' lt hc' => ?_⟩
          · rw [hrun2]
            exact mem3
          · by_cases e : j' < i
            · exact g1 j' c' e hc'
            · have e : j' = i := by omega
              subst e
              rw [hc] at hc'
              cases hc'
              exact cm
      · obtain ⟨d, kvs, ewv, hd, hv⟩ := dict_at pw (by omega : rn.1 < rv.length) cm
        have dg : DGet H2 d (.str (Froz.sing c)) none := by
          have z := DGet.k (k := lk c) (s2 _ _ hd)
          rw [hv] at z
          exact z
        refine ⟨_, rfl, rfl, SqT.of (s2 _ _ hw0), atI_nat ewv, d, rfl, .inl ⟨kvs, .inl (s2 _ _ hd)⟩, _, rfl, none, dg, ?_⟩
        refine ⟨_, rfl, rfl, _, rfl, iteT ?_⟩
        refine ⟨_, rfl, ?_⟩
        exact rsE rfl (by show 1 ≤ 1000; decide) (fun u hu => .inl ⟨_, List.mem_singleton.mp hu⟩) fun dx5 H5 hd5 s5 h5 => bad i c dx5 H5 hc cm g1 (s2.free hd5) (fun b o e => s5 _ _ (s2 _ _ e)) h5
    · rintro σ H1 ⟨⟨x4, x5, x6, x7, x8, rfl⟩, s1, ⟨ys, hys, nd, mem⟩, g1⟩
      have el : y.cps.toList.take y.cps.size = y.cps.toList := List.take_of_length_le (by simp)
      rw [el] at mem ⊢
      obtain ⟨run1, run2⟩ := F.run hst y.cps.toList
      have inn : ∀ c ∈ y.cps.toList, c ∈ sg.cps.toList := fun c hc => by
        obtain ⟨j, hj⟩ := List.getElem?_of_mem hc
        rw [Array.getElem?_toList] at hj
        exact g1 j c (Array.getElem?_eq_some_iff.mp hj).1 hj
      have l2 := F.size
      rw [List.length_append] at l2
      have l1 : ys.length ≤ (keysOfRows R).length := nd_sub_len nd fun x hx => run2 x ((mem x).mp hx)
      refine ⟨_, rfl, _, rfl, D, _, rfl, hys, fun q hq => ?_⟩
      have e1 : (gotK ys).map (fun kv => kV kv.1) = ys.map V.str := by
        unfold gotK
        rw [List.map_map]
        rfl
      rw [e1]
      refine ⟨.ref q, ys, rfl, .list (SqL.of upd_same), by omega, fun p2 H2 hp2 s2 h2 => ?_⟩
      refine ⟨by show 2 ≤ sizeLine; decide, fun t ht => ?_⟩
      rw [kl_congr mem] at h2
      exact good inn t p2 _ (fun b o z => Same.upd ht _ _ (s2 _ _ (Same.upd hq _ _ (s1 _ _ z)))) upd_same (Same.upd ht _ _ h2)
end
end Kx

namespace Kx
open PySem L2 Own
section
variable {P : Program} {w : World} {K : PySem.W.Frag} {mg : Str → Option Value} {base : Heap} {A : EAd} {B : MAd} {Z : CAd} {S : SAd}
def keysW (sg : Str) (R : List (List Way)) (Es : List (List Str)) (cs : List Nat) : List Str := kl ((runW sg R 0 cs).2 ++ Es.getD (runW sg R 0 cs).1 [])
/-- self.keys_of(text), self.after(text) -/
def spAsk (Z : CAd) (S : SAd) (ans : Str → List (List Way) → List (List Str) → Str → Hp → V → Prop) : Sp := fun vs H Q E => ∃ (m : Addr) (y sg : Str) (R : List (List Way)) (Es : List (List Str)), vs = [.ref m, .str y] ∧ MachAt Z.C H m sg R Es ∧ Full sg R Es ∧
  ((∀ c ∈ y.cps.toList, c ∈ sg.cps.toList) → ∀ v H', Same H H' → ans sg R Es y H' v → Q v H') ∧
  (∀ (i : Nat) (c : Nat) (d : Addr) H', y.cps[i]? = some c → c ∉ sg.cps.toList → (∀ (j : Nat) c', j < i → y.cps[j]? = some c' → c' ∈ sg.cps.toList) → H d = none → Same H H' → H' d = some (.xd [("place", .int i)]) → E (.ref S.c) (some d) H')
def ansKeys (sg : Str) (R : List (List Way)) (Es : List (List Str)) (y : Str) (H : Hp) (v : V) : Prop := KeysT H v (keysW sg R Es y.cps.toList)
def ansState (sg : Str) (R : List (List Way)) (Es : List (List Str)) (y : Str) (H : Hp) (v : V) : Prop := v = .int (runW sg R 0 y.cps.toList).1
end
end Kx

/-! the combinators, applied: to come on step by step -/
namespace L2
open PySem PySem.Spec PyProof.Rows
theorem tSeq_ap {t u : TS} {D : Ends} {σ : St} {H : Hp} : tSeq t u D σ H = t { D with nx := u D } σ H := rfl
theorem tIfS_ap {c : TT} {t u : TS} {D : Ends} {σ : St} {H : Hp} : tIfS c t u D σ H = c σ H fun b H1 => if b = true then t D σ H1 else u D σ H1 := rfl
theorem gName_ap {i : Nat} {v : V} {σ : St} {H : Hp} {Q : St → Hp → Prop} : gName i v σ H Q = Q (σ.set i (some v)) H := rfl
theorem tAsg_ap {te : TE} {g : TG} {D : Ends} {σ : St} {H : Hp} : tAsg te g D σ H = te σ H fun x H1 => g x σ H1 D.nx := rfl
theorem tB_ap {t : TE} {σ : St} {H : Hp} {Q : Bool → Hp → Prop} : tB t σ H Q = t σ H fun x H1 => ∃ c, x = .bl c ∧ Q c H1 := rfl
theorem tRet_ap {te : TE} {D : Ends} {σ : St} {H : Hp} : tRet te D σ H = te σ H D.rt := rfl
theorem tOp_ap {r : R2} {ta tb : TE} {σ : St} {H : Hp} {Q : VK} : tOp r ta tb σ H Q = ta σ H fun x H1 => tb σ H1 fun y H2 => r x y H2 Q := rfl
theorem tTest_ap {te : TE} {σ : St} {H : Hp} {Q : Bool → Hp → Prop} : tTest te σ H Q = te σ H fun x H1 => ∃ c, x = .bl c ∧ Q c H1 := rfl
theorem tCons_ap {te : TE} {ta : TA} {σ : St} {H : Hp} {Q : List V → Hp → Prop} : tCons te ta σ H Q = te σ H fun x H1 => ta σ H1 fun xs H2 => Q (x :: xs) H2 := rfl
theorem tTup_ap {t : TA} {σ : St} {H : Hp} {Q : VK} : tTup t σ H Q = t σ H fun xs H1 => xs.length ≤ sizeLine ∧ ∀ p, H1 p = none → Q (.ref p) (upd H1 p (.tup xs)) := rfl
end L2

namespace Kx
open PySem L2 Own PinX DicN
abbrev s_first_text : Stmt := top 38
structure TxtFt (K : PySem.W.Frag) (mg : Str → Option Value) (f : Addr) (d : FuncData) : Prop where
  D_first_text : DefT K mg "first_text" "first_text" s_first_text ["signs", "label", "step", "is_goal"] f d
  n_len : mg "len" = none
def StepC {L : Type} (P : Program) (w : World) (K : PySem.W.Frag) (mg : Str → Option Value) (base : Heap) (At : Hp → V → L → Prop) (H : Hp) (sv : V) (In : L → Prop) (cs : List Nat) (nx : L → Nat → Option L) : Prop :=
  ∀ H', LamX.ExtN H H' → ∀ (v : V) (l : L), In l → At H' v l → ∀ c ∈ cs, CanCall P w K mg base 5 H' sv [v, .str (Froz.sing c)] (Fst.StepR At (nx l c))
def GoalC {L : Type} (P : Program) (w : World) (K : PySem.W.Frag) (mg : Str → Option Value) (base : Heap) (At : Hp → V → L → Prop) (H : Hp) (gv : V) (In : L → Prop) (goal : L → Bool) : Prop :=
  ∀ H', LamX.ExtN H H' → ∀ (v : V) (l : L), In l → At H' v l → CanCall P w K mg base 5 H' gv [v] fun _ z => z = .bl (goal l)
def spFirst {L : Type} [DecidableEq L] (T : Fst.LabT L) (P : Program) (w : World) (K : PySem.W.Frag) (mg : Str → Option Value) (base : Heap) : Sp := fun vs H Q _ => ∃ (z0 : Addr) (sg : Str) (sv gv : V) (In : L → Prop) (nx : L → Nat → Option L) (goal : L → Bool) (l0 : L) (many : Nat),
  vs = [.str sg, .ref z0, sv, gv] ∧ H z0 = some (.tup (T.vals l0)) ∧ sg.cps.size ≤ 4 ∧ In l0 ∧ Fst.Room In many ∧ many ≤ 100000 ∧ (∀ l, In l → ∀ c ∈ sg.cps.toList, ∀ q, nx l c = some q → In q) ∧
  StepC P w K mg base T.At H sv In sg.cps.toList nx ∧ GoalC P w K mg base T.At H gv In goal ∧ ∀ r H', Same H H' → Fst.Stop nx goal l0 sg.cps.toList r → Q (Fst.resV r) H'
abbrev Nft : List Str := ["signs", "label", "step", "is_goal", "texts", "labels", "done", "sign", "to"]
theorem sc_ft : FnScope Nft ["signs", "label", "step", "is_goal"] (defScope s_first_text) := ⟨rfl, rfl, rfl, by decide +kernel, rfl, by decide +kernel, by decide +kernel⟩
section
variable {P : Program} {w : World} {K : PySem.W.Frag} {mg : Str → Option Value} {base : Heap} {f : Addr} {d : FuncData}
theorem ok_first {L : Type} [DecidableEq L] (T : Fst.LabT L) (TF : TxtFt K mg f d) : FnOk P w K mg base CX0 7 f d ["signs", "label", "step", "is_goal"] (spFirst T P w K mg base) := by
  have sc := sc_ft
  refine TF.D_first_text.F.ok sc (fun vs H Q E h => ?_) (fun cdv A1 outer s H vs Q E hr h => ?_)
  · obtain ⟨_, _, _, _, _, _, _, _, _, rfl, _⟩ := h; rfl
  · obtain ⟨z0, sg, sv, gv, In, nx, goal, l0, many, rfl, hz0, z4, i0, rm, ml, hin, hst, hgo, k⟩ := h
    have hu := hr.units
    have hu9 : (A1.deeper (PyProof.Rows.envOfC "first_text" (defScope s_first_text) s.heap.objs.size f cdv)).units + 9 < cLine := by omega
    have hu8 : (A1.deeper (PyProof.Rows.envOfC "first_text" (defScope s_first_text) s.heap.objs.size f cdv)).units + 8 < cLine := by omega
    refine ⟨_, (pss_cons (ps_set (i := 4) sc.nd rfl (Or.inl rfl) (pe_dispN hu8 (pv 1) pe_str))
      (pss_cons (ps_set (i := 5) sc.nd rfl (Or.inl rfl) (pe_lst (pa_cons (pv 1) pa_nil)))
      (pss_cons (ps_set (i := 6) sc.nd rfl (Or.inl rfl) pe_int)
      (pss_cons (ps_while PassesOwn.never (pt_cmpR op_lt (pv 6) (pe_callB call_len (by rfl) TF.n_len (by decide +kernel) (pa_cons (pv 5) pa_nil)) (nomark _))
        (pss_cons (ps_set (i := 1) sc.nd rfl (Or.inl rfl) (pe_ix ix_list (pv 5) (pv 6) (fun _ _ => rfl)))
        (pss_cons (ps_if (pt_val (pe_cc (k := 5) 3 hr (by decide) (pa_cons (pv 1) pa_nil))) (pss_one (ps_ret (pe_getN hu9 (pv 4) (pv 1) (fun _ _ => rfl)))) pss_nil)
        (pss_cons (ps_for PassesOwn.never rfl (pi_str (pv 0)) (pg_name (i := 7) sc.nd rfl (Or.inl rfl))
          (pss_cons (ps_set (i := 8) sc.nd rfl (Or.inl rfl) (pe_cc (k := 5) 2 hr (by decide) (pa_cons (pv 1) (pa_cons (pv 7) pa_nil))))
          (pss_one (ps_if (pw_and (pt_cmp (pc_notN (pv 8))) (pw_and1 (pt_cmp (pc_notinN hu9 (pv 8) (pv 4))))).pt
            (pss_cons (ps_putN hu9 (pv 4) (pv 8) (pe_op op_add_str (pe_getN hu9 (pv 4) (pv 1) (fun _ _ => rfl)) (pv 7)) rfl)
            (pss_one (ps_expr (pe_bm PySem.F.plainAttrs_list PySem.F.slot_list_append PySem.F.type_list_append mt_append (pv 5) (pa_cons (pv 8) pa_nil)))))
            pss_nil))))
        (pss_one (ps_aug (i := 6) sc.nd rfl (Or.inl rfl) pe_int ip_add))))))
      (pss_one (ps_ret pe_non)))))), ?_⟩
    intro D hD φ0 dn0
    refine ⟨_, rfl, T.key l0, z0, rfl, dn0, T.keyN _ _ _ (Same.upd hD _ _ hz0), T.dep _, fun φ1 dn1 => ?_⟩
    have s1 : Same H (upd (upd H D (.ext φ0)) D (.ext φ1)) := fun b o z => by
      rw [upd_ne (ne_of_none z hD), upd_ne (ne_of_none z hD)]; exact z
    have gD : ∃ φ, (upd (upd H D (.ext φ0)) D (.ext φ1)) D = some (.ext φ) := ⟨_, upd_same⟩
    generalize upd (upd H D (.ext φ0)) D (.ext φ1) = H1 at dn1 s1 gD ⊢
    refine ⟨_, rfl, by show 1 ≤ sizeLine; decide, fun Lb hLb => ?_⟩
    have nDL : Lb ≠ D := fun e => by obtain ⟨φ, z⟩ := gD; rw [e, z] at hLb; cases hLb
    have nL : H Lb = none := by
      cases e : H Lb with
      | none => rfl
      | some o => rw [s1 _ _ e] at hLb; cases hLb
    have few : ∀ e, (Fst.walk nx l0 sg.cps.toList e).length ≤ many := Fst.walk_len rm i0 hin
    refine ⟨fun m σ H' => ∃ (d : Nat) (v1 : V) (o7 o8 : Option V) (us : List V), m + d = many + 1 ∧ σ = [some (.str sg), some v1, some sv, some gv, some (.ref D), some (.ref Lb), some (.int (d : Nat)), o7, o8] ∧ Fst.Going nx goal l0 sg.cps.toList d ∧ d ≤ many ∧ Same H H' ∧ DN w H' D (Fst.tabK T.key (Fst.walk nx l0 sg.cps.toList d)) ∧ H' Lb = some (.lst us) ∧ Paired (fun v (p : Fst.Nd L) => T.At H' v p.1) us (Fst.walk nx l0 sg.cps.toList d),
      ⟨many + 1, 0, .ref z0, none, none, _, rfl, rfl, fun j hj => absurd hj (Nat.not_lt_zero j), Nat.zero_le _, fun b o z => Same.upd hLb _ _ (s1 _ _ z), dn1.same (Same.upd hLb), upd_same, .cons ⟨z0, rfl, Same.upd hLb _ _ (s1 _ _ hz0)⟩ .nil⟩, ?_⟩
    rintro m σ H2 ⟨d, v1, o7, o8, us, hm, rfl, hj, dm, s2, dn2, hL2, pu2⟩
    have lu : us.length = (Fst.walk nx l0 sg.cps.toList d).length := Paired.length pu2
    refine ⟨_, rfl, _, rfl, .ref Lb, us.length, rfl, .inl ⟨_, SqL.of hL2, rfl⟩, _, _, rfl, rfl, _, rfl, ?_⟩
    by_cases cl : d < us.length
    · have hp : (Fst.walk nx l0 sg.cps.toList d)[d]? = some ((Fst.walk nx l0 sg.cps.toList d)[d]'(by omega)) := List.getElem?_eq_getElem (by omega)
      generalize (Fst.walk nx l0 sg.cps.toList d)[d]'(by omega) = p at hp
      have mp := List.mem_of_getElem? hp
      have ip : In p.1 := Fst.walk_in i0 hin d p mp
      have e1 := Fst.walk_at hp
      have tl := Fst.text_len p mp
      have nd0 := Fst.walk_nodup (nx := nx) (l0 := l0) (cs := sg.cps.toList) d
      rw [decide_eq_true (by omega : ((d : Nat) : Int) < (us.length : Nat))]
      refine iteT ⟨fun σ' H' => ∃ (v1 : V) (o7 o8 : Option V) (us' : List V), σ' = [some (.str sg), some v1, some sv, some gv, some (.ref D), some (.ref Lb), some (.int ((d + 1 : Nat) : Int)), o7, o8] ∧ goal p.1 = false ∧ Same H H' ∧ DN w H' D (Fst.tabK T.key (Fst.walk nx l0 sg.cps.toList (d + 1))) ∧ H' Lb = some (.lst us') ∧ Paired (fun v (p : Fst.Nd L) => T.At H' v p.1) us' (Fst.walk nx l0 sg.cps.toList (d + 1)), ?_, ?_⟩
      · rintro σ' H' ⟨v1', o7', o8', us', rfl, gf, s', dn', hL', pu'⟩
        have := few d
        refine ⟨m - 1, by omega, d + 1, v1', o7', o8', us', by omega, rfl, fun j h => ?_, by omega, s', dn', hL', pu'⟩
        rcases Nat.lt_succ_iff_lt_or_eq.mp h with h | rfl
        · exact hj j h
        · exact ⟨p, hp, gf⟩
      have hu2 : us[d]? = some us[d] := List.getElem?_eq_getElem cl
      obtain ⟨p', hp', b, eb, hb⟩ := pat pu2 hu2
      rw [hp] at hp'
      obtain rfl := Option.some.inj hp'
      rw [eb] at hu2
      refine ⟨_, rfl, _, rfl, Lb, us, _, _, rfl, rfl, SqL.of hL2, atI_nat hu2, ?_⟩
      simp only [gName_ap, tSeq_ap, tIfS_ap, tB_ap, List.set]
      refine callc_of (hgo H2 (sameN s2) (.ref b) p.1 ip ⟨b, rfl, hb⟩) rfl (fun b o z _ => z) (fun G hG => ⟨_, rfl, hG _ (Same.refl _)⟩) fun z H3 s3 ez => ?_
      subst ez
      refine ⟨_, rfl, ?_⟩
      have hb3 := s3 _ _ hb
      have dn3 := dn2.same s3
      have hL3 := s3 _ _ hL2
      have pu3 : Paired (fun v (p : Fst.Nd L) => T.At H3 v p.1) us (Fst.walk nx l0 sg.cps.toList d) := L2.Paired.mapP pu2 fun _ _ z => z.keep fun b xs y => s3 _ _ y
      have s03 : Same H H3 := fun b o z => s3 _ _ (s2 _ _ z)
      clear hb dn2 hL2 pu2 s2 s3 s1 dn1 gD hLb dn0 hu2
      cases hg : goal p.1 with
      | true =>
        refine iteT ?_
        refine ⟨_, rfl, _, rfl, D, b, _, T.key p.1, _, rfl, rfl, dn3, T.keyN _ _ _ hb3, T.dep _, Fst.tab_at T.inj nd0 mp, ?_⟩
        exact k (some p.2) H3 s03 ⟨d, hj, .inl ⟨p, hp, hg, rfl⟩⟩
      | false =>
      refine iteF ?_
      refine ⟨_, rfl, sg, rfl, ?_⟩
      refine for_it walk_str (fun j σ H' => (∃ o7 o8 : Option V, σ = [some (.str sg), some (.ref b), some sv, some gv, some (.ref D), some (.ref Lb), some (.int (d : Nat)), o7, o8]) ∧ Same H H' ∧ H' b = some (.tup (T.vals p.1)) ∧ DN w H' D (Fst.tabK T.key (Fst.turn nx p (Fst.walk nx l0 sg.cps.toList d) (sg.cps.toList.take j))) ∧ ∃ us', H' Lb = some (.lst us') ∧ Paired (fun v (p : Fst.Nd L) => T.At H' v p.1) us' (Fst.turn nx p (Fst.walk nx l0 sg.cps.toList d) (sg.cps.toList.take j)))
        ⟨⟨_, _, rfl⟩, s03, hb3, dn3, us, hL3, pu3⟩ (fun _ _ _ _ _ => trivial) ?_ ?_
      · rintro j x σ _ H4 hjj ⟨⟨o7', o8', rfl⟩, s4, hb4, dn4, us4, hL4, pu4⟩ ⟨rfl, c, hc, rfl⟩
        have hc' : sg.cps.toList[j]? = some c := by rw [Array.getElem?_toList]; exact hc
        have cm := List.mem_of_getElem? hc'
        have tk : sg.cps.toList.take (j + 1) = sg.cps.toList.take j ++ [c] := by rw [List.take_add_one, hc']; rfl
        have tn : Fst.turn nx p (Fst.walk nx l0 sg.cps.toList d) (sg.cps.toList.take (j + 1)) = Fst.add nx p (Fst.turn nx p (Fst.walk nx l0 sg.cps.toList d) (sg.cps.toList.take j)) c := by
          rw [tk]
          unfold Fst.turn
          rw [List.foldl_append]
          rfl
        rw [tn]
        have ln := Fst.turn_len rm i0 hin hp j
        have nd4 : ((Fst.turn nx p (Fst.walk nx l0 sg.cps.toList d) (sg.cps.toList.take j)).map (·.1)).Nodup := Fst.turn_nodup nd0
        have pm : p ∈ Fst.turn nx p (Fst.walk nx l0 sg.cps.toList d) (sg.cps.toList.take j) := List.mem_of_getElem? (Fst.turn_pre hp)
        generalize Fst.turn nx p (Fst.walk nx l0 sg.cps.toList d) (sg.cps.toList.take j) = ls at dn4 pu4 ln nd4 pm ⊢
        have l4 : us4.length = ls.length := Paired.length pu4
        simp only [gName_ap, tSeq_ap, tAsg_ap, List.set]
        refine callc_of (hst H4 (sameN s4) (.ref b) p.1 ip ⟨b, rfl, hb4⟩ c cm) rfl (fun b o z _ => z) (fun G hG => ⟨_, rfl, _, rfl, hG _ (Same.refl _)⟩) fun z H5 s5 rz => ?_
        have dn5 := dn4.same s5
        have hL5 := s5 _ _ hL4
        have hb5 := s5 _ _ hb4
        have pu5 : Paired (fun v (p : Fst.Nd L) => T.At H5 v p.1) us4 ls := L2.Paired.mapP pu4 fun _ _ z => z.keep fun b xs y => s5 _ _ y
        have s05 : Same H H5 := fun b o z => s5 _ _ (s4 _ _ z)
        clear hb4 dn4 hL4 pu4 s4 s5
        unfold Fst.add
        cases hn : nx p.1 c with
        | none =>
          rw [hn] at rz
          obtain rfl : z = .non := rz
          dsimp only
          exact ⟨_, rfl, _, rfl, iteF (iteF ⟨⟨_, _, rfl⟩, s05, hb5, dn5, us4, hL5, pu5⟩)⟩
        | some q =>
          rw [hn] at rz
          obtain ⟨zb, rfl, hz⟩ := (rz : T.At H5 z q)
          dsimp only
          refine ⟨_, rfl, _, rfl, iteT ⟨_, rfl, _, rfl, D, zb, _, T.key q, rfl, rfl, dn5, T.keyN _ _ _ hz, T.dep _, _, rfl, ?_⟩⟩
          rw [Fst.tab_has T.inj]
          by_cases mem : q ∈ ls.map (·.1)
          · rw [decide_eq_true mem, if_pos mem]
            exact iteF ⟨⟨_, _, rfl⟩, s05, hb5, dn5, us4, hL5, pu5⟩
          · rw [decide_eq_false mem, if_neg mem]
            refine iteT ?_
            have lk : (Fst.tabK T.key ls).length < sizeLine := by unfold Fst.tabK; rw [List.length_map, sizeLine_eq]; omega
            refine ⟨_, rfl, _, rfl, D, b, _, T.key p.1, _, rfl, rfl, dn5, T.keyN _ _ _ hb5, T.dep _, Fst.tab_at T.inj nd4 pm, _, rfl, Fst.mk p.2, Froz.sing c, rfl, rfl, ?_, ?_⟩
            · rw [sizeLine_eq]
              show p.2.length + 1 ≤ _
              omega
            rw [Fst.mk_snoc]
            refine ⟨_, rfl, _, rfl, D, zb, _, T.key q, rfl, rfl, dn5, T.keyN _ _ _ hz, T.dep _, lk, fun φ6 dn6 => ?_⟩
            rw [Fst.tab_put T.inj mem] at dn6
            obtain ⟨φ5, g5⟩ := dn5.at_
            have kt : ∀ b xs, H5 b = some (.tup xs) → (upd H5 D (.ext φ6)) b = some (.tup xs) := fun b xs z => by
              rw [upd_ne (ne_of z g5 (by intro y; cases y))]; exact z
            have hL6 : (upd H5 D (.ext φ6)) Lb = some (.lst us4) := by rw [upd_ne nDL]; exact hL5
            have s06 : Same H (upd H5 D (.ext φ6)) := fun b o z => by rw [upd_ne (ne_of_none z hD)]; exact s05 _ _ z
            have pu6 := L2.Paired.mapP pu5 fun _ _ z => Fst.LabT.At.keep kt z
            have hb6 := kt _ _ hb5
            have hz6 := kt _ _ hz
            generalize upd H5 D (.ext φ6) = H6 at dn6 hL6 s06 pu6 hb6 hz6 ⊢
            refine ⟨_, rfl, .inl ⟨rfl, _, SqL.of hL6⟩, _, rfl, Lb, us4, _, rfl, rfl, hL6, by rw [l4, sizeLine_eq]; omega, ⟨_, _, rfl⟩, fun b o z => ?_, ?_, ?_, us4 ++ [.ref zb], upd_same, ?_⟩
            · rw [upd_ne (ne_of_none z nL)]; exact s06 _ _ z
            · rw [upd_ne (ne_of hb6 hL6 (by intro y; cases y))]; exact hb6
            · exact dn6.keep (fun b φ z => by rw [upd_ne (ne_of z hL6 (by intro y; cases y))]; exact z) fun b xs z => by rw [upd_ne (ne_of z hL6 (by intro y; cases y))]; exact z
            · have k6 : ∀ b xs, H6 b = some (.tup xs) → (upd H6 Lb (.lst (us4 ++ [.ref zb]))) b = some (.tup xs) := fun b xs z => by
                rw [upd_ne (ne_of z hL6 (by intro y; cases y))]; exact z
              exact psnoc (L2.Paired.mapP pu6 fun _ _ z => Fst.LabT.At.keep k6 z) ⟨zb, rfl, k6 _ _ hz6⟩
      · rintro σ H4 ⟨⟨o7', o8', rfl⟩, s4, hb4, dn4, us4, hL4, pu4⟩
        have e2 : sg.cps.toList.take sg.cps.size = sg.cps.toList := List.take_of_length_le (by rw [Array.length_toList]; exact Nat.le_refl _)
        rw [e2, ← e1] at dn4 pu4
        exact ⟨_, rfl, _, _, rfl, rfl, _, _, _, us4, rfl, rfl, s4, dn4, hL4, pu4⟩
    · rw [decide_eq_false (by omega : ¬ ((d : Nat) : Int) < (us.length : Nat))]
      refine iteF ?_
      exact k none H2 s2 ⟨d, hj, .inr ⟨List.getElem?_eq_none_iff.mpr (by omega), rfl⟩⟩
end
end Kx

namespace Kx
open PySem L2 Own PinX DicN
def inDef (st : Stmt) (j : Nat) : Stmt := (defBody st).getD j (.Pass ⟨0, 0, 0, 0⟩)
theorem passX0 {P : Program} {w : World} {X : Cx} {E : XK} (hE : ∀ c d H, ¬ E c d H) : Passes (L2.CX P w) X E := fun _ _ _ _ _ _ _ ⟨_, _, _, _, _, _, _, _, _, _, _, _, h⟩ => (hE _ _ _ h).elim
theorem MachAt.keepI {C : Addr} {H H' : Hp} {m : Addr} {sg : Str} {R : List (List Way)} {Es : List (List Str)} (kI : ∀ b C dx fs, H b = some (.ins C dx fs) → H' b = some (.ins C dx fs)) (kt : ∀ b xs, H b = some (.tup xs) → H' b = some (.tup xs)) (kd : ∀ b kvs, H b = some (.dK kvs) → H' b = some (.dK kvs)) (h : MachAt C H m sg R Es) : MachAt C H' m sg R Es := by
  obtain ⟨dx, r, e, k0, w, rv, ev, wv, hm0, hr0, pr, he0, pe, hk0, hw0, pw⟩ := h
  exact ⟨dx, r, e, k0, w, rv, ev, wv, kI _ _ _ _ hm0, kt _ _ hr0, L2.Paired.mapP pr fun _ _ z => z.keep kt, kt _ _ he0, L2.Paired.mapP pe fun _ _ z => z.keep kt, kt _ _ hk0, kt _ _ hw0, L2.Paired.mapP pw fun _ _ ⟨a, b, vs, e1, e2, e3, e4⟩ => ⟨a, b, vs, e1, e2, kt _ _ e3, kd _ _ e4⟩⟩
theorem MachAt.keepE {C : Addr} {H H' : Hp} {m : Addr} {sg : Str} {R : List (List Way)} {Es : List (List Str)} (e : LamX.ExtN H H') (h : MachAt C H m sg R Es) : MachAt C H' m sg R Es :=
  h.keepI (fun b C dx fs z => e _ _ z fun ps y => by cases y) (fun b xs z => e _ _ z fun ps y => by cases y) fun b kvs z => e _ _ z fun ps y => by cases y
def nxW (sg : Str) (R : List (List Way)) (i c : Nat) : Nat := (runW sg R i [c]).1
def gvW (sg : Str) (R : List (List Way)) (i c : Nat) : List Str := kl (runW sg R i [c]).2
theorem one_in {sg : Str} {c i x : Nat} {Qx : Prop} (h : c ∈ sg.cps.toList) (h1 : (Froz.sing c).cps[i]? = some x) (h2 : x ∉ sg.cps.toList) : Qx := by
  have m : (Froz.sing c).cps.toList[i]? = some x := by rw [Array.getElem?_toList]; exact h1
  have e : x ∈ [c] := List.mem_of_getElem? m
  rw [List.mem_singleton.mp e] at h2
  exact absurd h h2
theorem end_at {sg : Str} {R : List (List Way)} {Es : List (List Str)} {ev : List V} {i : Nat} {H : Hp} (F : Full sg R Es) (hi : i < R.length) (pe : Paired (KeysT H) ev Es) : ∃ a, ev[i]? = some (.ref a) ∧ H a = some (.tup ((Es.getD i []).map V.str)) := by
  have hl : ev.length = Es.length := Paired.length pe
  have hev : ev[i]? = some (ev[i]'(by rw [hl, F.ends]; exact hi)) := List.getElem?_eq_getElem _
  obtain ⟨ks, hks, a, e, ha⟩ := pat pe hev
  exact ⟨a, by rw [hev, e], by rw [List.getD_eq_getElem?_getD, hks]; exact ha⟩
theorem end_in {Es : List (List Str)} {i : Nat} {y : Str} (h : y ∈ Es.getD i []) : y ∈ Es.flatten := by
  rw [List.getD_eq_getElem?_getD] at h
  cases e : Es[i]? with
  | none => rw [e] at h; cases h
  | some ks => rw [e] at h; exact List.mem_flatten.mpr ⟨ks, List.mem_of_getElem? e, h⟩
theorem flat_strs (ks : List Str) : (ks.map V.str).all flatV = true := by
  rw [List.all_eq_true]
  intro x hx
  obtain ⟨y, _, rfl⟩ := List.mem_map.mp hx
  rfl
theorem in_strs (y : Str) (ks : List Str) : (if false = true then !inV (V.str y) (ks.map V.str) else inV (V.str y) (ks.map V.str)) = decide (y ∈ ks) := by
  rw [if_neg (by decide)]
  induction ks with
  | nil => rfl
  | cons k r ih =>
    unfold inV at ih ⊢
    rw [List.map_cons, List.any_cons, ih]
    by_cases e : k = y
    · subst e
      simp [eqV]
    · have e' : ¬ y = k := fun z => e z.symm
      simp [eqV, e, e']
end Kx

namespace Kx
open PySem L2 Own PinX DicN
abbrev s_parted_by : Stmt := top 37
abbrev s_pb_step : Stmt := inDef s_parted_by 0
abbrev s_pb_goal : Stmt := inDef s_parted_by 1
/-! ### labels: two states, and whether the key was given by each -/
abbrev Lb4 := Nat × Nat × Bool × Bool
def bN (b : Bool) : Int := if b = true then 1 else 0
theorem bN_inj {a b : Bool} (h : bN a = bN b) : a = b := by
  cases a <;> cases b <;> first | rfl | (exact absurd h (by decide))
def lab4 : Fst.LabT Lb4 where
  vals l := [.int (l.1 : Nat), .int (l.2.1 : Nat), .bl l.2.2.1, .bl l.2.2.2]
  key l := .tup [.num l.1, .num l.2.1, .num (bN l.2.2.1), .num (bN l.2.2.2)]
  inj a b h := by
    injection h with h
    injection h with h1 h2
    injection h2 with h2 h3
    injection h3 with h3 h4
    injection h4 with h4 _
    injection h1 with h1
    injection h2 with h2
    injection h3 with h3
    injection h4 with h4
    exact Prod.ext (Int.ofNat.inj h1) (Prod.ext (Int.ofNat.inj h2) (Prod.ext (bN_inj h3) (bN_inj h4)))
  keyN H b l h := ⟨b, _, rfl, h, _, _, rfl, .inl rfl, _, _, rfl, .inl rfl, _, _, rfl, .inr ⟨l.2.2.1, rfl, rfl⟩, _, _, rfl, .inr ⟨l.2.2.2, rfl, rfl⟩, rfl⟩
  dep l := by
    show PySem.NestedKey.depth (.tup [.num l.1, .num l.2.1, .num (bN l.2.2.1), .num (bN l.2.2.2)]) ≤ 8
    simp [PySem.NestedKey.depth, PySem.NestedKey.depthAll]
  len l := by show 1 ≤ 4; decide
def nx4 (s1 s2 : Str) (R1 R2 : List (List Way)) (key : Str) (l : Lb4) (c : Nat) : Option Lb4 := some (nxW s1 R1 l.1 c, nxW s2 R2 l.2.1 c, l.2.2.1 || decide (key ∈ gvW s1 R1 l.1 c), l.2.2.2 || decide (key ∈ gvW s2 R2 l.2.1 c))
def go4 (E1 E2 : List (List Str)) (key : Str) (l : Lb4) : Bool := !((l.2.2.1 || decide (key ∈ E1.getD l.1 [])) == (l.2.2.2 || decide (key ∈ E2.getD l.2.1 [])))
/-- a or b, both bools -/
theorem or_of {ta tb : TE} {σ : L2.St} {H : Hp} {Q : VK} {a b : Bool} (ha : ∀ Q' : VK, Q' (.bl a) H → ta σ H Q') (hb : ∀ Q' : VK, Q' (.bl b) H → tb σ H Q') (q : Q (.bl (a || b)) H) : tOrV ta tb σ H Q := by
  refine ha _ ⟨a, rfl, ?_⟩
  cases a with
  | true => exact iteT q
  | false => exact iteF (hb _ (by rwa [Bool.false_or] at q))
section
variable {P : Program} {w : World} {K : PySem.W.Frag} {mg : Str → Option Value} {base : Heap} {A : EAd} {B : MAd} {Z : CAd} {S : SAd}
def spPbStep (Z : CAd) : List (Option V) → Sp := fun ws vs H Q _ => ∃ (m1 m2 b : Addr) (key s1 s2 : Str) (R1 R2 : List (List Way)) (E1 E2 : List (List Str)) (l : Lb4) (c : Nat), ws = [some (.str key), some (.ref m1), some (.ref m2)] ∧ vs = [.ref b, .str (Froz.sing c)] ∧ H b = some (.tup (lab4.vals l)) ∧
  MachAt Z.C H m1 s1 R1 E1 ∧ Full s1 R1 E1 ∧ MachAt Z.C H m2 s2 R2 E2 ∧ Full s2 R2 E2 ∧ l.1 < R1.length ∧ l.2.1 < R2.length ∧ c ∈ s1.cps.toList ∧ c ∈ s2.cps.toList ∧ ∀ z H', Same H H' → Fst.StepR lab4.At (nx4 s1 s2 R1 R2 key l c) H' z → Q z H'
abbrev Nps : List Str := ["label", "sign", "key", "one", "other", "p", "q", "first", "second", "to_p", "given", "to_q", "other_given"]
theorem nsc_pb_step : NdefX.NScope Nps ["label", "sign"] ["key", "one", "other"] (C8.fnScope s_pb_step) := NdefX.nscope_by (by decide +kernel)
theorem nok_pb_step (TM : TxtM K mg B) (TE : TxtE K mg A) (TC : TxtC K mg Z) (TS : TxtS K mg A Z S) (f c' : Addr) (q : Str) (cl : List (Str × Addr)) : NdefX.NOk P w K mg base CX0 5 f (NdefX.NF.of s_pb_step "step" q cl c') ["label", "sign"] ["key", "one", "other"] (spPbStep Z) := by
  have G_walk : FnOk P w K mg base (L2.CX P w) 4 S.fw S.dw ["self", "state", "text"] (spWalk Z S) := ok_walk TM TE TC TS
  have nn := nsc_pb_step.nd
  refine NdefX.nok_of (k := 4) (N := Nps) nsc_pb_step (fun _ _ _ us hl => match us, hl with | [_, _], _ => rfl) (fun ws vs H Q E h => ?_) (fun A outer s H vs ws Q E hr hf hc hl h => ?_)
  · obtain ⟨_, _, _, _, _, _, _, _, _, _, _, _, _, rfl, _⟩ := h; rfl
  · obtain ⟨m1, m2, b, key, s1, s2, R1, R2, E1, E2, l, c, rfl, rfl, hb, ma1, f1, ma2, f2, i1, i2, c1, c2, k⟩ := h
    refine ⟨_, (pss_cons (ps_asg (pv 0) (pg_tup rfl (pgs_cons (pg_name (i := 5) nn rfl (Or.inl rfl)) (pgs_cons (pg_name (i := 6) nn rfl (Or.inl rfl)) (pgs_cons (pg_name (i := 7) nn rfl (Or.inl rfl)) (pgs_cons (pg_name (i := 8) nn rfl (Or.inl rfl)) pgs_nil))))))
      (pss_cons (ps_asg (pe_meth (pv 3) TC.cl TS.M_walk G_walk hr TS.b_walk .nil (passX0 fun _ _ _ h => h) (pa_cons (pv 5) (pa_cons (pv 1) pa_nil))) (pg_tup rfl (pgs_cons (pg_name (i := 9) nn rfl (Or.inl rfl)) (pgs_cons (pg_name (i := 10) nn rfl (Or.inl rfl)) pgs_nil))))
      (pss_cons (ps_asg (pe_meth (pv 4) TC.cl TS.M_walk G_walk hr TS.b_walk .nil (passX0 fun _ _ _ h => h) (pa_cons (pv 6) (pa_cons (pv 1) pa_nil))) (pg_tup rfl (pgs_cons (pg_name (i := 11) nn rfl (Or.inl rfl)) (pgs_cons (pg_name (i := 12) nn rfl (Or.inl rfl)) pgs_nil))))
      (pss_one (ps_ret (pe_tup (pa_cons (pv 9) (pa_cons (pv 11) (pa_cons (pe_or (pv 7) (pe_one (pe_cmpR op_in_seq (pv 2) (pv 10) (by rfl)))) (pa_cons (pe_or (pv 8) (pe_one (pe_cmpR op_in_seq (pv 2) (pv 12) (by rfl)))) pa_nil)))))))))), ?_⟩
    obtain ⟨dx1, _, _, _, _, _, _, _, hm1, _⟩ := id ma1
    obtain ⟨dx2, _, _, _, _, _, _, _, hm2, _⟩ := id ma2
    refine ⟨_, rfl, b, _, rfl, SqT.of hb, rfl, _, _, rfl, _, _, rfl, _, _, rfl, _, _, rfl, rfl, ?_⟩
    refine ⟨_, rfl, m1, dx1, _, rfl, hm1, rfl, _, rfl, _, rfl, m1, l.1, Froz.sing c, s1, R1, E1, rfl, ma1, f1, i1, fun _ t1 k1 H1 sm1 h1 h2 => ?_, fun i x _ _ g1 g2 => one_in c1 g1 g2⟩
    refine ⟨t1, _, rfl, SqT.of h1, rfl, _, _, rfl, _, _, rfl, rfl, ?_⟩
    refine ⟨_, rfl, m2, dx2, _, rfl, sm1 _ _ hm2, rfl, _, rfl, _, rfl, m2, l.2.1, Froz.sing c, s2, R2, E2, rfl, ma2.keepE (sameN sm1), f2, i2, fun _ t2 k2 H2 sm2 g1 g2 => ?_, fun i x _ _ g1 g2 => one_in c2 g1 g2⟩
    refine ⟨t2, _, rfl, SqT.of g1, rfl, _, _, rfl, _, _, rfl, rfl, ?_⟩
    simp only [tRet_ap, tTup_ap, tCons_ap]
    refine ⟨_, rfl, _, rfl, ?_⟩
    refine or_of (a := l.2.2.1) (b := decide (key ∈ gvW s1 R1 l.1 c)) (fun Q' q => ⟨_, rfl, q⟩) (fun Q' q => ⟨_, rfl, _, rfl, k1, _, rfl, .inr (SqT.of (sm2 _ _ h2)), rfl, flat_strs _, by rw [in_strs]; exact q⟩) ?_
    refine or_of (a := l.2.2.2) (b := decide (key ∈ gvW s2 R2 l.2.1 c)) (fun Q' q => ⟨_, rfl, q⟩) (fun Q' q => ⟨_, rfl, _, rfl, k2, _, rfl, .inr (SqT.of g2), rfl, flat_strs _, by rw [in_strs]; exact q⟩) ?_
    exact ⟨by show 4 ≤ sizeLine; decide, fun t0 ht0 => k _ _ (fun b o z => Same.upd ht0 _ _ (sm2 _ _ (sm1 _ _ z))) ⟨t0, rfl, upd_same⟩⟩
def spPbGoal (Z : CAd) : List (Option V) → Sp := fun ws vs H Q _ => ∃ (m1 m2 b : Addr) (key s1 s2 : Str) (R1 R2 : List (List Way)) (E1 E2 : List (List Str)) (l : Lb4), ws = [some (.str key), some (.ref m1), some (.ref m2)] ∧ vs = [.ref b] ∧ H b = some (.tup (lab4.vals l)) ∧
  MachAt Z.C H m1 s1 R1 E1 ∧ Full s1 R1 E1 ∧ MachAt Z.C H m2 s2 R2 E2 ∧ Full s2 R2 E2 ∧ l.1 < R1.length ∧ l.2.1 < R2.length ∧ ∀ z H', Same H H' → z = .bl (go4 E1 E2 key l) → Q z H'
abbrev Npg : List Str := ["label", "key", "one", "other", "p", "q", "first", "second"]
theorem nsc_pb_goal : NdefX.NScope Npg ["label"] ["key", "one", "other"] (C8.fnScope s_pb_goal) := NdefX.nscope_by (by decide +kernel)
theorem nok_pb_goal (TC : TxtC K mg Z) (f c' : Addr) (q : Str) (cl : List (Str × Addr)) : NdefX.NOk P w K mg base CX0 5 f (NdefX.NF.of s_pb_goal "is_goal" q cl c') ["label"] ["key", "one", "other"] (spPbGoal Z) := by
  have nn := nsc_pb_goal.nd
  refine NdefX.nok_of (k := 4) (N := Npg) nsc_pb_goal (fun _ _ _ us hl => match us, hl with | [_], _ => rfl) (fun ws vs H Q E h => ?_) (fun A outer s H vs ws Q E hr hf hc hl h => ?_)
  · obtain ⟨_, _, _, _, _, _, _, _, _, _, _, _, rfl, _⟩ := h; rfl
  · obtain ⟨m1, m2, b, key, s1, s2, R1, R2, E1, E2, l, rfl, rfl, hb, ma1, f1, ma2, f2, i1, i2, k⟩ := h
    refine ⟨_, (pss_cons (ps_asg (pv 0) (pg_tup rfl (pgs_cons (pg_name (i := 4) nn rfl (Or.inl rfl)) (pgs_cons (pg_name (i := 5) nn rfl (Or.inl rfl)) (pgs_cons (pg_name (i := 6) nn rfl (Or.inl rfl)) (pgs_cons (pg_name (i := 7) nn rfl (Or.inl rfl)) pgs_nil))))))
      (pss_one (ps_ret (pe_cmpR op_ne (pe_or (pv 6) (pe_one (pe_cmpR op_in_seq (pv 1) (pe_ix ix_tup (pe_fld (pv 2) rfl) (pv 4) (fun _ _ => rfl)) (by rfl)))) (pe_or (pv 7) (pe_one (pe_cmpR op_in_seq (pv 1) (pe_ix ix_tup (pe_fld (pv 3) rfl) (pv 5) (fun _ _ => rfl)) (by rfl)))) (nomark _))))), ?_⟩
    obtain ⟨dx1, _, ea1, _, _, _, ev1, _, hm1, _, _, he1, pe1, _⟩ := ma1
    obtain ⟨a1, x1, y1⟩ := end_at f1 i1 pe1
    obtain ⟨dx2, _, ea2, _, _, _, ev2, _, hm2, _, _, he2, pe2, _⟩ := ma2
    obtain ⟨a2, x2, y2⟩ := end_at f2 i2 pe2
    refine ⟨_, rfl, b, _, rfl, SqT.of hb, rfl, _, _, rfl, _, _, rfl, _, _, rfl, _, _, rfl, rfl, ?_⟩
    simp only [tRet_ap, tOp_ap]
    refine or_of (a := l.2.2.1) (b := decide (key ∈ E1.getD l.1 [])) (fun Q' q => ⟨_, rfl, q⟩) (fun Q' q => ⟨_, rfl, _, rfl, m1, Z.C, dx1, _, _, rfl, hm1, TC.cl, TC.a3, rfl, _, rfl, ea1, ev1, _, _, rfl, rfl, SqT.of he1, atI_nat x1, a1, _, rfl, .inr (SqT.of y1), rfl, flat_strs _, by rw [in_strs]; exact q⟩) ?_
    refine or_of (a := l.2.2.2) (b := decide (key ∈ E2.getD l.2.1 [])) (fun Q' q => ⟨_, rfl, q⟩) (fun Q' q => ⟨_, rfl, _, rfl, m2, Z.C, dx2, _, _, rfl, hm2, TC.cl, TC.a3, rfl, _, rfl, ea2, ev2, _, _, rfl, rfl, SqT.of he2, atI_nat x2, a2, _, rfl, .inr (SqT.of y2), rfl, flat_strs _, by rw [in_strs]; exact q⟩) ?_
    refine ⟨rfl, k _ _ (Same.refl _) ?_⟩
    rw [dec_bl]
    rfl
end
end Kx

namespace Fst
open PySem L2
theorem stop_len {L : Type} [DecidableEq L] {nx : L → Nat → Option L} {goal : L → Bool} {l0 : L} {cs : List Nat} {In : L → Prop} {many : Nat} (rm : Room In many) (i0 : In l0) (hin : ∀ l, In l → ∀ c ∈ cs, ∀ q, nx l c = some q → In q)
    {u : List Nat} (s : Stop nx goal l0 cs (some u)) : u.length ≤ many := by
  obtain ⟨d, go, ⟨p, hp, _, e⟩ | ⟨_, e⟩⟩ := s
  · obtain rfl := Option.some.inj e
    have h1 := text_len p (List.mem_of_getElem? hp)
    rcases d with _ | d
    · omega
    · obtain ⟨q, hq, _⟩ := go d (Nat.lt_succ_self d)
      have h2 := (List.getElem?_eq_some_iff.mp hq).1
      have h3 := walk_len (nx := nx) rm i0 hin d
      omega
  · cases e
end Fst

namespace Kx
open PySem L2 Own PinX DicN
abbrev nmPb (l : Nat) (_ : Nat) : Str := if l = (match s_pb_step with | .FunctionDef (pos := p) .. => p.line | _ => 0) then "parted_by.<locals>.step" else "parted_by.<locals>.is_goal"
structure TxtPb (K : PySem.W.Frag) (mg : Str → Option Value) (base : Heap) (T : List NdefX.NTab) (f : Addr) (d : FuncData) (c Pt : Addr) : Prop where
  g : mg "parted_by" = some (.ref f)
  F : FunC K "parted_by" "parted_by" s_parted_by f d c
  b : Binds K d ["one", "other", "key"] []
  tb : LamX.TabB base mg c Pt
  mem : (Pt, nmPb) ∈ T
  one : ∀ p ∈ T, p.1 = Pt → p.2 = nmPb
abbrev Npb : List Str := ["one", "other", "key", "step", "is_goal"]
theorem sc_pb : FnScope Npb ["one", "other", "key"] (defScope s_parted_by) := ⟨rfl, rfl, rfl, by decide +kernel, rfl, by decide +kernel, by decide +kernel⟩
section
variable {P : Program} {w : World} {K : PySem.W.Frag} {mg : Str → Option Value} {base : Heap} {A : EAd} {B : MAd} {Z : CAd} {S : SAd} {T : List NdefX.NTab} {ff f : Addr} {df d : FuncData} {c Pt : Addr}
def spPb (Z : CAd) (T : List NdefX.NTab) : Sp := fun vs H Q _ => ∃ (m1 m2 : Addr) (key s1 s2 : Str) (R1 R2 : List (List Way)) (E1 E2 : List (List Str)), vs = [.ref m1, .ref m2, .str key] ∧ MachAt Z.C H m1 s1 R1 E1 ∧ Full s1 R1 E1 ∧ MachAt Z.C H m2 s2 R2 E2 ∧ Full s2 R2 E2 ∧ s1.cps.size ≤ 4 ∧ R1.length ≤ 16 ∧ R2.length ≤ 16 ∧
  (∀ c ∈ s1.cps.toList, c ∈ s2.cps.toList) ∧ NdefX.TabsN T H ∧ ∀ r H', LamX.ExtN H H' → NdefX.TabsN T H' → Fst.Stop (nx4 s1 s2 R1 R2 key) (go4 E1 E2 key) (0, 0, false, false) s1.cps.toList r → (∀ u, r = some u → u.length ≤ 1024) → Q (Fst.resV r) H'
theorem room4 {n m : Nat} : Fst.Room (fun l : Lb4 => l.1 < n ∧ l.2.1 < m) (n * (m * 4)) := fun ls nd h => by
  have e : ((List.range n).flatMap fun i => (List.range m).flatMap fun j => [(i, j, true, true), (i, j, true, false), (i, j, false, true), (i, j, false, false)]).length = n * (m * 4) := by
    have e1 : ∀ i : Nat, ((List.range m).flatMap fun j => [(i, j, true, true), (i, j, true, false), (i, j, false, true), (i, j, false, false)]).length = m * 4 := fun i => by
      rw [List.length_flatMap]
      have : (List.range m).map (fun j => ([(i, j, true, true), (i, j, true, false), (i, j, false, true), (i, j, false, false)] : List Lb4).length) = List.replicate m 4 := by
        refine List.ext_getElem (by simp) fun i h1 h2 => by simp
      rw [this, List.sum_replicate_nat]
    rw [List.length_flatMap]
    have : (List.range n).map (fun i => ((List.range m).flatMap fun j => ([(i, j, true, true), (i, j, true, false), (i, j, false, true), (i, j, false, false)] : List Lb4)).length) = List.replicate n (m * 4) := by
      refine List.ext_getElem (by simp) fun i h1 h2 => ?_
      rw [List.getElem_map, e1, List.getElem_replicate]
    rw [this, List.sum_replicate_nat]
  rw [← e]
  refine nd_sub_len nd fun x hx => ?_
  rcases x with ⟨i, j, a, b⟩
  obtain ⟨h1, h2⟩ := h _ hx
  refine List.mem_flatMap.mpr ⟨i, List.mem_range.mpr h1, List.mem_flatMap.mpr ⟨j, List.mem_range.mpr h2, ?_⟩⟩
  cases a <;> cases b <;> simp
theorem step4_keep {r : Option Lb4} {H H' : Hp} {z : V} (s : Same H H') (h : Fst.StepR lab4.At r H z) : Fst.StepR lab4.At r H' z := by
  cases r with
  | none => exact h
  | some q => exact Fst.LabT.At.keep (fun b xs y => s _ _ y) h
theorem nx4_in {s1 s2 : Str} {R1 R2 : List (List Way)} {E1 E2 : List (List Str)} {key : Str} (f1 : Full s1 R1 E1) (f2 : Full s2 R2 E2) (cs : List Nat) : ∀ l : Lb4, (fun l : Lb4 => l.1 < R1.length ∧ l.2.1 < R2.length) l → ∀ c ∈ cs, ∀ q, nx4 s1 s2 R1 R2 key l c = some q → (fun l : Lb4 => l.1 < R1.length ∧ l.2.1 < R2.length) q := fun l hl c _ q hq => by
  unfold nx4 at hq
  rw [← Option.some.inj hq]
  exact ⟨(f1.run hl.1 [c]).1, (f2.run hl.2 [c]).1⟩
theorem ok_pb (TM : TxtM K mg B) (TE : TxtE K mg A) (TC : TxtC K mg Z) (TS : TxtS K mg A Z S) (TF : TxtFt K mg ff df) (TT : TxtPb K mg base T f d c Pt) : FnOk P w K mg base CX0 8 f d ["one", "other", "key"] (spPb Z T) := by
  have sc := sc_pb
  have G_first : FnOk P w K mg base CX0 7 ff df ["signs", "label", "step", "is_goal"] (spFirst lab4 P w K mg base) := ok_first lab4 TF
  refine TT.F.ok sc (fun vs H Q E h => ?_) (fun A1 outer s H vs Q E hr h => ?_)
  · obtain ⟨_, _, _, _, _, _, _, _, _, rfl, _⟩ := h; rfl
  · obtain ⟨m1, m2, key, s1, s2, R1, R2, E1, E2, rfl, ma1, f1, ma2, f2, z4, l1, l2, sub, hT, rest⟩ := h
    refine ⟨_, (pss_cons (NdefX.ps_ndefMS (st := s_pb_step) (i := 3) rfl TT.tb rfl TT.mem (by rfl) TT.one (NdefX.ndef_free (fr := ["key", "one", "other"]) (show NdefX.ndefB (defScope s_parted_by) (C8.fnScope s_pb_step) ["key", "one", "other"] = true by decide +kernel)) rfl rfl rfl sc.nd rfl (Or.inl rfl) (Or.inl rfl))
      (pss_cons (NdefX.ps_ndefMS (st := s_pb_goal) (i := 4) rfl TT.tb rfl TT.mem (by rfl) TT.one (NdefX.ndef_free (fr := ["key", "one", "other"]) (show NdefX.ndefB (defScope s_parted_by) (C8.fnScope s_pb_goal) ["key", "one", "other"] = true by decide +kernel)) rfl rfl rfl sc.nd rfl (Or.inl rfl) (Or.inl rfl))
      (pss_one (ps_ret (pe_callP G_first (hr.mono (by decide)) rfl TF.D_first_text.g TF.D_first_text.F.kp TF.D_first_text.b
        (fun c hc => by obtain ⟨y, hy⟩ := cells_at (cl := _) (by show (["key", "other", "one"] : List Str).Nodup; decide +kernel) c hc; exact ⟨y, rfl, hy⟩) cells_in
        (pa_cons (pe_fld (pv 0) rfl) (pa_cons (pe_tup (pa_cons pe_int (pa_cons pe_int (pa_cons pe_bl (pa_cons pe_bl pa_nil))))) (pa_cons (pv 3) (pa_cons (pv 4) pa_nil))))))))), ?_⟩
    refine ⟨hT, fun f4 c4 H4 e4 m4 T4 f4n f4a c4a => ?_⟩
    refine ⟨T4, fun f5 c5 H5 e5 m5 T5 f5n f5a c5a => ?_⟩
    have f4b := e5 _ _ f4a fun ps => NdefX.fnO_ne ps
    have c4b := e5 _ _ c4a fun ps y => by unfold LamX.CodeO at y; cases y
    have m15 := (ma1.keepE e4).keepE e5
    have m25 := (ma2.keepE e4).keepE e5
    have e05 : LamX.ExtN H H5 := e4.trans e5
    obtain ⟨dx5, _, _, _, _, _, _, _, hm5, _⟩ := id m15
    refine ⟨_, rfl, m1, Z.C, dx5, _, _, rfl, hm5, TC.cl, TC.a1, rfl, by show 4 ≤ sizeLine; decide, fun z0 hz0 => ?_⟩
    have sz : Same H5 (upd H5 z0 (.tup (lab4.vals (0, 0, false, false)))) := Same.upd hz0
    refine ⟨_, rfl, _, rfl, fun Hp pp => ?_⟩
    have hz6 : Hp z0 = some (.tup (lab4.vals (0, 0, false, false))) := pp.at_ upd_same
    have f4c := sz _ _ f4b
    have c4c := sz _ _ c4b
    have f5c := sz _ _ f5a
    have c5c := sz _ _ c5a
    have m16 := m15.keepE (sameN sz)
    have m26 := m25.keepE (sameN sz)
    have e06 := e05.trans (sameN sz)
    have T6 := T5.ext sz
    have K4 := caps_own (X := (cxOf CX0 P w K mg base Npb "parted_by" (defScope s_parted_by) f (.ref c) A1 outer s H E).nox) (nsc := C8.fnScope s_pb_step) (sc := defScope s_parted_by) (fr := ["key", "one", "other"]) (js := [2, 0, 1]) (L := s.heap.objs.size + 1) rfl rfl (by decide +kernel) (by decide +kernel) rfl
    have K5 := caps_own (X := (cxOf CX0 P w K mg base Npb "parted_by" (defScope s_parted_by) f (.ref c) A1 outer s H E).nox) (nsc := C8.fnScope s_pb_goal) (sc := defScope s_parted_by) (fr := ["key", "one", "other"]) (js := [2, 0, 1]) (L := s.heap.objs.size + 1) rfl rfl (by decide +kernel) (by decide +kernel) rfl
    have rm : Fst.Room (fun l : Lb4 => l.1 < R1.length ∧ l.2.1 < R2.length) 1024 := fun ls nd h => Nat.le_trans (room4 ls nd h) (Nat.le_trans (Nat.mul_le_mul l1 (Nat.mul_le_mul_right 4 l2)) (by decide))
    refine ⟨z0, s1, .ref f4, .ref f5, fun l => l.1 < R1.length ∧ l.2.1 < R2.length, nx4 s1 s2 R1 R2 key, go4 E1 E2 key, (0, 0, false, false), 1024, rfl, hz6, z4, ⟨f1.pos, f2.pos⟩, rm, by decide, nx4_in f1 f2 _, fun H' eH v l hl hv c hc => ?_, fun H' eH v l hl hv => ?_, fun r H7 s7 st => ⟨pp.kept s7, ?_⟩⟩
    · obtain ⟨b, rfl, hb⟩ := hv
      exact canC_late pp eH f4c c4c K4.1 K4.2 cells_in (nok_pb_step TM TE TC TS f4 c4 _ _) (fun _ _ _ s' r => step4_keep s' r) fun G eG tG Q' q' => ⟨m1, m2, b, key, s1, s2, R1, R2, E1, E2, l, c, rfl, rfl, tG _ _ hb, m16.keepE eG, f1, m26.keepE eG, f2, hl.1, hl.2, hc, sub c hc, fun z G2 s st => q' z G2 s st⟩
    · obtain ⟨b, rfl, hb⟩ := hv
      exact canC_late pp eH f5c c5c K5.1 K5.2 cells_in (nok_pb_goal TC f5 c5 _ _) (fun _ _ _ s' r => r) fun G eG tG Q' q' => ⟨m1, m2, b, key, s1, s2, R1, R2, E1, E2, l, rfl, rfl, tG _ _ hb, m16.keepE eG, f1, m26.keepE eG, f2, hl.1, hl.2, fun z G2 s st => q' z G2 s st⟩
    · refine rest r _ (e06.trans (sameN (pp.back s7))) (T6.ext (pp.back s7)) st fun u e => ?_
      subst e
      exact Fst.stop_len rm ⟨f1.pos, f2.pos⟩ (nx4_in f1 f2 _) st
end
end Kx

/-! sorted(text) -/
namespace Own
open PySem PySem.Spec L2 PyProof.Rows PySem.Froz
theorem items_letters {x : Str} {acc : Array Value} (h : ItemsOf (SignAt x) acc x.cps.size) : StrsAre acc.toList (letters x) := by
  obtain ⟨hz, hv⟩ := h
  have g : ∀ v ∈ acc.toList, ∃ y t, v = .str y t := fun v m => by
    obtain ⟨j, hj⟩ := List.getElem?_of_mem m
    rw [Array.getElem?_toList] at hj
    obtain ⟨c, u, _, e⟩ := hv j v hj
    exact ⟨_, u, e⟩
  have e : acc.toList.map textOf = letters x := by
    refine List.ext_getElem? fun j => ?_
    unfold letters
    rw [List.getElem?_map, List.getElem?_map, Array.getElem?_toList, Array.getElem?_toList]
    cases h : acc[j]? with
    | none =>
      have : x.cps.size ≤ j := by
        rw [← hz]
        exact Array.getElem?_eq_none_iff.mp h
      rw [Array.getElem?_eq_none_iff.mpr this]
      rfl
    | some v =>
      obtain ⟨c, u, e1, e2⟩ := hv j v h
      rw [e1, e2]
      rfl
  rw [← e]
  exact strs_map _ g
section
variable {P : Program} {w : World} {A : Around} {E : Value → Shared → Prop} {s : Shared}
theorem sorted_text {x : Str} {t : Tok} {Q : Value → Shared → Prop} (hh : A.handled = none) (hz : x.cps.size ≤ sizeLine)
    (q : ∀ (s1 s' : Shared) (p : Addr) (out : Array Value) (c : Nat) (ys : List Str), (∀ b o, s.heap.get? b = some o → s1.heap.get? b = some o) → (∀ b o, s1.heap.get? b = some o → s'.heap.get? b = some o) → s'.gens = s.gens → s'.os = s.os → s1.heap.objs.size ≤ p →
      s'.heap.get? p = some (seqObj "list" out c) → StrsAre out.toList ys → ys.Perm (letters x) → sortedS ys = true → Q (.ref p) s') :
    wpAny (model P w) A (call (.builtin "sorted") [.str x t]) Q E s := by
  refine Calls.call_function_entry kind_sorted plain_sorted entry_sorted (args_sorted1 _) ?_
  unfold Builtin.«sorted»
  refine wpAny_bind (m := checkCount "sorted" 1 1 _) (wpAny_pure ?_)
  refine wpAny_bind (wpAny_collect_str (A := A.in1) hh x t (fun s1 acc k1 g1 _ o1 it => ?_) hz)
  have hS := items_letters it
  have len : acc.toList.length = x.cps.size := by rw [hS.length]; unfold letters; rw [List.length_map, Array.length_toList]
  refine wpAny_bind (wpAny_newList ?_ (by rw [len]; exact hz))
  have hoL : (s1.heap.push (seqObj "list" acc.toList.toArray 0)).get? s1.heap.objs.size = some (seqObj "list" acc.toList.toArray 0) := Heap.get?_push_size _ rfl
  refine wpAny_bind (wpAny_holding (wpAny_call_entry slot_list_sort ⟨_, hoL, rfl⟩ entry_list_sort
    (list_sort_treeKAny strKind_oneLt hoL hS.keysOf (fun v₁ v₂ rest e => keyKind_strs (by rw [← e]; exact hS)) (by rw [len]; exact hz) fun st a1 a2 => ⟨_, rfl, ?_⟩) (args_list_sort _)))
  obtain ⟨ys, b1, b2, b3⟩ := sorted_out_str hS a1 a2
  obtain ⟨c, hc⟩ := sortedHeap_at (vs := acc.toList) (out := (arrOf st).map (·.2)) hoL
  refine wpAny_pure ⟨_, rfl, q s1 _ s1.heap.objs.size _ c ys k1 (fun b u e1 => ?_) g1 o1 (Nat.le_refl _) hc b1 b2 b3⟩
  · have lt := Heap.lt_size e1
    exact (sortedHeap_old (h := s1.heap.push (seqObj "list" acc.toList.toArray 0)) (a := s1.heap.objs.size) (vs := acc.toList) (out := (arrOf st).map (·.2)) (b := b) (Nat.ne_of_lt lt) (by rw [size_push']; exact Nat.lt_succ_of_lt lt)).trans (Heap.get?_push_of_some _ e1)
/-- sorted(text) -/
def rSortX : List V → Hp → VK → Prop := fun vs H Q => ∃ y : Str, vs = [.str y] ∧ y.cps.size ≤ sizeLine ∧ ∀ (p : Addr) (ys : List Str), H p = none → ys.Perm (letters y) → sortedS ys = true → Q (.ref p) (upd H p (.lst (ys.map V.str)))
theorem cr_sortX {X : Cx} (hc : X.calm = true) : CallR X (.builtin "sorted") rSortX := by
  intro pins s σ H vs us Q I r h
  obtain ⟨y, rfl, hz, q⟩ := h
  obtain ⟨u, rfl, t, rfl⟩ := vals1 r
  refine sorted_text (I.ok.hd hc) hz fun s1 s' p out c ys k1 k2 g o hp hg hi pm hs => ?_
  have I1 := I.kept (h' := s1.heap) (t' := s'.toks) k1
  have lz : (ys.map V.str).length ≤ sizeLine := by rw [List.length_map, pm.length_eq]; unfold letters; rw [List.length_map, Array.length_toList]; exact hz
  have hn : H p = none := I1.hok.fresh hp
  have J := I1.call (h' := s'.heap) (g' := s'.gens) (d' := s'.drawn) (t' := s'.toks) (H' := upd H p (.lst (ys.map V.str))) (ch := []) (Un.laid k2 hp hn) (I1.hok.laid k2 hp ⟨lz, out.toList, c, vals_of_strs hi, hg⟩) (by rw [g]; exact I.bare) (fun _ z => nomatch z)
  have e : s' = { s with heap := s'.heap, gens := s'.gens, drawn := s'.drawn, toks := s'.toks } := by
    obtain ⟨_, _, _, _, _⟩ := s'
    obtain ⟨_, _, _, _, _⟩ := s
    cases o
    rfl
  rw [e]
  exact ⟨.ref p, _, J, rfl, q p ys hn pm hs⟩
end
end Own

namespace L2
open PySem PySem.Spec PyProof.Rows
/-! ### try with several clauses `except C as e` -/
abbrev Clause := Value × Nat × TS
/-- what is wished of an exception of the body, clause by clause -/
def wAsL (K : PySem.W.Frag) (D : Ends) : List Clause → WX
  | [] => fun _ _ _ _ => False
  | (c, i, ts) :: r => fun cls d σ H => (PySem.W.exmOne K cls c = some true ∧ ∃ C : Addr, cls = .ref C ∧ ∀ a, H a = none → ts (D.less i) (σ.set i (some (.ref a))) (upd H a (xob a C d))) ∨ (PySem.W.exmOne K cls c = some false ∧ wAsL K D r cls d σ H)
inductive PHs (X : Cx) : List ExceptHandler → List Clause → Prop
  | nil : PHs X [] []
  | cons {x n : Str} {c : Value} {i : Nat} {b0 : Stmt} {suite : List Stmt} {p1 p2 : Pos} {ts : TS} {hs : List ExceptHandler} {cs : List Clause} (slot : X.N[i]? = some n) (loc : X.env.kindOf n = some .local) (names : Names X x c)
      (run : ∀ (a : Addr) (pn : List (Addr × Obj)), PSs (X.suite a pn) (b0 :: suite) ts) (rest : PHs X hs cs) : PHs X (.ExceptHandler (some (.Name x p1)) (some n) (b0 :: suite) p2 :: hs) ((c, i, ts) :: cs)
section
variable {X : Cx}
theorem ref_of_wish {K : PySem.W.Frag} {D : Ends} : ∀ {cs : List Clause} {cls : Value} {d : Option Addr} {σ : St} {H : Hp}, wAsL K D cs cls d σ H → ∃ C : Addr, cls = .ref C
  | [], _, _, _, _, h => h.elim
  | (c, i, ts) :: r, _, _, _, _, h => h.elim (fun ⟨_, C, e, _⟩ => ⟨C, e⟩) fun ⟨_, h⟩ => ref_of_wish h
variable {body : List Stmt} {hs : List ExceptHandler} {cs : List Clause} {p3 : Pos} {tb : WX → TS}
theorem caughtL {pins : List (Addr × Obj)} {D : Ends} {u : Value} {s : Shared} {xe : Value → Shared → Prop} (alone : X.ex = []) (top : X.stack = X.env :: X.outer) (frame : X.env.frame = some X.env.locals) (nodup : X.N.Nodup) (ok : X.Ok)
    (cl : PHs X hs cs) (fly : XE (X.tr (X.pn ++ pins) xe) (wAsL X.K D cs) u s) :
    wpAny (model X.prog X.w) X.A (noteFrame u X.env) (fun _ s2 => wpAny (model X.prog X.w) X.A (setFlight u none) (fun _ s3 => wpAny (model X.prog X.w) X.A (handleBy u X.env hs) (SP X pins D) X.xe s3) X.xe s2) X.xe s := by
  obtain ⟨a, ground, sI, _, σ1, H1, cls, d, rfl, Jt, stays, slots, sky, free, os, gens, wish⟩ := fly
  obtain ⟨C, rfl⟩ := ref_of_wish wish
  have J : Inv X pins σ1 H1 sI := Jt.ofTry ok
  refine Sky.land Zc.steady (ok.frames.trans (congrArg some top)) frame (top ▸ sky) fun h3 f3 up3 => ?_
  obtain ⟨o3, v3, g3, z3, d3⟩ := f3.there
  have notFrame : a ∉ frs X.stack := fun hm => by
    obtain ⟨_, o, e, other⟩ := f3.2.2.1.mem (top ▸ hm)
    exact other v3 (Option.some.inj (e.symm.trans g3) ▸ d3)
  have absent : sI.heap.get? a = none := Option.eq_none_iff_forall_ne_some.mpr fun o e => by
    have z := stays a o e notFrame
    rw [f3.2.1] at z
    cases z
  obtain ⟨n0, nL, nC, nP⟩ := newcomer J alone absent
  have J3 : Inv X pins σ1 H1 { s with heap := h3 } := J.landed stays f3.1 (slots.trans up3) os gens
  have cls3 : PySem.W.Looks (model X.prog X.w) h3 (typeOf (.ref a)) (.ref C) := fun _ _ _ _ keep q => wpAny_typeOf_ref (keep _ _ g3) (z3.1.symm ▸ q)
  -- clause by clause
  induction cl with
  | nil => exact wish.elim
  | @cons x n c i b0 suite p1 p2 ts hs cs slot loc names run rest ih =>
    have clause : ∀ {Q : Value → Shared → Prop} {E : Value → Shared → Prop}, Q c { s with heap := h3 } → wpAny (model X.prog X.w) (X.A.mark (some (.ref a))) (eval (.Name x p1) X.env) Q E { s with heap := h3 } := fun {Q E} q => by
      rcases names with ⟨gl, dbg, is | ⟨no, boot, other⟩⟩
      · exact ld_glob (J3.inSuite a) gl is q dbg
      · exact ld_blt (J3.inSuite a) gl no boot q other dbg
    rcases wish with ⟨named, C', eC, w⟩ | ⟨named, w⟩
    · cases eC
      refine wpAny_handleBy_cons (codeAny_handlers_test (clause ((PySem.W.exm_one (M := model X.prog X.w) J3.kIn cls3 named).here ?_))) (fun z => nomatch z)
      refine codeAny_handlers_suite_as (HandSPX.lands_againZ f3 fun h4 f4 up4 => ?_)
      obtain ⟨o4, v4, g4, z4, d4⟩ := f4.there
      have J4 : Inv X pins σ1 H1 { s with heap := h4 } := J.landed stays f4.1 ((slots.trans up3).trans up4) os gens
      have J5 := (J4.track free n0 nL nC nP (xob_ok g4 z4 d4)).inSuite a
      refine store_ok (X := X.suite a (X.pn ++ pins)) (v := .ref a) J5 nodup slot (.inl loc) rfl (fun s5 S5 => ?_) (.inr loc)
      have leave : ∀ {σ6 : St} {H6 : Hp} {s6 : Shared} {Q : Shared → Prop}, Inv (X.suite a (X.pn ++ pins)) [] σ6 H6 s6 → (∀ s7, Inv X pins (σ6.set i none) H6 s7 → Q s7) → wpAny (model X.prog X.w) X.A (do bindName X.env n .none; unbindBehindTheSuite X.env n p2) (fun _ s7 => Q s7) X.xe s6 :=
        fun S6 q => gone_ok (S6.outSuite ok) nodup slot loc q
      refine wpAny_mono ((run a (X.pn ++ pins)).run [] s5 _ _ _ S5 (w a free)) (fun fl s6 q => ?_) fun _ _ z => z.elim
      match fl, q with
      | .next, ⟨_, _, S6, q⟩ => exact leave S6 fun _ J7 => ⟨_, _, J7, q⟩
      | .brk, ⟨_, _, S6, q⟩ => exact leave S6 fun _ J7 => ⟨_, _, J7, q⟩
      | .cont, ⟨_, _, S6, q⟩ => exact leave S6 fun _ J7 => ⟨_, _, J7, q⟩
      | .ret _, ⟨_, _, _, S6, r, q⟩ => exact leave S6 fun _ J7 => ⟨_, _, _, J7, r, q⟩
    · refine wpAny_handleBy_cons (codeAny_handlers_test (clause ((PySem.W.exm_one (M := model X.prog X.w) J3.kIn cls3 named).here ?_))) (fun z => nomatch z)
      exact ih w
theorem ps_try_asL {h0 : ExceptHandler} (alone : X.ex = []) (top : X.stack = X.env :: X.outer) (frame : X.env.frame = some X.env.locals) (nodup : X.N.Nodup) (cl : PHs X (h0 :: hs) cs)
    (try_ : ∀ (W : WX) (pn : List (Addr × Obj)) (xe : Value → Shared → Prop), Takes (X.tr pn xe) W → PSs (X.tr pn xe) body (tb W)) :
    PS X (.Try body (h0 :: hs) [] [] p3) (fun D σ H => tb (wAsL X.K D cs) D σ H) where
  run := fun pins s σ H D I h => by
    have ok := I.ok
    refine wpAny_Try_except (wpAny_mono ((try_ (wAsL X.K D cs) (X.pn ++ pins) _ fun u s' y => caughtL alone top frame nodup ok cl y).run [] s σ H D (I.toTry _) h) (fun fl s1 q => ?_) fun _ _ z => z)
    match fl, q with
    | .next, ⟨_, _, J, q⟩ => exact wpAny_execs_nil ⟨_, _, J.ofTry ok, q⟩
    | .brk, ⟨_, _, J, q⟩ => exact ⟨_, _, J.ofTry ok, q⟩
    | .cont, ⟨_, _, J, q⟩ => exact ⟨_, _, J.ofTry ok, q⟩
    | .ret _, ⟨_, _, _, J, r, q⟩ => exact ⟨_, _, _, J.ofTry ok, r, q⟩
end
/-! ### C(..) of an own class in a try: its __init__ may raise -/
def tMakeS (C : Addr) (sp : Sp) (E : St → XK) (t : TA) : TE := fun σ H Q => t σ H fun vs H1 => ∀ x dx, H1 x = none → H1 dx = none → dx ≠ x → sp (.ref x :: vs) (upd (upd H1 dx (.own x)) x (.ins C dx [])) (fun v H2 => v = .non ∧ Q (.ref x) H2) (E σ)
section
variable {X : Cx} {CX : CXT} {k : Nat} {f C : Addr} {fd : FuncData} {ps : List Str} {sp : Sp} {E : St → XK} {x : Str} {p pos : Pos} {e : Expr} {es : List Expr} {t : TA}
theorem pe_makeS (M : Mk X.K C f) (F : FnOk X.prog X.w X.K X.mg X.base CX k f fd ps sp) (hr : Room (k + 1) X.A) (hg : Gl X x) (hm : X.mg x = some (.ref C)) (hb : Binds X.K fd ps []) (hx : ∀ σ, PassesAt CX X σ (E σ))
    (ha : PA X (e :: es) t) (hdb : (x == ("__debug__" : Str)) = false := by decide) (he : starEach (e :: es) X.env = (false, eval e X.env) :: starEach es X.env := by rfl) (hpl : (backTo pos (starEach es X.env)).any (·.1) = false := by rfl) :
    PE X (.Call (.Name x p) (e :: es) [] pos) (tMakeS C sp E t) := by
  refine ⟨fun pins s σ H Q I h => wpAny_Call_Name_kw (ld_glob I hg hm (PySem.W.callWith_K (h₀ := X.base) I.ok.mod.kin M.kp (thn (ha.run pos pins s σ H _ I h) fun us s1 ⟨vs, H1, I1, r, q⟩ => ⟨I1.kIn, ?_⟩) he hpl) hdb)⟩
  -- the instance, its dict
  have w := q (s1.heap.objs.size + 1) s1.heap.objs.size (I1.hok.fresh (Nat.le_succ _)) (I1.hok.fresh (Nat.le_refl _)) (Nat.ne_of_lt (Nat.lt_succ_self _))
  have J := Inv.made (C := C) I1
  have rr : Vals (V.ref (s1.heap.objs.size + 1) :: vs) (Value.ref (s1.heap.objs.size + 1) :: us) := .cons rfl r
  have len : (Value.ref (s1.heap.objs.size + 1) :: us).length = ps.length := rr.length.symm.trans (F.len _ _ _ _ w)
  have b := hb _ (Value.ref (s1.heap.objs.size + 1) :: us) J.kIn (by rw [List.append_nil]; exact len)
  rw [List.append_nil] at b
  refine wpAny_call (make_map (f := f) I1.kIn M.makes M.init (beq_iff_eq.mp M.fn) (codeAny_mono (F.run _ X.stack _ _ _ _ _ _ (E σ) (hr.make C us []) (J.env0.make C us []) b rr w) fun y z hy => ?_))
  match y, hy with
  | .error e, hy => exact hx σ pins _ _ e z J hy
  | .ok (.ret u), hy =>
    obtain ⟨v, H3, J3, rv, ev, q3⟩ := J.after hy
    subst ev
    exact ⟨rv, ⟨V.ref (s1.heap.objs.size + 1), H3, J3, rfl, q3⟩⟩
  | .ok .next, hy => exact False.elim hy
  | .ok .brk, hy => exact False.elim hy
  | .ok .cont, hy => exact False.elim hy
end
end L2

namespace Own
open PySem PySem.Spec L2 PyProof.Rows
/-- o.m(..) of an own class, in a suite whose errors are told by the slots -/
def tMethT (C : Addr) (m : Str) (sp : Sp) (E : L2.St → XK) (ta : TE) (t : TA) : TE := fun σ H Q => ta σ H fun x H1 => ∃ a dx fs, x = .ref a ∧ H1 a = some (.ins C dx fs) ∧ fs.lookup m = none ∧ t σ H1 fun vs H2 => sp (x :: vs) H2 Q (E σ)
section
variable {X : Cx} {CX : CXT} {k : Nat} {f C : Addr} {fd : FuncData} {ps : List Str} {sp : Sp} {E : L2.St → XK} {m : Str} {pos apos : Pos} {e o : Expr} {es : List Expr} {ta : TE} {t : TA}
theorem pe_methT {pl : Sem Bool} (he : PE X o ta) (c : Cls X.K C) (hm : Meth X.K C m f) (F : FnOk X.prog X.w X.K X.mg X.base CX k f fd ps sp) (hr : Room k X.A) (hb : Binds X.K fd ps []) (hx : ∀ σ, PassesAt CX X σ (E σ)) (ha : PA X (e :: es) t)
    (hst : starEach (e :: es) X.env = (false, eval e X.env) :: starEach es X.env := by rfl) (hpl : (backTo pos (starEach es X.env)).any (·.1) = false := by rfl)
    (ht : eval (.Call (.Attribute o m apos) (e :: es) [] pos) X.env = (do let ov ← eval o X.env; standAt apos.atName; let (g, first) ← holding [ov] (getMethod ov m pl); callWith pos g first (backTo pos (starEach (e :: es) X.env)) (backToKw pos (keywordEach [] X.env))) := by rfl) :
    PE X (.Call (.Attribute o m apos) (e :: es) [] pos) (tMethT C m sp E ta t) :=
  ⟨fun pins s σ H Q I h => PySem.W.methodCall_KW (pl := pl) (thn (he.run pins s σ H _ I h) fun u s1 ⟨x, H1, I1, rx, a, dx, fs, ex, ea, l, q⟩ => by
    subst ex
    have eu : u = Value.ref a := rx
    subst eu
    exact getmeth_ok I1 ea c hm l (PySem.W.callWith_K (first := [.ref a]) (h₀ := X.base) I.ok.mod.kin hm.kp (thn (ha.run pos pins s1 σ H1 _ I1 q) fun us s2 ⟨vs, H2, I2, r, q2⟩ => ⟨I2.kIn, run_fnS (us := .ref a :: us) (vs := .ref a :: vs) F hr hb (hx σ) I2 (.cons rfl r) q2⟩) hst hpl)) ht⟩
end
end Own

namespace Own
open PySem PySem.Spec L2 PyProof.Rows
/-- x == y, where x's own class says what that is; y is another one of that class, or a text -/
def rOwn (C : Addr) (sp : Sp) (E : XK) : R2 := fun x y H Q => ∃ a dx fs, x = .ref a ∧ H a = some (.ins C dx fs) ∧ ((∃ z, y = .str z) ∨ ∃ b dy gs, y = .ref b ∧ H b = some (.ins C dy gs)) ∧ sp [x, y] H (fun v H' => ∃ b, v = .bl b ∧ Q (.bl b) H') E
theorem looks_text (M : Model) (h : Heap) (z : Str) (t : Tok) : PySem.W.Looks M h (typeOf (.str z t)) (.type "str") := fun _ _ _ _ _ q => wpAny_typeOf (typeIs_str _ _ _) q
section
variable {X : Cx} {CX : CXT} {n : Nat} {f C : Addr} {fd : FuncData} {ps : List Str} {sp : Sp} {E : XK}
theorem op_own (F : FnOk X.prog X.w X.K X.mg X.base CX n f fd ps sp) (hs : PySem.W.findIn X.K (.ref C) "__eq__" = some (some (.ref f))) (hf : PySem.W.isFn X.K (.ref f) = true) (hn : PySem.W.notFirst X.K C (.type "str") = true)
    (hb : Binds X.K fd ps []) (hx : Passes CX X E) (hr : Room n X.A) : OpR X (compareOp .Eq) (rOwn C sp E) := by
  intro pins s σ H x y v u Q I rx ry q
  obtain ⟨a, dx, fs, rfl, ha, hy, q⟩ := q
  have ev : v = .ref a := rx
  subst ev
  obtain ⟨mA, O, _⟩ := ins_get I.hok ha
  obtain ⟨od, J, _⟩ := O.look
  obtain ⟨m, hF⟩ := I.fr
  have l1 := F.len _ _ _ _ q
  have r2 : Vals [V.ref a, y] [Value.ref a, u] := .cons rx (.cons ry .nil)
  have go : wpAny (model X.prog X.w) X.A (call (.ref f) [.ref a, u]) (PySem.W.CmpBack (EP X pins σ Q)) X.xe s := by
    refine wpAny_mono (run_fn F hr hb .nil hx I r2 (by rw [List.append_nil]; exact q)) (fun w s' z => ?_) fun _ _ z => z
    obtain ⟨x', H', I', rz, b, ex, k⟩ := z
    subst ex
    have ew : w = .bool b := rz
    subst ew
    exact ⟨.bl b, H', I', rfl, k⟩
  show wpAny (model X.prog X.w) X.A (richCompare .Eq (.ref a) u) (EP X pins σ Q) X.xe s
  rcases hy with ⟨z, rfl⟩ | ⟨b, dy, gs, rfl, hb'⟩
  · obtain ⟨t, rfl⟩ := ry
    exact PySem.W.cmp_K (op := .Eq) (tb := .type "str") hr.units0 hF I.ok.mod.kin J (looks_text _ _ z t) hn hs hf go
  · have eu : u = .ref b := ry
    subst eu
    obtain ⟨mB, O', _⟩ := ins_get I.hok hb'
    obtain ⟨od', J', _⟩ := O'.look
    exact PySem.W.cmp_K (op := .Eq) (tb := .ref C) hr.units0 hF I.ok.mod.kin J J'.type (by simp [PySem.W.notFirst]) hs hf go
end
end Own

namespace Kx
open PySem L2 Own
abbrev s_Machine___eq__ : Stmt := inClass (top 32) 3
/-! ### rows as data -/
theorem eqv_map {α : Type} [DecidableEq α] (f : α → PyData) : ∀ (xs ys : List α), (∀ x ∈ xs, ∀ y ∈ ys, PyData.eqv (f x) (f y) = decide (x = y)) → PyData.eqvAll (xs.map f) (ys.map f) = decide (xs = ys)
  | [], [], _ => by rw [List.map_nil, PyData.eqvAll]; rfl
  | [], y :: ys, _ => by rw [List.map_cons, List.map_nil, PyData.eqvAll]; rfl
  | x :: xs, [], _ => by rw [List.map_cons, List.map_nil, PyData.eqvAll]; rfl
  | x :: xs, y :: ys, h => by
    rw [List.map_cons, List.map_cons, PyData.eqvAll, h x List.mem_cons_self y List.mem_cons_self, eqv_map f xs ys fun a ha b hb => h a (List.mem_cons_of_mem _ ha) b (List.mem_cons_of_mem _ hb)]
    by_cases e1 : x = y
    · by_cases e2 : xs = ys
      · subst e1 e2; simp
      · simp [e1, e2]
    · simp [e1]
theorem eqv_str (x y : Str) : PyData.eqv (.str x) (.str y) = decide (x = y) := by
  rw [PyData.eqv]
  by_cases e : x = y
  · subst e; simp
  · rw [decide_eq_false e]
    simpa using e
theorem eqv_int (x y : Int) : PyData.eqv (.int x) (.int y) = decide (x = y) := by
  rw [PyData.eqv]
  by_cases e : x = y
  · subst e; simp
  · rw [decide_eq_false e]
    simpa using e
def keysD (ks : List Str) : PyData := .tuple (ks.map .str)
def wayD (w : Way) : PyData := .tuple [.int w.1, keysD w.2]
def rowD (q : List Way) : PyData := .tuple (q.map wayD)
def rowsD (R : List (List Way)) : PyData := .tuple (R.map rowD)
def endsD (Es : List (List Str)) : PyData := .tuple (Es.map keysD)
theorem eqv_keys (a b : List Str) : PyData.eqv (keysD a) (keysD b) = decide (a = b) := by
  unfold keysD
  rw [PyData.eqv]
  exact eqv_map _ _ _ fun x _ y _ => eqv_str x y
theorem eqv_way (a b : Way) : PyData.eqv (wayD a) (wayD b) = decide (a = b) := by
  unfold wayD
  rw [PyData.eqv, PyData.eqvAll, PyData.eqvAll, PyData.eqvAll, eqv_int, eqv_keys]
  by_cases e1 : a.1 = b.1
  · by_cases e2 : a.2 = b.2
    · have e : a = b := Prod.ext e1 e2
      subst e
      simp
    · have e : a ≠ b := fun z => e2 (z ▸ rfl)
      simp [e1, e2, e]
  · have e : a ≠ b := fun z => e1 (z ▸ rfl)
    simp [e1, e]
theorem eqv_row (a b : List Way) : PyData.eqv (rowD a) (rowD b) = decide (a = b) := by
  unfold rowD
  rw [PyData.eqv]
  exact eqv_map _ _ _ fun x _ y _ => eqv_way x y
theorem eqv_rows (a b : List (List Way)) : PyData.eqv (rowsD a) (rowsD b) = decide (a = b) := by
  unfold rowsD
  rw [PyData.eqv]
  exact eqv_map _ _ _ fun x _ y _ => eqv_row x y
theorem eqv_ends (a b : List (List Str)) : PyData.eqv (endsD a) (endsD b) = decide (a = b) := by
  unfold endsD
  rw [PyData.eqv]
  exact eqv_map _ _ _ fun x _ y _ => eqv_keys x y
/-- all keys are texts that can be laid -/
def KOk (R : List (List Way)) (Es : List (List Str)) : Prop := (∀ y ∈ keysOfRows R, PyData.strOk y = true) ∧ ∀ y ∈ Es.flatten, PyData.strOk y = true
theorem sh_keys {ks : List Str} (h : ∀ y ∈ ks, PyData.strOk y = true) : Sh 1 (keysD ks) := Sh.tup fun x hx => by
  obtain ⟨y, hy, rfl⟩ := List.mem_map.mp hx
  exact Sh.str (h y hy)
theorem Sh.up {n : Nat} {d : PyData} (h : Sh n d) : Sh (n + 1) d := ⟨h.1, Nat.le_succ_of_le h.2⟩
theorem sh_way {w : Way} (h : ∀ y ∈ w.2, PyData.strOk y = true) : Sh 2 (wayD w) := Sh.tup fun x hx => by
  simp only [List.mem_cons, List.not_mem_nil, or_false] at hx
  rcases hx with rfl | rfl
  · exact Sh.int _
  · exact sh_keys h
theorem sh_rows {R : List (List Way)} (h : ∀ y ∈ keysOfRows R, PyData.strOk y = true) : Sh 4 (rowsD R) := Sh.tup fun x hx => by
  obtain ⟨q, hq, rfl⟩ := List.mem_map.mp hx
  refine Sh.tup fun x hx => ?_
  obtain ⟨w, hw, rfl⟩ := List.mem_map.mp hx
  exact sh_way fun y hy => h y (List.mem_flatMap.mpr ⟨q, hq, List.mem_flatMap.mpr ⟨w, hw, hy⟩⟩)
theorem sh_ends {Es : List (List Str)} (h : ∀ y ∈ Es.flatten, PyData.strOk y = true) : Sh 2 (endsD Es) := Sh.tup fun x hx => by
  obtain ⟨q, hq, rfl⟩ := List.mem_map.mp hx
  exact sh_keys fun y hy => h y (List.mem_flatten.mpr ⟨q, hq, hy⟩)
theorem dp_strs (K : PySem.W.Frag) (H : Hp) : ∀ ks : List Str, DpAll K H (ks.map V.str) (ks.map PyData.str)
  | [] => .nil
  | k :: ks => .cons (.str k) (dp_strs K H ks)
theorem dp_map {α : Type} {K : PySem.W.Frag} {H : Hp} {F : V → α → Prop} {f : α → PyData} (h : ∀ v a, F v a → Dp K H v (f a)) : ∀ {vs : List V} {as : List α}, Paired F vs as → DpAll K H vs (as.map f)
  | _, _, .nil => .nil
  | _, _, .cons r t => .cons (h _ _ r) (dp_map h t)
theorem dp_keys {K : PySem.W.Frag} {H : Hp} {v : V} {ks : List Str} (h : KeysT H v ks) : Dp K H v (keysD ks) := by
  obtain ⟨a, rfl, h⟩ := h
  exact .tup (SqT.of h) (dp_strs K H ks)
theorem dp_way {K : PySem.W.Frag} {H : Hp} {v : V} {w : Way} (h : WayT H v w) : Dp K H v (wayD w) := by
  obtain ⟨a, kv, rfl, h, k⟩ := h
  exact .tup (SqT.of h) (.cons (.int _) (.cons (dp_keys k) .nil))
theorem dp_row {K : PySem.W.Frag} {H : Hp} {v : V} {q : List Way} (h : RowT H v q) : Dp K H v (rowD q) := by
  obtain ⟨a, vs, rfl, h, k⟩ := h
  exact .tup (SqT.of h) (dp_map (fun _ _ z => dp_way z) k)
section
variable {P : Program} {w : World} {K : PySem.W.Frag} {mg : Str → Option Value} {base : Heap} {A : EAd} {B : MAd} {Z : CAd} {S : SAd}
structure TxtQ (K : PySem.W.Frag) (mg : Str → Option Value) (Z : CAd) (f : Addr) (d : FuncData) : Prop where
  s : PySem.W.findIn K (.ref Z.C) "__eq__" = some (some (.ref f))
  i : PySem.W.isFn K (.ref f) = true
  n : PySem.W.notFirst K Z.C (.type "str") = true
  F : Fun K "__eq__" "Machine.__eq__" s_Machine___eq__ f d
  b : Binds K d ["self", "other"] []
  ha : PySem.W.findIn K (.ref Z.C) "__class__" = some (some (.builtin "object.__class__"))
  hn : PySem.W.specialIn K (.builtin "object.__class__") "__get__" = some (some (.builtin "getset_descriptor.__get__"))
  ht : PySem.W.takesIn K (.builtin "object.__class__") = some true
  hm : PySem.W.mroIn K Z.C (.type "object") = some true
  k0 : PySem.W.kitOne K (.type "str") (.ref Z.C) = some false
/-- self == other -/
def spMEq (Z : CAd) : Sp := fun vs H Q _ => ∃ (a : Addr) (sg : Str) (R : List (List Way)) (Es : List (List Str)), MachAt Z.C H a sg R Es ∧ KOk R Es ∧
  ((∃ z, vs = [.ref a, .str z] ∧ ∀ H', Same H H' → Q (.bl false) H') ∨
    ∃ (b : Addr) (sg' : Str) (R' : List (List Way)) (Es' : List (List Str)), vs = [.ref a, .ref b] ∧ MachAt Z.C H b sg' R' Es' ∧ KOk R' Es' ∧ ∀ H', Same H H' → Q (.bl (decide (sg = sg' ∧ R = R' ∧ Es = Es'))) H')
theorem sc_eq : FnScope ["self", "other"] ["self", "other"] (defScope s_Machine___eq__) := ⟨rfl, rfl, rfl, by decide +kernel, rfl, by decide +kernel, by decide +kernel⟩
theorem ok_eq (T : TxtM K mg B) (TC : TxtC K mg Z) {f : Addr} {d : FuncData} (TQ : TxtQ K mg Z f d) : FnOk P w K mg base CX0 1 f d ["self", "other"] (spMEq Z) := by
  have sc := sc_eq
  refine TQ.F.ok sc (fun vs H Q E h => ?_) (fun cdv A1 outer s H vs Q E hr h => ?_)
  · obtain ⟨_, _, _, _, _, _, h⟩ := h
    rcases h with ⟨_, rfl, _⟩ | ⟨_, _, _, _, rfl, _⟩
    · rfl
    · rfl
  · obtain ⟨a, sg, R, Es, hm, ok, h⟩ := h
    have hm' := hm
    obtain ⟨dx, r, e, k, w5, rv, ev, wv, hm0, hr0, pr, he0, pe, hk0, hw0, pw⟩ := hm'
    obtain ⟨y, ey⟩ : ∃ y, vs = [.ref a, y] := by
      rcases h with ⟨z, rfl, _⟩ | ⟨b, _, _, _, rfl, _⟩
      · exact ⟨_, rfl⟩
      · exact ⟨_, rfl⟩
    refine ⟨_, pss_one (ps_ret (pe_and (pe_callB call_isi (by rfl) T.n_isinstance (by decide +kernel) (pa_cons (pv 1) (pa_cons (pe_glob (v := .ref Z.C) rfl TC.g rfl) pa_nil)))
      (pe_and (pe_cmpR op_eq (pe_fld (pv 0) rfl) (pe_fld (pv 1) rfl) (nomark _))
      (pe_and (pe_cmpR (op_eqD hr.units) (pe_fld (pv 0) rfl) (pe_fld (pv 1) rfl) (nomark _))
      (pe_one (pe_cmpR (op_eqD hr.units) (pe_fld (pv 0) rfl) (pe_fld (pv 1) rfl) (nomark _))))))), ?_⟩
    rcases h with ⟨z, rfl, q⟩ | ⟨b, sg', R', Es', rfl, hb, ok', q⟩
    · refine ⟨_, rfl, _, _, _, _, false, rfl, ClsV.own _, .base (.str z), TQ.k0, false, rfl, ?_⟩
      exact q H (Same.refl _)
    · have hb' := hb
      obtain ⟨dx', r', e', k', w5', rv', ev', wv', hm0', hr0', pr', he0', pe', hk0', hw0', pw'⟩ := hb'
      refine ⟨_, rfl, _, _, _, _, true, rfl, ClsV.own _, .base (.ins hm0' TC.cl TQ.ha TQ.hn TQ.ht TQ.hm), ?_, true, rfl, ?_⟩
      · unfold PySem.W.kitOne
        rw [if_pos (by simp)]
      rw [if_pos rfl]
      refine ⟨_, rfl, a, Z.C, dx, _, _, rfl, hm0, TC.cl, TC.a1, rfl, _, rfl, b, Z.C, dx', _, _, rfl, hm0', TC.cl, TC.a1, rfl, rfl, _, rfl, ?_⟩
      have q := q H (Same.refl _)
      by_cases c1 : sg = sg'
      · have v1 : V.str sg = V.str sg' := congrArg V.str c1
        refine ifT v1 ?_
        refine ⟨_, rfl, a, Z.C, dx, _, _, rfl, hm0, TC.cl, TC.a2, rfl, _, rfl, b, Z.C, dx', _, _, rfl, hm0', TC.cl, TC.a2, rfl, rowsD R, rowsD R', .tup (SqT.of hr0) (dp_map (fun _ _ z => dp_row z) pr), .tup (SqT.of hr0') (dp_map (fun _ _ z => dp_row z) pr'), (sh_rows ok.1).ok (by decide), (sh_rows ok'.1).ok (by decide), _, rfl, ?_⟩
        rw [eqv_rows]
        by_cases c2 : R = R'
        · refine ifT c2 ?_
          refine ⟨_, rfl, a, Z.C, dx, _, _, rfl, hm0, TC.cl, TC.a3, rfl, _, rfl, b, Z.C, dx', _, _, rfl, hm0', TC.cl, TC.a3, rfl, endsD Es, endsD Es', .tup (SqT.of he0) (dp_map (fun _ _ z => dp_keys z) pe), .tup (SqT.of he0') (dp_map (fun _ _ z => dp_keys z) pe'), (sh_ends ok.2).ok (by decide), (sh_ends ok'.2).ok (by decide), ?_⟩
          rw [eqv_ends]
          have e : decide (sg = sg' ∧ R = R' ∧ Es = Es') = decide (Es = Es') := by simp [c1, c2]
          rw [e] at q
          exact q
        · refine ifF c2 ?_
          rw [decide_eq_false fun z => c2 z.2.1] at q
          exact q
      · have v1 : ¬ V.str sg = V.str sg' := fun z => c1 (by injection z)
        refine ifF v1 ?_
        rw [decide_eq_false fun z => c1 z.1] at q
        exact q
end
end Kx


namespace Kx
open PySem L2 Own
abbrev s_same_signs : Stmt := top 10
structure TxtSm (K : PySem.W.Frag) (mg : Str → Option Value) (f : Addr) (d : FuncData) : Prop where
  D_same_signs : DefT K mg "same_signs" "same_signs" s_same_signs ["one", "other"] f d
  n_sorted : mg "sorted" = none
theorem letters_perm {a b : Str} : (letters a).Perm (letters b) ↔ a.cps.toList.Perm b.cps.toList := by
  unfold letters
  constructor
  · intro h
    have e : ∀ l : List Nat, (l.map Froz.sing).map (fun s : Str => s.cps.toList.headD 0) = l := fun l => by
      rw [List.map_map]
      exact (List.map_congr_left (g := id) fun x _ => rfl).trans (List.map_id l)
    have := h.map fun s : Str => s.cps.toList.headD 0
    rw [e, e] at this
    exact this
  · exact fun h => h.map _
theorem eqv_list (a b : List Str) : PyData.eqv (.list (a.map PyData.str)) (.list (b.map PyData.str)) = decide (a = b) := by
  rw [PyData.eqv]
  exact eqv_map _ _ _ fun x _ y _ => eqv_str x y
theorem low_ok : ∀ c : Nat, c < 128 → PyData.strOk (Froz.sing c) = true := by decide +kernel
theorem ok_low {z : Str} (h : ∀ c ∈ TL.tl z, c < 128) : PyData.strOk z = true := by
  unfold PyData.strOk
  rw [← Array.all_toList, List.all_eq_true]
  intro c hc
  have h1 := low_ok c (h c hc)
  unfold PyData.strOk at h1
  rw [← Array.all_toList, List.all_eq_true] at h1
  exact h1 c List.mem_cons_self
section
variable {P : Program} {w : World} {K : PySem.W.Frag} {mg : Str → Option Value} {base : Heap} {f : Addr} {d : FuncData}
def spSame : Sp := fun vs H Q _ => ∃ a b : Str, vs = [.str a, .str b] ∧ a.cps.size ≤ 1000 ∧ b.cps.size ≤ 1000 ∧ (∀ c ∈ a.cps.toList, c < 128) ∧ (∀ c ∈ b.cps.toList, c < 128) ∧ ∀ H', Same H H' → Q (.bl (decide (a.cps.toList.Perm b.cps.toList))) H'
theorem sc_same : FnScope ["one", "other"] ["one", "other"] (defScope s_same_signs) := ⟨rfl, rfl, rfl, by decide +kernel, rfl, by decide +kernel, by decide +kernel⟩
theorem ok_same (T : TxtSm K mg f d) : FnOk P w K mg base CX0 1 f d ["one", "other"] spSame := by
  have sc := sc_same
  refine T.D_same_signs.F.ok sc (fun vs H Q E h => ?_) (fun cdv A1 outer s H vs Q E hr h => ?_)
  · obtain ⟨_, _, rfl, _⟩ := h; rfl
  · obtain ⟨a, b, rfl, la, lb, lowa, lowb, k⟩ := h
    refine ⟨_, (pss_one (ps_ret (pe_cmpR (op_eqD hr.units) (pe_callB (cr_sortX rfl) (by rfl) T.n_sorted (by decide +kernel) (pa_cons (pv 0) pa_nil)) (pe_callB (cr_sortX rfl) (by rfl) T.n_sorted (by decide +kernel) (pa_cons (pv 1) pa_nil)) (nomark _)))), ?_⟩
    refine ⟨_, rfl, a, rfl, by rw [sizeLine_eq]; omega, fun p xs hp px sx => ?_⟩
    refine ⟨_, rfl, b, rfl, by rw [sizeLine_eq]; omega, fun q ys hq py sy => ?_⟩
    have hx : (upd (upd H p (.lst (xs.map V.str))) q (.lst (ys.map V.str))) p = some (.lst (xs.map V.str)) := Same.upd hq _ _ upd_same
    have ok : ∀ {z : Str} {l : List Str}, l.Perm (letters z) → (∀ c ∈ z.cps.toList, c < 128) → Sh 1 (.list (l.map PyData.str)) := fun {z l} pm low => Sh.list (n := 0) fun x hx => by
      obtain ⟨y, hy, rfl⟩ := List.mem_map.mp hx
      obtain ⟨c, hc, rfl⟩ := List.mem_map.mp (pm.mem_iff.mp hy)
      refine Sh.str (ok_low fun e he => ?_)
      rw [List.mem_singleton.mp (show e ∈ [c] from he)]
      exact low c hc
    refine ⟨.list (xs.map PyData.str), .list (ys.map PyData.str), .lst (SqL.of hx) (dp_strs _ _ _), .lst (SqL.of upd_same) (dp_strs _ _ _), (ok px lowa).ok (by decide), (ok py lowb).ok (by decide), ?_⟩
    rw [eqv_list]
    have e : decide (xs = ys) = decide (a.cps.toList.Perm b.cps.toList) := by
      rw [decide_eq_decide, ← letters_perm]
      constructor
      · rintro rfl
        exact px.symm.trans py
      · intro h
        exact same_sorted xs ys (px.trans (h.trans py.symm)) (pair_sorted sx) (pair_sorted sy)
    rw [e]
    exact k _ fun b o z => Same.upd hq _ _ (Same.upd hp _ _ z)
end
end Kx

/-! lambdas with parameters: known objects, their promise; the key of min -/
namespace PinX
open PySem PySem.Spec PyProof.Rows L2 LamX NdefX
/-- the object at f is the lambda with the words of F and the body e -/
def LamO (f : Addr) (F : NF) (e : Expr) : HO := .ext fun h => ∃ pm ctv : Value, h.get? f = some (PySem.W.kla_obj "<lambda>" F.qual F.params e F.scope F.cl pm F.c ctv)
theorem lamO_ne {f : Addr} {F : NF} {e : Expr} (ps : Array Value) : LamO f F e ≠ .tbl ps := fun z => HO.noConfusion z
theorem lamO_at {P : Program} {w : World} {H : Hp} {h : Heap} {f : Addr} {F : NF} {e : Expr} (k : HOk P w H h) (z : H f = some (LamO f F e)) : ∃ pm ctv : Value, h.get? f = some (PySem.W.kla_obj "<lambda>" F.qual F.params e F.scope F.cl pm F.c ctv) := (k f _ z).1
/-- a table with one row more -/
theorem tabs_more {T : List NTab} {nm : Nat → Nat → Str} {Pt c' : Addr} {pos : Pos} {ps : Array Value} {H H' : Hp} (t : TabsN T H) (e : H Pt = some (.tbl ps)) (hu : ∀ p ∈ T, p.1 = Pt → p.2 = nm) (x : ExtN H H') (ok : TriplesOk ps.toList)
    (was : ∀ (pos : Pos) (cv : Value), codeAmong pos ps.toList = some cv → ∃ c, cv = .ref c ∧ H c = some (CodeO c (nm pos.line pos.col)))
    (now : H' Pt = some (.tbl (ps ++ #[rawInt pos.line, rawInt pos.col, .ref c']))) (new : H' c' = some (CodeO c' (nm pos.line pos.col))) (oth : ∀ b, b ≠ Pt → ∀ qs, H b = some (.tbl qs) → H' b = some (.tbl qs)) : TabsN T H' := by
  have el : (ps ++ #[rawInt pos.line, rawInt pos.col, .ref c']).toList = ps.toList ++ [rawInt pos.line, rawInt pos.col, .ref c'] := by simp
  intro p hp
  by_cases hb : p.1 = Pt
  · refine ⟨_, hb ▸ now, el ▸ PySem.TriplesOk_snoc _ _ _ _ ok, fun q cv hq => ?_⟩
    rw [hu p hp hb]
    rcases among_app2 _ ok (el ▸ hq) with z | ⟨z, l1, l2⟩
    · obtain ⟨d, d1, d2⟩ := was q cv z
      exact ⟨d, d1, x _ _ d2 codeO_ne⟩
    · rw [← l1, ← l2]
      exact ⟨c', z, new⟩
  · obtain ⟨qs, a1, a2, a3⟩ := t p hp
    refine ⟨qs, oth _ hb _ a1, a2, fun q cv hq => ?_⟩
    obtain ⟨d, d1, d2⟩ := a3 q cv hq
    exact ⟨d, d1, x _ _ d2 codeO_ne⟩
section
variable {X : Cx} {pins : List (Addr × Obj)} {σ : L2.St} {H : Hp} {s : Shared}
/-- a lambda just laid is known from now on -/
theorem inv_lam {F : NF} {e : Expr} {h' : Heap} {tk : Nat} {pm ctv : Value} (I : Inv X pins σ H { s with heap := h', toks := tk }) :
    Inv X pins σ (upd H h'.objs.size (LamO h'.objs.size F e)) { s with heap := h'.push (PySem.W.kla_obj "<lambda>" F.qual F.params e F.scope F.cl pm F.c ctv), toks := tk } := by
  have g : (h'.push (PySem.W.kla_obj "<lambda>" F.qual F.params e F.scope F.cl pm F.c ctv)).get? h'.objs.size = some (PySem.W.kla_obj "<lambda>" F.qual F.params e F.scope F.cl pm F.c ctv) := Heap.get?_push_size _ rfl
  exact I.laid (a := h'.objs.size) (fun b u z => Heap.get?_push_of_some _ z) (Nat.le_refl _) ⟨⟨pm, ctv, g⟩, ⟨_, g⟩, fun _ _ ⟨a, b, z⟩ st => ⟨a, b, st _ z⟩⟩
/-- «lambda ..: e» is made -/
theorem lam_made {T : List NTab} {nm : Nat → Nat → Str} {c Pt : Addr} {params : Arguments} {body : Expr} {scope : Scope} {pos : Pos} {E : Value → Shared → Prop} {Q : Value → Shared → Prop} (I : Inv X pins σ H s) (TB : TabB X.base X.mg c Pt) (hc : X.env.code = .ref c) (hm : (Pt, nm) ∈ T)
    (hn : nm pos.line pos.col = X.env.qual ++ "<lambda>") (hu : ∀ p ∈ T, p.1 = Pt → p.2 = nm) (hT : TabsN T H) (hdef : defaultsOf params X.env = ([], [])) (hfree : ∀ y ∈ scope.names, y.2 = .free → ∃ c, X.env.cells.lookup y.1 = some c)
    (h : ∀ (f c' : Addr) (H1 : Hp) (s' : Shared), Inv X pins σ H1 s' → ExtN H H1 → (∀ b, H1 b = Option.none → H b = Option.none) → TabsN T H1 → H f = none → H1 f = some (LamO f ⟨"<lambda>", X.env.qual ++ "<lambda>", params, [], scope, cloFrom X.env.cells scope.names [], c'⟩ body) → H1 c' = some (CodeO c' (X.env.qual ++ "<lambda>")) → Q (.ref f) s') :
    wpAny (model X.prog X.w) X.A (eval (.Lambda params body scope pos) X.env) Q E s := by
  obtain ⟨ps, tP, ok, was⟩ := (show TabN H Pt nm from hT _ hm)
  have oP : s.heap.get? Pt = some { cls := .none, data := .fields ps } := I.hok Pt _ tP
  refine PySem.W.kla_eval hdef ?_
  cases look : codeAmong pos ps.toList with
  | some cv =>
    obtain ⟨c', rfl, was'⟩ := was pos cv look
    rw [hn] at was'
    refine PySem.W.kla_makeFunctionHit (mg := X.mg) (c := c) (P := Pt) (ps := ps) (closure_ok hfree) I.ok.glob (I.mod.glob.keeps I.bk) hc (TB.code.keeps I.bk) oP ok look (TB.bm.keeps I.bk) fun ctv h' tk kp sz => ?_
    have J : Inv X pins σ H { s with heap := h', toks := tk } := I.kept kp
    have nf : H h'.objs.size = none := J.hok.fresh (Nat.le_refl _)
    refine h _ c' _ _ (inv_lam (F := ⟨"<lambda>", X.env.qual ++ "<lambda>", params, [], scope, cloFrom X.env.cells scope.names [], c'⟩) (e := body) (pm := (X.mg "__name__").getD .none) (ctv := ctv) J) ?_ (fun b z => upd_none z) (hT.ext ?_) nf upd_same ((upd_ne (ne_of_none was' nf)).trans was')
    · exact fun b o z _ => (upd_ne (ne_of_none z nf)).trans z
    · exact fun b o z => (upd_ne (ne_of_none z nf)).trans z
  | none =>
    refine PySem.W.kla_makeFunction (mg := X.mg) (c := c) (P := Pt) (ps := ps) (closure_ok hfree) I.ok.glob (I.mod.glob.keeps I.bk) hc (TB.code.keeps I.bk) oP ok look TB.gP (TB.bm.keeps I.bk) fun c' ctv h' tk kp ge lt ⟨c2, oc, vs, t, e2, hoc, hd, hv⟩ htb => ?_
    cases e2
    have nc : H c' = none := I.hok.fresh ge
    have J := inv_table (t' := tk) (more := #[rawInt pos.line, rawInt pos.col, .ref c']) (h' := h') I tP kp htb ge ⟨oc, vs, t, hoc, hd, hv⟩
    have x0 : ExtN H (upd (upd H Pt (.tbl (ps ++ #[rawInt pos.line, rawInt pos.col, .ref c']))) c' (CodeO c' (X.env.qual ++ "<lambda>"))) := fun b o z nt => by
      have n1 : b ≠ Pt := fun y => nt ps (by rw [y, tP] at z; exact (Option.some.inj z).symm)
      exact ((upd_ne (ne_of_none z nc)).trans (upd_ne n1)).trans z
    have nf := J.hok.fresh (Nat.le_refl h'.objs.size)
    have ncf : c' ≠ h'.objs.size := Nat.ne_of_lt lt
    have put : ∀ b o, upd (upd H Pt (.tbl (ps ++ #[rawInt pos.line, rawInt pos.col, .ref c']))) c' (CodeO c' (X.env.qual ++ "<lambda>")) b = some o → upd (upd (upd H Pt (.tbl (ps ++ #[rawInt pos.line, rawInt pos.col, .ref c']))) c' (CodeO c' (X.env.qual ++ "<lambda>"))) h'.objs.size (LamO h'.objs.size ⟨"<lambda>", X.env.qual ++ "<lambda>", params, [], scope, cloFrom X.env.cells scope.names [], c'⟩ body) b = some o := fun b o z => (upd_ne (ne_of_none z nf)).trans z
    refine h _ c' _ _ (inv_lam (F := ⟨"<lambda>", X.env.qual ++ "<lambda>", params, [], scope, cloFrom X.env.cells scope.names [], c'⟩) (e := body) (pm := (X.mg "__name__").getD .none) (ctv := ctv) J) (fun b o z nt => put _ _ (x0 b o z nt)) (fun b z => upd_none (upd_none (upd_none z))) (TabsN.ext ?_ put) (I.hok.fresh (Nat.le_trans ge (Nat.le_of_lt lt))) upd_same (put _ _ upd_same)
    refine tabs_more (pos := pos) (c' := c') hT tP hu x0 ok was (by rw [upd_ne (ne_of_none tP nc), upd_same]) (by rw [hn, upd_same]) fun b nb qs z => ?_
    exact ((upd_ne (ne_of_none z nc)).trans (upd_ne nb)).trans z
end
/-- the reading of a lambda -/
def tLamE (T : List NTab) (mk : Addr → NF) (body : Expr) : TE := fun σ H Q => TabsN T H ∧ ∀ (f c' : Addr) (H1 : Hp), ExtN H H1 → (∀ b, H1 b = Option.none → H b = Option.none) → TabsN T H1 → H f = none → H1 f = some (LamO f (mk c') body) → H1 (mk c').c = some (CodeO (mk c').c (mk c').qual) → Q (.ref f) H1
theorem pe_lam {X : Cx} {T : List NTab} {nm : Nat → Nat → Str} {c Pt : Addr} {params : Arguments} {body : Expr} {scope : Scope} {pos : Pos} (TB : TabB X.base X.mg c Pt) (hc : X.env.code = .ref c) (hm : (Pt, nm) ∈ T) (hn : nm pos.line pos.col = X.env.qual ++ "<lambda>") (hu : ∀ p ∈ T, p.1 = Pt → p.2 = nm)
    (hfree : ∀ y ∈ scope.names, y.2 = .free → X.env.scope.names.lookup y.1 = some .cell ∨ X.env.scope.names.lookup y.1 = some .free) (hdef : defaultsOf params X.env = ([], [])) :
    PE X (.Lambda params body scope pos) (tLamE T (fun c' => ⟨"<lambda>", X.env.qual ++ "<lambda>", params, [], scope, cloFrom X.env.cells scope.names [], c'⟩) body) :=
  ⟨fun pins s σ H Q I ⟨hT, h⟩ => lam_made I TB hc hm hn hu hT hdef (fun y hy e => (hfree y hy e).elim (fun z => I.ok.has _ (.inl z)) fun z => I.ok.has _ (.inr z)) fun f c' H1 s' J x nn T1 f0 f1 c1 => ⟨.ref f, H1, J, rfl, h f c' H1 x nn T1 f0 f1 c1⟩⟩
/-! ### its promise -/
structure LOk (P : Program) (w : World) (K : PySem.W.Frag) (mg : Str → Option Value) (base : Heap) (CX : CXT) (k : Nat) (f : Addr) (F : NF) (e : Expr) (ps fr : List Str) (sp : List (Option V) → Sp) : Prop where
  len : ∀ ws vs H Q E, sp ws vs H Q E → vs.length = ps.length
  run : ∀ (A : Around) (outer : List Env) (s : Shared) (H : Hp) (us : List Value) (vs : List V) (ws : List (Option V)) (Q : VK) (E : XK), Room k A → Env0 P w K mg base A outer s H → H f = some (LamO f F e) → H F.c = some (CodeO F.c F.qual) →
    CellsAt F.cl fr ws s.heap H → Vals vs us → sp ws vs H Q E → codeAny (model P w) A (.call (.ref f) ⟨us, []⟩) (CR CX outer P w H s Q E) s
theorem lok_of {CX : CXT} {P : Program} {w : World} {K : PySem.W.Frag} {mg : Str → Option Value} {base : Heap} {N ps fr : List Str} {F : NF} {f : Addr} {e : Expr} {k : Nat} {sp : List (Option V) → Sp} (S : NScope N ps fr F.scope)
    (hb : ∀ (pm ctv : Value) (us : List Value), us.length = ps.length → bindArgs (PySem.W.kla_fn "<lambda>" F.qual F.params e F.scope F.cl pm (.ref F.c) ctv) ⟨us, []⟩ = pure (ps.zip us)) (len : ∀ ws vs H Q E, sp ws vs H Q E → vs.length = ps.length)
    (hbody : ∀ (A : Around) (outer : List Env) (s : Shared) (H : Hp) (vs : List V) (ws : List (Option V)) (Q : VK) (E : XK), Room k (A.deeper (envF F f s.heap.objs.size)) → ws.length = fr.length → sp ws vs H Q E →
      ∃ t, PE (ncx CX P w K mg base N F f A outer s H E) e t ∧ t (startF N vs ws) H Q) : LOk P w K mg base CX (k + 1) f F e ps fr sp := by
  refine ⟨len, fun A outer s H us vs ws Q E hr e0 hf hc C r q => ?_⟩
  have lv := len _ _ _ _ _ q
  obtain ⟨pm, ctv, ho⟩ := lamO_at e0.hok hf
  refine PySem.W.kla_callFunE hr.depth ho rfl S.co S.gen rfl (codeO_at e0.hok hc) ?_
  rw [hb pm ctv us (r.length ▸ lv)]
  have lim : s.heap.NoLimit := e0.mod.nolimit.keeps fun b o z => (e0.bs b o z).1
  refine wpAny_pure (wpAny_newFunctionEnv S.nocell (fun ⟨n, _⟩ hy => S.par n (List.of_mem_zip hy).1) (fun h₁ hns new => ⟨lim.fresh _ new, ?_⟩) S.kind)
  have kp : ∀ b o, s.heap.get? b = some o → h₁.get? b = some o := fun b o z => new.extBut b o (Nat.ne_of_lt (Heap.lt_size z)) (Heap.get?_push_of_some _ z)
  obtain ⟨t, ht, hq⟩ := hbody A outer s H vs ws Q E (hr.deeper _) C.len q
  have I := inv_startN (CX := CX) (f := f) (E := E) (tk := s.toks + (ps.zip us).length) S hr.hd e0 lv r C hns kp
  show codeAny _ _ (.expr e (envF F f s.heap.objs.size)) _ _
  refine PySem.W.kla_codeExpr (wpAny_mono (ht.run [] _ _ H _ I hq) (fun u s' z => ?_) fun _ _ z => z)
  obtain ⟨v, H', J, rv, q⟩ := z
  exact ⟨v, H', J.os, J.bare, J.base, J.hok, rv, q⟩
end PinX

/-! min(xs, key=lambda x: ..) where the keys are lists of numbers -/
namespace PinX
open PySem PySem.Spec PyProof.Rows L2 LamX NdefX
/-- the lists' order -/
def ltK (ks : List (List Int)) (i j : Nat) : Bool := PySem.W.DatumOrd.lt (ks.getD i []) (ks.getD j [])
theorem reads_ints {h : Heap} : ∀ {ns : List Int} {its : List Value}, Vals (ns.map V.int) its → ∃ as, ReadsAll h its (ns.map PySem.W.Datum.toD) as
  | [], _, .nil => ⟨[], .nil⟩
  | n :: ns, _, .cons (b := u) r rs => by
    obtain ⟨as, z⟩ := reads_ints (h := h) rs
    obtain ⟨t, rfl⟩ : ∃ t, u = Value.int n t := r
    exact ⟨_, .cons (.int n t) z⟩
/-- a list that is walked while functions are called -/
theorem walksV {prog : Program} {w : World} {A : Around} {l I : Addr} {xs : List V} (hh : A.handled = none) (nl : l ≠ I) :
    WalksS prog w A I [I, l] [I] (fun a b => b = a) xs.length (fun i v => ∃ x, xs[i]? = some x ∧ RelV x v) (fun i s => s.heap.IsListIter I l i ∧ ∃ its : List Value, s.heap.IsList l its.toArray ∧ Vals xs its) := by
  have lone : ∀ its : List Value, Vals xs its → its.toArray.size = xs.length := fun its r => by rw [List.size_toArray]; exact r.length.symm
  refine ⟨fun b hb => ?_, fun _ => rfl, fun _ _ _ a b => b.trans a, fun i s h' tk ⟨h1, its, h2, r⟩ _ kp => ?_, fun i s Q E hi ⟨h1, its, h2, r⟩ hQ => ?_, fun s Q E ⟨h1, its, h2, r⟩ hQ => ?_, fun i s Q E ⟨h1, its, h2, r⟩ hQ => ?_⟩
  · rw [List.mem_singleton.mp hb]; exact List.mem_cons_self
  · obtain ⟨h1', h2'⟩ := (Walks.list (prog := prog) (w := w) hh I l nl its.toArray).toS.frame i s h' s.toks ⟨h1, h2⟩ (Nat.le_refl _) kp
    exact ⟨h1', its, h2', r⟩
  · refine (Walks.list (prog := prog) (w := w) hh I l nl its.toArray).toS.item i s Q E (by rw [lone _ r]; exact hi) ⟨h1, h2⟩ fun v s' hv ⟨a, b⟩ m => hQ v s' ?_ ⟨a, its, b, r⟩ m
    have hv' : its[i]? = some v := by simpa using hv
    obtain ⟨u, hu, rr⟩ := r.get (i := i) (x := xs[i]) (by simp [hi])
    rw [hv'] at hu
    cases hu
    exact ⟨xs[i], by simp [hi], rr⟩
  · have e := lone _ r
    exact (Walks.list (prog := prog) (w := w) hh I l nl its.toArray).toS.done s Q E (by rw [e]; exact ⟨h1, h2⟩) hQ
  · exact (Walks.list (prog := prog) (w := w) hh I l nl its.toArray).toS.self i s Q E ⟨h1, h2⟩ hQ
section
variable {X : Cx} {pins : List (Addr × Obj)} {σ : L2.St} {H : Hp} {s s' : Shared}
/-- two records of ours have turned -/
theorem inv_moved {b1 b2 : Addr} (I : Inv X pins σ H s) (h1 : FpOk X pins H b1) (h2 : FpOk X pins H b2) (m : Moved [b1, b2] (fun a b => b = a) s s') : Inv X pins σ H s' := by
  have two : ∀ b ∈ [b1, b2], FpOk X pins H b := fun b hb => by
    rcases List.mem_cons.mp hb with rfl | hb
    · exact h1
    · rw [List.mem_singleton.mp hb]; exact h2
  have nin : ∀ b o, H b = some o → b ∉ [b1, b2] := fun b o z hb => by rw [(two b hb).1] at z; cases z
  obtain ⟨mh, mg, md, mo, mt⟩ := m
  obtain ⟨hp, g, d, t, os⟩ := s'
  cases mo
  cases mg
  cases md
  refine I.step (g' := s.gens) (d' := s.drawn) (t' := t) (ch := [b1, b2]) (fun b hb => ⟨(two b hb).2.2.2.1, (two b hb).2.1, (two b hb).2.2.2.2.1, (two b hb).2.2.2.2.2⟩) (fun b o _ _ nb z _ => mh b o nb z) (fun b o _ _ nb z _ => ⟨o.slots, mh b o nb z⟩) (fun _ _ _ _ n => n) (fun b o nb z => ⟨o, mh b o nb z⟩) (fun _ _ z => z) (fun _ _ _ z => z) (fun b ps z => ⟨#[], by simpa using z⟩) (fun mm ⟨o, es, ep, ho, r⟩ => ⟨o, es, ep, mh _ _ (fun hb => (two _ hb).2.1 rfl) ho, r⟩) (fun b u z => ?_) I.bare
  refine (I.hok b u z).stay (fun c v hc q => mh c v ?_ q) (fun _ q => q) fun _ _ q => q
  rcases hc with rfl | q'
  · exact nin _ _ z
  · exact nin _ _ q'
/-- the new list at a is forgotten -/
theorem inv_forget {a : Addr} {ys : List V} (I : Inv X pins σ H s) (ho : s'.os = s.os) (hb : AllBare s'.gens) (na : H a = none) (un : Un (frs X.stack) [] H (upd H a (.lst ys)) s.heap s'.heap) (hok : HOk X.prog X.w (upd H a (.lst ys)) s'.heap) : Inv X pins σ H s' := by
  refine I.call' (ch := []) ho ⟨un.keep, un.slot, fun _ _ _ n _ => n, un.there, fun _ _ z => z, fun _ _ _ z => z, fun b ps z => ⟨#[], by simpa using z⟩⟩ (fun b o z => ?_) hb fun b z => absurd z (by simp)
  refine (hok b o (by rw [upd_ne (ne_of_none z na)]; exact z)).stay (fun _ _ _ q => q) (fun c q => ?_) fun c xs q => ?_
  · by_cases e : c = a
    · rw [e, upd_same] at q; cases q
    · rw [upd_ne e] at q; exact q
  · by_cases e : c = a
    · rw [e, upd_same] at q; cases q
    · rw [upd_ne e] at q; exact q
/-- a told list of numbers, untracked -/
def KeyAt (X : Cx) (H : Hp) (ns : List Int) (k : Value) (s : Shared) : Prop := ∃ (a : Addr) (its : List Value) (n : Nat), k = .ref a ∧ s.heap.get? a = some { cls := .type "list", data := .seq its.toArray n } ∧ Vals (ns.map V.int) its ∧ H a = none ∧ a ∉ frs X.stack
theorem KeyAt.holds {ns : List Int} {k : Value} (h : KeyAt X H ns k s) : PySem.W.Holds s.heap k ns := by
  obtain ⟨a, its, n, rfl, ho, r, _⟩ := h
  obtain ⟨as, z⟩ := reads_ints (h := s.heap) r
  exact ⟨_, .list ho rfl rfl (by simpa using z)⟩
end
/-- the key's lambda at f, and what it tells of each item -/
def tMinL (X : Cx) (k : Nat) (F : Addr → NF) (e : Expr) (ps fr : List Str) (js : List Nat) (sp : List (Option V) → Sp) (t tk : TA) : TE := fun σ H Q => t σ H fun vs H1 => tk σ H1 fun zs H2 => ∃ (l f c' : Addr) (xs : List V) (ks : List (List Int)), vs = [.ref l] ∧ zs = [.ref f] ∧ SqL X.K H2 l xs ∧ 0 < xs.length ∧
  H2 f = some (LamO f (F c') e) ∧ H2 (F c').c = some (CodeO (F c').c (F c').qual) ∧
  (∀ i x, xs[i]? = some x → sp (js.map (slotAt σ)) [x] H2 (fun v H' => ∃ a, v = .ref a ∧ H2 a = none ∧ H' = upd H2 a (.lst ((ks.getD i []).map V.int))) E0) ∧
  ∀ x, xs[PySem.argBest (ltK ks) (xs.length - 1)]? = some x → Q x H2
section
variable {X : Cx} {k : Nat} {F : Addr → NF} {b : Expr} {ps fr : List Str} {js : List Nat} {cl : List (Str × Addr)} {sp : List (Option V) → Sp} {x : Str} {p pos : Pos} {e : Expr} {es : List Expr} {kws : List Keyword} {t tk : TA}
theorem pe_minL (L : ∀ f c', LOk X.prog X.w X.K X.mg X.base CX0 k f (F c') b ps fr sp) (hcl : ∀ c', (F c').cl = cl) (cp : X.Ok → Caps X cl fr js) (hr : Room (k + 1) X.A) (hg : Gl X x) (hm : X.mg x = none) (hv : bootBuiltins x = some (.builtin "min")) (ha : PA X (e :: es) t) (hk : PK X kws tk)
    (hn : x ≠ "__name__" := by decide) (hdb : (x == ("__debug__" : Str)) = false := by decide)
    (he : backTo pos (starEach (e :: es) X.env) = (false, eval e X.env) :: backTo pos (starEach es X.env) := by rfl) (hpl : (backTo pos (starEach (e :: es) X.env)).any (·.1) = false := by rfl)
    (hall : (backToKw pos (keywordEach kws X.env)).all (·.1.isSome) = true := by rfl) (hnone : (backToKw pos (keywordEach kws X.env)).any (·.1.isNone) = false := by rfl) (hks : (backToKw pos (keywordEach kws X.env)).filterMap (·.1) = [Str.ofString "key"] := by rfl) :
    PE X (.Call (.Name x p) (e :: es) kws pos) (tMinL X k F b ps fr js sp t tk) := by
  refine ⟨fun pins s0 σ H Q I0 h => wpAny_Call_Name_kw (ld_blt I0 hg hm hv (PyProof.Rows.callWith_kw (thn (ha.run pos pins s0 σ H _ I0 h) fun us s1 ⟨vs, H1, I1, r1, q1⟩ => thn (hk.run pos pins s1 σ H1 _ I1 q1) fun ws s ⟨zs, H2, I, r2, q2⟩ => ?_) he hpl hall hnone) hn hdb)⟩
  rw [hks]
  obtain ⟨l, f, c', xs, ks, rfl, rfl, hl, ne, hf, hc, key, ans⟩ := q2
  obtain ⟨u, rfl, ru⟩ := r1.one
  obtain ⟨z, rfl, rz⟩ := r2.one
  cases ru
  cases rz
  show wpAny _ _ (call (.builtin "min") [.ref l] [(Str.ofString "key", .ref f)]) _ _ _
  have hd : X.A.handled = none := hr.hd
  refine PySem.call_min_walkK ?_
  obtain ⟨its, rv, pl, hz⟩ := I.list hl
  have hil := pl.isList
  have ltl : l < s.heap.objs.size := by obtain ⟨o, ho, _⟩ := id hil; exact Heap.lt_size ho
  refine wpAny_pyIter_list hil ?_
  have I2 : Inv X pins σ H2 { s with heap := s.heap.push { cls := .type "list_iterator", data := .fields #[.ref l, .int 0 0] } } := I.kept (t' := s.toks) fun b o z => Heap.get?_push_of_some _ z
  have fI : FpOk X pins H2 s.heap.objs.size := I.fpOk (Nat.le_refl _) (I.hok.fresh (Nat.le_refl _))
  have gI : (s.heap.push { cls := .type "list_iterator", data := .fields #[.ref l, .int 0 0] }).get? s.heap.objs.size = some { cls := .type "list_iterator", data := .fields #[.ref l, .int 0 0] } := Heap.get?_push_size _ rfl
  have fS := I2.fpOk (H' := H2) (Nat.le_refl _) (I2.hok.fresh (Nat.le_refl _))
  have szS : s.heap.objs.size < (s.heap.push { cls := .type "list_iterator", data := .fields #[.ref l, .int 0 0] }).objs.size := Heap.lt_size gI
  have nIk : ∀ b ∈ frs X.stack, b < s.heap.objs.size := fun b hb => by
    have := I.stkSub b hb
    rcases List.mem_cons.mp this with z | z
    · rw [z]; exact I.lt
    · obtain ⟨_, o, ho, _⟩ := I.ok.funs.mem z
      exact Nat.lt_of_lt_of_le (Heap.lt_size ho) I.sz
  generalize hS : (s.heap.push { cls := .type "list_iterator", data := .fields #[.ref l, .int 0 0] }).objs.size = S at fS szS
  generalize hI : s.heap.objs.size = It at fI gI szS nIk ltl
  have hil2 : (s.heap.push { cls := .type "list_iterator", data := .fields #[.ref l, .int 0 0] }).IsList l its.toArray := by
    obtain ⟨o, ho, r⟩ := hil
    exact ⟨o, Heap.get?_push_of_some _ ho, r⟩
  generalize hs2 : ({ s with heap := s.heap.push { cls := .type "list_iterator", data := .fields #[.ref l, .int 0 0] } } : Shared) = s2 at I2
  have hit2 : s2.heap.IsListIter It l 0 := by rw [← hs2]; exact ⟨_, gI, rfl, rfl⟩
  have hil3 : s2.heap.IsList l its.toArray := by rw [← hs2]; exact hil2
  have hsz2 : s2.heap.objs.size = S := by rw [← hs2]; exact hS
  have nlI : l ≠ It := Nat.ne_of_lt ltl
  have nS : S ∉ frs X.stack := fun hb => absurd (Nat.lt_trans (nIk S hb) szS) (Nat.lt_irrefl _)
  have nI' : It ∉ frs X.stack := fun hb => absurd (nIk It hb) (Nat.lt_irrefl _)
  refine ⟨It, [It, l], [It], _, xs.length, _, _, fun s => Inv X pins σ H2 s, fun i k s => KeyAt X H2 (ks.getD i []) k s ∧ k ≠ .ref S ∧ k ≠ .ref It, ltK ks, rfl, walksV (by exact hd) nlI, ⟨hit2, its, hil3, rv⟩, fun b hb => ?_, ne, ?_, I2, fun v s' ⟨x, hx, r⟩ J => ⟨x, H2, J, r, ans x hx⟩⟩
  · try rw [hsz2]
    rcases List.mem_cons.mp hb with rfl | hb
    · exact szS
    · rw [List.mem_singleton.mp hb]; exact Nat.lt_trans ltl szS
  · try rw [hsz2]
    refine ⟨fun s s' J m => inv_moved J fS fI m, fun i k s s' ⟨⟨a, its, n, e, ho, r, h1, h2⟩, k1, k2⟩ m => ⟨⟨a, its, n, e, m.heap a _ (fun hb => ?_) ho, r, h1, h2⟩, k1, k2⟩, fun i v s o Q' E' hi ⟨x, hx, r⟩ J ⟨st1, _⟩ ho go => ?_, fun i j ki kj s Q' E' J ⟨a, _⟩ ⟨b, _⟩ q => PySem.W.lt_datum a.holds b.holds (by have := hr.units; show X.A.units + 1 + 1 < _; omega) q⟩
    · subst e
      rcases List.mem_cons.mp hb with z | z
      · exact k1 (by rw [z])
      · exact k2 (by rw [List.mem_singleton.mp z])
    · have C := cells_of J (cp J.ok)
      rw [← hcl c'] at C
      refine wpAny_call (codeAny_mono ((L f c').run X.A.in1 X.stack s H2 [v] [x] _ _ E0 hr.in1 J.env0.in1 hf hc C (.cons r .nil) (key i x hx)) fun r s' hq => ?_)
      cases r with
      | error e => exact False.elim hq
      | ok fl =>
        cases fl with
        | next => exact False.elim hq
        | brk => exact False.elim hq
        | cont => exact False.elim hq
        | ret u =>
          obtain ⟨w', H', os, bare, un, hok, rw', a, rfl, na, rfl⟩ := hq
          obtain ⟨_, its', n', ri, hoa⟩ := hok a _ upd_same
          cases rw'
          have frl : ∀ b o, s.heap.get? b = some o → H2 b = none → b ≠ a := fun b o hb nb e => by
            have z := un.free b o hb nb (by simp)
            rw [e, upd_same] at z
            cases z
          have J' := inv_forget J os bare na un hok
          obtain ⟨its2, rv2, pl2, _⟩ := J'.list hl
          obtain ⟨oI, hoI, hcI, hdI⟩ := id st1
          have kI := un.keep _ _ hoI fI.1 nI' (by simp)
          have kS := un.keep _ _ ho fS.1 nS (by simp)
          refine go (.ref a) s' J' ⟨⟨oI, kI, hcI, hdI⟩, its2, pl2.isList, rv2⟩ kS ⟨⟨a, its', n', rfl, hoa, ri, na, fun hb => ?_⟩, fun e => frl S o ho fS.1 (Value.ref.inj e).symm, fun e => frl It oI hoI fI.1 (Value.ref.inj e).symm⟩ fun j k' ⟨⟨b, jts, m, e, hb, rj, h1, h2⟩, k1, k2⟩ => ⟨⟨b, jts, m, e, un.keep b _ hb h1 h2 (by simp), rj, h1, h2⟩, k1, k2⟩
          obtain ⟨_, ob, hob, _⟩ := J.env0.funs.mem hb
          exact frl a ob hob (J.stkFree a hb) rfl
end
end PinX

/-! min(xs, key=lambda x: ..., default=d) where the keys are pairs of a number and a list of numbers -/
namespace PinX
open PySem PySem.Spec PyProof.Rows L2 LamX NdefX
abbrev KP := Int × List Int
def ltP (ks : List KP) (i j : Nat) : Bool := PySem.W.DatumOrd.lt (ks.getD i (0, [])) (ks.getD j (0, []))
/-- an object's words in a heap with less in it: only its own dict and tuples of keys matter -/
theorem ok_less {P : Program} {w : World} {H H' : Hp} {h : Heap} {a : Addr} {o : HO} (x : ObjOk P w H' h a o) (ho : ∀ b, H' b = some (.own a) → H b = some (.own a)) (ht : ∀ b (k : List Key), H' b = some (.tup (k.map kV)) → H b = some (.tup (k.map kV))) : ObjOk P w H h a o := by
  induction o with
  | dT kvs => obtain ⟨z, y, xs, r, q⟩ := x; exact ⟨z, y, xs, L2.Paired.mapP r fun p q z => ⟨z.1, ht _ _ z.2.1, z.2.2⟩, q⟩
  | ins C dx fs => obtain ⟨d, q⟩ := x; exact ⟨ho _ d, q⟩
  | frz ob u ih => exact ⟨x.1, ih x.2⟩
  | _ => exact x
section
variable {X : Cx} {pins : List (Addr × Obj)} {σ : L2.St} {H : Hp} {s s' : Shared}
/-- a new list and a new tuple are forgotten -/
theorem inv_forget2 {l t r : Addr} {ys zs : List V} (hr : V.ref r ∈ zs) (I : Inv X pins σ H s) (ho : s'.os = s.os) (hb : AllBare s'.gens) (nl : H l = none) (nt : H t = none) (un : Un (frs X.stack) [] H (upd (upd H l (.lst ys)) t (.tup zs)) s.heap s'.heap) (hok : HOk X.prog X.w (upd (upd H l (.lst ys)) t (.tup zs)) s'.heap) : Inv X pins σ H s' := by
  have put : ∀ b o, H b = some o → upd (upd H l (.lst ys)) t (.tup zs) b = some o := fun b o z => by rw [upd_ne (ne_of_none z nt), upd_ne (ne_of_none z nl)]; exact z
  refine I.call' (ch := []) ho ⟨un.keep, un.slot, fun _ _ _ n _ => n, un.there, fun _ _ z => z, fun _ _ _ z => z, fun b ps z => ⟨#[], by simpa using z⟩⟩ (fun b o z => ?_) hb fun b z => absurd z (by simp)
  refine ok_less (hok b o (put _ _ z)) (fun c q => ?_) fun c k q => ?_
  · by_cases e : c = t
    · rw [e, upd_same] at q; cases q
    · rw [upd_ne e] at q
      by_cases e2 : c = l
      · rw [e2, upd_same] at q; cases q
      · rw [upd_ne e2] at q; exact q
  · by_cases e : c = t
    · rw [e, upd_same] at q
      have e' := HO.tup.inj (Option.some.inj q)
      rw [e'] at hr
      obtain ⟨y, _, hy⟩ := List.mem_map.mp hr
      cases y <;> cases hy
    · rw [upd_ne e] at q
      by_cases e2 : c = l
      · rw [e2, upd_same] at q; cases q
      · rw [upd_ne e2] at q; exact q
/-- a told pair of a number and a list, untracked, apart from some records -/
def PairAt (X : Cx) (H : Hp) (bs : List Addr) (p : KP) (k : Value) (s : Shared) : Prop := ∃ (t l : Addr) (o : Obj) (u : Value) (its : List Value) (m n : Nat), k = .ref t ∧ s.heap.get? t = some o ∧ o.cls = .type "tuple" ∧ o.data = .seq #[u, .ref l] m ∧ RelV (.int p.1) u ∧
  s.heap.get? l = some { cls := .type "list", data := .seq its.toArray n } ∧ Vals (p.2.map V.int) its ∧ H t = none ∧ t ∉ frs X.stack ∧ H l = none ∧ l ∉ frs X.stack ∧ t ∉ bs ∧ l ∉ bs
theorem PairAt.holds {bs : List Addr} {p : KP} {k : Value} (h : PairAt X H bs p k s) : PySem.W.Holds s.heap k p := by
  obtain ⟨t, l, o, u, its, m, n, rfl, ho, oc, od, ru, hl, r, _⟩ := h
  obtain ⟨as, z⟩ := reads_ints (h := s.heap) r
  obtain ⟨tk, rfl⟩ : ∃ tk, u = Value.int p.1 tk := ru
  exact ⟨_, .tuple ho oc od (.cons (.int _ _) (.cons (.list hl rfl rfl (by simpa using z)) .nil))⟩
end
/-- the key's lambda at f, and what it tells of each item -/
def tMinD (X : Cx) (k : Nat) (F : Addr → NF) (e : Expr) (ps fr : List Str) (js : List Nat) (sp : List (Option V) → Sp) (t tk : TA) : TE := fun σ H Q => t σ H fun vs H1 => tk σ H1 fun zs H2 => ∃ (l f c' : Addr) (xs : List V) (ks : List KP) (d : V), vs = [.ref l] ∧ zs = [.ref f, d] ∧ SqL X.K H2 l xs ∧
  H2 f = some (LamO f (F c') e) ∧ H2 (F c').c = some (CodeO (F c').c (F c').qual) ∧
  (∀ i x, xs[i]? = some x → sp (js.map (slotAt σ)) [x] H2 (fun v H' => ∃ a t, v = .ref t ∧ H2 a = none ∧ H2 t = none ∧ a ≠ t ∧ H' = upd (upd H2 a (.lst ((ks.getD i (0, [])).2.map V.int))) t (.tup [.int (ks.getD i (0, [])).1, .ref a])) E0) ∧
  (xs = [] → Q d H2) ∧ ∀ x, xs[PySem.argBest (ltP ks) (xs.length - 1)]? = some x → Q x H2
section
variable {X : Cx} {k : Nat} {F : Addr → NF} {b : Expr} {ps fr : List Str} {js : List Nat} {cl : List (Str × Addr)} {sp : List (Option V) → Sp} {x : Str} {p pos : Pos} {e : Expr} {es : List Expr} {kws : List Keyword} {t tk : TA}
theorem pe_minD (L : ∀ f c', LOk X.prog X.w X.K X.mg X.base CX0 k f (F c') b ps fr sp) (hcl : ∀ c', (F c').cl = cl) (cp : X.Ok → Caps X cl fr js) (hr : Room (k + 1) X.A) (hg : Gl X x) (hm : X.mg x = none) (hv : bootBuiltins x = some (.builtin "min")) (ha : PA X (e :: es) t) (hk : PK X kws tk)
    (hn : x ≠ "__name__" := by decide) (hdb : (x == ("__debug__" : Str)) = false := by decide)
    (he : backTo pos (starEach (e :: es) X.env) = (false, eval e X.env) :: backTo pos (starEach es X.env) := by rfl) (hpl : (backTo pos (starEach (e :: es) X.env)).any (·.1) = false := by rfl)
    (hall : (backToKw pos (keywordEach kws X.env)).all (·.1.isSome) = true := by rfl) (hnone : (backToKw pos (keywordEach kws X.env)).any (·.1.isNone) = false := by rfl) (hks : (backToKw pos (keywordEach kws X.env)).filterMap (·.1) = [Str.ofString "key", Str.ofString "default"] := by rfl) :
    PE X (.Call (.Name x p) (e :: es) kws pos) (tMinD X k F b ps fr js sp t tk) := by
  refine ⟨fun pins s0 σ H Q I0 h => wpAny_Call_Name_kw (ld_blt I0 hg hm hv (PyProof.Rows.callWith_kw (thn (ha.run pos pins s0 σ H _ I0 h) fun us s1 ⟨vs, H1, I1, r1, q1⟩ => thn (hk.run pos pins s1 σ H1 _ I1 q1) fun ws s ⟨zs, H2, I, r2, q2⟩ => ?_) he hpl hall hnone) hn hdb)⟩
  rw [hks]
  obtain ⟨l, f, c', xs, ks, d, rfl, rfl, hl, hf, hc, key, dflt, ans⟩ := q2
  obtain ⟨u, rfl, ru⟩ := r1.one
  obtain ⟨z, dv, rfl, rz, rd⟩ : ∃ z dv, ws = [z, dv] ∧ RelV (.ref f) z ∧ RelV d dv := by
    cases r2 with
    | cons a r => cases r with
      | cons b r => cases r; exact ⟨_, _, rfl, a, b⟩
  cases ru
  cases rz
  show wpAny _ _ (call (.builtin "min") [.ref l] [(Str.ofString "key", .ref f), (Str.ofString "default", dv)]) _ _ _
  have hd : X.A.handled = none := hr.hd
  refine PySem.call_min_walkKD ?_
  obtain ⟨its, rv, pl, hz⟩ := I.list hl
  have hil := pl.isList
  have ltl : l < s.heap.objs.size := by obtain ⟨o, ho, _⟩ := id hil; exact Heap.lt_size ho
  refine wpAny_pyIter_list hil ?_
  have I2 : Inv X pins σ H2 { s with heap := s.heap.push { cls := .type "list_iterator", data := .fields #[.ref l, .int 0 0] } } := I.kept (t' := s.toks) fun b o z => Heap.get?_push_of_some _ z
  have fI : FpOk X pins H2 s.heap.objs.size := I.fpOk (Nat.le_refl _) (I.hok.fresh (Nat.le_refl _))
  have gI : (s.heap.push { cls := .type "list_iterator", data := .fields #[.ref l, .int 0 0] }).get? s.heap.objs.size = some { cls := .type "list_iterator", data := .fields #[.ref l, .int 0 0] } := Heap.get?_push_size _ rfl
  have fS := I2.fpOk (H' := H2) (Nat.le_refl _) (I2.hok.fresh (Nat.le_refl _))
  have szS : s.heap.objs.size < (s.heap.push { cls := .type "list_iterator", data := .fields #[.ref l, .int 0 0] }).objs.size := Heap.lt_size gI
  have nIk : ∀ b ∈ frs X.stack, b < s.heap.objs.size := fun b hb => by
    have := I.stkSub b hb
    rcases List.mem_cons.mp this with z | z
    · rw [z]; exact I.lt
    · obtain ⟨_, o, ho, _⟩ := I.ok.funs.mem z
      exact Nat.lt_of_lt_of_le (Heap.lt_size ho) I.sz
  generalize hS : (s.heap.push { cls := .type "list_iterator", data := .fields #[.ref l, .int 0 0] }).objs.size = S at fS szS
  generalize hI : s.heap.objs.size = It at fI gI szS nIk ltl
  have hil2 : (s.heap.push { cls := .type "list_iterator", data := .fields #[.ref l, .int 0 0] }).IsList l its.toArray := by
    obtain ⟨o, ho, r⟩ := hil
    exact ⟨o, Heap.get?_push_of_some _ ho, r⟩
  generalize hs2 : ({ s with heap := s.heap.push { cls := .type "list_iterator", data := .fields #[.ref l, .int 0 0] } } : Shared) = s2 at I2
  have hit2 : s2.heap.IsListIter It l 0 := by rw [← hs2]; exact ⟨_, gI, rfl, rfl⟩
  have hil3 : s2.heap.IsList l its.toArray := by rw [← hs2]; exact hil2
  have hsz2 : s2.heap.objs.size = S := by rw [← hs2]; exact hS
  have nlI : l ≠ It := Nat.ne_of_lt ltl
  have nS : S ∉ frs X.stack := fun hb => absurd (Nat.lt_trans (nIk S hb) szS) (Nat.lt_irrefl _)
  have nI' : It ∉ frs X.stack := fun hb => absurd (nIk It hb) (Nat.lt_irrefl _)
  refine ⟨It, [It, l], [It], _, xs.length, _, _, fun s => Inv X pins σ H2 s, fun i k s => PairAt X H2 [S, It] (ks.getD i (0, [])) k s, ltP ks, rfl, walksV (by exact hd) nlI, ⟨hit2, its, hil3, rv⟩, fun b hb => ?_, ?_, I2, fun e s' J => ⟨d, H2, J, rd, dflt (List.eq_nil_of_length_eq_zero e)⟩, fun _ v s' ⟨x, hx, r⟩ J => ⟨x, H2, J, r, ans x hx⟩⟩
  · try rw [hsz2]
    rcases List.mem_cons.mp hb with rfl | hb
    · exact szS
    · rw [List.mem_singleton.mp hb]; exact Nat.lt_trans ltl szS
  · try rw [hsz2]
    refine ⟨fun s s' J m => inv_moved J fS fI m, fun i k s s' ⟨t, a, o, u, jts, m', n, e, ho, oc, od, ru, hla, r, h1, h2, h3, h4, h5, h6⟩ m => ⟨t, a, o, u, jts, m', n, e, m.heap t _ (fun hb => h5 hb) ho, oc, od, ru, m.heap a _ (fun hb => h6 hb) hla, r, h1, h2, h3, h4, h5, h6⟩, fun i v s o Q' E' hi ⟨x, hx, r⟩ J ⟨st1, _⟩ ho go => ?_, fun i j ki kj s Q' E' J a b q => PySem.W.lt_datum a.holds b.holds (by have := hr.units; show X.A.units + 1 + 2 < _; omega) q⟩
    have C := cells_of J (cp J.ok)
    rw [← hcl c'] at C
    refine wpAny_call (codeAny_mono ((L f c').run X.A.in1 X.stack s H2 [v] [x] _ _ E0 hr.in1 J.env0.in1 hf hc C (.cons r .nil) (key i x hx)) fun r s' hq => ?_)
    cases r with
    | error e => exact False.elim hq
    | ok fl =>
      cases fl with
      | next => exact False.elim hq
      | brk => exact False.elim hq
      | cont => exact False.elim hq
      | ret u =>
        obtain ⟨w', H', os, bare, un, hok, rw', a, t, rfl, na, nt, nat, rfl⟩ := hq
        have hta : upd (upd H2 a (.lst ((ks.getD i (0, [])).2.map V.int))) t (.tup [.int (ks.getD i (0, [])).1, .ref a]) a = some (.lst ((ks.getD i (0, [])).2.map V.int)) := by rw [upd_ne nat]; exact upd_same
        obtain ⟨_, its', n', ri, hoa⟩ := hok a _ hta
        obtain ⟨_, tts, trv, ot, h1, h2, nn, h3⟩ := (show ObjOk X.prog X.w _ s'.heap t (.tup _) from hok t _ upd_same)
        cases rw'
        obtain ⟨v1, rfl, rv1⟩ : ∃ v1, tts = [v1, .ref a] ∧ RelV (.int (ks.getD i (0, [])).1) v1 := by
          cases trv with
          | cons a r => cases r with
            | cons b r => cases r; cases b; exact ⟨_, rfl, a⟩
        have frl : ∀ b o, s.heap.get? b = some o → H2 b = none → b ≠ a ∧ b ≠ t := fun b o hb nb => by
          have z := un.free b o hb nb (by simp)
          exact ⟨fun e => (by rw [e, hta] at z; cases z), fun e => (by rw [e, upd_same] at z; cases z)⟩
        have J' := inv_forget2 (r := a) (by simp) J os bare na nt un hok
        obtain ⟨its2, rv2, pl2, _⟩ := J'.list hl
        obtain ⟨oI, hoI, hcI, hdI⟩ := id st1
        have kI := un.keep _ _ hoI fI.1 nI' (by simp)
        have kS := un.keep _ _ ho fS.1 nS (by simp)
        have fS' := frl S o ho fS.1
        have fI' := frl It oI hoI fI.1
        have inF : ∀ c, H2 c = none → (∀ b o, s.heap.get? b = some o → H2 b = none → b ≠ c) → c ∉ frs X.stack := fun c nc hcc hb => by
          obtain ⟨_, ob, hob, _⟩ := J.env0.funs.mem hb
          exact hcc c ob hob (J.stkFree c hb) rfl
        refine go (.ref t) s' J' ⟨⟨oI, kI, hcI, hdI⟩, its2, pl2.isList, rv2⟩ kS ⟨t, a, ot, v1, its', nn, n', rfl, h1, h2, by rw [h3], rv1, hoa, ri, nt, inF t nt fun b o x y => (frl b o x y).2, na, inF a na fun b o x y => (frl b o x y).1, fun hb => ?_, fun hb => ?_⟩ fun j k' ⟨t', a', o', u', jts, m', n, e, ho', oc, od, ru, hla, rr, g1, g2, g3, g4, g5, g6⟩ => ⟨t', a', o', u', jts, m', n, e, un.keep t' _ ho' g1 g2 (by simp), oc, od, ru, un.keep a' _ hla g3 g4 (by simp), rr, g1, g2, g3, g4, g5, g6⟩
        · rcases List.mem_cons.mp hb with e | e
          · exact fS'.2 e.symm
          · exact fI'.2 (List.mem_singleton.mp e).symm
        · rcases List.mem_cons.mp hb with e | e
          · exact fS'.1 e.symm
          · exact fI'.1 (List.mem_singleton.mp e).symm
end
end PinX

/-! texts by length, then by the places of their letters: the same order as by their numbers -/
namespace Fst
open PySem L2 PinX
def lo (cs : List Nat) : Nat → Nat
  | 0 => 0
  | n + 1 => lo cs n * cs.length + 1
theorem lo_step (cs : List Nat) : ∀ n, lo cs (n + 1) = lo cs n + cs.length ^ n
  | 0 => by show 0 * cs.length + 1 = 0 + cs.length ^ 0; simp
  | n + 1 => by
    have ih := lo_step cs n
    show lo cs (n + 1) * cs.length + 1 = lo cs (n + 1) + cs.length ^ (n + 1)
    have e : lo cs (n + 1) = lo cs n * cs.length + 1 := rfl
    rw [Nat.pow_succ]
    have := congrArg (fun x => x * cs.length) ih
    replace this : lo cs (n + 1) * cs.length = (lo cs n + cs.length ^ n) * cs.length := this
    rw [Nat.add_mul] at this
    omega
theorem num_lo {cs : List Nat} : ∀ t, Of cs t → lo cs t.length ≤ num cs t ∧ num cs t < lo cs (t.length + 1) := by
  refine snoc_ind (fun _ => ⟨Nat.le_refl _, by show 0 < 0 * cs.length + 1; omega⟩) fun t c ih h => ?_
  obtain ⟨a, b⟩ := ih h.init.1
  have l := List.idxOf_lt_length_of_mem h.init.2
  rw [num_snoc, List.length_append, List.length_singleton]
  have m1 := Nat.mul_le_mul_right cs.length a
  have m2 := Nat.mul_le_mul_right cs.length (show num cs t + 1 ≤ lo cs (t.length + 1) from b)
  rw [Nat.add_mul] at m2
  have e1 : lo cs (t.length + 1) = lo cs t.length * cs.length + 1 := rfl
  have e2 : lo cs (t.length + 1 + 1) = lo cs (t.length + 1) * cs.length + 1 := rfl
  omega
theorem lo_mono {cs : List Nat} (h : 0 < cs.length) {i j : Nat} (l : i ≤ j) : lo cs i ≤ lo cs j := by
  induction j with
  | zero => obtain rfl : i = 0 := by omega
            exact Nat.le_refl _
  | succ j ih =>
    rcases Nat.lt_or_eq_of_le l with l | rfl
    · have := ih (by omega)
      have := lo_step cs j
      omega
    · exact Nat.le_refl _
theorem num_from (cs : List Nat) (a : Nat) : ∀ t : List Nat, t.foldl (fun a c => a * cs.length + cs.idxOf c + 1) a = a * cs.length ^ t.length + num cs t := by
  refine snoc_ind (by simp [num]) fun t c ih => ?_
  rw [List.foldl_append, ih, num_snoc, List.length_append, List.length_singleton, Nat.pow_succ, ← Nat.mul_assoc]
  show (a * cs.length ^ t.length + num cs t) * cs.length + cs.idxOf c + 1 = _
  rw [Nat.add_mul]
  omega
theorem num_cons (cs : List Nat) (c : Nat) (t : List Nat) : num cs (c :: t) = (cs.idxOf c + 1) * cs.length ^ t.length + num cs t := by
  have := num_from cs (0 * cs.length + cs.idxOf c + 1) t
  rw [show 0 * cs.length + cs.idxOf c + 1 = cs.idxOf c + 1 by omega] at this
  rw [← this]
  show (c :: t).foldl (fun a c => a * cs.length + cs.idxOf c + 1) 0 = _
  rw [List.foldl_cons, show 0 * cs.length + cs.idxOf c + 1 = cs.idxOf c + 1 by omega]
def places (cs t : List Nat) : List Int := t.map fun c => ((cs.idxOf c : Nat) : Int)
def keyP (cs t : List Nat) : KP := ((t.length : Nat), places cs t)
theorem idx_inj {cs : List Nat} {c d : Nat} (hc : c ∈ cs) (hd : d ∈ cs) (e : cs.idxOf c = cs.idxOf d) : c = d := by
  have l1 := List.idxOf_lt_length_of_mem hc
  have l2 := List.idxOf_lt_length_of_mem hd
  have a : cs[cs.idxOf c]'l1 = c := List.getElem_idxOf l1
  have b : cs[cs.idxOf d]'l2 = d := List.getElem_idxOf l2
  rw [← a, ← b]
  congr 1
theorem lt_same {cs : List Nat} : ∀ (t u : List Nat), Of cs t → Of cs u → t.length = u.length → PySem.W.listLt (places cs t) (places cs u) = decide (num cs t < num cs u)
  | [], [], _, _, _ => by simp [places, PySem.W.listLt]
  | c :: t, d :: u, ht, hu, hl => by
    have hl' : t.length = u.length := by simpa using hl
    have hc := ht c List.mem_cons_self
    have hd := hu d List.mem_cons_self
    have ot : Of cs t := fun x hx => ht x (List.mem_cons_of_mem _ hx)
    have ou : Of cs u := fun x hx => hu x (List.mem_cons_of_mem _ hx)
    have ih := lt_same t u ot ou hl'
    obtain ⟨a1, a2⟩ := num_lo t ot
    obtain ⟨b1, b2⟩ := num_lo u ou
    rw [num_cons, num_cons]
    have st := lo_step cs t.length
    rw [← hl'] at b1 b2 ⊢
    generalize cs.length ^ t.length = m at st ⊢
    have un : PySem.W.listLt (places cs (c :: t)) (places cs (d :: u)) = if ((cs.idxOf c : Nat) : Int) = ((cs.idxOf d : Nat) : Int) then PySem.W.listLt (places cs t) (places cs u) else decide (((cs.idxOf c : Nat) : Int) < ((cs.idxOf d : Nat) : Int)) := rfl
    rw [un]
    by_cases e : cs.idxOf c = cs.idxOf d
    · rw [if_pos (by rw [e]), ih, e, decide_eq_decide]
      omega
    · rw [if_neg (by omega), decide_eq_decide]
      rcases Nat.lt_or_gt_of_ne e with l | l
      · have := Nat.mul_le_mul_right m (show cs.idxOf c + 1 + 1 ≤ cs.idxOf d + 1 by omega)
        rw [Nat.add_mul (cs.idxOf c + 1)] at this
        constructor <;> intro _ <;> omega
      · have := Nat.mul_le_mul_right m (show cs.idxOf d + 1 + 1 ≤ cs.idxOf c + 1 by omega)
        rw [Nat.add_mul (cs.idxOf d + 1)] at this
        constructor <;> intro _ <;> omega
theorem lt_num {cs : List Nat} (pos : 0 < cs.length) {t u : List Nat} (ht : Of cs t) (hu : Of cs u) : PySem.W.DatumOrd.lt (keyP cs t) (keyP cs u) = decide (num cs t < num cs u) := by
  have un : PySem.W.DatumOrd.lt (keyP cs t) (keyP cs u) = if ((t.length : Nat) : Int) = ((u.length : Nat) : Int) then PySem.W.listLt (places cs t) (places cs u) else decide (((t.length : Nat) : Int) < ((u.length : Nat) : Int)) := rfl
  rw [un]
  by_cases e : t.length = u.length
  · rw [if_pos (by rw [e])]
    exact lt_same t u ht hu e
  · rw [if_neg (by omega), decide_eq_decide]
    obtain ⟨a1, a2⟩ := num_lo t ht
    obtain ⟨b1, b2⟩ := num_lo u hu
    rcases Nat.lt_or_gt_of_ne e with l | l
    · have := lo_mono pos (show t.length + 1 ≤ u.length by omega)
      constructor <;> intro _ <;> omega
    · have := lo_mono pos (show u.length + 1 ≤ t.length by omega)
      constructor <;> intro _ <;> omega
/-- the best of some texts -/
def bestT (cs : List Nat) (ts : List (List Nat)) : Nat := PySem.argBest (ltP (ts.map (keyP cs))) (ts.length - 1)
theorem best_num {cs : List Nat} (pos : 0 < cs.length) {ts : List (List Nat)} (ho : ∀ t ∈ ts, Of cs t) : bestT cs ts ≤ ts.length - 1 ∧ ∀ j, j ≤ ts.length - 1 → num cs (ts.getD (bestT cs ts) []) ≤ num cs (ts.getD j []) := by
  have oo : ∀ i, Of cs (ts.getD i []) := fun i => by
    rw [List.getD_eq_getElem?_getD]
    cases e : ts[i]? with
    | none => exact fun _ h => nomatch h
    | some t => exact ho t (List.mem_of_getElem? e)
  have e : ltP (ts.map (keyP cs)) = fun i j => decide (((num cs (ts.getD i []) : Nat) : Int) < ((num cs (ts.getD j []) : Nat) : Int)) := by
    funext i j
    have g : ∀ i, (ts.map (keyP cs)).getD i (0, []) = keyP cs (ts.getD i []) := fun i => by
      rw [List.getD_eq_getElem?_getD, List.getElem?_map, List.getD_eq_getElem?_getD]
      cases ts[i]? <;> rfl
    unfold PinX.ltP
    rw [g, g, lt_num pos (oo i) (oo j), decide_eq_decide]
    omega
  have := PySem.argBest_lt (fun i => ((num cs (ts.getD i []) : Nat) : Int)) (ts.length - 1)
  rw [← e] at this
  exact ⟨this.1, fun j hj => by have := this.2 j hj; unfold bestT; omega⟩
/-- the first text of all, out of the first ones of each kind -/
theorem min_all {ι : Type} {cs : List Nat} (pos : 0 < cs.length) {Pk : ι → List Nat → Prop} {ks : List ι} {rs : List (Option (List Nat))} (h : Paired (fun r k => IsMin cs (Pk k) r) rs ks) :
    IsMin cs (fun t => ∃ k ∈ ks, Pk k t) (if rs.filterMap id = [] then none else some ((rs.filterMap id).getD (bestT cs (rs.filterMap id)) [])) := by
  have of_r : ∀ u, some u ∈ rs → ∃ k ∈ ks, IsMin cs (Pk k) (some u) := by
    intro u hu
    induction h with
    | nil => cases hu
    | cons a t ih =>
      rcases List.mem_cons.mp hu with e | hu
      · rw [← e] at a; exact ⟨_, List.mem_cons_self, a⟩
      · obtain ⟨k, hk, x⟩ := ih hu; exact ⟨k, List.mem_cons_of_mem _ hk, x⟩
  have of_k : ∀ k ∈ ks, ∃ r ∈ rs, IsMin cs (Pk k) r := by
    intro k hk
    clear of_r
    induction h with
    | nil => cases hk
    | cons a t ih =>
      rcases List.mem_cons.mp hk with rfl | hk
      · exact ⟨_, List.mem_cons_self, a⟩
      · obtain ⟨r, hr, x⟩ := ih hk; exact ⟨r, List.mem_cons_of_mem _ hr, x⟩
  have mem : ∀ u, u ∈ rs.filterMap id ↔ some u ∈ rs := fun u => by simp
  by_cases e : rs.filterMap id = []
  · rw [if_pos e]
    rintro t ht ⟨k, hk, hp⟩
    obtain ⟨r, hr, m⟩ := of_k k hk
    cases r with
    | none => exact m t ht hp
    | some u => have := (mem u).mpr hr; rw [e] at this; cases this
  · rw [if_neg e]
    have ho : ∀ t ∈ rs.filterMap id, Of cs t := fun t ht => by
      obtain ⟨k, _, m⟩ := of_r t ((mem t).mp ht)
      exact m.1
    have ln : 0 < (rs.filterMap id).length := List.length_pos_iff.mpr e
    obtain ⟨b1, b2⟩ := best_num pos ho
    have hb : (rs.filterMap id)[bestT cs (rs.filterMap id)]? = some ((rs.filterMap id).getD (bestT cs (rs.filterMap id)) []) := by
      rw [List.getD_eq_getElem?_getD, List.getElem?_eq_getElem (by omega)]
      rfl
    obtain ⟨k, hk, m⟩ := of_r _ ((mem _).mp (List.mem_of_getElem? hb))
    refine ⟨m.1, ⟨k, hk, m.2.1⟩, fun t ht ⟨k', hk', hp⟩ => ?_⟩
    obtain ⟨r, hr, m'⟩ := of_k k' hk'
    cases r with
    | none => exact absurd hp (m' t ht)
    | some u =>
      obtain ⟨j, hj⟩ := List.getElem?_of_mem ((mem u).mpr hr)
      have lj := (List.getElem?_eq_some_iff.mp hj).1
      have b := b2 j (by omega)
      rw [show (rs.filterMap id).getD j [] = u by rw [List.getD_eq_getElem?_getD, hj]; rfl] at b
      exact Nat.le_trans b (m'.2.2 t ht hp)
end Fst

namespace Own
open PySem PySem.Spec L2 PyProof.Rows PySem.Froz
/-- the place of a sign in a text -/
theorem occ_sign (x : Str) (c j : Nat) (hj : x.cps[j]? = some c) (hn : ∀ k, k < j → x.cps[k]? ≠ some c) : ∃ r, Builtin.Str.occurrences x (sing c) 0 x.length 1 = j :: r := by
  have here : ∀ i, StrLaws.At x (sing c) x.length i ↔ x.cps.toList[i]? = some c := fun i => StrLaws.subAt_one x c i
  rcases StrLaws.occ_head x (sing c) 1 (Nat.le_refl _) with ⟨_, h⟩ | ⟨i, r, e, ha, hk⟩
  · exact absurd ((here j).mpr (by rw [Array.getElem?_toList]; exact hj)) (h j)
  · have ia := (here i).mp ha
    rw [Array.getElem?_toList] at ia
    rcases Nat.lt_trichotomy i j with z | z | z
    · exact absurd ia (hn i z)
    · subst z
      exact ⟨r, e⟩
    · exact absurd ((here j).mpr (by rw [Array.getElem?_toList]; exact hj)) (hk j z)
def rSignAt : V → List V → Hp → VK → Prop := fun x xs H Q => ∃ (a : Str) (c j : Nat), x = .str a ∧ xs = [.str (sing c)] ∧ a.cps[j]? = some c ∧ (∀ k, k < j → a.cps[k]? ≠ some c) ∧ Q (.int j) H
theorem mt_signAt {X : Cx} : MtR X "str.index" rSignAt := by
  intro pins s σ H x xs v us Q I rx rs h
  obtain ⟨a, c, j, rfl, rfl, hj, hn, h⟩ := h
  obtain ⟨t, rfl⟩ := rx
  obtain ⟨u, rfl, t2, rfl⟩ := vals1 rs
  obtain ⟨r, e⟩ := occ_sign a c j hj hn
  exact PySem.SC.index e ⟨.int j, H, I.tok _, ⟨_, rfl⟩, h⟩
end Own

namespace Kx
open PySem L2 Own PinX DicN
abbrev s_check_signs : Stmt := top 22
abbrev s_parted : Stmt := top 36
/-! ### check_signs -/
structure TxtCs (K : PySem.W.Frag) (mg : Str → Option Value) (A : EAd) (U fs fk : Addr) (ds dk : FuncData) : Prop where
  Sm : TxtSm K mg fs ds
  D_check_signs : DefT K mg "check_signs" "check_signs" s_check_signs ["one", "other"] fk dk
  E_Unlike : ErrC K mg "Unlike" U A.M
  X_Unlike : PySem.W.excIn K U [.type "ValueError", .type "Exception", .type "BaseException", .type "object"] "ValueError.__new__" = true
section
variable {P : Program} {w : World} {K : PySem.W.Frag} {mg : Str → Option Value} {base : Heap} {A : EAd} {B : MAd} {Z : CAd} {S : SAd} {U fs fk : Addr} {ds dk : FuncData}
def Low (s : Str) : Prop := s.cps.size ≤ 1000 ∧ ∀ c ∈ s.cps.toList, c < 128
def spCheckS (Z : CAd) (U : Addr) : Sp := fun vs H Q E => ∃ (m1 m2 : Addr) (s1 s2 : Str) (R1 R2 : List (List Way)) (E1 E2 : List (List Str)), vs = [.ref m1, .ref m2] ∧ MachAt Z.C H m1 s1 R1 E1 ∧ MachAt Z.C H m2 s2 R2 E2 ∧ Low s1 ∧ Low s2 ∧
  (¬ s1.cps.toList.Perm s2.cps.toList → ∀ H', Same H H' → E (.ref U) none H') ∧ (s1.cps.toList.Perm s2.cps.toList → ∀ H', Same H H' → Q .non H')
theorem sc_cs : FnScope ["one", "other"] ["one", "other"] (defScope s_check_signs) := ⟨rfl, rfl, rfl, by decide +kernel, rfl, by decide +kernel, by decide +kernel⟩
theorem ok_checkS (TC : TxtC K mg Z) (T : TxtCs K mg A U fs fk ds dk) : FnOk P w K mg base (L2.CX P w) 3 fk dk ["one", "other"] (spCheckS Z U) := by
  have sc := sc_cs
  have G_same : FnOk P w K mg base CX0 1 fs ds ["one", "other"] spSame := ok_same T.Sm
  refine T.D_check_signs.F.okX sc (fun vs H Q E h => ?_) (fun cdv A1 outer s H vs Q E hr h => ?_)
  · obtain ⟨_, _, _, _, _, _, _, _, rfl, _⟩ := h; rfl
  · obtain ⟨m1, m2, s1, s2, R1, R2, E1, E2, rfl, ma1, ma2, w1, w2, bad, good⟩ := h
    refine ⟨_, (pss_one (ps_if (pt_not (pt_val (pe_call G_same (hr.mono (by decide)) rfl T.Sm.D_same_signs.g T.Sm.D_same_signs.F.kp T.Sm.D_same_signs.b .nil pass0 (pa_cons (pe_fld (pv 0) rfl) (pa_cons (pe_fld (pv 1) rfl) pa_nil)))))
        (pss_one (ps_raise rfl (takes_of rfl rfl rfl rfl) (pmk_own0 PySem.F.excBase_ValueError T.X_Unlike T.E_Unlike.g T.E_Unlike.oex.kC T.E_Unlike.raises rfl))) pss_nil)), ?_⟩
    obtain ⟨dx1, _, _, _, _, _, _, _, hm1, _⟩ := id ma1
    obtain ⟨dx2, _, _, _, _, _, _, _, hm2, _⟩ := id ma2
    refine ⟨_, rfl, m1, Z.C, dx1, _, _, rfl, hm1, TC.cl, TC.a1, rfl, _, rfl, m2, Z.C, dx2, _, _, rfl, hm2, TC.cl, TC.a1, rfl, s1, s2, rfl, w1.1, w2.1, w1.2, w2.2, fun H1 sm1 => ⟨_, rfl, ?_⟩⟩
    rcases Decidable.em (¬ s1.cps.toList.Perm s2.cps.toList) with np | np
    · exact ifTn np (bad np H1 sm1)
    have pm := Decidable.not_not.mp np
    exact ifFn pm (good pm H1 sm1)
end
/-! ### the words of a lambda that is the first keyword of what is returned -/
def lamE : Stmt → Expr
  | .Return (some (.Call _ _ (⟨_, e, _⟩ :: _) _)) _ => e
  | _ => .Constant .none 0 ⟨0, 0, 0, 0⟩
def lamA : Expr → Arguments
  | .Lambda a _ _ _ => a
  | _ => { posonlyargs := [], args := [], vararg := none, kwonlyargs := [], kw_defaults := [], kwarg := none, defaults := [] }
def lamB : Expr → Expr
  | .Lambda _ b _ _ => b
  | e => e
def lamSc : Expr → Scope → Scope
  | .Lambda _ _ s _, _ => s
  | _, s => s
abbrev sc00 : Scope := defScope s_parted
abbrev LF (e : Expr) (q : Str) (cl : List (Str × Addr)) (c : Addr) : NdefX.NF := ⟨"<lambda>", q, lamA e, [], lamSc e sc00, cl, c⟩
theorem pe_lamS {X : Cx} {T : List NdefX.NTab} {nm : Nat → Nat → Str} {c Pt : Addr} {e : Expr} {pos : Pos} (he : e = .Lambda (lamA e) (lamB e) (lamSc e sc00) pos) (TB : LamX.TabB X.base X.mg c Pt) (hc : X.env.code = .ref c) (hm : (Pt, nm) ∈ T) (hn : nm pos.line pos.col = X.env.qual ++ "<lambda>") (hu : ∀ p ∈ T, p.1 = Pt → p.2 = nm)
    (hfree : ∀ y ∈ (lamSc e sc00).names, y.2 = .free → X.env.scope.names.lookup y.1 = some .cell ∨ X.env.scope.names.lookup y.1 = some .free) (hdef : defaultsOf (lamA e) X.env = ([], [])) :
    PE X e (tLamE T (LF e (X.env.qual ++ "<lambda>") (cloFrom X.env.cells (lamSc e sc00).names [])) (lamB e)) := by
  have q := pe_lam (X := X) (body := lamB e) (pos := pos) TB hc hm hn hu hfree hdef
  rw [← he] at q
  exact q
abbrev s_paLam : Expr := lamE (inDef s_parted 2)
theorem find_sign {sg : Str} {c : Nat} (hc : c ∈ sg.cps.toList) : Txt.find sg (Froz.sing c) = ((sg.cps.toList.idxOf c : Nat) : Int) := by
  have hl := List.idxOf_lt_length_of_mem hc
  have hj : sg.cps[sg.cps.toList.idxOf c]? = some c := by
    rw [← Array.getElem?_toList, List.getElem?_eq_getElem hl, List.getElem_idxOf]
  have hn : ∀ k, k < sg.cps.toList.idxOf c → sg.cps[k]? ≠ some c := fun k hk e => by
    rw [← Array.getElem?_toList] at e
    obtain ⟨h1, h2⟩ := List.getElem?_eq_some_iff.mp e
    have := List.not_of_lt_findIdx (p := (· == c)) (xs := sg.cps.toList) (i := k) hk
    rw [h2] at this
    simp at this
  obtain ⟨r, e⟩ := Own.occ_sign sg c _ hj hn
  unfold Txt.find
  rw [e]
section
variable {P : Program} {w : World} {K : PySem.W.Frag} {mg : Str → Option Value} {base : Heap} {A : EAd} {B : MAd} {Z : CAd} {S : SAd}
def spPaK (Z : CAd) : List (Option V) → Sp := fun ws vs H Q _ => ∃ (m : Addr) (sg : Str) (R : List (List Way)) (Es : List (List Str)) (t : List Nat), ws = [some (.ref m)] ∧ vs = [.str (Fst.mk t)] ∧ MachAt Z.C H m sg R Es ∧ t.length ≤ 2000 ∧ Fst.Of sg.cps.toList t ∧
  ∀ a b, H a = none → H b = none → a ≠ b → Q (.ref b) (upd (upd H a (.lst ((Fst.places sg.cps.toList t).map V.int))) b (.tup [.int (t.length : Nat), .ref a]))
abbrev Nlk : List Str := ["text", "one", "letter"]
theorem nsc_lk : NdefX.NScope Nlk ["text"] ["one"] (lamSc s_paLam sc00) := NdefX.nscope_by (by decide +kernel)
theorem lok_lk (TC : TxtC K mg Z) (n_len : mg "len" = none) (f c' : Addr) (q : Str) (cl : List (Str × Addr)) : LOk P w K mg base CX0 1 f (LF s_paLam q cl c') (lamB s_paLam) ["text"] ["one"] (spPaK Z) := by
  refine lok_of (k := 0) (N := Nlk) nsc_lk (fun _ _ us hl => match us, hl with | [_], _ => rfl) (fun ws vs H Q E h => ?_) (fun A outer s H vs ws Q E hr hl h => ?_)
  · obtain ⟨_, _, _, _, _, _, rfl, _⟩ := h; rfl
  · obtain ⟨m, sg, R, Es, t, rfl, rfl, ma, tl, tin, k⟩ := h
    refine ⟨_, (pe_tup (pa_cons (pe_callB call_len (by rfl) n_len (by decide +kernel) (pa_cons (pv 0) pa_nil)) (pa_cons (pe_lc (own := [("letter", 2)]) (g := gName 2) (tt := tYes) (te := tM1 (fun x xs H Q => ∃ a b, x = .str a ∧ xs = [.str b] ∧ Q (.int (Txt.find a b)) H) (tFld K (tVar 1) "signs") (tVar 2)) rfl nsc_lk.nd (pi_str (pv 0)) (blkOk_by (N := Nlk) (sc := lamSc s_paLam sc00) (own := [("letter", 2)]) (by decide +kernel)) (fun _ _ _ _ _ => (pg_name (i := 2) nsc_lk.nd rfl (Or.inl rfl))) (fun _ _ _ _ _ => pts_nil) (fun _ _ _ _ _ => pe_m1 PySem.F.slot_str_find PySem.F.type_str_find mt_find (pe_fld (pv 1) rfl) (pv 2))) pa_nil))), ?_⟩
    obtain ⟨dx1, _, _, _, _, _, _, _, hm1, _⟩ := id ma
    refine ⟨_, rfl, .str (Fst.mk t), t.length, rfl, ⟨by show t.length ≤ _; rw [sizeLine_eq]; omega, rfl⟩, ?_⟩
    refine ⟨_, rfl, Fst.mk t, rfl, fun D hD => ?_⟩
    refine lcs_it [some (.str (Fst.mk t)), some (.ref m), none] rfl walk_str (fun j H' => H' = upd H D (.lst ((Fst.places sg.cps.toList (t.take j)).map V.int))) rfl (fun _ _ _ _ => trivial) ?_ ?_
    · rintro j x _ H1 hj rfl ⟨rfl, c, hc, rfl⟩
      have hc' : t[j]? = some c := by
        have : (Fst.mk t).cps.toList[j]? = some c := by rw [Array.getElem?_toList]; exact hc
        exact this
      have nm : m ≠ D := ne_of_none hm1 hD
      refine ⟨rfl, _, rfl, m, Z.C, dx1, _, _, rfl, by rw [upd_ne nm]; exact hm1, TC.cl, TC.a1, rfl, ⟨_, rfl⟩, _, rfl, sg, ⟨#[c]⟩, rfl, rfl, _, upd_same, ?_, ?_⟩
      · unfold Fst.places
        rw [List.length_map, List.length_map, List.length_take, sizeLine_eq]
        omega
      · rw [upd_upd, List.take_add_one, hc', Option.toList_some]
        unfold Fst.places
        rw [List.map_append, List.map_append, show Txt.find sg ⟨#[c]⟩ = ((sg.cps.toList.idxOf c : Nat) : Int) from find_sign (tin c (List.mem_of_getElem? hc'))]
        rfl
    · rintro H1 rfl
      have e0 : t.take (Fst.mk t).cps.size = t := List.take_of_length_le (Nat.le_refl _)
      rw [e0]
      refine ⟨by show 2 ≤ sizeLine; decide, fun b hb => ?_⟩
      have nDb : D ≠ b := fun e => by rw [← e, upd_same] at hb; cases hb
      exact k D b hD (by rw [upd_ne nDb.symm] at hb; exact hb) nDb
end
end Kx

namespace Kx
open PySem L2 Own PinX DicN
abbrev nmPa (_ : Nat) (_ : Nat) : Str := "parted.<locals>.<lambda>"
structure TxtPa (K : PySem.W.Frag) (mg : Str → Option Value) (base : Heap) (T : List NdefX.NTab) (f : Addr) (d : FuncData) (c Pt : Addr) : Prop where
  g : mg "parted" = some (.ref f)
  F : FunC K "parted" "parted" s_parted f d c
  b : Binds K d ["one", "other"] []
  tb : LamX.TabB base mg c Pt
  mem : (Pt, nmPa) ∈ T
  one : ∀ p ∈ T, p.1 = Pt → p.2 = nmPa
  n_min : mg "min" = none
  n_len : mg "len" = none
def keysA (R : List (List Way)) (Es : List (List Str)) : List Str := kl (keysOfRows R ++ Es.flatten)
theorem cat_keys {K : PySem.W.Frag} {H : Hp} {a b : Addr} {xs ys : List Str} {Q : VK} (ha : H a = some (.tup (xs.map V.str))) (hb : H b = some (.tup (ys.map V.str))) (l : xs.length + ys.length ≤ 100000)
    (k : ∀ c H', Same H H' → H' c = some (.tup ((xs ++ ys).map V.str)) → Q (.ref c) H') : rCatA K (.ref a) (.ref b) H Q := by
  refine ⟨a, b, _, _, rfl, rfl, SqT.of ha, SqT.of hb, by rw [List.length_map, List.length_map, sizeLine_eq]; omega, fun e => k b H (Same.refl _) ?_, fun _ e => k a H (Same.refl _) ?_, fun _ _ p hp => k p _ (Same.upd hp) (by rw [upd_same, List.map_append])⟩
  · rw [List.map_eq_nil_iff.mp e]; exact hb
  · rw [List.map_eq_nil_iff.mp e, List.append_nil]; exact ha
/-- tables stay where only a list changes -/
theorem tabs_lst {T : List NdefX.NTab} {H : Hp} {D : Addr} {xs ys : List V} (hD : H D = some (.lst xs)) (t : NdefX.TabsN T H) : NdefX.TabsN T (upd H D (.lst ys)) := fun q hq => by
  obtain ⟨ps, h1, h2, h3⟩ := t q hq
  refine ⟨ps, by rw [upd_ne (ne_of h1 hD (by intro z; cases z))]; exact h1, h2, fun pos cv hc => ?_⟩
  obtain ⟨c, e1, e2⟩ := h3 pos cv hc
  exact ⟨c, e1, by rw [upd_ne (ne_of e2 hD (by unfold LamX.CodeO; intro z; cases z))]; exact e2⟩
/-- the key parts the text -/
def P4 (s1 s2 : Str) (R1 R2 : List (List Way)) (E1 E2 : List (List Str)) (key : Str) (t : List Nat) : Prop := ∃ q, Fst.run (nx4 s1 s2 R1 R2 key) (0, 0, false, false) t = some q ∧ go4 E1 E2 key q = true
abbrev Npa : List Str := ["one", "other", "texts", "key", "text"]
theorem sc_pa : FnScope Npa ["one", "other"] (defScope s_parted) := ⟨rfl, rfl, rfl, by decide +kernel, rfl, by decide +kernel, by decide +kernel⟩
section
variable {P : Program} {w : World} {K : PySem.W.Frag} {mg : Str → Option Value} {base : Heap} {A : EAd} {B : MAd} {Z : CAd} {S : SAd} {T : List NdefX.NTab} {U fs fk ff fb f : Addr} {ds dk df db d : FuncData} {cb Pb c Pt : Addr}
def spParted (Z : CAd) (U : Addr) (T : List NdefX.NTab) : Sp := fun vs H Q E => ∃ (m1 m2 : Addr) (s1 s2 : Str) (R1 R2 : List (List Way)) (E1 E2 : List (List Str)), vs = [.ref m1, .ref m2] ∧ MachAt Z.C H m1 s1 R1 E1 ∧ Full s1 R1 E1 ∧ MachAt Z.C H m2 s2 R2 E2 ∧ Full s2 R2 E2 ∧ Low s1 ∧ Low s2 ∧ s1.cps.size ≤ 4 ∧ 0 < s1.cps.size ∧ R1.length ≤ 16 ∧ R2.length ≤ 16 ∧
  (keysA R1 E1).length ≤ 12 ∧ (keysA R2 E2).length ≤ 12 ∧ NdefX.TabsN T H ∧ (¬ s1.cps.toList.Perm s2.cps.toList → ∀ H', Same H H' → E (.ref U) none H') ∧
  (s1.cps.toList.Perm s2.cps.toList → ∀ r H', LamX.ExtN H H' → NdefX.TabsN T H' → Fst.IsMin s1.cps.toList (fun t => ∃ key ∈ kl (keysA R1 E1 ++ keysA R2 E2), P4 s1 s2 R1 R2 E1 E2 key t) r → Q (Fst.resV r) H')
theorem ok_parted (TM : TxtM K mg B) (TE : TxtE K mg A) (TC : TxtC K mg Z) (TS : TxtS K mg A Z S) (TF : TxtFt K mg ff df) (TB : TxtPb K mg base T fb db cb Pb) (TK : TxtCs K mg A U fs fk ds dk) (TT : TxtPa K mg base T f d c Pt) : FnOk P w K mg base (L2.CX P w) 9 f d ["one", "other"] (spParted Z U T) := by
  have sc := sc_pa
  have G_check : FnOk P w K mg base (L2.CX P w) 3 fk dk ["one", "other"] (spCheckS Z U) := ok_checkS TC TK
  have G_key_list : FnOk P w K mg base CX0 1 B.f2 B.d2 ["given"] (spKl K) := ok_key_list TM
  have G_pb : FnOk P w K mg base CX0 8 fb db ["one", "other", "key"] (spPb Z T) := ok_pb TM TE TC TS TF TB
  refine TT.F.okX sc (fun vs H Q E h => ?_) (fun A1 outer s H vs Q E hr h => ?_)
  · obtain ⟨_, _, _, _, _, _, _, _, rfl, _⟩ := h; rfl
  · obtain ⟨m1, m2, s1, s2, R1, R2, E1, E2, rfl, ma1, f1, ma2, f2, w1, w2, z4, z0, l1, l2, k1, k2, hT, bad, good⟩ := h
    refine ⟨_, (pss_cons (ps_expr (pe_callS G_check (hr.mono (by decide)) rfl TK.D_check_signs.g TK.D_check_signs.F.kp TK.D_check_signs.b (fun σ => passAt (takes_of rfl rfl rfl rfl) σ) (pa_cons (pv 0) (pa_cons (pv 1) pa_nil))))
      (pss_cons (ps_setLc (i := 2) (own := [("key", 3)]) (g := gName 3) (tt := tYes) (te := tCall (spPb Z T) [] E0 (tCons (tVar 0) (tCons (tVar 1) (tCons (tVar 3) tNil)))) rfl sc.nd rfl rfl (sw_true rfl rfl rfl (by decide +kernel)) (pi_tup (pe_call G_key_list (hr.mono (by decide)) rfl TM.D_key_list.g TM.D_key_list.F.kp TM.D_key_list.b .nil pass0 (pa_cons (pe_op op_catA (pe_fld (pv 0) rfl) (pe_fld (pv 1) rfl)) pa_nil))) (blkOk_by (N := Npa) (sc := defScope s_parted) (own := [("key", 3)]) (by decide +kernel)) (fun _ _ _ _ _ => (pg_name (i := 3) sc.nd rfl (Or.inl rfl))) (fun _ _ _ _ _ => pts_nil) (fun _ _ _ _ _ => pe_call G_pb (hr.mono (by decide)) rfl TB.g TB.F.kp TB.b .nil pass0 (pa_cons (pv 0) (pa_cons (pv 1) (pa_cons (pv 3) pa_nil)))))
      (pss_one (ps_ret (pe_minD (js := [0]) (fun f' c' => lok_lk TC TT.n_len f' c' (("parted" : Str) ++ ".<locals>." ++ "<lambda>") _) (fun _ => rfl) (fun ok => NdefX.Caps.made ok (fr := ["one"]) (NdefX.ndef_free (fr := ["one"]) (show NdefX.ndefB (defScope s_parted) (lamSc s_paLam sc00) ["one"] = true by decide +kernel)) (by decide +kernel) rfl) (hr.mono (by decide)) rfl TT.n_min (by decide +kernel)
        (pa_cons (pe_lc (own := [("text", 4)]) (g := gName 4) (tt := tB (tNotN (tVar 4))) (te := tVar 4) rfl sc.nd (pi_list (pv 2)) (blkOk_by (N := Npa) (sc := defScope s_parted) (own := [("text", 4)]) (by decide +kernel)) (fun _ _ _ _ _ => (pg_name (i := 4) sc.nd rfl (Or.inl rfl))) (fun _ _ _ _ _ => pts_one (pt_cmp (pc_notN (pv 4)))) (fun _ _ _ _ _ => pv 4)) pa_nil)
        (pk_cons (pe_lamS (e := s_paLam) rfl TT.tb rfl TT.mem rfl TT.one (NdefX.ndef_free (fr := ["one"]) (show NdefX.ndefB (defScope s_parted) (lamSc s_paLam sc00) ["one"] = true by decide +kernel)) rfl) (pk_cons pe_non pk_nil))))))), ?_⟩
    obtain ⟨dx1, r1, e1, kk1, wy1, rv1, ev1, wv1, hm1, hr1, pr1, he1, pe1, hk1, hw1, pw1⟩ := id ma1
    obtain ⟨dx2, r2, e2, kk2, wy2, rv2, ev2, wv2, hm2, hr2, pr2, he2, pe2, hk2, hw2, pw2⟩ := id ma2
    clear hr1 pr1 he1 pe1 hw1 pw1 hr2 pr2 he2 pe2 hw2 pw2
    refine ⟨_, rfl, _, rfl, m1, m2, s1, s2, R1, R2, E1, E2, rfl, ma1, ma2, w1, w2, fun np H1 sm1 => bad np H1 sm1, fun pm H1 sm1 => ?_⟩
    replace good := good pm
    clear bad
    have sb1 : (keysA R1 E1 ++ keysA R2 E2).length ≤ 24 := by rw [List.length_append]; omega
    refine ⟨_, rfl, m1, Z.C, dx1, _, _, rfl, sm1 _ _ hm1, TC.cl, TC.a4, rfl, _, rfl, m2, Z.C, dx2, _, _, rfl, sm1 _ _ hm2, TC.cl, TC.a4, rfl, ?_⟩
    refine cat_keys (xs := keysA R1 E1) (ys := keysA R2 E2) (sm1 _ _ hk1) (sm1 _ _ hk2) (by rw [List.length_append] at sb1; omega) fun a2 H2 sm2 ha2 => ?_
    refine ⟨.ref a2, _, rfl, .tup (SqT.of ha2), by have e : scanBound = 4096 := rfl; omega, fun q3 H3 hq3 sm3 h3 => ?_⟩
    have s03 : Same H H3 := fun b o z => sm3 _ _ (sm2 _ _ (sm1 _ _ z))
    clear sm1 sm2 sm3 ha2 hk1 hk2 hm1 hm2
    have kl24 : (kl (keysA R1 E1 ++ keysA R2 E2)).length ≤ 24 := Nat.le_trans (kl_len _) sb1
    generalize kl (keysA R1 E1 ++ keysA R2 E2) = ks at good h3 kl24
    have ma13 := ma1.keepE (sameN s03)
    have ma23 := ma2.keepE (sameN s03)
    have T3 := hT.ext s03
    clear ma1 ma2 hT sb1
    have cl4 : s1.cps.toList.length ≤ 4 := by rw [Array.length_toList]; exact z4
    have pos : 0 < s1.cps.toList.length := by rw [Array.length_toList]; exact z0
    refine ⟨q3, rfl, ⟨_, SqT.of h3⟩, fun D hD => ?_⟩
    refine lcs_it [some (.ref m1), some (.ref m2), none, none, none] rfl walk_tup (fun j H' => LamX.ExtN H3 H' ∧ NdefX.TabsN T H' ∧ ∃ rs : List (Option (List Nat)), H' D = some (.lst (rs.map Fst.resV)) ∧ Paired (fun r k => Fst.IsMin s1.cps.toList (P4 s1 s2 R1 R2 E1 E2 k) r) rs (ks.take j) ∧ ∀ u, some u ∈ rs → u.length ≤ 1024)
      ⟨sameN (Same.upd hD), T3.ext (Same.upd hD), [], upd_same, .nil, fun u hu => nomatch hu⟩ (fun j H' _ z => SqT.of (z.1 _ _ h3 fun ps y => by cases y)) ?_ ?_
    · rintro j x _ H4 hj ⟨e4, T4, rs, hrs, prs, lrs⟩ ⟨rfl, hx⟩
      rw [List.getElem?_map] at hx
      obtain ⟨key, hkey, rfl⟩ := Option.map_eq_some_iff.mp hx
      have tk : ks.take (j + 1) = ks.take j ++ [key] := by rw [List.take_add_one, hkey]; rfl
      refine ⟨rfl, tyes ?_⟩
      simp only [if_true]
      refine ⟨_, rfl, _, rfl, _, rfl, m1, m2, key, s1, s2, R1, R2, E1, E2, rfl, ma13.keepE e4, f1, ma23.keepE e4, f2, z4, l1, l2, fun c hc => pm.mem_iff.mp hc, T4, fun r H5 e5 T5 st lr => ?_⟩
      have hrs5 : H5 D = some (.lst (rs.map Fst.resV)) := e5 _ _ hrs fun ps y => by cases y
      have lrs5 : rs.length ≤ 24 := by
        have h1 := Paired.length prs
        have h2 : (ks.take j).length ≤ ks.length := by rw [List.length_take]; exact Nat.min_le_right _ _
        omega
      refine ⟨_, hrs5, by rw [List.length_map, sizeLine_eq]; omega, fun b o z nt => ?_, tabs_lst hrs5 T5, rs ++ [r], by rw [upd_same, List.map_append]; rfl, ?_, fun u hu => ?_⟩
      · rw [upd_ne (ne_of_none z hD)]
        exact e5 _ _ (e4 _ _ z nt) nt
      · rw [tk]
        exact psnoc prs (Fst.stop_min f1.nd pos st)
      · rcases List.mem_append.mp hu with hu | hu
        · exact lrs u hu
        · exact lr u (List.mem_singleton.mp hu).symm
    · rintro H4 ⟨e4, T4, rs, hrs, prs, lrs⟩
      have lk : (ks.map V.str).length = ks.length := List.length_map ..
      rw [lk, List.take_length] at prs
      have lrs2 : rs.length ≤ 24 := by have := Paired.length prs; omega
      have ma14 := ma13.keepE e4
      have e04 : LamX.ExtN H H4 := (sameN s03).trans e4
      have mn := Fst.min_all pos prs
      have oo : ∀ u, some u ∈ rs → Fst.Of s1.cps.toList u := fun u hu => by
        obtain ⟨i, hi⟩ := List.getElem?_of_mem hu
        obtain ⟨k, _, m⟩ := pat prs hi
        exact m.1
      clear prs ma13 ma23 T3 h3 hD hq3 s03 e4
      refine ⟨_, rfl, D, rfl, ⟨_, SqL.of hrs⟩, fun D2 hD2 => ?_⟩
      refine lcs_it [some (.ref m1), some (.ref m2), some (.ref D), none, none] rfl walk_list (fun j H' => Same H4 H' ∧ H' D2 = some (.lst (((rs.take j).filterMap id).map fun t => V.str (Fst.mk t)))) ⟨Same.upd hD2, upd_same⟩ (fun j H' _ z => SqL.of (z.1 _ _ hrs)) ?_ ?_
      · rintro j x _ H5 hj ⟨s5, h5⟩ ⟨rfl, hx⟩
        rw [List.getElem?_map] at hx
        obtain ⟨r, hr5, rfl⟩ := Option.map_eq_some_iff.mp hx
        have tk : rs.take (j + 1) = rs.take j ++ [r] := by rw [List.take_add_one, hr5]; rfl
        rw [tk, List.filterMap_append]
        cases r with
        | none =>
          refine ⟨rfl, _, rfl, _, rfl, ?_⟩
          exact iteF ⟨s5, by simpa using h5⟩
        | some u =>
          refine ⟨rfl, _, rfl, _, rfl, ?_⟩
          refine iteT ⟨_, rfl, _, h5, ?_, fun b o z => ?_, ?_⟩
          · have := List.length_filterMap_le id (rs.take j)
            have : (rs.take j).length ≤ rs.length := by rw [List.length_take]; exact Nat.min_le_right _ _
            rw [List.length_map, sizeLine_eq]; omega
          · rw [upd_ne (ne_of_none z hD2)]; exact s5 _ _ z
          · rw [upd_same, List.map_append]; rfl
      · rintro H5 ⟨s5, h5⟩
        have lk2 : (rs.map Fst.resV).length = rs.length := List.length_map ..
        rw [lk2, List.take_length] at h5
        have T5 := T4.ext s5
        have ma15 := ma14.keepE (sameN s5)
        refine ⟨T5, fun f6 c6 H6 e6 m6 T6 f6n f6a c6a => ?_⟩
        have h6 : H6 D2 = some (.lst ((rs.filterMap id).map fun t => V.str (Fst.mk t))) := e6 _ _ h5 fun ps y => by cases y
        have ma16 := ma15.keepE e6
        have e06 : LamX.ExtN H H6 := e04.trans ((sameN s5).trans e6)
        have mem : ∀ u, u ∈ rs.filterMap id ↔ some u ∈ rs := fun u => by simp
        generalize rs.filterMap id = ts at h6 mn mem
        refine ⟨D2, f6, c6, ts.map fun t => V.str (Fst.mk t), ts.map (Fst.keyP s1.cps.toList), .non, rfl, rfl, SqL.of h6, f6a, c6a, fun i x hx => ?_, fun e => ?_, fun x hx => ?_⟩
        · rw [List.getElem?_map] at hx
          obtain ⟨t, ht, rfl⟩ := Option.map_eq_some_iff.mp hx
          have e : (ts.map (Fst.keyP s1.cps.toList)).getD i (0, []) = Fst.keyP s1.cps.toList t := by rw [List.getD_eq_getElem?_getD, List.getElem?_map, ht]; rfl
          rw [e]
          have tm := (mem t).mp (List.mem_of_getElem? ht)
          exact ⟨m1, s1, R1, E1, t, rfl, rfl, ma16, by have := lrs t tm; omega, oo t tm, fun a b ha hb nab => ⟨a, b, rfl, ha, hb, nab, rfl⟩⟩
        · have e : ts = [] := List.map_eq_nil_iff.mp e
          rw [if_pos e] at mn
          exact good none H6 e06 T6 mn
        · rw [List.length_map] at hx
          rw [show PySem.argBest (PinX.ltP (ts.map (Fst.keyP s1.cps.toList))) (ts.length - 1) = Fst.bestT s1.cps.toList ts from rfl, List.getElem?_map] at hx
          obtain ⟨t, ht, rfl⟩ := Option.map_eq_some_iff.mp hx
          have ne : ts ≠ [] := fun e => by rw [e] at ht; simp at ht
          rw [if_neg ne, show ts.getD (Fst.bestT s1.cps.toList ts) [] = t by rw [List.getD_eq_getElem?_getD, ht]; rfl] at mn
          exact good (some t) H6 e06 T6 mn
end
end Kx

/-! the walks of the program and of the law come to the same text -/
namespace Kx
open PySem L2 Own PinX DicN
theorem kl_nil : kl [] = [] := List.eq_nil_iff_forall_not_mem.mpr fun y hy => nomatch kl_mem.mp hy
theorem keysW_mem {sg : Str} {R : List (List Way)} {Es : List (List Str)} {t : List Nat} {y : Str} : y ∈ keysW sg R Es t ↔ y ∈ (runW sg R 0 t).2 ∨ y ∈ Es.getD (runW sg R 0 t).1 [] := by
  unfold keysW
  rw [kl_mem, List.mem_append]
theorem keysW_in {sg : Str} {R : List (List Way)} {Es : List (List Str)} (F : Full sg R Es) (t : List Nat) : ∀ y ∈ keysW sg R Es t, y ∈ keysA R Es := fun y hy => by
  unfold keysA
  refine kl_mem.mpr (List.mem_append.mpr ?_)
  rcases keysW_mem.mp hy with h | h
  · exact .inl ((F.run F.pos t).2 y h)
  · exact .inr (end_in h)
section
variable {sg s1 s2 : Str} {R R1 R2 : List (List Way)} {Es E1 E2 : List (List Str)}
theorem acc_one (s : Nat) (ks : List Str) (c : Nat) : acc1 sg R (s, ks) c = (nxW sg R s c, ks ++ (runW sg R s [c]).2) := by
  have e : runW sg R s [c] = acc1 sg R (s, []) c := rfl
  unfold nxW
  rw [e]
  unfold acc1
  cases stepW sg R s c with
  | none => simp
  | some w => rfl
theorem run_sn (s : Nat) (t : List Nat) (c : Nat) : runW sg R s (t ++ [c]) = (nxW sg R (runW sg R s t).1 c, (runW sg R s t).2 ++ (runW sg R (runW sg R s t).1 [c]).2) := by
  rw [runW_snoc]
  exact acc_one _ _ _
theorem run4 (key : Str) : ∀ t, Fst.run (nx4 s1 s2 R1 R2 key) (0, 0, false, false) t = some ((runW s1 R1 0 t).1, (runW s2 R2 0 t).1, decide (key ∈ (runW s1 R1 0 t).2), decide (key ∈ (runW s2 R2 0 t).2)) := by
  refine Fst.snoc_ind (by simp [Fst.run, runW]) fun t c ih => ?_
  rw [Fst.run_snoc, ih, run_sn, run_sn]
  show nx4 s1 s2 R1 R2 key _ c = _
  have gv : ∀ {sg : Str} {R : List (List Way)} {i : Nat}, decide (key ∈ gvW sg R i c) = decide (key ∈ (runW sg R i [c]).2) := fun {sg R i} => by
    rw [decide_eq_decide]; exact kl_mem
  unfold nx4
  dsimp only
  rw [gv, gv]
  simp
theorem p4_iff {key : Str} {t : List Nat} : P4 s1 s2 R1 R2 E1 E2 key t ↔ ¬ (key ∈ keysW s1 R1 E1 t ↔ key ∈ keysW s2 R2 E2 t) := by
  unfold P4
  rw [run4, keysW_mem, keysW_mem]
  constructor
  · rintro ⟨q, hq, g⟩
    rw [← Option.some.inj hq] at g
    intro h
    unfold go4 at g
    simp only [Bool.not_eq_true', beq_eq_false_iff_ne, ne_eq] at g
    apply g
    rw [Bool.eq_iff_iff]
    simpa using h
  · intro h
    refine ⟨_, rfl, ?_⟩
    unfold go4
    simp only [Bool.not_eq_true', beq_eq_false_iff_ne, ne_eq]
    intro e
    apply h
    rw [Bool.eq_iff_iff] at e
    simpa using e
theorem kl_same {xs ys : List Str} : kl xs = kl ys ↔ ∀ y, y ∈ xs ↔ y ∈ ys := by
  constructor
  · intro e y
    rw [← kl_mem (xs := xs), ← kl_mem (xs := ys), e]
  · exact kl_congr
/-- some key parts the text: its keys are not the same -/
theorem parts_iff (F1 : Full s1 R1 E1) (F2 : Full s2 R2 E2) {t : List Nat} : (∃ key ∈ kl (keysA R1 E1 ++ keysA R2 E2), P4 s1 s2 R1 R2 E1 E2 key t) ↔ keysW s1 R1 E1 t ≠ keysW s2 R2 E2 t := by
  have e : keysW s1 R1 E1 t = keysW s2 R2 E2 t ↔ ∀ y, y ∈ keysW s1 R1 E1 t ↔ y ∈ keysW s2 R2 E2 t := by
    constructor
    · intro h y; rw [h]
    · intro h
      unfold keysW
      exact kl_congr fun y => by have := h y; unfold keysW at this; rw [kl_mem, kl_mem] at this; exact this
  constructor
  · rintro ⟨key, _, h⟩ q
    exact p4_iff.mp h ((e.mp q) key)
  · intro h
    rw [ne_eq, e, Classical.not_forall] at h
    obtain ⟨y, hy⟩ := h
    refine ⟨y, kl_mem.mpr (List.mem_append.mpr ?_), p4_iff.mpr hy⟩
    by_cases a : y ∈ keysW s1 R1 E1 t
    · exact .inl (keysW_in F1 t y a)
    · by_cases b : y ∈ keysW s2 R2 E2 t
      · exact .inr (keysW_in F2 t y b)
      · exact absurd ⟨fun x => absurd x a, fun x => absurd x b⟩ hy
/-! ### the law's walk -/
abbrev LbK := Nat × Nat × List Str × List Str
def nxK (s1 s2 : Str) (R1 R2 : List (List Way)) (l : LbK) (c : Nat) : Option LbK := some (nxW s1 R1 l.1 c, nxW s2 R2 l.2.1 c, kl (l.2.2.1 ++ (runW s1 R1 l.1 [c]).2), kl (l.2.2.2 ++ (runW s2 R2 l.2.1 [c]).2))
def goK (E1 E2 : List (List Str)) (l : LbK) : Bool := !decide (kl (l.2.2.1 ++ E1.getD l.1 []) = kl (l.2.2.2 ++ E2.getD l.2.1 []))
theorem kl_app (a b : List Str) : kl (kl a ++ b) = kl (a ++ b) := kl_congr fun y => by rw [List.mem_append, List.mem_append, kl_mem]
theorem runK : ∀ t, Fst.run (nxK s1 s2 R1 R2) (0, 0, [], []) t = some ((runW s1 R1 0 t).1, (runW s2 R2 0 t).1, kl (runW s1 R1 0 t).2, kl (runW s2 R2 0 t).2) := by
  refine Fst.snoc_ind (by simp [Fst.run, runW, kl_nil]) fun t c ih => ?_
  rw [Fst.run_snoc, ih, run_sn, run_sn]
  show nxK s1 s2 R1 R2 _ c = _
  unfold nxK
  dsimp only
  rw [kl_app, kl_app]
theorem k_iff {t : List Nat} : (∃ q, Fst.run (nxK s1 s2 R1 R2) (0, 0, [], []) t = some q ∧ goK E1 E2 q = true) ↔ keysW s1 R1 E1 t ≠ keysW s2 R2 E2 t := by
  rw [runK]
  unfold keysW
  constructor
  · rintro ⟨q, hq, g⟩
    rw [← Option.some.inj hq] at g
    unfold goK at g
    dsimp only at g
    rw [kl_app, kl_app] at g
    simpa using g
  · intro h
    refine ⟨_, rfl, ?_⟩
    unfold goK
    dsimp only
    rw [kl_app, kl_app]
    simpa using h
/-- both come to the same -/
theorem parted_one (F1 : Full s1 R1 E1) (F2 : Full s2 R2 E2) (ne : 0 < s1.cps.toList.length) {r r' : Option (List Nat)} (hp : Fst.IsMin s1.cps.toList (fun t => ∃ key ∈ kl (keysA R1 E1 ++ keysA R2 E2), P4 s1 s2 R1 R2 E1 E2 key t) r) (hl : Fst.Stop (nxK s1 s2 R1 R2) (goK E1 E2) (0, 0, [], []) s1.cps.toList r') : r = r' :=
  Fst.min_one hp (Fst.stop_min F1.nd ne hl) (fun t _ h => k_iff.mpr ((parts_iff F1 F2).mp h)) fun t ho h => ⟨t, ho, (parts_iff F1 F2).mpr (k_iff.mp h), Nat.le_refl _⟩
theorem min_two (F1 : Full s1 R1 E1) (F2 : Full s2 R2 E2) (ne : 0 < s1.cps.toList.length) {r : Option (List Nat)} (hl : Fst.Stop (nxK s1 s2 R1 R2) (goK E1 E2) (0, 0, [], []) s1.cps.toList r) : Fst.IsMin s1.cps.toList (fun t => keysW s1 R1 E1 t ≠ keysW s2 R2 E2 t) r := by
  have := Fst.stop_min F1.nd ne hl
  rwa [show (fun t => ∃ q, Fst.run (nxK s1 s2 R1 R2) (0, 0, [], []) t = some q ∧ goK E1 E2 q = true) = fun t => keysW s1 R1 E1 t ≠ keysW s2 R2 E2 t from funext fun t => propext k_iff] at this
end
end Kx

namespace Kx
open PySem L2 Own
abbrev s__law_signs : Stmt := top 43
abbrev s__law_keys : Stmt := top 44
abbrev s__law_tables : Stmt := top 45
structure LAd where
  f1 : Addr
  f2 : Addr
  f3 : Addr
  d1 : FuncData
  d2 : FuncData
  d3 : FuncData
  p1 : Addr
  p2 : Addr
  p3 : Addr
  q1 : FuncData
  q2 : FuncData
  q3 : FuncData
structure TxtL (K : PySem.W.Frag) (mg : Str → Option Value) (L : LAd) : Prop where
  pen : TxtP K mg L.p1 L.p2 L.p3 L.q1 L.q2 L.q3
  D__law_signs : DefT K mg "_law_signs" "_law_signs" s__law_signs ["pen", "many"] L.f1 L.d1
  D__law_keys : DefT K mg "_law_keys" "_law_keys" s__law_keys ["pen", "words"] L.f2 L.d2
  D__law_tables : DefT K mg "_law_tables" "_law_tables" s__law_tables ["pen", "signs", "most", "words"] L.f3 L.d3
  n_len : mg "len" = none
  n_range : mg "range" = none
  n_set : mg "set" = none
  n_sorted : mg "sorted" = none
section
variable {P : Program} {w : World} {K : PySem.W.Frag} {mg : Str → Option Value} {base : Heap} {L : LAd}
def alpha : List Nat := (List.range 26).map (97 + ·)
def spSigns : Sp := fun vs H Q _ => ∃ (p c : Addr) (many n : Nat), vs = [.ref p, .int many] ∧ PenAt H p c n ∧ n + many ≤ 1000000 ∧ many ≤ 26 ∧
  ∀ (sg : Str) H', sg.cps.size = many → sg.cps.toList.Nodup → (∀ c ∈ sg.cps.toList, c ∈ alpha) → PenAt H' p c (n + many) → SameBut p H H' → Q (.str sg) H'
theorem sc_signs : FnScope ["pen", "many", "left", "found", "turn", "at"] ["pen", "many"] (defScope s__law_signs) := ⟨rfl, rfl, rfl, by decide +kernel, rfl, by decide +kernel, by decide +kernel⟩
theorem ok_signs (T : TxtL K mg L) : FnOk P w K mg base CX0 2 L.f1 L.d1 ["pen", "many"] spSigns := by
  have sc := sc_signs
  have G_draw : FnOk P w K mg base CX0 1 L.p2 L.q2 ["pen", "many"] spDraw := ok_draw T.pen
  refine T.D__law_signs.F.ok sc (fun vs H Q E h => ?_) (fun cdv A1 outer s H vs Q E hr h => ?_)
  · obtain ⟨_, _, _, _, rfl, _⟩ := h; rfl
  · obtain ⟨p, pc, many, n, rfl, hp, hn, h26, k⟩ := h
    refine ⟨_, (pss_cons (ps_asg (pe_tup (pa_cons pe_str (pa_cons pe_str pa_nil))) (pg_tup rfl (pgs_cons (pg_name (i := 2) sc.nd rfl (Or.inl rfl)) (pgs_cons (pg_name (i := 3) sc.nd rfl (Or.inl rfl)) pgs_nil))))
      (pss_cons (ps_for PassesOwn.never rfl (pi_range1 rfl T.n_range (pa_cons (pv 1) pa_nil)) (pg_name (i := 4) sc.nd rfl (Or.inl rfl))
        (pss_cons (ps_set (i := 5) sc.nd rfl (Or.inl rfl) (pe_call G_draw (hr.mono (by decide)) rfl T.pen.D__law_draw.g T.pen.D__law_draw.F.kp T.pen.D__law_draw.b .nil pass0 (pa_cons (pv 0) (pa_cons (pe_callB call_len (by rfl) T.n_len (by decide +kernel) (pa_cons (pv 2) pa_nil)) pa_nil))))
        (pss_one (ps_par (i := 3) (j := 2) rfl sc.nd rfl rfl (by decide) rfl rfl (pa_cons (pe_op op_add_str (pv 3) (pe_ix ix_str (pv 2) (pv 5) (fun _ _ => rfl))) (pa_cons (pe_op op_add_str (pe_slice sl_str (pv 2) po_none (po_some (pv 5))) (pe_slice sl_str (pv 2) (po_some (pe_op op_add (pv 5) pe_int)) po_none)) pa_nil)) rfl))))
      (pss_one (ps_ret (pv 3))))), ?_⟩
    have lt26 : alpha.length = 26 := rfl
    refine ⟨by show 2 ≤ sizeLine; decide, fun t0 ht0 => ⟨t0, _, rfl, SqT.of upd_same, rfl, _, _, rfl, _, _, rfl, rfl, ?_⟩⟩
    have hp0 : PenAt (upd H t0 (.tup [.str "abcdefghijklmnopqrstuvwxyz", .str ""])) p pc n := hp.keep (Same.upd ht0)
    have sb0 : SameBut p H (upd H t0 (.tup [.str "abcdefghijklmnopqrstuvwxyz", .str ""])) := .new ht0
    generalize upd H t0 (.tup [.str "abcdefghijklmnopqrstuvwxyz", .str ""]) = H0 at hp0 sb0 ⊢
    refine ⟨_, rfl, many, rfl, by omega, by omega, ?_⟩
    rw [Int.toNat_natCast]
    refine for_it walk_range (fun i σ H' => ∃ x4 x5, ∃ l f : Str, σ = [some (.ref p), some (.int many), some (.str l), some (.str f), x4, x5] ∧ PenAt H' p pc (n + i) ∧ SameBut p H H' ∧ (f.cps.toList ++ l.cps.toList).Perm alpha ∧ f.cps.size = i)
      ⟨_, _, _, _, rfl, hp0, sb0, by decide +kernel, rfl⟩ (fun _ _ _ _ _ => trivial) ?_ ?_
    · rintro i x σ _ H1 hi ⟨x4, x5, l, f, rfl, hp1, sb1, pm, fz⟩ ⟨rfl, rfl⟩
      have hlen : f.cps.size + l.cps.size = 26 := by
        have e := pm.length_eq
        rw [List.length_append, Array.length_toList, Array.length_toList] at e
        exact e
      have ll : l.length = l.cps.size := rfl
      have fl : f.length = f.cps.size := rfl
      refine ⟨_, rfl, _, rfl, .str l, l.length, rfl, ⟨by rw [sizeLine_eq]; omega, rfl⟩, p, pc, _, n + i, rfl, hp1, by omega, by omega, by omega, fun at1 H2 r0 r1 hp2 sb2 => ?_⟩
      obtain ⟨j, rfl⟩ := Int.eq_ofNat_of_zero_le r0
      have jl : j < l.cps.toList.length := by rw [Array.length_toList]; omega
      have hc : l.cps.toList[j]? = some l.cps.toList[j] := List.getElem?_eq_getElem jl
      generalize l.cps.toList[j] = c at hc
      refine ⟨_, rfl, _, rfl, _, rfl, l, _, c, rfl, rfl, by rw [sizeLine_eq]; omega, atI_nat hc, f, ⟨#[c]⟩, rfl, rfl, ?_, ?_⟩
      · show f.length + 1 ≤ sizeLine
        rw [sizeLine_eq]; omega
      refine ⟨_, rfl, _, rfl, _, rfl, l, rfl, by rw [sizeLine_eq]; omega, ?_⟩
      have e1 : cutS l none (some ((j : Nat) : Int)) = ⟨(l.cps.toList.take j).toArray⟩ := by
        unfold cutS
        rw [HT.sIx_none, HT.sIx_nat]
        have : min j l.length = j := by omega
        rw [this]
        simp
      have e2 : cutS l (some (((j : Nat) : Int) + 1)) none = ⟨(l.cps.toList.drop (j + 1)).toArray⟩ := by
        unfold cutS
        rw [show ((j : Nat) : Int) + 1 = ((j + 1 : Nat) : Int) from rfl, HT.sIx_none, HT.sIx_nat]
        have : min (j + 1) l.length = j + 1 := by omega
        rw [this, List.take_of_length_le]
        rw [List.length_drop, Array.length_toList]
        omega
      refine ⟨_, rfl, _, rfl, _, _, rfl, rfl, _, rfl, l, rfl, by rw [sizeLine_eq]; omega, _, _, rfl, rfl, ?_, _, _, rfl, ?_⟩
      · show (cutS l none (some ((j : Nat) : Int))).length + (cutS l (some (((j : Nat) : Int) + 1)) none).length ≤ sizeLine
        rw [e1, e2]
        show (l.cps.toList.take j).toArray.size + (l.cps.toList.drop (j + 1)).toArray.size ≤ sizeLine
        rw [List.size_toArray, List.size_toArray, List.length_take, List.length_drop, Array.length_toList, sizeLine_eq]
        omega
      · refine ⟨_, _, _, _, rfl, hp2, sb1.trans sb2, ?_, ?_⟩
        · show ((f.cps ++ #[c]).toList ++ ((cutS l none (some ((j : Nat) : Int))).cps ++ (cutS l (some (((j : Nat) : Int) + 1)) none).cps).toList).Perm alpha
          rw [e1, e2]
          refine List.Perm.trans ?_ pm
          have sp : l.cps.toList = l.cps.toList.take j ++ c :: l.cps.toList.drop (j + 1) := by
            have h1 := List.take_append_drop j l.cps.toList
            obtain ⟨hj, ec⟩ := List.getElem?_eq_some_iff.mp hc
            rw [List.drop_eq_getElem_cons hj, ec] at h1
            exact h1.symm
          have lhs : ((f.cps ++ #[c]).toList ++ ((⟨(l.cps.toList.take j).toArray⟩ : Str).cps ++ (⟨(l.cps.toList.drop (j + 1)).toArray⟩ : Str).cps).toList) = f.cps.toList ++ (c :: (l.cps.toList.take j ++ l.cps.toList.drop (j + 1))) := by simp
          rw [lhs]
          refine List.Perm.append_left _ ?_
          refine List.Perm.trans ?_ (List.Perm.of_eq sp.symm)
          exact List.perm_middle.symm
        · show (f.cps ++ #[c]).size = i + 1
          rw [Array.size_append, fz]
          rfl
    · rintro σ H1 ⟨x4, x5, l, f, rfl, hp1, sb1, pm, fz⟩
      refine ⟨_, rfl, k f H1 fz ?_ (fun c hc => pm.mem_iff.mp (List.mem_append_left _ hc)) hp1 sb1⟩
      have nd : (f.cps.toList ++ l.cps.toList).Nodup := pm.nodup_iff.mpr (by decide +kernel)
      exact (List.nodup_append.mp nd).1
end
end Kx

namespace Kx
open PySem L2 Own
section
variable {P : Program} {w : World} {K : PySem.W.Frag} {mg : Str → Option Value} {base : Heap} {L : LAd}
/-- up to two of the words, each once, in their order -/
def spKeys : Sp := fun vs H Q _ => ∃ (p c q : Addr) (n : Nat) (ws : List Str), vs = [.ref p, .ref q] ∧ PenAt H p c n ∧ n + 3 ≤ 1000000 ∧ H q = some (.lst (ws.map V.str)) ∧ 0 < ws.length ∧ ws.length ≤ 1000 ∧
  ∀ (t : Addr) (ks : List Str) (H' : Hp), H t = none → H' t = some (.lst (ks.map V.str)) → (∀ y ∈ ks, y ∈ ws) → ks.length ≤ 2 → kl ks = ks → PenAt H' p c (n + 3) → SameBut p H H' → Q (.ref t) H'
theorem sc_keys : FnScope ["pen", "words", "many", "k"] ["pen", "words"] (defScope s__law_keys) := ⟨rfl, rfl, rfl, by decide +kernel, rfl, by decide +kernel, by decide +kernel⟩
theorem ok_keys (T : TxtL K mg L) : FnOk P w K mg base CX0 3 L.f2 L.d2 ["pen", "words"] spKeys := by
  have sc := sc_keys
  have G_pick : FnOk P w K mg base CX0 2 L.p3 L.q3 ["pen", "items"] spPick := ok_pick T.pen
  refine T.D__law_keys.F.ok sc (fun vs H Q E h => ?_) (fun cdv A1 outer s H vs Q E hr h => ?_)
  · obtain ⟨_, _, _, _, _, rfl, _⟩ := h; rfl
  · obtain ⟨p, c, q, n, ws, rfl, hp, hn, hq, w0, w1, k⟩ := h
    refine ⟨_, (pss_cons (ps_set (i := 2) sc.nd rfl (Or.inl rfl) (pe_call G_pick (hr.mono (by decide)) rfl T.pen.D__law_pick.g T.pen.D__law_pick.F.kp T.pen.D__law_pick.b .nil pass0 (pa_cons (pv 0) (pa_cons (pe_lst (pa_cons pe_int (pa_cons pe_int (pa_cons pe_int (pa_cons pe_int (pa_cons pe_int (pa_cons pe_int pa_nil))))))) pa_nil))))
      (pss_one (ps_ret (pe_callB (cr_sortT rfl) (by rfl) T.n_sorted (by decide +kernel) (pa_cons (pe_callTy (cr_setT rfl) (by rfl) T.n_set (by decide +kernel) (pa_cons
        (pe_lc (own := [("k", 3)]) (g := gName 3) (tt := tYes) rfl sc.nd (pi_range1 rfl T.n_range (pa_cons (pv 2) pa_nil)) (blkOk_by (N := ["pen", "words", "many", "k"]) (sc := defScope s__law_keys) (own := [("k", 3)]) (by decide +kernel)) (fun _ _ _ _ _ => (pg_name (i := 3) sc.nd rfl (Or.inl rfl))) (fun _ _ _ _ _ => pts_nil)
          (fun _ _ _ _ _ => pe_call G_pick (hr.mono (by decide)) rfl T.pen.D__law_pick.g T.pen.D__law_pick.F.kp T.pen.D__law_pick.b .nil pass0 (pa_cons (pv 0) (pa_cons (pv 1) pa_nil)))) pa_nil)) pa_nil))))), ?_⟩
    refine ⟨_, rfl, by show 6 ≤ sizeLine; decide, fun l0 hl0 => ?_⟩
    have s0 : Same H (upd H l0 (.lst [.int 0, .int 0, .int 0, .int 1, .int 1, .int 2])) := Same.upd hl0
    have i0 : (upd H l0 (.lst [.int 0, .int 0, .int 0, .int 1, .int 1, .int 2])) l0 = some (.lst [.int 0, .int 0, .int 0, .int 1, .int 1, .int 2]) := upd_same
    generalize upd H l0 (.lst [.int 0, .int 0, .int 0, .int 1, .int 1, .int 2]) = H0 at s0 i0 ⊢
    refine ⟨p, c, l0, _, n, rfl, hp.keep s0, by omega, i0, by show 0 < 6; decide, by show 6 ≤ 1000000; decide, fun v i H1 hv hp1 sb1 => ?_⟩
    obtain ⟨m, m2, rfl⟩ : ∃ m : Nat, m ≤ 2 ∧ v = .int m := by
      have hi : i < 6 := (List.getElem?_eq_some_iff.mp hv).1
      match i, hi, hv with
      | 0, _, hv => exact ⟨0, by omega, (Option.some.inj hv).symm⟩
      | 1, _, hv => exact ⟨0, by omega, (Option.some.inj hv).symm⟩
      | 2, _, hv => exact ⟨0, by omega, (Option.some.inj hv).symm⟩
      | 3, _, hv => exact ⟨1, by omega, (Option.some.inj hv).symm⟩
      | 4, _, hv => exact ⟨1, by omega, (Option.some.inj hv).symm⟩
      | 5, _, hv => exact ⟨2, by omega, (Option.some.inj hv).symm⟩
    have sbH : SameBut p H H1 := (SameBut.of s0).trans sb1
    have nq : q ≠ p := hp.ne hq
    -- the display
    refine ⟨_, rfl, m, rfl, by omega, by omega, fun D hD => ?_⟩
    rw [Int.toNat_natCast]
    refine lcs_it [some (.ref p), some (.ref q), some (.int m), none] rfl walk_range (fun i H' => PenAt H' p c (n + 1 + i) ∧ SameBut p H H' ∧ ∃ xs : List Str, H' D = some (.lst (xs.map V.str)) ∧ xs.length = i ∧ ∀ y ∈ xs, y ∈ ws) ?_ (fun _ _ _ _ => trivial) ?_ ?_
    · exact ⟨hp1.keep (Same.upd hD), sbH.trans (.new hD), [], upd_same, rfl, fun y hy => nomatch hy⟩
    · rintro i x _ H2 hi ⟨hp2, sb2, xs, hxs, hl, hw⟩ ⟨rfl, rfl⟩
      have ap := hp1.apart hD
      have mw : (ws.map V.str).length = ws.length := List.length_map ..
      refine ⟨rfl, _, rfl, _, rfl, p, c, q, ws.map V.str, n + 1 + i, rfl, hp2, by omega, sb2 _ _ hq nq, by omega, by omega, fun v j H3 hv hp3 sb3 => ?_⟩
      rw [List.getElem?_map] at hv
      obtain ⟨y, hy, rfl⟩ := Option.map_eq_some_iff.mp hv
      have hD3 := sb3 _ _ hxs ap.1
      refine ⟨xs.map V.str, hD3, ?_, hp3.put ap.1 ap.2, fun b o e nb => ?_, xs ++ [y], by rw [upd_same, List.map_append]; rfl, by rw [List.length_append, hl]; rfl, fun z hz => ?_⟩
      · rw [List.length_map, sizeLine_eq]; omega
      · have nD : b ≠ D := ne_of_none (sbH _ _ e nb) hD
        rw [upd_ne nD]
        exact sb3 _ _ (sb2 _ _ e nb) nb
      · rcases List.mem_append.mp hz with hz | hz
        · exact hw z hz
        · rw [List.mem_singleton.mp hz]
          exact List.mem_of_getElem? hy
    · rintro H2 ⟨hp2, sb2, xs, hxs, hl, hw⟩
      refine ⟨.ref D, xs, rfl, .list (SqL.of hxs), by unfold scanBound; omega, fun s3 l hs3 nd hm ln => ?_⟩
      refine ⟨s3, l, rfl, upd_same, by unfold scanBound; omega, fun t ys ht pm so => ?_⟩
      have ek := kl_of pm so nd hm
      have s2 : Same H2 (upd (upd H2 s3 (SetT P w s3 l)) t (.lst (ys.map V.str))) := fun b o e => Same.upd ht _ _ (Same.upd hs3 _ _ e)
      refine k t ys _ ?_ upd_same (fun y hy => hw y ((hm y).mp (pm.mem_iff.mp hy))) ?_ ?_ ((hp2.keep s2).mono (by omega)) (sb2.trans (.of s2))
      · cases e : H t with
        | none => rfl
        | some o =>
          have ht2 : H2 t = none := (Same.upd hs3).free ht
          by_cases tp : t = p
          · obtain ⟨_, _, _, h1, _⟩ := hp2
            rw [tp, h1] at ht2
            cases ht2
          · have := sb2 _ _ e tp
            rw [this] at ht2
            cases ht2
      · rw [pm.length_eq]; omega
      · rw [ek]; exact kl_kl _
end
end Kx

namespace Kx
open PySem L2 Own
/-- drawn keys: words, each once, in order, at most two -/
def KeyOk (ws ks : List Str) : Prop := (∀ y ∈ ks, y ∈ ws) ∧ ks.length ≤ 2 ∧ kl ks = ks
/-- objects of H that G had not -/
def WayN (G H : Hp) (v : V) (w : Way) : Prop := ∃ a kv, v = .ref a ∧ H a = some (.tup [.int w.1, .ref kv]) ∧ H kv = some (.lst (w.2.map V.str)) ∧ G a = none ∧ G kv = none
def RowN (G H : Hp) (v : V) (r : List Way) : Prop := ∃ a vs, v = .ref a ∧ H a = some (.lst vs) ∧ G a = none ∧ Paired (WayN G H) vs r
def KeyN (G H : Hp) (v : V) (ks : List Str) : Prop := ∃ a, v = .ref a ∧ H a = some (.lst (ks.map V.str)) ∧ G a = none
def Nk (G H H' : Hp) : Prop := ∀ b o, H b = some o → G b = none → H' b = some o
theorem WayN.keep {G G' H H' : Hp} (k : Nk G H H') (g : ∀ b, G b = none → G' b = none) {v : V} {w : Way} (h : WayN G H v w) : WayN G' H' v w := by
  obtain ⟨a, kv, e, h1, h2, g1, g2⟩ := h
  exact ⟨a, kv, e, k _ _ h1 g1, k _ _ h2 g2, g _ g1, g _ g2⟩
theorem RowN.keep {G G' H H' : Hp} (k : Nk G H H') (g : ∀ b, G b = none → G' b = none) {v : V} {r : List Way} (h : RowN G H v r) : RowN G' H' v r := by
  obtain ⟨a, vs, e, h1, g1, pr⟩ := h
  exact ⟨a, vs, e, k _ _ h1 g1, g _ g1, L2.Paired.mapP pr fun _ _ z => z.keep k g⟩
theorem KeyN.keep {G G' H H' : Hp} (k : Nk G H H') (g : ∀ b, G b = none → G' b = none) {v : V} {ks : List Str} (h : KeyN G H v ks) : KeyN G' H' v ks := by
  obtain ⟨a, e, h1, g1⟩ := h
  exact ⟨a, e, k _ _ h1 g1, g _ g1⟩
def GoodW (many : Int) (ws : List Str) (w : Way) : Prop := 0 ≤ w.1 ∧ w.1 < many ∧ KeyOk ws w.2
theorem PenAt.some {H : Hp} {p c : Addr} {n : Nat} (h : PenAt H p c n) : ∃ o, H p = some o := by
  obtain ⟨_, _, _, h1, _⟩ := h
  exact ⟨_, h1⟩
/-- what is not there now was not there -/
theorem none_back {H H' : Hp} {p c : Addr} {n : Nat} (s : SameBut p H H') (hp : PenAt H' p c n) {b : Addr} (e : H' b = none) : H b = none := by
  cases h : H b with
  | none => rfl
  | some o =>
    by_cases z : b = p
    · obtain ⟨o', h'⟩ := hp.some
      rw [z, h'] at e
      cases e
    · rw [s _ _ h z] at e
      cases e
def rowTe : TE := tLc (iStr (tVar 1)) (gName 7) tYes (tTup (tCons (tCall spDraw [] E0 (tCons (tVar 0) (tCons (tVar 4) tNil))) (tCons (tCall spKeys [] E0 (tCons (tVar 0) (tCons (tVar 3) tNil))) tNil))) [7]
theorem row_drawn {H : Hp} {p c q : Addr} {n : Nat} {sg : Str} {v2 v6 : V} {many : Int} {ws : List Str} {Q : VK} (hp : PenAt H p c n) (hn : n + 4 * sg.cps.size ≤ 1000000) (zg : sg.cps.size ≤ 1000) (hq : H q = some (.lst (ws.map V.str))) (w0 : 0 < ws.length) (w1 : ws.length ≤ 1000) (m0 : 0 < many) (m1 : many < 1000)
    (k : ∀ (t : Addr) (r : List Way) (H' : Hp), RowN H H' (.ref t) r → r.length = sg.cps.size → (∀ w ∈ r, GoodW many ws w) → PenAt H' p c (n + 4 * sg.cps.size) → SameBut p H H' → Q (.ref t) H') :
    rowTe [some (.ref p), some (.str sg), some v2, some (.ref q), some (.int many), none, some v6, none] H Q := by
  refine ⟨_, rfl, sg, rfl, fun D hD => ?_⟩
  have ap := hp.apart hD
  have nq : q ≠ p := hp.ne hq
  have gD : (upd H D (.lst [])) D = some (.lst []) := upd_same
  have gH : ∀ b, (upd H D (.lst [])) b = none → H b = none ∧ b ≠ D := fun b e => by
    have nb : b ≠ D := fun z => by rw [z, gD] at e; cases e
    exact ⟨by rw [upd_ne nb] at e; exact e, nb⟩
  have gU : ∀ b, H b = none → b ≠ D → (upd H D (.lst [])) b = none := fun b e nb => by rw [upd_ne nb]; exact e
  refine lcs_it [some (.ref p), some (.str sg), some v2, some (.ref q), some (.int many), none, some v6, none] rfl walk_str
    (fun j H' => PenAt H' p c (n + 4 * j) ∧ SameBut p H H' ∧ ∃ (acc : List V) (r : List Way), H' D = some (.lst acc) ∧ acc.length = j ∧ Paired (WayN (upd H D (.lst [])) H') acc r ∧ ∀ w ∈ r, GoodW many ws w)
    ⟨hp.keep (Same.upd hD), .new hD, [], [], upd_same, rfl, .nil, fun w hw => nomatch hw⟩ (fun _ _ _ _ => trivial) ?_ ?_
  · rintro j x _ H1 hj ⟨hp1, sb1, acc, r, hacc, hl, pa, gd⟩ ⟨rfl, ch, hc, rfl⟩
    refine ⟨rfl, _, rfl, _, rfl, p, c, many, n + 4 * j, rfl, hp1, by omega, m0, by omega, fun to H2 t0 t1 hp2 sb2 => ?_⟩
    have q2 := sb2 _ _ (sb1 _ _ hq nq) nq
    refine ⟨_, rfl, _, rfl, p, c, q, n + 4 * j + 1, ws, rfl, hp2, by omega, q2, w0, w1, fun t ks H3 ht h3 hm hk2 hkk hp3 sb3 => ?_⟩
    refine ⟨by show 2 ≤ sizeLine; decide, fun a ha => ?_⟩
    have D1 := sb2 _ _ hacc ap.1
    have D3 := sb3 _ _ D1 ap.1
    have nta : t ≠ a := ne_of_none h3 ha
    have ntD : t ≠ D := fun z => by rw [z, D1] at ht; cases ht
    have naD : a ≠ D := fun z => by rw [z, D3] at ha; cases ha
    have apa := hp3.apart ha
    have s13 : SameBut p H H3 := (sb1.trans sb2).trans sb3
    have Ha : H a = none := none_back s13 hp3 ha
    have Ht : H t = none := none_back (sb1.trans sb2) hp2 ht
    refine ⟨acc, by rw [upd_ne naD.symm]; exact D3, by rw [hl, sizeLine_eq]; omega, ((hp3.put apa.1 apa.2).put ap.1 ap.2).mono (by omega), fun b o e nb => ?_, acc ++ [.ref a], r ++ [(to, ks)], upd_same, by rw [List.length_append, hl]; rfl, ?_, fun w hw => ?_⟩
    · have nD : b ≠ D := ne_of_none e hD
      have na : b ≠ a := ne_of_none e Ha
      rw [upd_ne nD, upd_ne na]
      exact s13 _ _ e nb
    · refine psnoc (L2.Paired.mapP pa fun _ _ z => z.keep (fun b o e g => ?_) fun _ g => g) ⟨a, t, rfl, by rw [upd_ne naD, upd_same], by rw [upd_ne ntD, upd_ne nta]; exact h3, gU _ Ha naD, gU _ Ht ntD⟩
      obtain ⟨g1, nD⟩ := gH b g
      have np : b ≠ p := fun z => by
        obtain ⟨o', h'⟩ := hp.some
        rw [z, h'] at g1
        cases g1
      have e3 := sb3 _ _ (sb2 _ _ e np) np
      rw [upd_ne nD, upd_ne (ne_of_none e3 ha)]
      exact e3
    · rcases List.mem_append.mp hw with hw | hw
      · exact gd w hw
      · rw [List.mem_singleton.mp hw]
        exact ⟨t0, t1, hm, hk2, hkk⟩
  · rintro H1 ⟨hp1, sb1, acc, r, hacc, hl, pa, gd⟩
    refine k D r H1 ⟨D, acc, rfl, hacc, hD, L2.Paired.mapP pa fun _ _ z => z.keep (fun _ _ e _ => e) fun b g => (gH b g).1⟩ ?_ gd hp1 sb1
    rw [← Paired.length pa, hl]
section
variable {P : Program} {w : World} {K : PySem.W.Frag} {mg : Str → Option Value} {base : Heap} {L : LAd}
def spTables : Sp := fun vs H Q _ => ∃ (p c q : Addr) (sg : Str) (most n : Nat) (ws : List Str), vs = [.ref p, .str sg, .int most, .ref q] ∧ PenAt H p c n ∧ n + 400 ≤ 1000000 ∧ sg.cps.size ≤ 4 ∧ 0 < most ∧ most ≤ 16 ∧ H q = some (.lst (ws.map V.str)) ∧ 0 < ws.length ∧ ws.length ≤ 1000 ∧
  ∀ (t r e : Addr) (rv ev : List V) (R : List (List Way)) (Es : List (List Str)) (many : Nat) (H' : Hp), 0 < many → many ≤ most → H' t = some (.tup [.ref r, .ref e]) → H' r = some (.lst rv) → Paired (RowN H H') rv R → H' e = some (.lst ev) → Paired (KeyN H H') ev Es → R.length = many → Es.length = many →
    (∀ row ∈ R, row.length = sg.cps.size ∧ ∀ w ∈ row, GoodW many ws w) → (∀ ks ∈ Es, KeyOk ws ks) → H t = none → H r = none → H e = none → PenAt H' p c (n + 400) → SameBut p H H' → Q (.ref t) H'
theorem sc_tables : FnScope ["pen", "signs", "most", "words", "many", "rows", "state", "sign"] ["pen", "signs", "most", "words"] (defScope s__law_tables) := ⟨rfl, rfl, rfl, by decide +kernel, rfl, by decide +kernel, by decide +kernel⟩
theorem ok_tables (T : TxtL K mg L) : FnOk P w K mg base CX0 4 L.f3 L.d3 ["pen", "signs", "most", "words"] spTables := by
  have sc := sc_tables
  have G_draw : FnOk P w K mg base CX0 1 L.p2 L.q2 ["pen", "many"] spDraw := ok_draw T.pen
  have G_keys : FnOk P w K mg base CX0 3 L.f2 L.d2 ["pen", "words"] spKeys := ok_keys T
  refine T.D__law_tables.F.ok sc (fun vs H Q E h => ?_) (fun cdv A1 outer s H vs Q E hr h => ?_)
  · obtain ⟨_, _, _, _, _, _, _, rfl, _⟩ := h; rfl
  · obtain ⟨p, c, q, sg, most, n, ws, rfl, hp, hn, z4, o0, o16, hq, w0, w1, k⟩ := h
    refine ⟨_, (pss_cons (ps_set (i := 4) sc.nd rfl (Or.inr rfl) (pe_op op_add pe_int (pe_call G_draw (hr.mono (by decide)) rfl T.pen.D__law_draw.g T.pen.D__law_draw.F.kp T.pen.D__law_draw.b .nil pass0 (pa_cons (pv 0) (pa_cons (pv 2) pa_nil)))))
      (pss_cons (ps_setLc (i := 5) (own := [("state", 6)]) (g := gName 6) (tt := tYes) (te := rowTe) rfl sc.nd rfl rfl (sw_true rfl rfl rfl (by decide +kernel)) (pi_range1 rfl T.n_range (pa_cons (pv 4) pa_nil)) (blkOk_by (N := ["pen", "signs", "most", "words", "many", "rows", "state", "sign"]) (sc := defScope s__law_tables) (own := [("state", 6)]) (by decide +kernel)) (fun _ _ _ _ _ => (pg_name (i := 6) sc.nd rfl (Or.inl rfl))) (fun _ _ _ _ _ => pts_nil)
        (fun _ _ _ _ _ => pe_lc (own := [("sign", 7)]) (tt := tYes) rfl sc.nd (pi_str (pv 1)) (blkOk_by (own := [("sign", 7)]) (by rfl)) (fun _ _ _ _ _ => pg_name (i := 7) sc.nd rfl (Or.inl rfl)) (fun _ _ _ _ _ => pts_nil)
          (fun _ _ _ _ _ => pe_tup (pa_cons (pe_call G_draw (hr.mono (by decide)) rfl T.pen.D__law_draw.g T.pen.D__law_draw.F.kp T.pen.D__law_draw.b .nil pass0 (pa_cons (pv 0) (pa_cons (pv 4) pa_nil))) (pa_cons (pe_call G_keys (hr.mono (by decide)) rfl T.D__law_keys.g T.D__law_keys.F.kp T.D__law_keys.b .nil pass0 (pa_cons (pv 0) (pa_cons (pv 3) pa_nil))) pa_nil)))))
      (pss_one (ps_ret (pe_tup (pa_cons (pv 5) (pa_cons (pe_lc (own := [("state", 6)]) (g := gName 6) (tt := tYes) rfl sc.nd (pi_range1 rfl T.n_range (pa_cons (pv 4) pa_nil)) (blkOk_by (N := ["pen", "signs", "most", "words", "many", "rows", "state", "sign"]) (sc := defScope s__law_tables) (own := [("state", 6)]) (by decide +kernel)) (fun _ _ _ _ _ => (pg_name (i := 6) sc.nd rfl (Or.inl rfl))) (fun _ _ _ _ _ => pts_nil)
          (fun _ _ _ _ _ => pe_call G_keys (hr.mono (by decide)) rfl T.D__law_keys.g T.D__law_keys.F.kp T.D__law_keys.b .nil pass0 (pa_cons (pv 0) (pa_cons (pv 3) pa_nil)))) pa_nil))))))), ?_⟩
    have nq : q ≠ p := hp.ne hq
    refine ⟨_, rfl, _, rfl, p, c, most, n, rfl, hp, by omega, by omega, by omega, fun r0 H1 r1 r2 hp1 sb1 => ?_⟩
    obtain ⟨m0, rfl⟩ := Int.eq_ofNat_of_zero_le r1
    refine ⟨_, _, rfl, rfl, ?_⟩
    have tn : (1 + ((m0 : Nat) : Int)).toNat = m0 + 1 := by omega
    -- rows
    refine ⟨_, rfl, 1 + ((m0 : Nat) : Int), rfl, by omega, by omega, fun D hD => ?_⟩
    rw [tn]
    have ap := hp1.apart hD
    have gD : (upd H1 D (.lst [])) D = some (.lst []) := upd_same
    have gU : ∀ {H' : Hp} {m : Nat}, SameBut p H1 H' → PenAt H' p c m → (∃ xs, H' D = some (.lst xs)) → ∀ b, H' b = none → (upd H1 D (.lst [])) b = none := fun {H' m} s0 h0 ⟨xs, d0⟩ b e => by
      have nb : b ≠ D := fun z => by rw [z, d0] at e; cases e
      rw [upd_ne nb]
      exact none_back s0 h0 e
    have gP : ∀ b, (upd H1 D (.lst [])) b = none → b ≠ p ∧ b ≠ D := fun b e => by
      refine ⟨fun z => ?_, fun z => by rw [z, gD] at e; cases e⟩
      obtain ⟨o, h⟩ := hp1.some
      rw [z, upd_ne ap.1.symm, h] at e
      cases e
    refine lcs_it [some (.ref p), some (.str sg), some (.int most), some (.ref q), some (.int (1 + ((m0 : Nat) : Int))), none, none, none] rfl walk_range
      (fun i H' => PenAt H' p c (n + 1 + 16 * i) ∧ SameBut p H1 H' ∧ ∃ (acc : List V) (R : List (List Way)), H' D = some (.lst acc) ∧ acc.length = i ∧ Paired (RowN (upd H1 D (.lst [])) H') acc R ∧ ∀ row ∈ R, row.length = sg.cps.size ∧ ∀ w ∈ row, GoodW (1 + ((m0 : Nat) : Int)) ws w)
      ⟨hp1.keep (Same.upd hD), .new hD, [], [], upd_same, rfl, .nil, fun w hw => nomatch hw⟩ (fun _ _ _ _ => trivial) ?_ ?_
    · rintro i x _ H2 hi ⟨hp2, sb2, acc, R, hacc, hl, pa, gd⟩ ⟨rfl, rfl⟩
      refine ⟨rfl, tyes ?_⟩
      simp only [if_true]
      refine row_drawn hp2 (by omega) (by omega) (sb2 _ _ (sb1 _ _ hq nq) nq) w0 w1 (by omega) (by omega) fun t r H3 hr3 lr g3 hp3 sb3 => ?_
      have D3 := sb3 _ _ hacc ap.1
      refine ⟨acc, D3, by rw [hl, sizeLine_eq]; omega, (hp3.put ap.1 ap.2).mono (by omega), fun b o e nb => ?_, acc ++ [.ref t], R ++ [r], upd_same, by rw [List.length_append, hl]; rfl, ?_, fun row hrow => ?_⟩
      · rw [upd_ne (ne_of_none e hD)]
        exact sb3 _ _ (sb2 _ _ e nb) nb
      · refine psnoc (L2.Paired.mapP pa fun _ _ z => z.keep (fun b o e g => ?_) fun _ g => g) (hr3.keep (fun b o e g => ?_) (gU sb2 hp2 ⟨_, hacc⟩))
        · rw [upd_ne (gP b g).2]
          exact sb3 _ _ e (gP b g).1
        · have nb : b ≠ D := fun z => by rw [z, hacc] at g; cases g
          rw [upd_ne nb]
          exact e
      · rcases List.mem_append.mp hrow with h | h
        · exact gd row h
        · rw [List.mem_singleton.mp h]
          exact ⟨lr, g3⟩
    rintro H2 ⟨hp2, sb2, rv, R, hrv, hl, pR, gR⟩
    -- ends
    refine ⟨_, rfl, _, rfl, 1 + ((m0 : Nat) : Int), rfl, by omega, by omega, fun D2 hD2 => ?_⟩
    rw [tn]
    have ap2 := hp2.apart hD2
    have nDD : D ≠ D2 := ne_of_none hrv hD2
    have gD2 : (upd H2 D2 (.lst [])) D2 = some (.lst []) := upd_same
    have gP2 : ∀ b, (upd H2 D2 (.lst [])) b = none → b ≠ p ∧ b ≠ D2 ∧ H2 b = none := fun b e => by
      have nb : b ≠ D2 := fun z => by rw [z, gD2] at e; cases e
      rw [upd_ne nb] at e
      refine ⟨fun z => ?_, nb, e⟩
      obtain ⟨o, h⟩ := hp2.some
      rw [z, h] at e
      cases e
    refine lcs_it [some (.ref p), some (.str sg), some (.int most), some (.ref q), some (.int (1 + ((m0 : Nat) : Int))), some (.ref D), none, none] rfl walk_range
      (fun i H' => PenAt H' p c (n + 1 + 16 * (m0 + 1) + 3 * i) ∧ SameBut p H2 H' ∧ ∃ (acc : List V) (Es : List (List Str)), H' D2 = some (.lst acc) ∧ acc.length = i ∧ Paired (KeyN (upd H2 D2 (.lst [])) H') acc Es ∧ ∀ ks ∈ Es, KeyOk ws ks)
      ⟨hp2.keep (Same.upd hD2), .new hD2, [], [], upd_same, rfl, .nil, fun w hw => nomatch hw⟩ (fun _ _ _ _ => trivial) ?_ ?_
    · rintro i x _ H3 hi ⟨hp3, sb3, acc, Es, hacc, hl3, pa, gd⟩ ⟨rfl, rfl⟩
      refine ⟨rfl, _, rfl, _, rfl, p, c, q, _, ws, rfl, hp3, by omega, sb3 _ _ (sb2 _ _ (sb1 _ _ hq nq) nq) nq, w0, w1, fun t ks H4 ht h4 hm hk2 hkk hp4 sb4 => ?_⟩
      have D4 := sb4 _ _ hacc ap2.1
      have nt : t ≠ D2 := fun z => by rw [z, hacc] at ht; cases ht
      refine ⟨acc, D4, by rw [hl3, sizeLine_eq]; omega, (hp4.put ap2.1 ap2.2).mono (by omega), fun b o e nb => ?_, acc ++ [.ref t], Es ++ [ks], upd_same, by rw [List.length_append, hl3]; rfl, ?_, fun k1 hk1 => ?_⟩
      · rw [upd_ne (ne_of_none e hD2)]
        exact sb4 _ _ (sb3 _ _ e nb) nb
      · refine psnoc (L2.Paired.mapP pa fun _ _ z => z.keep (fun b o e g => ?_) fun _ g => g) ⟨t, rfl, by rw [upd_ne nt]; exact h4, ?_⟩
        · rw [upd_ne (gP2 b g).2.1]
          exact sb4 _ _ e (gP2 b g).1
        · rw [upd_ne nt]
          exact none_back sb3 hp3 ht
      · rcases List.mem_append.mp hk1 with h | h
        · exact gd k1 h
        · rw [List.mem_singleton.mp h]
          exact ⟨hm, hk2, hkk⟩
    rintro H3 ⟨hp3, sb3, ev, Es, hev, hl3, pE, gE⟩
    refine ⟨by show 2 ≤ sizeLine; decide, fun t ht => ?_⟩
    have rD := sb3 _ _ hrv ap.1
    have ntD : D ≠ t := ne_of_none rD ht
    have ntE : D2 ≠ t := ne_of_none hev ht
    have s13 : SameBut p H H3 := (sb1.trans sb2).trans sb3
    have back1 : ∀ b, H1 b = none → H b = none := fun b e => none_back sb1 hp1 e
    have back2 : ∀ b, H2 b = none → H b = none := fun b e => none_back (sb1.trans sb2) hp2 e
    refine k t D D2 rv ev R Es (m0 + 1) _ (by omega) (by omega) upd_same (by rw [upd_ne ntD]; exact rD) ?_ (by rw [upd_ne ntE]; exact hev) ?_ ((Paired.length pR).symm.trans hl) ((Paired.length pE).symm.trans hl3) (fun row hrow => ⟨(gR row hrow).1, fun w hw => ?_⟩) gE (none_back s13 hp3 ht) (back1 D hD) (back2 D2 hD2) ((hp3.keep (Same.upd ht)).mono (by omega)) (s13.trans (.new ht))
    · refine L2.Paired.mapP pR fun _ _ z => z.keep (fun b o e g => ?_) fun b g => ?_
      · have e3 := sb3 _ _ e (gP b g).1
        rw [upd_ne (ne_of_none e3 ht)]
        exact e3
      · have nb := (gP b g).2
        rw [upd_ne nb] at g
        exact back1 b g
    · refine L2.Paired.mapP pE fun _ _ z => z.keep (fun b o e _ => ?_) fun b g => back2 b (gP2 b g).2.2
      rw [upd_ne (ne_of_none e ht)]
      exact e
    · have := (gR row hrow).2 w hw
      rw [show ((m0 + 1 : Nat) : Int) = 1 + ((m0 : Nat) : Int) by omega]
      exact this
end
end Kx

namespace Kx
open PySem L2 Own
/-- rows of lists, as the law draws them -/
def KeyE (H : Hp) (v : V) (ks : List Str) : Prop := ∃ a, v = .ref a ∧ H a = some (.lst (ks.map V.str))
def WayE (H : Hp) (v : V) (w : Way) : Prop := ∃ a kv, v = .ref a ∧ H a = some (.tup [.int w.1, .ref kv]) ∧ H kv = some (.lst (w.2.map V.str))
def RowE (H : Hp) (v : V) (r : List Way) : Prop := ∃ a vs, v = .ref a ∧ H a = some (.lst vs) ∧ Paired (WayE H) vs r
theorem KeyE.keep {H H' : Hp} (s : Same H H') {v : V} {ks : List Str} (h : KeyE H v ks) : KeyE H' v ks := by
  obtain ⟨a, e, h⟩ := h
  exact ⟨a, e, s _ _ h⟩
theorem WayE.keep {H H' : Hp} (s : Same H H') {v : V} {r : Way} (h : WayE H v r) : WayE H' v r := by
  obtain ⟨a, kv, e, h, k⟩ := h
  exact ⟨a, kv, e, s _ _ h, s _ _ k⟩
theorem RowE.keep {H H' : Hp} (s : Same H H') {v : V} {r : List Way} (h : RowE H v r) : RowE H' v r := by
  obtain ⟨a, vs, e, h, k⟩ := h
  exact ⟨a, vs, e, s _ _ h, L2.Paired.mapP k fun _ _ z => z.keep s⟩
theorem toRow {K : PySem.W.Frag} {H : Hp} {v : V} {r : List Way} (h : RowE H v r) : RowL K H v r := by
  obtain ⟨a, vs, e, h, k⟩ := h
  exact ⟨a, vs, e, h, L2.Paired.mapP k fun _ _ ⟨b, kv, e1, e2, e3⟩ => ⟨b, .ref kv, e1, e2, .list (SqL.of e3)⟩⟩
theorem toTexts {K : PySem.W.Frag} {H : Hp} {v : V} {ks : List Str} (h : KeyE H v ks) : Texts K H v ks := by
  obtain ⟨a, rfl, h⟩ := h
  exact .list (SqL.of h)
/-- list(x), by values -/
def rListOf (K : PySem.W.Frag) : List V → Hp → VK → Prop := fun xs H Q => ∃ p ys, xs = [V.ref p] ∧ (SqL K H p ys ∨ SqT K H p ys) ∧ ∀ l, H l = none → Q (.ref l) (upd H l (.lst ys))
end Kx

/-! set(..) != set(..), of texts -/
namespace Own
open PySem L2 PyProof.Rows PySem.Froz
theorem entry_ne : entryFor table "set.__ne__" = some Builtin.«frozenset.__ne__» := entryFor_alias (id' := "frozenset.__ne__") (by kernel_rfl) rfl (by decide +kernel) (by kernel_rfl)
theorem sub_set_froz : isSubtype (.type "set") (.type "frozenset") = pure false := by rw [isSubtype_type]; kernel_rfl
section
variable {P : Program} {w : World} {A : Around} {E : Value → Shared → Prop} {s : Shared} {a b : Addr} {l m : List Str}
theorem SetS.typeIs (R : SetS P w s.heap a l) (hb : l.length < scanBound) : s.TypeIs (.ref a) "set" := (in_s R hb).typeIs
theorem any_set {Q : Bool → Shared → Prop} (hT : s.TypeIs (.ref a) "set") (q : Q true s) : wpAny (model P w) A (Builtin.Frozenset.isAnySet (.ref a)) Q E s := by
  unfold Builtin.Frozenset.isAnySet orM
  refine wpAny_bind (wpAny_isInstance hT sub_set_self ?_)
  exact wpAny_pure q
theorem size_s {Q : Nat → Shared → Prop} (R : SetS P w s.heap a l) (q : Q l.length s) : wpAny (model P w) A (Builtin.Frozenset.sizeOf a) Q E s := by
  obtain ⟨D, ho, td, F, nd⟩ := R
  unfold Builtin.Frozenset.sizeOf setEntries
  refine wpAny_bind (wpAny_bind (wpAny_setState_of ho rfl F.fit (wpAny_pure (wpAny_pure ?_))))
  rw [show D.1.size = l.length from F.sz]
  exact q
theorem el_str {D : SD} (F : TxOk P w D l) {e : Int × Value} (he : e ∈ D.1.toList) : ∃ k tk, e.2 = Value.str k tk ∧ e.1 = (strKind P w).hash k ∧ (strKind P w).is k e.2 = true ∧ k ∈ l := by
  obtain ⟨⟨k, h1, h2⟩, _⟩ := F.el e he
  obtain ⟨tk, e1⟩ := Value.isStrOf_shape (x := k) (v := e.2) h1
  exact ⟨k, tk, e1, h2, h1, (F.mem k).mpr ⟨e, he, h1⟩⟩
theorem unseen_s {D : SD} {Q : List (Int × Value) → Shared → Prop} (ho : s.heap.get? a = some (sObj "set" D)) (F : TxOk P w D l) (R' : SetS P w s.heap b m) (q : Q D.1.toList s) : wpAny (model P w) A (Builtin.Frozenset.walkUnseen a b) Q E s := by
  obtain ⟨D', ho', td', F', nd'⟩ := id R'
  unfold Builtin.Frozenset.walkUnseen setEntries
  refine wpAny_bind (wpAny_bind (wpAny_setState_of ho rfl F.fit (wpAny_pure ?_)))
  refine wpAny_bind (wpAny_bind (wpAny_setState_of ho' rfl F'.fit (wpAny_pure ?_)))
  refine wpAny_bind (wpAny_forIn_list _ (fun rest b s' => b = (none, ()) ∧ s' = s ∧ ∀ e ∈ rest, ∃ k tk, e.2 = Value.str k tk) _ ?_ ?_ _ _ ⟨rfl, rfl, fun e he => ?_⟩)
  · rintro ⟨h, x⟩ rest b s' ⟨rfl, rfl, al⟩
    obtain ⟨k, tk, rfl⟩ := al _ List.mem_cons_self
    dsimp only
    unfold Builtin.Frozenset.quietEq
    refine wpAny_bind (wpAny_pure ?_)
    simp only [Bool.not_true, Bool.false_eq_true, if_false]
    exact wpAny_pure ⟨rfl, rfl, fun e he => al e (List.mem_cons_of_mem _ he)⟩
  · rintro b s' ⟨rfl, rfl, _⟩
    exact wpAny_pure q
  · rcases List.mem_append.mp he with he | he
    · obtain ⟨k, tk, e1, _⟩ := el_str F he; exact ⟨k, tk, e1⟩
    · obtain ⟨k, tk, e1, _⟩ := el_str F' he; exact ⟨k, tk, e1⟩
theorem is_one {k k' : Str} {tk : Tok} (h : (strKind P w).is k' (.str k tk) = true) : k = k' := by
  obtain ⟨t', e⟩ := Value.isStrOf_shape (x := k') (v := .str k tk) h
  exact (Value.str.inj e).1
/-- all of l in m -/
theorem sub_s {Q : Bool → Shared → Prop} {nm : String} (R : SetS P w s.heap a l) (R' : SetS P w s.heap b m) (hb : l.length < scanBound) (hb' : m.length < scanBound) (q : Q (decide (l.length ≤ m.length) && l.all fun x => decide (x ∈ m)) s) :
    wpAny (model P w) A (Builtin.Frozenset.subsetOf nm a b) Q E s := by
  have S1 := in_s R hb
  have S2 := in_s R' hb'
  obtain ⟨D, ho, td, F, nd⟩ := id R
  obtain ⟨D', ho', td', F', nd'⟩ := id R'
  unfold Builtin.Frozenset.subsetOf
  refine wpAny_bind (size_s R (wpAny_bind (size_s R' ?_)))
  by_cases c : l.length ≤ m.length
  · rw [if_neg (by omega)]
    rw [decide_eq_true c] at q
    refine wpAny_bind (wpAny_setEpoch_of ho rfl F.fit (wpAny_bind (unseen_s ho F R' ?_)))
    refine wpAny_bind (wpAny_forIn_list _ (fun rest b s' => b = (none, ()) ∧ s' = s ∧ (∀ e ∈ rest, e ∈ D.1.toList) ∧ ∀ e ∈ D.1.toList, e ∈ rest ∨ ∀ k, (strKind P w).is k e.2 = true → k ∈ m) _ ?_ ?_ _ _ ⟨rfl, rfl, fun e he => he, fun e he => .inl he⟩)
    · rintro ⟨h, x⟩ rest b' s' ⟨rfl, rfl, sub, al⟩
      obtain ⟨k, tk, e1, e2, e3, e4⟩ := el_str F (sub _ List.mem_cons_self)
      dsimp only at e1 e2 e3 ⊢
      subst e1
      rw [e2]
      refine wpAny_bind (wpAny_holding (wpAny_setFind_of e3 rfl S2 fun r hr => ?_))
      by_cases km : k ∈ m
      · rw [decide_eq_true km] at hr
        rw [if_neg (by cases r <;> simp at hr ⊢)]
        unfold Builtin.Frozenset.unchanged
        refine wpAny_bind (wpAny_bind (wpAny_setEpoch_of ho rfl F.fit ?_))
        simp only [bne_self_eq_false, Bool.false_eq_true, if_false]
        refine wpAny_pure (wpAny_pure ⟨rfl, rfl, fun e he => sub e (List.mem_cons_of_mem _ he), fun e he => ?_⟩)
        rcases al e he with h | h
        · rcases List.mem_cons.mp h with rfl | h
          · refine .inr fun k' hk' => ?_
            rw [show k' = k from (is_one hk').symm]
            exact km
          · exact .inl h
        · exact .inr h
      · rw [decide_eq_false km] at hr
        rw [if_pos (by cases r <;> simp at hr ⊢)]
        refine wpAny_pure (wpAny_pure ?_)
        have : (l.all fun x => decide (x ∈ m)) = false := by
          rw [List.all_eq_false]
          exact ⟨k, e4, by simp [km]⟩
        rw [this, Bool.and_false] at q
        exact q
    · rintro b' s' ⟨rfl, rfl, _, al⟩
      refine wpAny_pure ?_
      have : (l.all fun x => decide (x ∈ m)) = true := by
        rw [List.all_eq_true]
        intro x hx
        obtain ⟨e, he, hk⟩ := (F.mem x).mp hx
        rcases al e he with h | h
        · cases h
        · exact decide_eq_true (h x hk)
      rw [this, Bool.and_true] at q
      exact q
  · rw [if_pos (by omega)]
    rw [decide_eq_false c] at q
    exact wpAny_pure q
/-- set(..) != set(..) -/
theorem ne_s {Q : Value → Shared → Prop} (R : SetS P w s.heap a l) (R' : SetS P w s.heap b m) (hb : l.length < scanBound) (hb' : m.length < scanBound) (hu : A.units < cLine) (q : Q (.bool (!(decide (l.length = m.length) && l.all fun x => decide (x ∈ m)))) s) :
    wpAny (model P w) A (compareOp .NotEq (.ref a) (.ref b)) Q E s := by
  have T1 := R.typeIs hb
  have T2 := R'.typeIs hb'
  obtain ⟨D, ho, td, F, nd⟩ := id R
  obtain ⟨D', ho', td', F', nd'⟩ := id R'
  refine wpAny_richCompare_same_room (op := .NotEq) T1 T2 PySem.F.slot_set_ne (wpAny_call_entry PySem.F.slot_set_ne T1 entry_ne ?_ (PySem.F.args_set_ne_2 _ _)) hu
  refine wpAny_bind (wpAny_bind (m := slotArgs "__ne__" 1 _) (wpAny_pure (wpAny_pure ?_)))
  dsimp only
  refine wpAny_bind (any_set T2 ?_)
  simp only [Bool.not_true, Bool.false_eq_true, if_false]
  refine wpAny_bind (wpAny_pure (wpAny_bind (wpAny_pure (wpAny_bind (size_s R (wpAny_bind (size_s R' ?_)))))))
  refine wpAny_bind ?_
  by_cases c : l.length = m.length
  · rw [if_neg (by simp [c])]
    rw [decide_eq_true c] at q
    refine wpAny_bind (wpAny_bind (wpAny_isInstance T1 sub_set_froz (wpAny_pure ?_)))
    simp only [Bool.false_eq_true, if_false]
    refine sub_s R R' hb hb' ?_
    rw [decide_eq_true (by omega : l.length ≤ m.length)]
    exact wpAny_pure ⟨_, rfl, fun z => (nomatch z), q⟩
  · rw [if_pos (by simp [c])]
    rw [decide_eq_false c] at q
    exact wpAny_pure (wpAny_pure ⟨_, rfl, fun z => (nomatch z), q⟩)
end
section
variable {X : Cx}
/-- two sets of texts are not equal -/
def rNeT (P : Program) (w : World) : R2 := fun x y H Q => ∃ (a b : Addr) (l m : List Str), x = .ref a ∧ y = .ref b ∧ H a = some (SetT P w a l) ∧ H b = some (SetT P w b m) ∧ l.length < scanBound ∧ m.length < scanBound ∧ Q (.bl (!(decide (l.length = m.length) && l.all fun x => decide (x ∈ m)))) H
theorem or_neT (hu : X.A.units < cLine) : OpR X (compareOp .NotEq) (rNeT X.prog X.w) := by
  intro pins s σ H x y v u Q I rx ry h
  obtain ⟨a, b, l, m, rfl, rfl, ha, hb, la, lb, q⟩ := h
  cases rx
  cases ry
  exact ne_s (setT_at I ha) (setT_at I hb) la lb hu ⟨.bl _, H, I, rfl, q⟩
end
end Own

namespace Kx
open PySem L2 Own PinX DicN
abbrev s__law_fp : Stmt := top 46
structure TxtFp (K : PySem.W.Frag) (mg : Str → Option Value) (f : Addr) (d : FuncData) : Prop where
  D__law_first_parted : DefT K mg "_law_first_parted" "_law_first_parted" s__law_fp ["signs", "one", "mates", "other"] f d
  n_len : mg "len" = none
  n_set : mg "set" = none
  n_tuple : mg "tuple" = none
  n_sorted : mg "sorted" = none
/-- a row's way, its keys a list -/
theorem way_listK {H : Hp} {sg : Str} {R : List (List Way)} {Es : List (List Str)} {rv : List V} (F : Full sg R Es) (pR : Paired (RowE H) rv R) {i c : Nat} (hi : i < R.length) (hc : c ∈ sg.cps.toList) :
    ∃ (a : Addr) (vs : List V) (j : Nat) (b kv : Addr), rv[i]? = some (.ref a) ∧ H a = some (.lst vs) ∧ sg.cps[j]? = some c ∧ (∀ k, k < j → sg.cps[k]? ≠ some c) ∧ vs[j]? = some (.ref b) ∧ H b = some (.tup [.int (nxW sg R i c : Nat), .ref kv]) ∧ H kv = some (.lst ((runW sg R i [c]).2.map V.str)) := by
  obtain ⟨j, hj⟩ := List.getElem?_of_mem hc
  rw [Array.getElem?_toList] at hj
  obtain ⟨q, wy, hq, hw, hstep, okw⟩ := F.way hi hj
  have lr : rv.length = R.length := Paired.length pR
  have hx : rv[i]? = some (rv[i]'(by omega)) := List.getElem?_eq_getElem (by omega)
  obtain ⟨q', hq', a, vs, ea, ha, pq⟩ := pat pR hx
  rw [hq] at hq'
  cases hq'
  rw [ea] at hx
  have lq : vs.length = q.length := Paired.length pq
  have hj2 : j < q.length := (List.getElem?_eq_some_iff.mp hw).1
  have hy : vs[j]? = some (vs[j]'(by omega)) := List.getElem?_eq_getElem (by omega)
  obtain ⟨w', hw', b, kv, eb, hb, hkv⟩ := pat pq hy
  rw [hw] at hw'
  cases hw'
  rw [eb] at hy
  have e : runW sg R i [c] = (wy.1.toNat, wy.2) := by
    show acc1 sg R (i, []) c = _
    unfold acc1
    rw [hstep]
    rfl
  refine ⟨a, vs, j, b, kv, hx, ha, hj, fun k hk hc' => ?_, hy, ?_, by rw [e]; exact hkv⟩
  · obtain ⟨h1, e1⟩ := Array.getElem?_eq_some_iff.mp hc'
    obtain ⟨h2, e2⟩ := Array.getElem?_eq_some_iff.mp hj
    have nd := List.pairwise_iff_getElem.mp F.nd k j (by simpa using h1) (by simpa using h2) hk
    simp only [Array.getElem_toList] at nd
    exact nd (e1.trans e2.symm)
  · unfold nxW
    rw [e, show (((wy.1.toNat, wy.2) : Nat × List Str).1 : Int) = wy.1 from Int.toNat_of_nonneg okw.1]
    exact hb
/-! ### nodes as data -/
def NdAt (H : Hp) (v : V) (l : LbK) : Prop := ∃ b g h, v = .ref b ∧ H b = some (.tup [.int (l.1 : Nat), .int (l.2.1 : Nat), .ref g, .ref h]) ∧ H g = some (.tup (l.2.2.1.map V.str)) ∧ H h = some (.tup (l.2.2.2.map V.str))
theorem NdAt.keep {H H' : Hp} {v : V} {l : LbK} (s : ∀ b xs, H b = some (.tup xs) → H' b = some (.tup xs)) (h : NdAt H v l) : NdAt H' v l := by
  obtain ⟨b, g, h', e, h1, h2, h3⟩ := h
  exact ⟨b, g, h', e, s _ _ h1, s _ _ h2, s _ _ h3⟩
def ndD (l : LbK) : PyData := .tuple [.int (l.1 : Nat), .int (l.2.1 : Nat), keysD l.2.2.1, keysD l.2.2.2]
theorem dp_nd {K : PySem.W.Frag} {H : Hp} {v : V} {l : LbK} (h : NdAt H v l) : Dp K H v (ndD l) := by
  obtain ⟨b, g, h', rfl, h1, h2, h3⟩ := h
  exact .tup (SqT.of h1) (.cons (.int _) (.cons (.int _) (.cons (dp_keys ⟨g, rfl, h2⟩) (.cons (dp_keys ⟨h', rfl, h3⟩) .nil))))
theorem dp_nds {K : PySem.W.Frag} {H : Hp} : ∀ {us : List V} {ns : List (Fst.Nd LbK)}, Paired (fun v (p : Fst.Nd LbK) => NdAt H v p.1) us ns → DpAll K H us (ns.map fun p => ndD p.1)
  | _, _, .nil => .nil
  | _, _, .cons r t => .cons (dp_nd r) (dp_nds t)
def OkL (l : LbK) : Prop := (∀ y ∈ l.2.2.1, PyData.strOk y = true) ∧ ∀ y ∈ l.2.2.2, PyData.strOk y = true
theorem sh_nd {l : LbK} (h : OkL l) : Sh 2 (ndD l) := Sh.tup (n := 1) fun x hx => by
  simp only [List.mem_cons, List.not_mem_nil, or_false] at hx
  rcases hx with rfl | rfl | rfl | rfl
  · exact Sh.up (Sh.int _)
  · exact Sh.up (Sh.int _)
  · exact sh_keys h.1
  · exact sh_keys h.2
theorem eqv_nd (a b : LbK) : PyData.eqv (ndD a) (ndD b) = decide (a = b) := by
  unfold ndD
  rw [PyData.eqv, PyData.eqvAll, PyData.eqvAll, PyData.eqvAll, PyData.eqvAll, PyData.eqvAll, eqv_keys, eqv_keys, PyData.eqv, PyData.eqv]
  obtain ⟨a1, a2, a3, a4⟩ := a
  obtain ⟨b1, b2, b3, b4⟩ := b
  by_cases h1 : a1 = b1 <;> by_cases h2 : a2 = b2 <;> by_cases h3 : a3 = b3 <;> by_cases h4 : a4 = b4 <;> simp [h1, h2, h3, h4, Int.natCast_inj]
theorem any_nd (ns : List (Fst.Nd LbK)) (q : LbK) : ((ns.map fun p => ndD p.1).any fun z => PyData.eqv z (ndD q)) = decide (q ∈ ns.map (·.1)) := by
  induction ns with
  | nil => rfl
  | cons p r ih =>
    rw [List.map_cons, List.map_cons, List.any_cons, ih, eqv_nd]
    by_cases h : p.1 = q
    · simp [h]
    · have h' : ¬ q = p.1 := fun z => h z.symm
      simp [h, h']
/-! ### few labels -/
def W2 : List Str := ["x", "y"]
def G4 : List (List Str) := [kl [], kl ["x"], kl ["y"], kl ["x", "y"]]
theorem in_G4 {xs : List Str} (h : ∀ y ∈ xs, y ∈ W2) : kl xs ∈ G4 := by
  have two : ∀ y ∈ xs, y = "x" ∨ y = "y" := fun y hy => by have := h y hy; simpa [W2] using this
  unfold G4
  by_cases a : ("x" : Str) ∈ xs <;> by_cases b : ("y" : Str) ∈ xs
  · have : kl xs = kl ["x", "y"] := kl_congr fun y => ⟨fun hy => by rcases two y hy with rfl | rfl <;> simp, fun hy => by simp at hy; rcases hy with rfl | rfl <;> assumption⟩
    rw [this]; simp
  · have : kl xs = kl ["x"] := kl_congr fun y => ⟨fun hy => by rcases two y hy with rfl | rfl <;> simp_all, fun hy => by simp at hy; rw [hy]; exact a⟩
    rw [this]; simp
  · have : kl xs = kl ["y"] := kl_congr fun y => ⟨fun hy => by rcases two y hy with rfl | rfl <;> simp_all, fun hy => by simp at hy; rw [hy]; exact b⟩
    rw [this]; simp
  · have : kl xs = kl [] := kl_congr fun y => ⟨fun hy => by rcases two y hy with rfl | rfl <;> simp_all, fun hy => by simp at hy⟩
    rw [this]; simp
def InK (n m : Nat) (l : LbK) : Prop := l.1 < n ∧ l.2.1 < m ∧ l.2.2.1 ∈ G4 ∧ l.2.2.2 ∈ G4
theorem room_K {n m : Nat} (hn : n ≤ 16) (hm : m ≤ 16) : Fst.Room (InK n m) 4096 := fun ls nd h => by
  have e : ((List.range n).flatMap fun i => (List.range m).flatMap fun j => G4.flatMap fun g => G4.map fun k => ((i, j, g, k) : LbK)).length = n * (m * 16) := by
    have e2 : ∀ i j : Nat, (G4.flatMap fun g => G4.map fun k => ((i, j, g, k) : LbK)).length = 16 := fun i j => rfl
    have e1 : ∀ i : Nat, ((List.range m).flatMap fun j => G4.flatMap fun g => G4.map fun k => ((i, j, g, k) : LbK)).length = m * 16 := fun i => by
      rw [List.length_flatMap]
      have : (List.range m).map (fun j => (G4.flatMap fun g => G4.map fun k => ((i, j, g, k) : LbK)).length) = List.replicate m 16 := by
        refine List.ext_getElem (by simp) fun x h1 h2 => ?_
        rw [List.getElem_map, e2, List.getElem_replicate]
      rw [this, List.sum_replicate_nat]
    rw [List.length_flatMap]
    have : (List.range n).map (fun i => ((List.range m).flatMap fun j => G4.flatMap fun g => G4.map fun k => ((i, j, g, k) : LbK)).length) = List.replicate n (m * 16) := by
      refine List.ext_getElem (by simp) fun x h1 h2 => ?_
      rw [List.getElem_map, e1, List.getElem_replicate]
    rw [this, List.sum_replicate_nat]
  have le : ls.length ≤ n * (m * 16) := by
    rw [← e]
    refine nd_sub_len nd fun x hx => ?_
    rcases x with ⟨i, j, g, k⟩
    obtain ⟨h1, h2, h3, h4⟩ := h _ hx
    exact List.mem_flatMap.mpr ⟨i, List.mem_range.mpr h1, List.mem_flatMap.mpr ⟨j, List.mem_range.mpr h2, List.mem_flatMap.mpr ⟨g, h3, List.mem_map.mpr ⟨k, h4, rfl⟩⟩⟩⟩
  exact Nat.le_trans le (Nat.le_trans (Nat.mul_le_mul hn (Nat.mul_le_mul_right 16 hm)) (by decide))
theorem G4_in {g : List Str} (h : g ∈ G4) : (∀ y ∈ g, y ∈ W2) ∧ g.length ≤ 2 := by
  have sub : ∀ y ∈ g, y ∈ W2 := fun y hy => by
    unfold G4 at h
    simp only [List.mem_cons, List.not_mem_nil, or_false] at h
    rcases h with rfl | rfl | rfl | rfl <;> (have := kl_mem.mp hy; revert this; simp [W2]) <;> (intro h; simp [h])
  have nd : g.Nodup := by
    unfold G4 at h
    simp only [List.mem_cons, List.not_mem_nil, or_false] at h
    rcases h with rfl | rfl | rfl | rfl <;> exact kl_nodup _
  exact ⟨sub, nd_sub_len (m := W2) nd sub⟩
end Kx

namespace Kx
open PySem L2 Own PinX DicN
/-- tables that lie at t -/
def TabAt (H : Hp) (t : Addr) (R : List (List Way)) (Es : List (List Str)) : Prop := ∃ (r e : Addr) (rv ev : List V), H t = some (.tup [.ref r, .ref e]) ∧ H r = some (.lst rv) ∧ Paired (RowE H) rv R ∧ H e = some (.lst ev) ∧ Paired (KeyE H) ev Es
theorem TabAt.keep {H H' : Hp} {t : Addr} {R : List (List Way)} {Es : List (List Str)} (s : LamX.ExtN H H') (h : TabAt H t R Es) : TabAt H' t R Es := by
  obtain ⟨r, e, rv, ev, h1, h2, h3, h4, h5⟩ := h
  have kt : ∀ b xs, H b = some (.tup xs) → H' b = some (.tup xs) := fun b xs z => s _ _ z fun ps y => by cases y
  have kl : ∀ b xs, H b = some (.lst xs) → H' b = some (.lst xs) := fun b xs z => s _ _ z fun ps y => by cases y
  exact ⟨r, e, rv, ev, kt _ _ h1, kl _ _ h2, L2.Paired.mapP h3 fun _ _ ⟨a, vs, e1, e2, e3⟩ => ⟨a, vs, e1, kl _ _ e2, L2.Paired.mapP e3 fun _ _ ⟨b, kv, f1, f2, f3⟩ => ⟨b, kv, f1, kt _ _ f2, kl _ _ f3⟩⟩, kl _ _ h4, L2.Paired.mapP h5 fun _ _ ⟨a, e1, e2⟩ => ⟨a, e1, kl _ _ e2⟩⟩
theorem sets_eq {l m xs ys : List Str} (nl : l.Nodup) (nm : m.Nodup) (hl : ∀ y, y ∈ l ↔ y ∈ xs) (hm : ∀ y, y ∈ m ↔ y ∈ ys) : (decide (l.length = m.length) && l.all fun x => decide (x ∈ m)) = decide (kl xs = kl ys) := by
  rw [Bool.eq_iff_iff, Bool.and_eq_true, decide_eq_true_iff, decide_eq_true_iff, List.all_eq_true]
  constructor
  · rintro ⟨e, al⟩
    have al' : ∀ x ∈ l, x ∈ m := fun x hx => of_decide_eq_true (al x hx)
    have pm := perm_s l m nl al' (by omega)
    exact kl_congr fun y => by rw [← hl, ← hm, pm.mem_iff]
  · intro e
    have e' := kl_same.mp e
    have al : ∀ x ∈ l, x ∈ m := fun x hx => (hm x).mpr ((e' x).mp ((hl x).mp hx))
    have bl : ∀ x ∈ m, x ∈ l := fun x hx => (hl x).mpr ((e' x).mpr ((hm x).mp hx))
    exact ⟨Nat.le_antisymm (nd_sub_len nl al) (nd_sub_len nm bl), fun x hx => decide_eq_true (al x hx)⟩
/-- few keys, all of them x or y -/
structure FewK (sg : Str) (R : List (List Way)) (Es : List (List Str)) : Prop where
  F : Full sg R Es
  l16 : R.length ≤ 16
  way : ∀ i c, (runW sg R i [c]).2.length ≤ 4 ∧ ∀ y ∈ (runW sg R i [c]).2, y ∈ W2
  fin : ∀ i, (Es.getD i []).length ≤ 4 ∧ ∀ y ∈ Es.getD i [], y ∈ W2
theorem W2_ok : ∀ y ∈ W2, PyData.strOk y = true := by decide +kernel
theorem G4_ok {g : List Str} (h : g ∈ G4) : ∀ y ∈ g, PyData.strOk y = true := fun y hy => W2_ok y ((G4_in h).1 y hy)
theorem nxK_in {s1 s2 : Str} {R1 R2 : List (List Way)} {E1 E2 : List (List Str)} (w1 : FewK s1 R1 E1) (w2 : FewK s2 R2 E2) (cs : List Nat) : ∀ l : LbK, InK R1.length R2.length l → ∀ c ∈ cs, ∀ q, nxK s1 s2 R1 R2 l c = some q → InK R1.length R2.length q := fun l hl c _ q hq => by
  unfold nxK at hq
  rw [← Option.some.inj hq]
  obtain ⟨h1, h2, h3, h4⟩ := hl
  refine ⟨(w1.F.run h1 [c]).1, (w2.F.run h2 [c]).1, in_G4 fun y hy => ?_, in_G4 fun y hy => ?_⟩
  · rcases List.mem_append.mp hy with h | h
    · exact (G4_in h3).1 y h
    · exact (w1.way _ _).2 y h
  · rcases List.mem_append.mp hy with h | h
    · exact (G4_in h4).1 y h
    · exact (w2.way _ _).2 y h
theorem nil_G4 : ([] : List Str) ∈ G4 := by
  have : kl [] ∈ G4 := List.mem_cons_self
  rwa [kl_nil] at this
theorem in0 {s1 s2 : Str} {R1 R2 : List (List Way)} {E1 E2 : List (List Str)} (w1 : FewK s1 R1 E1) (w2 : FewK s2 R2 E2) : InK R1.length R2.length (0, 0, [], []) := ⟨w1.F.pos, w2.F.pos, nil_G4, nil_G4⟩
section
variable {P : Program} {w : World} {K : PySem.W.Frag} {mg : Str → Option Value} {base : Heap} {f : Addr} {d : FuncData}
def spFp : Sp := fun vs H Q _ => ∃ (t1 t2 : Addr) (s1 s2 : Str) (R1 R2 : List (List Way)) (E1 E2 : List (List Str)), vs = [.str s1, .ref t1, .str s2, .ref t2] ∧ TabAt H t1 R1 E1 ∧ TabAt H t2 R2 E2 ∧ FewK s1 R1 E1 ∧ FewK s2 R2 E2 ∧ s1.cps.size ≤ 4 ∧ (∀ c ∈ s1.cps.toList, c ∈ s2.cps.toList) ∧
  ∀ r H', Same H H' → Fst.Stop (nxK s1 s2 R1 R2) (goK E1 E2) (0, 0, [], []) s1.cps.toList r → Q (Fst.resV r) H'
abbrev Nfp : List Str := ["signs", "one", "mates", "other", "nodes", "texts", "at", "state", "mate", "given", "more", "sign", "goal", "keys", "twin", "extra", "both", "node"]
theorem sc_fp : FnScope Nfp ["signs", "one", "mates", "other"] (defScope s__law_fp) := ⟨rfl, rfl, rfl, by decide +kernel, rfl, by decide +kernel, by decide +kernel⟩
theorem ok_fp (T : TxtFp K mg f d) : FnOk P w K mg base CX0 1 f d ["signs", "one", "mates", "other"] spFp := by
  have sc := sc_fp
  refine T.D__law_first_parted.F.ok sc (fun vs H Q E h => ?_) (fun cdv A1 outer s H vs Q E hr h => ?_)
  · obtain ⟨_, _, _, _, _, _, _, _, rfl, _⟩ := h; rfl
  · obtain ⟨t1, t2, s1, s2, R1, R2, E1, E2, rfl, TA1, TA2, w1, w2, z4, sub, k⟩ := h
    have hu65 : (A1.deeper (PyProof.Rows.envOfC "_law_first_parted" (defScope s__law_fp) s.heap.objs.size f cdv)).units + 65 < cLine := by have := hr.un; omega
    have hu0 : (A1.deeper (PyProof.Rows.envOfC "_law_first_parted" (defScope s__law_fp) s.heap.objs.size f cdv)).units < cLine := by omega
    refine ⟨_, (pss_cons (ps_par3 (i := 4) (j := 5) (l := 6) rfl sc.nd rfl rfl rfl (by decide) (by decide) (by decide) rfl rfl rfl (pa_cons (pe_lst (pa_cons (pe_tup (pa_cons pe_int (pa_cons pe_int (pa_cons (pe_tup pa_nil) (pa_cons (pe_tup pa_nil) pa_nil))))) pa_nil)) (pa_cons (pe_lst (pa_cons pe_str pa_nil)) (pa_cons pe_int pa_nil))) rfl)
      (pss_cons (ps_while PassesOwn.never (pt_cmpR op_lt (pv 6) (pe_callB call_len (by rfl) T.n_len (by decide +kernel) (pa_cons (pv 4) pa_nil)) (nomark _)) (pss_cons (ps_asg (pe_ix ix_list (pv 4) (pv 6) (fun _ _ => rfl)) (pg_tup rfl (pgs_cons (pg_name (i := 7) sc.nd rfl (Or.inl rfl)) (pgs_cons (pg_name (i := 8) sc.nd rfl (Or.inl rfl)) (pgs_cons (pg_name (i := 9) sc.nd rfl (Or.inl rfl)) (pgs_cons (pg_name (i := 10) sc.nd rfl (Or.inl rfl)) pgs_nil))))))
      (pss_cons (ps_if (pt_cmpR (or_neT hu0) (pe_callTy (cr_setT rfl) (by rfl) T.n_set (by decide +kernel) (pa_cons (pe_op op_catA (pv 9) (pe_tupleOf rfl T.n_tuple (pe_ix ix_list (pe_ix ix_tup (pv 1) pe_int (fun _ _ => rfl)) (pv 7) (fun _ _ => rfl)))) pa_nil)) (pe_callTy (cr_setT rfl) (by rfl) T.n_set (by decide +kernel) (pa_cons (pe_op op_catA (pv 10) (pe_tupleOf rfl T.n_tuple (pe_ix ix_list (pe_ix ix_tup (pv 3) pe_int (fun _ _ => rfl)) (pv 8) (fun _ _ => rfl)))) pa_nil)) (nomark _)) (pss_one (ps_ret (pe_ix ix_list (pv 5) (pv 6) (fun _ _ => rfl)))) pss_nil)
      (pss_cons (ps_for PassesOwn.never rfl (pi_str (pv 0)) (pg_name (i := 11) sc.nd rfl (Or.inl rfl)) (pss_cons (ps_asg (pe_ix ix_list (pe_ix ix_list (pe_ix ix_tup (pv 1) pe_int (fun _ _ => rfl)) (pv 7) (fun _ _ => rfl)) (pe_bm PySem.F.plainAttrs_str PySem.F.slot_str_index PySem.F.type_str_index mt_signAt (pv 0) (pa_cons (pv 11) pa_nil)) (fun _ _ => rfl)) (pg_tup rfl (pgs_cons (pg_name (i := 12) sc.nd rfl (Or.inl rfl)) (pgs_cons (pg_name (i := 13) sc.nd rfl (Or.inl rfl)) pgs_nil))))
      (pss_cons (ps_asg (pe_ix ix_list (pe_ix ix_list (pe_ix ix_tup (pv 3) pe_int (fun _ _ => rfl)) (pv 8) (fun _ _ => rfl)) (pe_bm PySem.F.plainAttrs_str PySem.F.slot_str_index PySem.F.type_str_index mt_signAt (pv 2) (pa_cons (pv 11) pa_nil)) (fun _ _ => rfl)) (pg_tup rfl (pgs_cons (pg_name (i := 14) sc.nd rfl (Or.inl rfl)) (pgs_cons (pg_name (i := 15) sc.nd rfl (Or.inl rfl)) pgs_nil))))
      (pss_cons (ps_set (i := 16) sc.nd rfl (Or.inl rfl) (pe_lst (pa_cons (pe_tupleOf rfl T.n_tuple (pe_callB (cr_sortT rfl) (by rfl) T.n_sorted (by decide +kernel) (pa_cons (pe_callTy (cr_setT rfl) (by rfl) T.n_set (by decide +kernel) (pa_cons (pe_op op_catA (pv 9) (pe_tupleOf rfl T.n_tuple (pv 13))) pa_nil)) pa_nil))) (pa_cons (pe_tupleOf rfl T.n_tuple (pe_callB (cr_sortT rfl) (by rfl) T.n_sorted (by decide +kernel) (pa_cons (pe_callTy (cr_setT rfl) (by rfl) T.n_set (by decide +kernel) (pa_cons (pe_op op_catA (pv 10) (pe_tupleOf rfl T.n_tuple (pv 15))) pa_nil)) pa_nil))) pa_nil))))
      (pss_cons (ps_set (i := 17) sc.nd rfl (Or.inl rfl) (pe_tup (pa_cons (pv 12) (pa_cons (pv 14) (pa_cons (pe_ix ix_list (pv 16) pe_int (fun _ _ => rfl)) (pa_cons (pe_ix ix_list (pv 16) pe_int (fun _ _ => rfl)) pa_nil))))))
      (pss_one (ps_if (pt_cmpR (op_notInD hu65) (pv 17) (pv 4) (by rfl)) (pss_cons (ps_expr (pe_bm PySem.F.plainAttrs_list PySem.F.slot_list_append PySem.F.type_list_append mt_append (pv 4) (pa_cons (pv 17) pa_nil))) (pss_one (ps_expr (pe_bm PySem.F.plainAttrs_list PySem.F.slot_list_append PySem.F.type_list_append mt_append (pv 5) (pa_cons (pe_op op_add_str (pe_ix ix_list (pv 5) (pv 6) (fun _ _ => rfl)) (pv 11)) pa_nil))))) pss_nil)))))))
      (pss_one (ps_set (i := 6) sc.nd rfl (Or.inl rfl) (pe_op op_add (pv 6) pe_int)))))))
      (pss_one (ps_ret pe_non)))), ?_⟩
    obtain ⟨r1, e1, rv1, ev1, ht1, hr1, pR1, he1, pE1⟩ := TA1
    obtain ⟨r2, e2, rv2, ev2, ht2, hr2, pR2, he2, pE2⟩ := TA2
    refine ⟨by show 0 ≤ sizeLine; decide, fun g0 hg0 => ⟨by show 0 ≤ sizeLine; decide, fun h0 hh0 => ⟨by show 4 ≤ sizeLine; decide, fun z0 hz0 => ⟨by show 1 ≤ sizeLine; decide, fun Nb hNb => ⟨by show 1 ≤ sizeLine; decide, fun Tb hTb => ?_⟩⟩⟩⟩⟩
    refine ⟨_, _, _, rfl, ?_⟩
    have nd1 : NdAt (upd (upd (upd (upd (upd H g0 (.tup [])) h0 (.tup [])) z0 (.tup [.int 0, .int 0, .ref g0, .ref h0])) Nb (.lst [.ref z0])) Tb (.lst [.str ""])) (.ref z0) (0, 0, [], []) := ⟨z0, g0, h0, rfl, Same.upd hTb _ _ (Same.upd hNb _ _ upd_same), Same.upd hTb _ _ (Same.upd hNb _ _ (Same.upd hz0 _ _ (Same.upd hh0 _ _ upd_same))), Same.upd hTb _ _ (Same.upd hNb _ _ (Same.upd hz0 _ _ upd_same))⟩
    have sA : Same H (upd (upd (upd H g0 (.tup [])) h0 (.tup [])) z0 (.tup [.int 0, .int 0, .ref g0, .ref h0])) := ((Same.upd hg0).trans (Same.upd hh0)).trans (Same.upd hz0)
    have s1' : Same H (upd (upd (upd (upd (upd H g0 (.tup [])) h0 (.tup [])) z0 (.tup [.int 0, .int 0, .ref g0, .ref h0])) Nb (.lst [.ref z0])) Tb (.lst [.str ""])) := (sA.trans (Same.upd hNb)).trans (Same.upd hTb)
    have hN1 : (upd (upd (upd (upd (upd H g0 (.tup [])) h0 (.tup [])) z0 (.tup [.int 0, .int 0, .ref g0, .ref h0])) Nb (.lst [.ref z0])) Tb (.lst [.str ""])) Nb = some (.lst [.ref z0]) := Same.upd hTb _ _ upd_same
    have hT1 : (upd (upd (upd (upd (upd H g0 (.tup [])) h0 (.tup [])) z0 (.tup [.int 0, .int 0, .ref g0, .ref h0])) Nb (.lst [.ref z0])) Tb (.lst [.str ""])) Tb = some (.lst [.str ""]) := upd_same
    have nN : H Nb = none := by
      cases e : H Nb with
      | none => rfl
      | some o => rw [sA _ _ e] at hNb; cases hNb
    have nT : H Tb = none := by
      cases e : H Tb with
      | none => rfl
      | some o => rw [Same.upd hNb _ _ (sA _ _ e)] at hTb; cases hTb
    have nNT : Nb ≠ Tb := fun e => by rw [← e, upd_same] at hTb; cases hTb
    clear sA
    generalize upd (upd (upd (upd (upd H g0 (.tup [])) h0 (.tup [])) z0 (.tup [.int 0, .int 0, .ref g0, .ref h0])) Nb (.lst [.ref z0])) Tb (.lst [.str ""]) = H1 at s1' hN1 hT1 nd1 ⊢
    have i0 := in0 w1 w2
    have rm := room_K w1.l16 w2.l16
    have hin := nxK_in w1 w2 s1.cps.toList
    have few : ∀ e, (Fst.walk (nxK s1 s2 R1 R2) (0, 0, [], []) s1.cps.toList e).length ≤ 4096 := Fst.walk_len rm i0 hin
    refine ⟨fun m σ H' => ∃ (d : Nat) (o7 o8 o9 o10 o11 o12 o13 o14 o15 o16 o17 : Option V) (us : List V), m + d = 4097 ∧ σ = [some (.str s1), some (.ref t1), some (.str s2), some (.ref t2), some (.ref Nb), some (.ref Tb), some (.int (d : Nat)), o7, o8, o9, o10, o11, o12, o13, o14, o15, o16, o17] ∧ Fst.Going (nxK s1 s2 R1 R2) (goK E1 E2) (0, 0, [], []) s1.cps.toList d ∧ d ≤ 4096 ∧ Same H H' ∧ H' Nb = some (.lst us) ∧ Paired (fun v (p : Fst.Nd LbK) => NdAt H' v p.1) us (Fst.walk (nxK s1 s2 R1 R2) (0, 0, [], []) s1.cps.toList d) ∧ H' Tb = some (.lst ((Fst.walk (nxK s1 s2 R1 R2) (0, 0, [], []) s1.cps.toList d).map fun p => V.str (Fst.mk p.2))),
      ⟨4097, 0, none, none, none, none, none, none, none, none, none, none, none, _, rfl, rfl, fun j hj => absurd hj (Nat.not_lt_zero j), Nat.zero_le _, s1', hN1, .cons nd1 .nil, hT1⟩, ?_⟩
    rintro m σ H2 ⟨d, o7, o8, o9, o10, o11, o12, o13, o14, o15, o16, o17, us, hm, rfl, hj, dm, sm2, hN2, pu2, hT2⟩
    have lu : us.length = (Fst.walk (nxK s1 s2 R1 R2) (0, 0, [], []) s1.cps.toList d).length := Paired.length pu2
    refine ⟨_, rfl, _, rfl, .ref Nb, us.length, rfl, .inl ⟨_, SqL.of hN2, rfl⟩, _, _, rfl, rfl, _, rfl, ?_⟩
    by_cases cl : d < us.length
    · have hp : (Fst.walk (nxK s1 s2 R1 R2) (0, 0, [], []) s1.cps.toList d)[d]? = some ((Fst.walk (nxK s1 s2 R1 R2) (0, 0, [], []) s1.cps.toList d)[d]'(by omega)) := List.getElem?_eq_getElem (by omega)
      generalize (Fst.walk (nxK s1 s2 R1 R2) (0, 0, [], []) s1.cps.toList d)[d]'(by omega) = p at hp
      have mp := List.mem_of_getElem? hp
      obtain ⟨ip1, ip2, ip3, ip4⟩ := Fst.walk_in (In := InK R1.length R2.length) i0 hin d p mp
      have ew := Fst.walk_at hp
      have tl := Fst.text_len p mp
      rw [decide_eq_true (by omega : ((d : Nat) : Int) < (us.length : Nat))]
      refine iteT ⟨fun σ' H' => ∃ (o7 o8 o9 o10 o11 o12 o13 o14 o15 o16 o17 : Option V) (us' : List V), σ' = [some (.str s1), some (.ref t1), some (.str s2), some (.ref t2), some (.ref Nb), some (.ref Tb), some (.int ((d + 1 : Nat) : Int)), o7, o8, o9, o10, o11, o12, o13, o14, o15, o16, o17] ∧ goK E1 E2 p.1 = false ∧ Same H H' ∧ H' Nb = some (.lst us') ∧ Paired (fun v (p : Fst.Nd LbK) => NdAt H' v p.1) us' (Fst.walk (nxK s1 s2 R1 R2) (0, 0, [], []) s1.cps.toList (d + 1)) ∧ H' Tb = some (.lst ((Fst.walk (nxK s1 s2 R1 R2) (0, 0, [], []) s1.cps.toList (d + 1)).map fun p => V.str (Fst.mk p.2))), ?_, ?_⟩
      · rintro σ' H' ⟨q7, q8, q9, q10, q11, q12, q13, q14, q15, q16, q17, us', rfl, gf, s', hN', pu', hT'⟩
        have := few d
        refine ⟨m - 1, by omega, d + 1, q7, q8, q9, q10, q11, q12, q13, q14, q15, q16, q17, us', by omega, rfl, fun j h => ?_, by omega, s', hN', pu', hT'⟩
        rcases Nat.lt_succ_iff_lt_or_eq.mp h with h | rfl
        · exact hj j h
        · exact ⟨p, hp, gf⟩
      have hu2 : us[d]? = some us[d] := List.getElem?_eq_getElem cl
      obtain ⟨p', hp', b, ga, ha, eb, hb, hga, hha⟩ := pat pu2 hu2
      rw [hp] at hp'
      obtain rfl := Option.some.inj hp'
      rw [eb] at hu2
      have g2 := (G4_in ip3).2
      have h2 := (G4_in ip4).2
      have e4 : scanBound = 4096 := rfl
      -- the ends
      have el1 : ev1.length = E1.length := Paired.length pE1
      have hev1 : ev1[p.1.1]? = some (ev1[p.1.1]'(by rw [el1, w1.F.ends]; exact ip1)) := List.getElem?_eq_getElem _
      obtain ⟨ks1, hks1, ka1, eka1, hka1⟩ := pat pE1 hev1
      have ek1 : E1.getD p.1.1 [] = ks1 := by rw [List.getD_eq_getElem?_getD, hks1]; rfl
      rw [eka1] at hev1
      have el2 : ev2.length = E2.length := Paired.length pE2
      have hev2 : ev2[p.1.2.1]? = some (ev2[p.1.2.1]'(by rw [el2, w2.F.ends]; exact ip2)) := List.getElem?_eq_getElem _
      obtain ⟨ks2, hks2, ka2, eka2, hka2⟩ := pat pE2 hev2
      have ek2 : E2.getD p.1.2.1 [] = ks2 := by rw [List.getD_eq_getElem?_getD, hks2]; rfl
      rw [eka2] at hev2
      have lk1 : ks1.length ≤ 4 := by rw [← ek1]; exact (w1.fin _).1
      have lk2 : ks2.length ≤ 4 := by rw [← ek2]; exact (w2.fin _).1
      refine ⟨_, rfl, _, rfl, Nb, us, _, _, rfl, rfl, SqL.of hN2, atI_nat hu2, b, _, rfl, SqT.of hb, rfl, _, _, rfl, _, _, rfl, _, _, rfl, _, _, rfl, rfl, ?_⟩
      refine ⟨_, rfl, _, rfl, t1, _, 0 + 1, _, rfl, rfl, SqT.of (sm2 _ _ ht1), atI_nat (j := 1) rfl, _, rfl, e1, ev1, _, _, rfl, rfl, SqL.of (sm2 _ _ he1), atI_nat hev1, .inl ⟨ka1, _, rfl, SqL.of (sm2 _ _ hka1), fun u hu => ?_⟩⟩
      refine cat_keys (xs := p.1.2.2.1) (ys := ks1) (Same.upd hu _ _ hga) upd_same (by omega) fun c3 H3 sm3 hc3 => ?_
      have s23 : Same H2 H3 := (Same.upd hu).trans sm3
      clear sm3
      refine ⟨.ref c3, _, rfl, .tup (SqT.of hc3), by rw [List.length_append]; omega, fun p4 l4 hp4 nd4 hm4 hl4 => ?_⟩
      rw [List.length_append] at hl4
      have hS4 : (upd H3 p4 (SetT P w p4 l4)) p4 = some (SetT P w p4 l4) := upd_same
      have s24 : Same H2 (upd H3 p4 (SetT P w p4 l4)) := s23.trans (Same.upd hp4)
      clear hp4 hc3 s23
      refine ⟨_, rfl, _, rfl, t2, _, 0 + 1, _, rfl, rfl, SqT.of (s24 _ _ (sm2 _ _ ht2)), atI_nat (j := 1) rfl, _, rfl, e2, ev2, _, _, rfl, rfl, SqL.of (s24 _ _ (sm2 _ _ he2)), atI_nat hev2, .inl ⟨ka2, _, rfl, SqL.of (s24 _ _ (sm2 _ _ hka2)), fun u5 hu5 => ?_⟩⟩
      refine cat_keys (xs := p.1.2.2.2) (ys := ks2) (Same.upd hu5 _ _ (s24 _ _ hha)) upd_same (by omega) fun c6 H6 sm6 hc6 => ?_
      have s46 : Same (upd H3 p4 (SetT P w p4 l4)) H6 := (Same.upd hu5).trans sm6
      clear sm6
      refine ⟨.ref c6, _, rfl, .tup (SqT.of hc6), by rw [List.length_append]; omega, fun p7 l7 hp7 nd7 hm7 hl7 => ?_⟩
      rw [List.length_append] at hl7
      refine ⟨p4, p7, l4, l7, rfl, rfl, Same.upd hp7 _ _ (s46 _ _ hS4), upd_same, by omega, by omega, _, rfl, ?_⟩
      rw [sets_eq nd4 nd7 hm4 hm7]
      have eg : (!decide (kl (p.1.2.2.1 ++ ks1) = kl (p.1.2.2.2 ++ ks2))) = goK E1 E2 p.1 := by unfold goK; rw [ek1, ek2]
      rw [eg]
      have s27 : Same H2 (upd H6 p7 (SetT P w p7 l7)) := (s24.trans s46).trans (Same.upd hp7)
      have hN7 := s27 _ _ hN2
      have hT7 := s27 _ _ hT2
      have hga7 := s27 _ _ hga
      have hha7 := s27 _ _ hha
      have pu7 : Paired (fun v (p : Fst.Nd LbK) => NdAt (upd H6 p7 (SetT P w p7 l7)) v p.1) us (Fst.walk (nxK s1 s2 R1 R2) (0, 0, [], []) s1.cps.toList d) := L2.Paired.mapP pu2 fun _ _ z => z.keep fun b xs y => s27 _ _ y
      have s07 : Same H (upd H6 p7 (SetT P w p7 l7)) := sm2.trans s27
      have vt_at : ∀ (ns : List (Fst.Nd LbK)) (i : Nat) (q : Fst.Nd LbK), ns[i]? = some q → (ns.map fun p => V.str (Fst.mk p.2))[i]? = some (.str (Fst.mk q.2)) := fun ns i q h => by
        rw [List.getElem?_map, h]; rfl
      clear eg hS4 s24 s46 hc6 hu5 hp7 hm4 hm7 nd4 nd7 hl4 hl7 hN2 hT2 pu2 sm2 s27 hga hha hb hu2 hu hka1 hka2 hev1 hev2 s1' hN1 hT1 nd1
      cases hg : goK E1 E2 p.1 with
      | true =>
        refine iteT ⟨_, rfl, _, rfl, Tb, _, _, _, rfl, rfl, SqL.of hT7, atI_nat (vt_at _ _ _ hp), ?_⟩
        exact k (some p.2) (upd H6 p7 (SetT P w p7 l7)) s07 ⟨d, hj, .inl ⟨p, hp, hg, rfl⟩⟩
      | false =>
      refine iteF ?_
      refine ⟨_, rfl, s1, rfl, ?_⟩
      refine for_it walk_str (fun j σ H' => (∃ o11 o12 o13 o14 o15 o16 o17 : Option V, σ = [some (.str s1), some (.ref t1), some (.str s2), some (.ref t2), some (.ref Nb), some (.ref Tb), some (.int (d : Nat)), some (.int (p.1.1 : Nat)), some (.int (p.1.2.1 : Nat)), some (.ref ga), some (.ref ha), o11, o12, o13, o14, o15, o16, o17]) ∧ Same H H' ∧ H' ga = some (.tup (p.1.2.2.1.map V.str)) ∧ H' ha = some (.tup (p.1.2.2.2.map V.str)) ∧ ∃ us', H' Nb = some (.lst us') ∧ Paired (fun v (p : Fst.Nd LbK) => NdAt H' v p.1) us' (Fst.turn (nxK s1 s2 R1 R2) p (Fst.walk (nxK s1 s2 R1 R2) (0, 0, [], []) s1.cps.toList d) (s1.cps.toList.take j)) ∧ H' Tb = some (.lst ((Fst.turn (nxK s1 s2 R1 R2) p (Fst.walk (nxK s1 s2 R1 R2) (0, 0, [], []) s1.cps.toList d) (s1.cps.toList.take j)).map fun p => V.str (Fst.mk p.2))))
        ⟨⟨_, _, _, _, _, _, _, rfl⟩, s07, hga7, hha7, us, hN7, pu7, hT7⟩ (fun _ _ _ _ _ => trivial) ?_ ?_
      · rintro j x σ _ H8 hjj ⟨⟨q11, q12, q13, q14, q15, q16, q17, rfl⟩, s8, hga8, hha8, us8, hN8, pu8, hT8⟩ ⟨rfl, c, hc, rfl⟩
        have hc' : s1.cps.toList[j]? = some c := by rw [Array.getElem?_toList]; exact hc
        have cm := List.mem_of_getElem? hc'
        have tk : s1.cps.toList.take (j + 1) = s1.cps.toList.take j ++ [c] := by rw [List.take_add_one, hc']; rfl
        have tn : Fst.turn (nxK s1 s2 R1 R2) p (Fst.walk (nxK s1 s2 R1 R2) (0, 0, [], []) s1.cps.toList d) (s1.cps.toList.take (j + 1)) = Fst.add (nxK s1 s2 R1 R2) p (Fst.turn (nxK s1 s2 R1 R2) p (Fst.walk (nxK s1 s2 R1 R2) (0, 0, [], []) s1.cps.toList d) (s1.cps.toList.take j)) c := by
          rw [tk]
          unfold Fst.turn
          rw [List.foldl_append]
          rfl
        rw [tn]
        have ln := Fst.turn_len rm i0 hin hp j
        have hpj := Fst.turn_pre (nx := nxK s1 s2 R1 R2) (p := p) (cs := s1.cps.toList.take j) hp
        have okl : ∀ q ∈ Fst.turn (nxK s1 s2 R1 R2) p (Fst.walk (nxK s1 s2 R1 R2) (0, 0, [], []) s1.cps.toList d) (s1.cps.toList.take j), OkL q.1 := fun q hq => by
          have := Fst.turn_all (In := fun p : Fst.Nd LbK => InK R1.length R2.length p.1) (ns := []) (fun c hc q hq => hin p.1 ⟨ip1, ip2, ip3, ip4⟩ c (List.mem_of_mem_take hc) q hq) (Fst.walk_in (In := InK R1.length R2.length) i0 hin d) q hq
          exact ⟨G4_ok this.2.2.1, G4_ok this.2.2.2⟩
        generalize Fst.turn (nxK s1 s2 R1 R2) p (Fst.walk (nxK s1 s2 R1 R2) (0, 0, [], []) s1.cps.toList d) (s1.cps.toList.take j) = ls at pu8 hT8 ln hpj okl ⊢
        have l8 : us8.length = ls.length := Paired.length pu8
        obtain ⟨a1, vs1, j1, b1, kv1, g11, g12, g13, g14, g15, g16, g17⟩ := way_listK w1.F pR1 ip1 cm
        obtain ⟨a2, vs2, j2, b2, kv2, g21, g22, g23, g24, g25, g26, g27⟩ := way_listK w2.F pR2 ip2 (sub c cm)
        simp only [gName_ap, tSeq_ap, List.set]
        refine ⟨_, rfl, t1, _, 0, _, rfl, rfl, SqT.of (s8 _ _ ht1), atI_nat (j := 0) rfl, _, rfl, r1, rv1, _, _, rfl, rfl, SqL.of (s8 _ _ hr1), atI_nat g11, _, rfl, rfl, _, rfl, s1, c, j1, rfl, rfl, g13, g14, a1, vs1, _, _, rfl, rfl, SqL.of (s8 _ _ g12), atI_nat g15, b1, _, rfl, SqT.of (s8 _ _ g16), rfl, _, _, rfl, _, _, rfl, rfl, ?_⟩
        refine ⟨_, rfl, t2, _, 0, _, rfl, rfl, SqT.of (s8 _ _ ht2), atI_nat (j := 0) rfl, _, rfl, r2, rv2, _, _, rfl, rfl, SqL.of (s8 _ _ hr2), atI_nat g21, _, rfl, rfl, _, rfl, s2, c, j2, rfl, rfl, g23, g24, a2, vs2, _, _, rfl, rfl, SqL.of (s8 _ _ g22), atI_nat g25, b2, _, rfl, SqT.of (s8 _ _ g26), rfl, _, _, rfl, _, _, rfl, rfl, ?_⟩
        obtain ⟨k14, k1W⟩ := w1.way p.1.1 c
        obtain ⟨k24, k2W⟩ := w2.way p.1.2.1 c
        -- the keys by the first one
        refine ⟨_, rfl, _, rfl, .inl ⟨kv1, _, rfl, SqL.of (s8 _ _ g17), fun u9 hu9 => ?_⟩⟩
        refine cat_keys (xs := p.1.2.2.1) (ys := (runW s1 R1 p.1.1 [c]).2) (Same.upd hu9 _ _ hga8) upd_same (by omega) fun c9 H9 sm9 hc9 => ?_
        have s89 : Same H8 H9 := (Same.upd hu9).trans sm9
        refine ⟨.ref c9, _, rfl, .tup (SqT.of hc9), by rw [List.length_append]; omega, fun p9 l9 hp9 nd9 hm9 hl9 => ?_⟩
        refine ⟨p9, l9, rfl, upd_same, by rw [List.length_append] at hl9; omega, fun p10 ys10 hp10 pm10 hs10 => ?_⟩
        obtain rfl := kl_of pm10 hs10 nd9 hm9
        refine .inl ⟨p10, _, rfl, SqL.of upd_same, fun u11 hu11 => ?_⟩
        have sA : Same H8 (upd (upd (upd H9 p9 (SetT P w p9 l9)) p10 (.lst ((kl (p.1.2.2.1 ++ (runW s1 R1 p.1.1 [c]).2)).map V.str))) u11 (.tup ((kl (p.1.2.2.1 ++ (runW s1 R1 p.1.1 [c]).2)).map V.str))) := ((s89.trans (Same.upd hp9)).trans (Same.upd hp10)).trans (Same.upd hu11)
        have hA : (upd (upd (upd H9 p9 (SetT P w p9 l9)) p10 (.lst ((kl (p.1.2.2.1 ++ (runW s1 R1 p.1.1 [c]).2)).map V.str))) u11 (.tup ((kl (p.1.2.2.1 ++ (runW s1 R1 p.1.1 [c]).2)).map V.str))) u11 = some (.tup ((kl (p.1.2.2.1 ++ (runW s1 R1 p.1.1 [c]).2)).map V.str)) := upd_same
        clear sm9 s89 hc9 hu9
        -- the keys by the second one
        refine ⟨_, rfl, _, rfl, .inl ⟨kv2, _, rfl, SqL.of (sA _ _ (s8 _ _ g27)), fun u12 hu12 => ?_⟩⟩
        refine cat_keys (xs := p.1.2.2.2) (ys := (runW s2 R2 p.1.2.1 [c]).2) (Same.upd hu12 _ _ (sA _ _ hha8)) upd_same (by omega) fun c12 H12 sm12 hc12 => ?_
        have sA12 : Same (upd (upd (upd H9 p9 (SetT P w p9 l9)) p10 (.lst ((kl (p.1.2.2.1 ++ (runW s1 R1 p.1.1 [c]).2)).map V.str))) u11 (.tup ((kl (p.1.2.2.1 ++ (runW s1 R1 p.1.1 [c]).2)).map V.str))) H12 := (Same.upd hu12).trans sm12
        refine ⟨.ref c12, _, rfl, .tup (SqT.of hc12), by rw [List.length_append]; omega, fun p12 l12 hp12 nd12 hm12 hl12 => ?_⟩
        refine ⟨p12, l12, rfl, upd_same, by rw [List.length_append] at hl12; omega, fun p13 ys13 hp13 pm13 hs13 => ?_⟩
        obtain rfl := kl_of pm13 hs13 nd12 hm12
        refine .inl ⟨p13, _, rfl, SqL.of upd_same, fun u14 hu14 => ?_⟩
        have sB : Same H8 (upd (upd (upd H12 p12 (SetT P w p12 l12)) p13 (.lst ((kl (p.1.2.2.2 ++ (runW s2 R2 p.1.2.1 [c]).2)).map V.str))) u14 (.tup ((kl (p.1.2.2.2 ++ (runW s2 R2 p.1.2.1 [c]).2)).map V.str))) := (sA.trans sA12).trans (((Same.upd hp12).trans (Same.upd hp13)).trans (Same.upd hu14))
        have hB1 : (upd (upd (upd H12 p12 (SetT P w p12 l12)) p13 (.lst ((kl (p.1.2.2.2 ++ (runW s2 R2 p.1.2.1 [c]).2)).map V.str))) u14 (.tup ((kl (p.1.2.2.2 ++ (runW s2 R2 p.1.2.1 [c]).2)).map V.str))) u11 = some (.tup ((kl (p.1.2.2.1 ++ (runW s1 R1 p.1.1 [c]).2)).map V.str)) := (((Same.upd hp12).trans (Same.upd hp13)).trans (Same.upd hu14)) _ _ (sA12 _ _ hA)
        have hB2 : (upd (upd (upd H12 p12 (SetT P w p12 l12)) p13 (.lst ((kl (p.1.2.2.2 ++ (runW s2 R2 p.1.2.1 [c]).2)).map V.str))) u14 (.tup ((kl (p.1.2.2.2 ++ (runW s2 R2 p.1.2.1 [c]).2)).map V.str))) u14 = some (.tup ((kl (p.1.2.2.2 ++ (runW s2 R2 p.1.2.1 [c]).2)).map V.str)) := upd_same
        clear sm12 hc12 hu12 sA12
        refine ⟨by show 2 ≤ sizeLine; decide, fun q15 hq15 => ?_⟩
        have hC : (upd (upd (upd (upd H12 p12 (SetT P w p12 l12)) p13 (.lst ((kl (p.1.2.2.2 ++ (runW s2 R2 p.1.2.1 [c]).2)).map V.str))) u14 (.tup ((kl (p.1.2.2.2 ++ (runW s2 R2 p.1.2.1 [c]).2)).map V.str))) q15 (.lst [.ref u11, .ref u14])) q15 = some (.lst [.ref u11, .ref u14]) := upd_same
        refine ⟨_, rfl, _, rfl, _, rfl, q15, _, _, _, rfl, rfl, SqL.of hC, atI_nat (j := 0) rfl, _, rfl, q15, _, _, _, rfl, rfl, SqL.of hC, atI_nat (j := 1) rfl, by show 4 ≤ sizeLine; decide, fun nb hnb => ?_⟩
        have s8D : Same H8 (upd (upd (upd (upd (upd H12 p12 (SetT P w p12 l12)) p13 (.lst ((kl (p.1.2.2.2 ++ (runW s2 R2 p.1.2.1 [c]).2)).map V.str))) u14 (.tup ((kl (p.1.2.2.2 ++ (runW s2 R2 p.1.2.1 [c]).2)).map V.str))) q15 (.lst [.ref u11, .ref u14])) nb (.tup [.int (nxW s1 R1 p.1.1 c : Nat), .int (nxW s2 R2 p.1.2.1 c : Nat), .ref u11, .ref u14])) := (sB.trans (Same.upd hq15)).trans (Same.upd hnb)
        have ndD' : NdAt (upd (upd (upd (upd (upd H12 p12 (SetT P w p12 l12)) p13 (.lst ((kl (p.1.2.2.2 ++ (runW s2 R2 p.1.2.1 [c]).2)).map V.str))) u14 (.tup ((kl (p.1.2.2.2 ++ (runW s2 R2 p.1.2.1 [c]).2)).map V.str))) q15 (.lst [.ref u11, .ref u14])) nb (.tup [.int (nxW s1 R1 p.1.1 c : Nat), .int (nxW s2 R2 p.1.2.1 c : Nat), .ref u11, .ref u14])) (.ref nb) (nxW s1 R1 p.1.1 c, nxW s2 R2 p.1.2.1 c, (kl (p.1.2.2.1 ++ (runW s1 R1 p.1.1 [c]).2)), (kl (p.1.2.2.2 ++ (runW s2 R2 p.1.2.1 [c]).2))) := ⟨nb, u11, u14, rfl, upd_same, Same.upd hnb _ _ (Same.upd hq15 _ _ hB1), Same.upd hnb _ _ (Same.upd hq15 _ _ hB2)⟩
        have hND := s8D _ _ hN8
        have hTD := s8D _ _ hT8
        have puD : Paired (fun v (z9 : Fst.Nd LbK) => NdAt (upd (upd (upd (upd (upd H12 p12 (SetT P w p12 l12)) p13 (.lst ((kl (p.1.2.2.2 ++ (runW s2 R2 p.1.2.1 [c]).2)).map V.str))) u14 (.tup ((kl (p.1.2.2.2 ++ (runW s2 R2 p.1.2.1 [c]).2)).map V.str))) q15 (.lst [.ref u11, .ref u14])) nb (.tup [.int (nxW s1 R1 p.1.1 c : Nat), .int (nxW s2 R2 p.1.2.1 c : Nat), .ref u11, .ref u14])) v z9.1) us8 ls := L2.Paired.mapP pu8 fun _ _ z => z.keep fun b xs y => s8D _ _ y
        have s0D : Same H (upd (upd (upd (upd (upd H12 p12 (SetT P w p12 l12)) p13 (.lst ((kl (p.1.2.2.2 ++ (runW s2 R2 p.1.2.1 [c]).2)).map V.str))) u14 (.tup ((kl (p.1.2.2.2 ++ (runW s2 R2 p.1.2.1 [c]).2)).map V.str))) q15 (.lst [.ref u11, .ref u14])) nb (.tup [.int (nxW s1 R1 p.1.1 c : Nat), .int (nxW s2 R2 p.1.2.1 c : Nat), .ref u11, .ref u14])) := s8.trans s8D
        have hgaD := s8D _ _ hga8
        have hhaD := s8D _ _ hha8
        have enx : nxK s1 s2 R1 R2 p.1 c = some ((nxW s1 R1 p.1.1 c, nxW s2 R2 p.1.2.1 c, (kl (p.1.2.2.1 ++ (runW s1 R1 p.1.1 [c]).2)), (kl (p.1.2.2.2 ++ (runW s2 R2 p.1.2.1 [c]).2))) : LbK) := rfl
        have inq : OkL ((nxW s1 R1 p.1.1 c, nxW s2 R2 p.1.2.1 c, (kl (p.1.2.2.1 ++ (runW s1 R1 p.1.1 [c]).2)), (kl (p.1.2.2.2 ++ (runW s2 R2 p.1.2.1 [c]).2))) : LbK) := by
          have := hin p.1 ⟨ip1, ip2, ip3, ip4⟩ c cm _ enx
          exact ⟨G4_ok this.2.2.1, G4_ok this.2.2.2⟩
        clear s8D sB sA hA hB1 hB2 hC s8 hga8 hha8 hN8 hT8 pu8
        refine ⟨_, rfl, _, rfl, ndD ((nxW s1 R1 p.1.1 c, nxW s2 R2 p.1.2.1 c, (kl (p.1.2.2.1 ++ (runW s1 R1 p.1.1 [c]).2)), (kl (p.1.2.2.2 ++ (runW s2 R2 p.1.2.1 [c]).2))) : LbK), ls.map fun p => ndD p.1, dp_nd ndD', .lst (SqL.of hND) (dp_nds puD), (sh_nd inq).ok (by decide), (Sh.list (n := 2) fun x hx => by
          obtain ⟨q, hq, rfl⟩ := List.mem_map.mp hx
          exact sh_nd (okl q hq)).ok (by decide), _, rfl, ?_⟩
        rw [any_nd]
        unfold Fst.add
        rw [enx]
        dsimp only
        by_cases mem : ((nxW s1 R1 p.1.1 c, nxW s2 R2 p.1.2.1 c, (kl (p.1.2.2.1 ++ (runW s1 R1 p.1.1 [c]).2)), (kl (p.1.2.2.2 ++ (runW s2 R2 p.1.2.1 [c]).2))) : LbK) ∈ ls.map (·.1)
        · rw [if_pos mem]
          exact ifFn mem ⟨⟨_, _, _, _, _, _, _, rfl⟩, s0D, hgaD, hhaD, us8, hND, puD, hTD⟩
        · rw [if_neg mem]
          refine ifTn mem ?_
          have hT9 : (upd (upd (upd (upd (upd (upd H12 p12 (SetT P w p12 l12)) p13 (.lst ((kl (p.1.2.2.2 ++ (runW s2 R2 p.1.2.1 [c]).2)).map V.str))) u14 (.tup ((kl (p.1.2.2.2 ++ (runW s2 R2 p.1.2.1 [c]).2)).map V.str))) q15 (.lst [.ref u11, .ref u14])) nb (.tup [.int (nxW s1 R1 p.1.1 c : Nat), .int (nxW s2 R2 p.1.2.1 c : Nat), .ref u11, .ref u14])) Nb (.lst (us8 ++ [.ref nb]))) Tb = some (.lst (ls.map fun p => V.str (Fst.mk p.2))) := by rw [upd_ne nNT.symm]; exact hTD
          have hN9 : (upd (upd (upd (upd (upd (upd H12 p12 (SetT P w p12 l12)) p13 (.lst ((kl (p.1.2.2.2 ++ (runW s2 R2 p.1.2.1 [c]).2)).map V.str))) u14 (.tup ((kl (p.1.2.2.2 ++ (runW s2 R2 p.1.2.1 [c]).2)).map V.str))) q15 (.lst [.ref u11, .ref u14])) nb (.tup [.int (nxW s1 R1 p.1.1 c : Nat), .int (nxW s2 R2 p.1.2.1 c : Nat), .ref u11, .ref u14])) Nb (.lst (us8 ++ [.ref nb]))) Nb = some (.lst (us8 ++ [.ref nb])) := upd_same
          have s09 : Same H (upd (upd (upd (upd (upd (upd H12 p12 (SetT P w p12 l12)) p13 (.lst ((kl (p.1.2.2.2 ++ (runW s2 R2 p.1.2.1 [c]).2)).map V.str))) u14 (.tup ((kl (p.1.2.2.2 ++ (runW s2 R2 p.1.2.1 [c]).2)).map V.str))) q15 (.lst [.ref u11, .ref u14])) nb (.tup [.int (nxW s1 R1 p.1.1 c : Nat), .int (nxW s2 R2 p.1.2.1 c : Nat), .ref u11, .ref u14])) Nb (.lst (us8 ++ [.ref nb]))) := fun b o z => by rw [upd_ne (ne_of_none z nN)]; exact s0D _ _ z
          have kt : ∀ b xs, (upd (upd (upd (upd (upd H12 p12 (SetT P w p12 l12)) p13 (.lst ((kl (p.1.2.2.2 ++ (runW s2 R2 p.1.2.1 [c]).2)).map V.str))) u14 (.tup ((kl (p.1.2.2.2 ++ (runW s2 R2 p.1.2.1 [c]).2)).map V.str))) q15 (.lst [.ref u11, .ref u14])) nb (.tup [.int (nxW s1 R1 p.1.1 c : Nat), .int (nxW s2 R2 p.1.2.1 c : Nat), .ref u11, .ref u14])) b = some (.tup xs) → (upd (upd (upd (upd (upd (upd H12 p12 (SetT P w p12 l12)) p13 (.lst ((kl (p.1.2.2.2 ++ (runW s2 R2 p.1.2.1 [c]).2)).map V.str))) u14 (.tup ((kl (p.1.2.2.2 ++ (runW s2 R2 p.1.2.1 [c]).2)).map V.str))) q15 (.lst [.ref u11, .ref u14])) nb (.tup [.int (nxW s1 R1 p.1.1 c : Nat), .int (nxW s2 R2 p.1.2.1 c : Nat), .ref u11, .ref u14])) Nb (.lst (us8 ++ [.ref nb]))) b = some (.tup xs) := fun b xs z => by
            rw [upd_ne (ne_of z hND (by intro y; cases y))]; exact z
          have pu9 : Paired (fun v (z9 : Fst.Nd LbK) => NdAt (upd (upd (upd (upd (upd (upd H12 p12 (SetT P w p12 l12)) p13 (.lst ((kl (p.1.2.2.2 ++ (runW s2 R2 p.1.2.1 [c]).2)).map V.str))) u14 (.tup ((kl (p.1.2.2.2 ++ (runW s2 R2 p.1.2.1 [c]).2)).map V.str))) q15 (.lst [.ref u11, .ref u14])) nb (.tup [.int (nxW s1 R1 p.1.1 c : Nat), .int (nxW s2 R2 p.1.2.1 c : Nat), .ref u11, .ref u14])) Nb (.lst (us8 ++ [.ref nb]))) v z9.1) (us8 ++ [.ref nb]) (ls ++ [(((nxW s1 R1 p.1.1 c, nxW s2 R2 p.1.2.1 c, (kl (p.1.2.2.1 ++ (runW s1 R1 p.1.1 [c]).2)), (kl (p.1.2.2.2 ++ (runW s2 R2 p.1.2.1 [c]).2))) : LbK), p.2 ++ [c])]) := psnoc (L2.Paired.mapP puD fun _ _ z => z.keep kt) (ndD'.keep kt)
          have hga9 := kt _ _ hgaD
          have hha9 := kt _ _ hhaD
          refine ⟨_, rfl, .inl ⟨rfl, _, SqL.of hND⟩, _, rfl, Nb, us8, _, rfl, rfl, hND, by rw [l8, sizeLine_eq]; omega, ?_⟩
          have lp : p.2.length ≤ 4096 := by omega
          refine ⟨_, rfl, .inl ⟨rfl, _, SqL.of hT9⟩, _, rfl, _, rfl, Tb, _, _, _, rfl, rfl, SqL.of hT9, atI_nat (vt_at _ _ _ hpj), _, rfl, Fst.mk p.2, Froz.sing c, rfl, rfl, by rw [sizeLine_eq]; show p.2.length + 1 ≤ _; omega, ?_⟩
          rw [Fst.mk_snoc]
          refine ⟨Tb, _, _, rfl, rfl, hT9, by rw [List.length_map, sizeLine_eq]; omega, ⟨_, _, _, _, _, _, _, rfl⟩, fun b o z => ?_, ?_, ?_, us8 ++ [.ref nb], ?_, ?_, ?_⟩
          · rw [upd_ne (ne_of_none z nT)]; exact s09 _ _ z
          · rw [upd_ne (ne_of hga9 hT9 (by intro y; cases y))]; exact hga9
          · rw [upd_ne (ne_of hha9 hT9 (by intro y; cases y))]; exact hha9
          · rw [upd_ne nNT]; exact hN9
          · exact L2.Paired.mapP pu9 fun _ _ z => z.keep fun b xs z => by rw [upd_ne (ne_of z hT9 (by intro y; cases y))]; exact z
          · rw [upd_same, List.map_append]
            rfl
      · rintro σ H8 ⟨⟨q11, q12, q13, q14, q15, q16, q17, rfl⟩, s8, hga8, hha8, us8, hN8, pu8, hT8⟩
        have e2 : s1.cps.toList.take s1.cps.size = s1.cps.toList := List.take_of_length_le (by rw [Array.length_toList]; exact Nat.le_refl _)
        rw [e2, ← ew] at pu8 hT8
        exact ⟨_, rfl, _, _, rfl, rfl, _, _, _, _, _, _, _, _, _, _, _, us8, rfl, rfl, s8, hN8, pu8, hT8⟩
    · rw [decide_eq_false (by omega : ¬ ((d : Nat) : Int) < (us.length : Nat))]
      refine iteF ?_
      exact k none H2 sm2 ⟨d, hj, .inr ⟨List.getElem?_eq_none_iff.mpr (by omega), rfl⟩⟩
end
end Kx

namespace Kx
open PySem L2 Own PinX DicN
abbrev s__law_turned : Stmt := top 47
abbrev s__law_told : Stmt := top 50
/-- keys of a way: each once, x or y -/
def KOne (ks : List Str) : Prop := kl ks = ks ∧ ∀ y ∈ ks, y ∈ W2
theorem KOne.two {ks : List Str} (h : KOne ks) : ks.length ≤ 2 := by
  have nd : ks.Nodup := h.1 ▸ kl_nodup ks
  exact nd_sub_len (m := W2) nd h.2
/-- tables as the law draws and changes them -/
structure Good (n N : Nat) (R : List (List Way)) (Es : List (List Str)) : Prop where
  row : ∀ q ∈ R, q.length = n ∧ ∀ w ∈ q, Okw R.length w ∧ KOne w.2
  fin : ∀ ks ∈ Es, KOne ks
  le : R.length ≤ N
  pos : 0 < R.length
  ee : Es.length = R.length
def turnW (s1 s2 : Str) (q : List Way) : List Way := s2.cps.toList.map fun c => q.getD (s1.cps.toList.idxOf c) (0, [])
theorem Good.turn {s1 s2 : Str} {N : Nat} {R : List (List Way)} {Es : List (List Str)} (G : Good s1.cps.size N R Es) (sub : ∀ c ∈ s2.cps.toList, c ∈ s1.cps.toList) : Good s2.cps.size N (R.map (turnW s1 s2)) Es := by
  refine ⟨fun q hq => ?_, G.fin, by rw [List.length_map]; exact G.le, by rw [List.length_map]; exact G.pos, by rw [List.length_map]; exact G.ee⟩
  obtain ⟨q0, h0, rfl⟩ := List.mem_map.mp hq
  obtain ⟨a, b⟩ := G.row q0 h0
  refine ⟨by unfold turnW; rw [List.length_map, Array.length_toList], fun w hw => ?_⟩
  obtain ⟨c, hc, rfl⟩ := List.mem_map.mp hw
  have hl := List.idxOf_lt_length_of_mem (sub c hc)
  rw [Array.length_toList] at hl
  have : q0[s1.cps.toList.idxOf c]? = some (q0[s1.cps.toList.idxOf c]'(by omega)) := List.getElem?_eq_getElem (by omega)
  rw [List.getD_eq_getElem?_getD, this, List.length_map]
  exact b _ (List.getElem_mem _)
section
variable {P : Program} {w : World} {K : PySem.W.Frag} {mg : Str → Option Value} {base : Heap} {f : Addr} {d : FuncData}
def spTurn : Sp := fun vs H Q _ => ∃ (t : Addr) (s1 s2 : Str) (N : Nat) (R : List (List Way)) (Es : List (List Str)), vs = [.str s1, .str s2, .ref t] ∧ TabAt H t R Es ∧ Good s1.cps.size N R Es ∧ N ≤ 100 ∧ s2.cps.size ≤ 4 ∧ (∀ c ∈ s2.cps.toList, c ∈ s1.cps.toList) ∧
  ∀ t' H', Same H H' → TabAt H' t' (R.map (turnW s1 s2)) Es → Q (.ref t') H'
abbrev Ntu : List Str := ["signs", "mates", "tables", "row", "sign"]
theorem sc_tu : FnScope Ntu ["signs", "mates", "tables"] (defScope s__law_turned) := ⟨rfl, rfl, rfl, by decide +kernel, rfl, by decide +kernel, by decide +kernel⟩
def tuTe (K : PySem.W.Frag) : TE := tLc (iStr (tVar 1)) (gName 4) tYes (tOp (rIxL K) (tVar 3) (tBM K "str" rSignAt (tVar 0) (tCons (tVar 4) tNil))) [4]
theorem idx_first {s : Str} {c : Nat} (hc : c ∈ s.cps.toList) : s.cps[s.cps.toList.idxOf c]? = some c ∧ ∀ k, k < s.cps.toList.idxOf c → s.cps[k]? ≠ some c := by
  have hl := List.idxOf_lt_length_of_mem hc
  refine ⟨by rw [← Array.getElem?_toList, List.getElem?_eq_getElem hl, List.getElem_idxOf], fun k hk e => ?_⟩
  rw [← Array.getElem?_toList] at e
  obtain ⟨h1, h2⟩ := List.getElem?_eq_some_iff.mp e
  have := List.not_of_lt_findIdx (p := (· == c)) (xs := s.cps.toList) (i := k) hk
  rw [h2] at this
  simp at this
theorem row_turn {K : PySem.W.Frag} {H : Hp} {s1 s2 : Str} {a0 : Addr} {x2 : Option V} {x4 : Option V} {vs0 : List V} {q0 : List Way} {Q : VK} {G : Hp} (ha : H a0 = some (.lst vs0)) (pr : Paired (WayE G) vs0 q0) (lq : q0.length = s1.cps.size) (z4 : s2.cps.size ≤ 4) (sub : ∀ c ∈ s2.cps.toList, c ∈ s1.cps.toList)
    (k : ∀ (t : Addr) (vs : List V) (H' : Hp), H t = none → H' t = some (.lst vs) → Paired (WayE G) vs (turnW s1 s2 q0) → Same H H' → Q (.ref t) H') :
    tuTe K [some (.str s1), some (.str s2), x2, some (.ref a0), x4] H Q := by
  have lv : vs0.length = q0.length := Paired.length pr
  refine ⟨_, rfl, s2, rfl, fun D hD => ?_⟩
  refine lcs_it [some (.str s1), some (.str s2), x2, some (.ref a0), none] rfl walk_str
    (fun j H' => Same H H' ∧ ∃ acc, H' D = some (.lst acc) ∧ acc.length = j ∧ Paired (WayE G) acc ((s2.cps.toList.take j).map fun c => q0.getD (s1.cps.toList.idxOf c) (0, []))) ⟨Same.upd hD, [], upd_same, rfl, .nil⟩ (fun _ _ _ _ => trivial) ?_ ?_
  · rintro j x _ H1 hj ⟨s1', acc, hacc, hl, pa⟩ ⟨rfl, c, hc, rfl⟩
    have hc' : s2.cps.toList[j]? = some c := by rw [Array.getElem?_toList]; exact hc
    have cm := sub c (List.mem_of_getElem? hc')
    obtain ⟨i1, i2⟩ := idx_first cm
    have il := List.idxOf_lt_length_of_mem cm
    rw [Array.length_toList] at il
    have hv : vs0[s1.cps.toList.idxOf c]? = some (vs0[s1.cps.toList.idxOf c]'(by omega)) := List.getElem?_eq_getElem (by omega)
    obtain ⟨w0, hw0, wa⟩ := pat pr hv
    refine ⟨rfl, tyes ?_⟩
    simp only [if_true]
    refine ⟨_, rfl, _, rfl, rfl, _, rfl, s1, c, _, rfl, rfl, i1, i2, a0, vs0, _, _, rfl, rfl, SqL.of (s1' _ _ ha), atI_nat hv, acc, hacc, by rw [hl, sizeLine_eq]; omega, fun b o z => ?_, acc ++ [vs0[s1.cps.toList.idxOf c]'(by omega)], upd_same, by rw [List.length_append, hl]; rfl, ?_⟩
    · rw [upd_ne (ne_of_none z hD)]
      exact s1' _ _ z
    · rw [List.take_add_one, hc', Option.toList_some, List.map_append]
      refine psnoc pa ?_
      show WayE G _ (q0.getD (s1.cps.toList.idxOf c) (0, []))
      rw [List.getD_eq_getElem?_getD, hw0]
      exact wa
  · rintro H1 ⟨s1', acc, hacc, hl, pa⟩
    have e0 : s2.cps.toList.take s2.cps.size = s2.cps.toList := List.take_of_length_le (by rw [Array.length_toList]; exact Nat.le_refl _)
    rw [e0] at pa
    exact k D acc H1 hD hacc pa s1'
theorem ok_turned (T : DefT K mg "_law_turned" "_law_turned" s__law_turned ["signs", "mates", "tables"] f d) : FnOk P w K mg base CX0 1 f d ["signs", "mates", "tables"] spTurn := by
  have sc := sc_tu
  refine T.F.ok sc (fun vs H Q E h => ?_) (fun cdv A1 outer s H vs Q E hr h => ?_)
  · obtain ⟨_, _, _, _, _, _, rfl, _⟩ := h; rfl
  · obtain ⟨t, s1, s2, N, R, Es, rfl, TA, G, N1, z4, sub, k⟩ := h
    refine ⟨_, (pss_one (ps_ret (pe_tup (pa_cons (pe_lc (own := [("row", 3)]) (g := gName 3) (tt := tYes) (te := tuTe K) rfl sc.nd (pi_list (pe_ix ix_tup (pv 2) pe_int (fun _ _ => rfl))) (blkOk_by (N := Ntu) (sc := defScope s__law_turned) (own := [("row", 3)]) (by decide +kernel)) (fun _ _ _ _ _ => (pg_name (i := 3) sc.nd rfl (Or.inr rfl))) (fun _ _ _ _ _ => pts_nil)
      (fun _ _ _ _ _ => pe_lc (own := [("sign", 4)]) (tt := tYes) rfl sc.nd (pi_str (pv 1)) (blkOk_by (own := [("sign", 4)]) (by rfl)) (fun _ _ _ _ _ => (pg_name (i := 4) sc.nd rfl (Or.inl rfl))) (fun _ _ _ _ _ => pts_nil) (fun _ _ _ _ _ => pe_ix ix_list (pv 3) (pe_bm PySem.F.plainAttrs_str PySem.F.slot_str_index PySem.F.type_str_index mt_signAt (pv 0) (pa_cons (pv 4) pa_nil)) (fun _ _ => rfl))))
      (pa_cons (pe_ix ix_tup (pv 2) pe_int (fun _ _ => rfl)) pa_nil))))), ?_⟩
    obtain ⟨r, e, rv, ev, ht, hrv, pR, hev, pE⟩ := TA
    have lR : rv.length = R.length := Paired.length pR
    have l100 := G.le
    refine ⟨_, rfl, t, _, 0, _, rfl, rfl, SqT.of ht, atI_nat (j := 0) rfl, r, rfl, ⟨_, SqL.of hrv⟩, fun D hD => ?_⟩
    refine lcs_it [some (.str s1), some (.str s2), some (.ref t), none, none] rfl walk_list
      (fun j H' => Same H H' ∧ ∃ acc, H' D = some (.lst acc) ∧ acc.length = j ∧ Paired (fun v q => ∃ a vs, v = V.ref a ∧ a ≠ D ∧ H' a = some (.lst vs) ∧ Paired (WayE H) vs q) acc ((R.take j).map (turnW s1 s2))) ⟨Same.upd hD, [], upd_same, rfl, .nil⟩ (fun j H' _ z => SqL.of (z.1 _ _ hrv)) ?_ ?_
    · rintro j x _ H1 hj ⟨sm1, acc, hacc, hl, pa⟩ ⟨rfl, hx⟩
      obtain ⟨q0, hq0, a0, vs0, rfl, ha0, pr0⟩ := pat pR hx
      have qm := List.mem_of_getElem? hq0
      refine ⟨rfl, tyes ?_⟩
      simp only [if_true]
      refine row_turn (sm1 _ _ ha0) pr0 (G.row q0 qm).1 z4 sub fun t2 vs2 H2 n2 h2 p2 sm2 => ?_
      have hacc2 := sm2 _ _ hacc
      have n2D : t2 ≠ D := fun z => by rw [z, hacc] at n2; cases n2
      refine ⟨acc, hacc2, by rw [hl, sizeLine_eq]; omega, fun b o z => ?_, acc ++ [.ref t2], upd_same, by rw [List.length_append, hl]; rfl, ?_⟩
      · rw [upd_ne (ne_of_none z hD)]
        exact sm2 _ _ (sm1 _ _ z)
      · have tk : R.take (j + 1) = R.take j ++ [q0] := by rw [List.take_add_one, hq0]; rfl
        rw [tk, List.map_append]
        refine psnoc (L2.Paired.mapP pa fun _ _ ⟨a, vs, e1, e2, e3, e4⟩ => ⟨a, vs, e1, e2, by rw [upd_ne e2]; exact sm2 _ _ e3, e4⟩) ⟨t2, vs2, rfl, n2D, by rw [upd_ne n2D]; exact h2, p2⟩
    · rintro H1 ⟨sm1, acc, hacc, hl, pa⟩
      rw [lR, List.take_length] at pa
      refine ⟨_, rfl, t, _, 1, _, rfl, rfl, SqT.of (sm1 _ _ ht), atI_nat (j := 1) rfl, by show 2 ≤ sizeLine; decide, fun t9 ht9 => ?_⟩
      have s9 : Same H (upd H1 t9 (.tup [.ref D, .ref e])) := sm1.trans (Same.upd ht9)
      refine k t9 _ s9 ⟨D, e, acc, ev, upd_same, Same.upd ht9 _ _ hacc, L2.Paired.mapP pa fun _ _ ⟨a, vs, e1, e2, e3, e4⟩ => ⟨a, vs, e1, Same.upd ht9 _ _ e3, L2.Paired.mapP e4 fun _ _ z => z.keep s9⟩, s9 _ _ hev, L2.Paired.mapP pE fun _ _ z => z.keep s9⟩
/-! ### what is told of two machines -/
structure TxtTo (K : PySem.W.Frag) (mg : Str → Option Value) (U : Addr) (f : Addr) (d : FuncData) : Prop where
  D__law_told : DefT K mg "_law_told" "_law_told" s__law_told ["one", "other"] f d
  eUU : PySem.W.exmOne K (.ref U) (.ref U) = some true
section
variable {A : EAd} {B : MAd} {Z : CAd} {S : SAd} {T : List NdefX.NTab} {U fs fk ff fb fp : Addr} {ds dk df db dp : FuncData} {cb Pb c Pt : Addr}
structure Two (s1 s2 : Str) (R1 R2 : List (List Way)) (E1 E2 : List (List Str)) : Prop where
  f1 : Full s1 R1 E1
  f2 : Full s2 R2 E2
  w1 : Low s1
  w2 : Low s2
  z4 : s1.cps.size ≤ 4
  z0 : 0 < s1.cps.size
  l1 : R1.length ≤ 16
  l2 : R2.length ≤ 16
  k1 : (keysA R1 E1).length ≤ 12
  k2 : (keysA R2 E2).length ≤ 12
def spToldP (Z : CAd) (T : List NdefX.NTab) : Sp := fun vs H Q _ => ∃ (m1 m2 : Addr) (s1 s2 : Str) (R1 R2 : List (List Way)) (E1 E2 : List (List Str)), vs = [.ref m1, .ref m2] ∧ MachAt Z.C H m1 s1 R1 E1 ∧ MachAt Z.C H m2 s2 R2 E2 ∧ Two s1 s2 R1 R2 E1 E2 ∧ NdefX.TabsN T H ∧
  (¬ s1.cps.toList.Perm s2.cps.toList → ∀ H', LamX.ExtN H H' → NdefX.TabsN T H' → Q (.str "other signs") H') ∧
  (s1.cps.toList.Perm s2.cps.toList → ∀ r H', LamX.ExtN H H' → NdefX.TabsN T H' → Fst.IsMin s1.cps.toList (fun t => ∃ key ∈ kl (keysA R1 E1 ++ keysA R2 E2), P4 s1 s2 R1 R2 E1 E2 key t) r → Q (Fst.resV r) H')
theorem sc_to : FnScope ["one", "other", "told", "e"] ["one", "other"] (defScope s__law_told) := ⟨rfl, rfl, rfl, by decide +kernel, rfl, by decide +kernel, by decide +kernel⟩
theorem ok_toldP (TM : TxtM K mg B) (TE : TxtE K mg A) (TC : TxtC K mg Z) (TS : TxtS K mg A Z S) (TF : TxtFt K mg ff df) (TB : TxtPb K mg base T fb db cb Pb) (TK : TxtCs K mg A U fs fk ds dk) (TT : TxtPa K mg base T fp dp c Pt) (TO : TxtTo K mg U f d) : FnOk P w K mg base CX0 10 f d ["one", "other"] (spToldP Z T) := by
  have sc := sc_to
  have G_pa : FnOk P w K mg base (L2.CX P w) 9 fp dp ["one", "other"] (spParted Z U T) := ok_parted TM TE TC TS TF TB TK TT
  refine TO.D__law_told.F.ok sc (fun vs H Q E h => ?_) (fun cdv A1 outer s H vs Q E hr h => ?_)
  · obtain ⟨_, _, _, _, _, _, _, _, rfl, _⟩ := h; rfl
  · obtain ⟨m1, m2, s1, s2, R1, R2, E1, E2, rfl, ma1, ma2, w, hT, bad, good⟩ := h
    refine ⟨_, (pss_cons (ps_try_asL (tb := fun W => tAsg (tCallS (spParted Z U T) (WE W) (tCons (tVar 0) (tCons (tVar 1) tNil))) (gName 2))
      (cs := [(.ref U, 3, tRet (tC (.str "other signs")))]) rfl rfl rfl sc.nd
      (.cons rfl rfl ⟨rfl, by decide, .inl TK.E_Unlike.g⟩ (fun a pn => (pss_one (ps_ret pe_str))) .nil)
      (fun W pn xe tk => (pss_one (ps_set (i := 2) sc.nd rfl (Or.inl rfl) (pe_callS G_pa (hr.mono (by decide)) rfl TT.g TT.F.kp TT.b (fun σ => passAt tk σ) (pa_cons (pv 0) (pa_cons (pv 1) pa_nil)))))))
      (pss_one (ps_ret (pv 2)))), ?_⟩
    refine ⟨_, rfl, _, rfl, m1, m2, s1, s2, R1, R2, E1, E2, rfl, ma1, w.f1, ma2, w.f2, w.w1, w.w2, w.z4, w.z0, w.l1, w.l2, w.k1, w.k2, hT, fun np H1 e1 => ?_, fun pm r H1 e1 T1 mn => ?_⟩
    · refine .inl ⟨TO.eUU, U, rfl, fun a ha => ?_⟩
      exact bad np _ ((sameN e1).trans (sameN (Same.upd ha))) ((hT.ext e1).ext (Same.upd ha))
    · exact ⟨_, rfl, good pm r H1 e1 T1 mn⟩
end
end
end Kx

namespace Kx
open PySem L2 Own PinX DicN
variable {H H' : Hp} {p c : Addr} {n : Nat}
theorem tabs_small {R : List (List Way)} {Es : List (List Str)} (row : ∀ q ∈ R, q.length ≤ 4 ∧ ∀ w ∈ q, w.2.length ≤ 4) (l16 : R.length ≤ 16) (e16 : Es.length ≤ 16) (ends : ∀ ks ∈ Es, ks.length ≤ 4) : (keysOfRows R ++ Es.flatten).length + 1 < scanBound := by
  have fb : ∀ {α : Type} (f : α → List Str) (m : Nat) {l : List α}, (∀ x ∈ l, (f x).length ≤ m) → (l.flatMap f).length ≤ m * l.length := by
    intro α f m l
    induction l with
    | nil => intro _; simp
    | cons x l ih =>
      intro h
      have := ih fun y hy => h y (List.mem_cons_of_mem _ hy)
      have := h x List.mem_cons_self
      rw [List.flatMap_cons, List.length_append, List.length_cons, Nat.mul_succ]
      omega
  have a : (keysOfRows R).length ≤ 16 * R.length := fb _ 16 fun q hq => by
    have := fb (fun w : Way => w.2) 4 (l := q) fun w hw => (row q hq).2 w hw
    have := (row q hq).1
    omega
  have b : (Es.flatMap id).length ≤ 4 * Es.length := fb _ 4 ends
  rw [List.flatMap_id] at b
  rw [List.length_append]
  have e : scanBound = 4096 := rfl
  omega
def Still (p : Addr) (H H' : Hp) : Prop := ∀ b o, H b = some o → b ≠ p → (∀ ps, o ≠ .tbl ps) → H' b = some o
theorem Still.refl (p : Addr) (H : Hp) : Still p H H := fun _ _ e _ _ => e
theorem Still.trans {p : Addr} {H H1 H2 : Hp} (a : Still p H H1) (b : Still p H1 H2) : Still p H H2 := fun c o e n t => b c o (a c o e n t) n t
theorem still_but {p : Addr} {H H' : Hp} (s : SameBut p H H') : Still p H H' := fun b o e n _ => s b o e n
theorem still_same {p : Addr} {H H' : Hp} (s : Same H H') : Still p H H' := fun b o e _ _ => s b o e
theorem still_ext {p : Addr} {H H' : Hp} (s : LamX.ExtN H H') : Still p H H' := fun b o e _ t => s b o e t
theorem PenAt.neT (h : PenAt H p c n) {b : Addr} {xs : List V} (e : H b = Option.some (.tup xs)) : b ≠ p := by
  obtain ⟨ns, a, l, h1, _⟩ := h
  exact ne_of e h1 (by intro z; cases z)
theorem Still.tup (s : Still p H H') (hp : PenAt H p c n) {b : Addr} {xs : List V} (e : H b = some (.tup xs)) : H' b = some (.tup xs) := s _ _ e (hp.neT e) fun ps z => by cases z
theorem Still.lst (s : Still p H H') (hp : PenAt H p c n) {b : Addr} {xs : List V} (e : H b = some (.lst xs)) : H' b = some (.lst xs) := s _ _ e (hp.ne e) fun ps z => by cases z
theorem kvUp_other {sg : Str} {vs : List V} {y : Str} (h : ∀ c, (Sum.inr y : Key) ≠ lk c) : ∀ i, valV (kvUp sg vs i) (Sum.inr y) = none
  | 0 => rfl
  | i + 1 => by
    have ih := kvUp_other h (sg := sg) (vs := vs) i
    unfold kvUp
    split
    · rw [valV_put, if_neg (h _), ih]
    · exact ih
theorem cells_not (c : Nat) : kCells ≠ lk c := fun e => by
  have h1 : ("cells" : Str) = Froz.sing c := Sum.inr.inj e
  have h2 : (5 : Nat) = 1 := congrArg (fun z : Str => z.cps.size) h1
  cases h2
theorem MachAt.still {C m : Addr} {sg : Str} {R : List (List Way)} {Es : List (List Str)} (hp : PenAt H p c n) (s : Still p H H') (h : MachAt C H m sg R Es) : MachAt C H' m sg R Es := by
  obtain ⟨dx, r, e, k0, w, rv, ev, wv, hm0, hr0, pr, he0, pe, hk0, hw0, pw⟩ := h
  have kt : ∀ b xs, H b = some (.tup xs) → H' b = some (.tup xs) := fun b xs z => s.tup hp z
  have np : m ≠ p := by
    obtain ⟨ns, a, l, h1, _⟩ := hp
    exact ne_of hm0 h1 (by intro y; cases y)
  refine ⟨dx, r, e, k0, w, rv, ev, wv, s _ _ hm0 np (fun ps z => (nomatch z)), kt _ _ hr0, L2.Paired.mapP pr fun _ _ z => z.keep kt, kt _ _ he0, L2.Paired.mapP pe fun _ _ z => z.keep kt, kt _ _ hk0, kt _ _ hw0, L2.Paired.mapP pw fun _ _ ⟨a, b, vs, e1, e2, e3, e4⟩ => ⟨a, b, vs, e1, e2, kt _ _ e3, s _ _ e4 (fun z => ?_) fun ps z => (nomatch z)⟩⟩
  subst z
  obtain ⟨ns, x, l, h1, _⟩ := hp
  rw [h1] at e4
  injection e4 with e4
  injection e4 with e4
  have h2 := pen_cells c x l
  rw [e4, kvUp_other cells_not] at h2
  cases h2
theorem rowE_still (hp : PenAt H p c n) (s : Still p H H') {v : V} {q : List Way} (h : RowE H v q) : RowE H' v q := by
  obtain ⟨a, vs, e1, e2, e3⟩ := h
  exact ⟨a, vs, e1, s.lst hp e2, L2.Paired.mapP e3 fun _ _ ⟨b, kv, f1, f2, f3⟩ => ⟨b, kv, f1, s.tup hp f2, s.lst hp f3⟩⟩
theorem keyE_still (hp : PenAt H p c n) (s : Still p H H') {v : V} {ks : List Str} (h : KeyE H v ks) : KeyE H' v ks := by
  obtain ⟨a, e1, e2⟩ := h
  exact ⟨a, e1, s.lst hp e2⟩
theorem pen_ext (e : LamX.ExtN H H') (h : PenAt H p c n) : PenAt H' p c n := by
  obtain ⟨ns, a, l, h1, h2, h3⟩ := h
  exact ⟨ns, a, l, e _ _ h1 (fun ps z => by cases z), e _ _ h2 (fun ps z => by cases z), h3⟩
theorem tabs_pen {N : List NdefX.NTab} (hp : PenAt H p c n) (s : SameBut p H H') (t : NdefX.TabsN N H) : NdefX.TabsN N H' := fun q hq => by
  obtain ⟨ps, h1, h2, h3⟩ := t q hq
  obtain ⟨ns, a, l, g1, g2, g3⟩ := hp
  refine ⟨ps, s _ _ h1 (ne_of h1 g1 (by intro z; cases z)), h2, fun pos cv hc => ?_⟩
  obtain ⟨c, e1, e2⟩ := h3 pos cv hc
  exact ⟨c, e1, s _ _ e2 (ne_of e2 g1 (by unfold LamX.CodeO; intro z; cases z))⟩
theorem nrm_same {q : List Way} (h : ∀ w ∈ q, kl w.2 = w.2) : nrm q = q := by
  unfold nrm
  conv => rhs; rw [← List.map_id q]
  exact List.map_congr_left fun w hw => by
    unfold nw
    rw [h w hw]
    rfl
theorem map_same {α : Type} {f : α → α} {l : List α} (h : ∀ x ∈ l, f x = x) : l.map f = l := by
  conv => rhs; rw [← List.map_id l]
  exact List.map_congr_left h
theorem full_of {sg : Str} {R : List (List Way)} {Es : List (List Str)} (nd : sg.cps.toList.Nodup) (z4 : sg.cps.size ≤ 4) (row : ∀ q ∈ R, q.length = sg.cps.size ∧ ∀ w ∈ q, Okw R.length w ∧ w.2.length ≤ 4) (l16 : R.length ≤ 16) (pos : 0 < R.length) (ee : Es.length = R.length) (en : ∀ ks ∈ Es, ks.length ≤ 4) : Full sg R Es :=
  ⟨nd, fun q hq => ⟨(row q hq).1, fun w hw => ((row q hq).2 w hw).1⟩, ee, pos, tabs_small (fun q hq => ⟨by rw [(row q hq).1]; exact z4, fun w hw => ((row q hq).2 w hw).2⟩) l16 (by rw [ee]; exact l16) en⟩
end Kx

namespace Kx
open PySem L2 Own PinX DicN
variable {P : Program} {w : World} {K : PySem.W.Frag} {mg : Str → Option Value} {base : Heap} {A : EAd} {B : MAd} {Z : CAd}
theorem init_okL {H1 : Hp} {m dx r e : Addr} {sg : Str} {rv ev : List V} {R : List (List Way)} {Es : List (List Str)} {Q : VK} {E : XK} (hm : H1 m = none) (hdx : H1 dx = none) (hr : H1 r = some (.lst rv)) (pr : Paired (RowL K H1) rv R) (he : H1 e = some (.lst ev)) (pe : Paired (Texts K H1) ev Es)
    (asc : sg.cps.all (· < 128) = true) (z4 : sg.cps.size ≤ 4) (row : ∀ q ∈ R, q.length = sg.cps.size ∧ ∀ w ∈ q, Okw R.length w ∧ w.2.length ≤ 4) (l16 : R.length ≤ 16) (e16 : Es.length ≤ 16) (ends : ∀ ks ∈ Es, ks.length ≤ 4) (few : (kl (keysOfRows R ++ Es.flatten)).length ≤ 12)
    (q : ∀ H', Same H1 H' → MachAt Z.C H' m sg (R.map nrm) (Es.map kl) → Q .non H') : spInit K A Z [.ref m, .str sg, .ref r, .ref e] (upd (upd H1 dx (.own m)) m (.ins Z.C dx [])) Q E := by
  have s0 : Same H1 (upd (upd H1 dx (.own m)) m (.ins Z.C dx [])) := fun b o z => by
    rw [upd_ne (ne_of_none z hm), upd_ne (ne_of_none z hdx)]
    exact z
  have fb : ∀ {α : Type} (f : α → List Str) (m : Nat) {l : List α}, (∀ x ∈ l, (f x).length ≤ m) → (l.flatMap f).length ≤ m * l.length := by
    intro α f m l
    induction l with
    | nil => intro _; simp
    | cons x l ih =>
      intro h
      have := ih fun y hy => h y (List.mem_cons_of_mem _ hy)
      have := h x List.mem_cons_self
      rw [List.flatMap_cons, List.length_append, List.length_cons, Nat.mul_succ]
      omega
  have a : (keysOfRows R).length ≤ 16 * R.length := fb _ 16 fun q hq => by
    have := fb (fun w : Way => w.2) 4 (l := q) fun w hw => ((row q hq).2 w hw).2
    have := (row q hq).1
    omega
  have b : (Es.flatMap id).length ≤ 4 * Es.length := fb _ 4 ends
  rw [List.flatMap_id] at b
  have bound : (keysOfRows R ++ Es.flatten).length + 1 < scanBound := by
    rw [List.length_append]
    have e : scanBound = 4096 := rfl
    omega
  refine ⟨m, r, e, dx, sg, rv, ev, R, Es, rfl, upd_same, s0 _ _ hr, L2.Paired.mapP pr fun _ _ z => z.keep s0, s0 _ _ he, L2.Paired.mapP pe fun _ _ z => z.keep s0, asc, by omega, fun q hq => ⟨by rw [(row q hq).1]; exact Nat.le_refl _, by rw [(row q hq).1]; omega⟩, by omega, by omega, bound, ?_, ?_⟩
  · intro i j q w d H' hq hw nb
    exact absurd ((row q (List.mem_of_getElem? hq)).2 w (List.mem_of_getElem? hw)).1 nb
  · intro _ H' kd
    refine ⟨fun big => absurd big (by omega), fun _ ma => q H' (fun b o z => ?_) ma⟩
    exact kd.2 b o (s0 _ _ z) (ne_of_none z hm)
end Kx

namespace Kx
open PySem L2 Own PinX DicN
abbrev s__law_changed : Stmt := top 49
theorem paired_set {α β : Type} {F G : α → β → Prop} : ∀ {l : List α} {m : List β} {i : Nat} {x : α} {y' : β}, Paired F l m → l[i]? = some x → G x y' → (∀ j a b, j ≠ i → l[j]? = some a → F a b → G a b) → Paired G l (m.set i y')
  | _, _, _, _, _, .nil, h, _, _ => by simp at h
  | _, _, 0, _, _, .cons (a := a) (b := b) r t, h, g, o => by
    obtain rfl : a = _ := Option.some.inj h
    refine .cons g ?_
    have o' : ∀ j x y, _ → F x y → G x y := fun j x y hj f => o (j + 1) x y (by omega) hj f
    clear h g o r
    exact go t o'
  | _, _, i + 1, _, _, .cons r t, h, g, o => .cons (o 0 _ _ (by omega) rfl r) (paired_set t h g fun j a b hj ha f => o (j + 1) a b (by omega) ha f)
where
  go {α β : Type} {F G : α → β → Prop} : ∀ {l : List α} {m : List β}, Paired F l m → (∀ j x y, l[j]? = some x → F x y → G x y) → Paired G l m
  | _, _, .nil, _ => .nil
  | _, _, .cons r t, o => .cons (o 0 _ _ rfl r) (go t fun j x y hj f => o (j + 1) x y hj f)
theorem paired_mem {α β : Type} {F G : α → β → Prop} : ∀ {l : List α} {m : List β}, Paired F l m → (∀ x y, x ∈ l → F x y → G x y) → Paired G l m
  | _, _, .nil, _ => .nil
  | _, _, .cons r t, o => .cons (o _ _ List.mem_cons_self r) (paired_mem t fun x y hx f => o x y (List.mem_cons_of_mem _ hx) f)
theorem paired_put {α β : Type} {F : α → β → Prop} {x : α} {y : β} : ∀ {l : List α} {m : List β} {i : Nat}, Paired F l m → F x y → Paired F (l.set i x) (m.set i y)
  | _, _, _, .nil, _ => .nil
  | _, _, 0, .cons _ t, h => .cons h t
  | _, _, i + 1, .cons r t, h => .cons r (paired_put t h)
theorem paired_map {α β γ : Type} {F : γ → β → Prop} {g : α → γ} : ∀ {l : List α} {m : List β}, Paired (fun a b => F (g a) b) l m → Paired F (l.map g) m
  | _, _, .nil => .nil
  | _, _, .cons r t => .cons r (paired_map t)
/-! ### tables whose lists of rows may change -/
def WayX (bad : List Addr) (H : Hp) (v : V) (w : Way) : Prop := ∃ a kv, v = .ref a ∧ H a = some (.tup [.int w.1, .ref kv]) ∧ H kv = some (.lst (w.2.map V.str)) ∧ kv ∉ bad ∧ a ∉ bad
def KeyX (bad : List Addr) (H : Hp) (v : V) (ks : List Str) : Prop := ∃ a, v = .ref a ∧ H a = some (.lst (ks.map V.str)) ∧ a ∉ bad
def RowX (bad : List Addr) (H : Hp) (a : Addr) (q : List Way) : Prop := ∃ vs, H a = some (.lst vs) ∧ Paired (WayX bad H) vs q
theorem WayX.keep {bad : List Addr} {H H' : Hp} {v : V} {w : Way} (k : ∀ b o, H b = some o → b ∉ bad → (∃ xs, o = .tup xs ∨ o = .lst xs) → H' b = some o) (h : WayX bad H v w) : WayX bad H' v w := by
  obtain ⟨a, kv, e, h1, h2, h3, h4⟩ := h
  exact ⟨a, kv, e, k _ _ h1 h4 ⟨_, .inl rfl⟩, k _ _ h2 h3 ⟨_, .inr rfl⟩, h3, h4⟩
theorem KeyX.keep {bad : List Addr} {H H' : Hp} {v : V} {ks : List Str} (k : ∀ b o, H b = some o → b ∉ bad → (∃ xs, o = .tup xs ∨ o = .lst xs) → H' b = some o) (h : KeyX bad H v ks) : KeyX bad H' v ks := by
  obtain ⟨a, e, h1, h2⟩ := h
  exact ⟨a, e, k _ _ h1 h2 ⟨_, .inr rfl⟩, h2⟩
theorem RowX.keep {bad : List Addr} {H H' : Hp} {a : Addr} {q : List Way} (k : ∀ b o, H b = some o → (∃ xs, o = .tup xs ∨ o = .lst xs) → H' b = some o) (h : RowX bad H a q) : RowX bad H' a q := by
  obtain ⟨vs, h1, h2⟩ := h
  exact ⟨vs, k _ _ h1 ⟨_, .inr rfl⟩, L2.Paired.mapP h2 fun _ _ z => z.keep fun b o e _ t => k b o e t⟩
theorem Good.put {n N st pl : Nat} {R : List (List Way)} {Es : List (List Str)} {q0 : List Way} {w : Way} (G : Good n N R Es) (h0 : R[st]? = some q0) (ok : Okw R.length w) (one : KOne w.2) : Good n N (R.set st (q0.set pl w)) Es := by
  refine ⟨fun q hq => ?_, G.fin, by rw [List.length_set]; exact G.le, by rw [List.length_set]; exact G.pos, by rw [List.length_set]; exact G.ee⟩
  rw [List.length_set]
  rcases List.mem_or_eq_of_mem_set hq with h | rfl
  · exact G.row q h
  · obtain ⟨a, b⟩ := G.row q0 (List.mem_of_getElem? h0)
    refine ⟨by rw [List.length_set]; exact a, fun x hx => ?_⟩
    rcases List.mem_or_eq_of_mem_set hx with h | rfl
    · exact b x h
    · exact ⟨ok, one⟩
theorem Good.putE {n N st : Nat} {R : List (List Way)} {Es : List (List Str)} {ks : List Str} (G : Good n N R Es) (one : KOne ks) : Good n N R (Es.set st ks) := by
  refine ⟨G.row, fun x hx => ?_, G.le, G.pos, by rw [List.length_set]; exact G.ee⟩
  rcases List.mem_or_eq_of_mem_set hx with h | rfl
  · exact G.fin x h
  · exact one
theorem ixN_nat {n j : Nat} (h : j < n) : ixN n (j : Int) = some j := by
  unfold ixN
  simp [h]
def MidC (p c : Addr) (H : Hp) (z N len : Nat) (as bad : List Addr) (Rb Eb kv : Addr) (ks : List Str) (σ0 : L2.St) (m : Nat) (σ : L2.St) (H' : Hp) : Prop := ∃ (R' : List (List Way)) (E' : List (List Str)) (ev' : List V), σ = σ0 ∧ PenAt H' p c m ∧ SameBut p H H' ∧
  H' Rb = some (.lst (as.map V.ref)) ∧ H' Eb = some (.lst ev') ∧ Paired (RowX bad H') as R' ∧ Paired (KeyX bad H') ev' E' ∧ Good z N R' E' ∧ R'.length = len ∧ H' kv = some (.lst (ks.map V.str))
section
variable {p c : Addr} {H H' : Hp} {z N len m st pl : Nat} {as bad : List Addr} {Rb Eb kv : Addr} {ks : List Str} {σ0 σ : L2.St}
theorem pen_tl {n' : Nat} {Ha Hb : Hp} (hp : PenAt Ha p c n') (sb : SameBut p Ha Hb) : ∀ b o, Ha b = some o → (∃ xs, o = .tup xs ∨ o = .lst xs) → Hb b = some o := fun b o z ⟨xs, h⟩ => sb _ _ z (by
  rcases h with rfl | rfl
  · exact hp.neT z
  · exact hp.ne z)
theorem MidC.pen {Hb : Hp} {m' : Nat} (M : MidC p c H z N len as bad Rb Eb kv ks σ0 m σ H') (sb : SameBut p H' Hb) (hp : PenAt Hb p c m') : MidC p c H z N len as bad Rb Eb kv ks σ0 m' σ Hb := by
  obtain ⟨R', E', ev', e, p1, s1, h1, h2, h3, h4, h5, h6, h7⟩ := M
  exact ⟨R', E', ev', e, hp, s1.trans sb, sb _ _ h1 (p1.ne h1), sb _ _ h2 (p1.ne h2), L2.Paired.mapP h3 fun _ _ z => z.keep (pen_tl p1 sb), L2.Paired.mapP h4 fun _ _ z => z.keep fun b o q _ t => pen_tl p1 sb b o q t, h5, h6, sb _ _ h7 (p1.ne h7)⟩
theorem MidC.same {Hb : Hp} (M : MidC p c H z N len as bad Rb Eb kv ks σ0 m σ H') (s : Same H' Hb) : MidC p c H z N len as bad Rb Eb kv ks σ0 m σ Hb := by
  obtain ⟨_, _, _, _, p1, _⟩ := id M
  exact M.pen (fun b o e _ => s _ _ e) (p1.keep s)
/-- a list of the tables has changed, at a -/
theorem upd_keeps {Hb : Hp} {a : Addr} {xs ys : List V} (h : Hb a = some (.lst xs)) (ba : a ∈ bad) : ∀ b o, Hb b = some o → b ∉ bad → (∃ xs, o = .tup xs ∨ o = .lst xs) → (upd Hb a (.lst ys)) b = some o := fun b o z nb _ => by
  rw [upd_ne fun e => nb (by rw [e]; exact ba)]; exact z
theorem MidC.put {n0 : Nat} (pen0 : PenAt H p c n0) {v : V} {w : Way} {a : Addr} {vs : List V} (nd : (Rb :: Eb :: as).Nodup) (hb : Rb :: Eb :: as = bad) (fr : ∀ b ∈ bad, H b = none) (hkv : kv ∉ bad) (M : MidC p c H z N len as bad Rb Eb kv ks σ0 m σ H') (ha : as[st]? = some a) (hv : H' a = some (.lst vs)) (wx : WayX bad H' v w) (ok : Okw len w) (one : KOne w.2) :
    MidC p c H z N len as bad Rb Eb kv ks σ0 m σ (upd H' a (.lst (vs.set pl v))) := by
  obtain ⟨R', E', ev', e, p1, s1, h1, h2, h3, h4, h5, h6, h7⟩ := M
  have ma := List.mem_of_getElem? ha
  have ba : a ∈ bad := by rw [← hb]; simp [ma]
  have na : a ≠ p := p1.ne hv
  simp only [List.nodup_cons, List.mem_cons, not_or] at nd
  obtain ⟨⟨n1, n2⟩, n3, n4⟩ := nd
  obtain ⟨q0, hq0, vs', hv', pv⟩ := pat h3 ha
  rw [hv] at hv'
  obtain rfl := HO.lst.inj (Option.some.inj hv')
  have kk := upd_keeps (ys := vs.set pl v) hv ba
  refine ⟨R'.set st (q0.set pl w), E', ev', e, p1.put na (pen0.apart (fr a ba)).2, fun b o z nb => ?_, ?_, ?_, ?_, L2.Paired.mapP h4 fun _ _ z => z.keep kk, h5.put hq0 (h6 ▸ ok) one, by rw [List.length_set]; exact h6, ?_⟩
  · rw [upd_ne fun e => (by have := fr a ba; rw [← e, z] at this; cases this)]
    exact s1 _ _ z nb
  · rw [upd_ne fun e => n2 (by rw [e]; exact ma)]; exact h1
  · rw [upd_ne fun e => n3 (by rw [e]; exact ma)]; exact h2
  · refine paired_set h3 ha ⟨vs.set pl v, upd_same, paired_put (L2.Paired.mapP pv fun _ _ z => z.keep kk) (wx.keep kk)⟩ fun j b q hj hbj ⟨us, g1, g2⟩ => ⟨us, ?_, L2.Paired.mapP g2 fun _ _ z => z.keep kk⟩
    rw [upd_ne fun e => hj ((List.getElem?_inj (List.getElem?_eq_some_iff.mp hbj).1 n4).mp (by rw [hbj, ha, e]))]
    exact g1
  · rw [upd_ne fun e => hkv (by rw [e]; exact ba)]; exact h7
end
section
variable {p c : Addr} {H H' : Hp} {z N len m st pl : Nat} {as bad : List Addr} {Rb Eb kv : Addr} {ks : List Str} {σ0 σ : L2.St}
theorem MidC.mono {m' : Nat} (M : MidC p c H z N len as bad Rb Eb kv ks σ0 m σ H') (h : m ≤ m') : MidC p c H z N len as bad Rb Eb kv ks σ0 m' σ H' := by
  obtain ⟨_, _, _, _, p1, _⟩ := id M
  exact M.pen (fun b o e _ => e) (p1.mono h)
theorem MidC.out (hb : Rb :: Eb :: as = bad) (M : MidC p c H z N len as bad Rb Eb kv ks σ0 m σ H') {b : Addr} (n : H' b = none) : b ∉ bad := fun hm => by
  obtain ⟨R', E', ev', e, p1, s1, h1, h2, h3, h4, h5, h6, h7⟩ := M
  rw [← hb] at hm
  simp only [List.mem_cons] at hm
  rcases hm with rfl | rfl | hm
  · rw [h1] at n; cases n
  · rw [h2] at n; cases n
  · obtain ⟨i, hi⟩ := List.getElem?_of_mem hm
    obtain ⟨q, _, vs, hv, _⟩ := pat h3 hi
    rw [hv] at n; cases n
theorem MidC.row (M : MidC p c H z N len as bad Rb Eb kv ks σ0 m σ H') (la : as.length = len) (hs : st < len) (hp : pl < z) : ∃ (a : Addr) (vs : List V), as[st]? = some a ∧ (as.map V.ref)[st]? = some (.ref a) ∧ H' a = some (.lst vs) ∧ vs.length = z := by
  obtain ⟨R', E', ev', e, p1, s1, h1, h2, h3, h4, h5, h6, h7⟩ := M
  have ha : as[st]? = some (as[st]'(by omega)) := List.getElem?_eq_getElem (by omega)
  obtain ⟨q, hq, vs, g1, g2⟩ := pat h3 ha
  exact ⟨_, vs, ha, by rw [List.getElem?_map, ha]; rfl, g1, by rw [Paired.length g2]; exact (h5.row q (List.mem_of_getElem? hq)).1⟩
/-- the ends have changed at one place -/
theorem MidC.putE {n0 : Nat} (pen0 : PenAt H p c n0) {v : V} {ks' : List Str} {ev' : List V} (nd : (Rb :: Eb :: as).Nodup) (hb : Rb :: Eb :: as = bad) (fr : ∀ b ∈ bad, H b = none) (hkv : kv ∉ bad) (M : MidC p c H z N len as bad Rb Eb kv ks σ0 m σ H') (hv : H' Eb = some (.lst ev')) (wx : KeyX bad H' v ks') (one : KOne ks') :
    MidC p c H z N len as bad Rb Eb kv ks σ0 m σ (upd H' Eb (.lst (ev'.set st v))) := by
  obtain ⟨R', E', ev1, e, p1, s1, h1, h2, h3, h4, h5, h6, h7⟩ := M
  rw [hv] at h2
  obtain rfl := HO.lst.inj (Option.some.inj h2)
  have ba : Eb ∈ bad := by rw [← hb]; simp
  simp only [List.nodup_cons, List.mem_cons, not_or] at nd
  obtain ⟨⟨n1, n2⟩, n3, n4⟩ := nd
  have kk := upd_keeps (ys := ev'.set st v) hv ba
  refine ⟨R', E'.set st ks', _, e, p1.put (p1.ne hv) (pen0.apart (fr Eb ba)).2, fun b o z nb => ?_, ?_, upd_same, paired_mem h3 fun a q ha ⟨us, g1, g2⟩ => ⟨us, ?_, L2.Paired.mapP g2 fun _ _ z => z.keep kk⟩, paired_put (L2.Paired.mapP h4 fun _ _ z => z.keep kk) (wx.keep kk), h5.putE one, h6, ?_⟩
  · rw [upd_ne fun e => (by have := fr Eb ba; rw [← e, z] at this; cases this)]
    exact s1 _ _ z nb
  · rw [upd_ne n1]; exact h1
  · rw [upd_ne fun e => n3 (by rw [← e]; exact ha)]; exact g1
  · rw [upd_ne fun e => hkv (by rw [e]; exact ba)]; exact h7
end
structure TxtCh (K : PySem.W.Frag) (mg : Str → Option Value) (L : LAd) (f : Addr) (d : FuncData) : Prop where
  L : TxtL K mg L
  D__law_changed : DefT K mg "_law_changed" "_law_changed" s__law_changed ["pen", "tables"] f d
  n_len : mg "len" = none
  n_list : mg "list" = none
section
variable {P : Program} {w : World} {K : PySem.W.Frag} {mg : Str → Option Value} {base : Heap} {L : LAd} {f : Addr} {d : FuncData}
def spChanged : Sp := fun vs H Q _ => ∃ (p c t : Addr) (n z N : Nat) (R : List (List Way)) (Es : List (List Str)), vs = [.ref p, .ref t] ∧ PenAt H p c n ∧ n + 20 ≤ 1000000 ∧ TabAt H t R Es ∧ Good z N R Es ∧ N ≤ 100 ∧ 0 < z ∧ z ≤ 4 ∧
  ∀ t' R' E' H', PenAt H' p c (n + 20) → SameBut p H H' → TabAt H' t' R' E' → Good z N R' E' → Q (.ref t') H'
abbrev Nch : List Str := ["pen", "tables", "rows", "ends", "state", "place", "sort", "goal", "keys", "row"]
theorem sc_ch : FnScope Nch ["pen", "tables"] (defScope s__law_changed) := ⟨rfl, rfl, rfl, by decide +kernel, rfl, by decide +kernel, by decide +kernel⟩
theorem ok_changed (T : TxtCh K mg L f d) : FnOk P w K mg base CX0 4 f d ["pen", "tables"] spChanged := by
  have sc := sc_ch
  have G_draw : FnOk P w K mg base CX0 1 L.p2 L.q2 ["pen", "many"] spDraw := ok_draw T.L.pen
  have G_keys : FnOk P w K mg base CX0 3 L.f2 L.d2 ["pen", "words"] spKeys := ok_keys T.L
  refine T.D__law_changed.F.ok sc (fun vs H Q E h => ?_) (fun cdv A1 outer s H vs Q E hr h => ?_)
  · obtain ⟨_, _, _, _, _, _, _, _, rfl, _⟩ := h; rfl
  · obtain ⟨p, c, t, n, z, N, R, Es, rfl, pen0, hn, TA, G0, N1, z1, z4, k⟩ := h
    refine ⟨_, (pss_cons (ps_par (i := 2) (j := 3) rfl sc.nd rfl rfl (by decide) rfl rfl (pa_cons (pe_lc (own := [("row", 9)]) (g := gName 9) (tt := tYes) (te := tCB (rListOf K) (tCons (tVar 9) tNil)) rfl sc.nd (pi_list (pe_ix ix_tup (pv 1) pe_int (fun _ _ => rfl))) (blkOk_by (N := Nch) (sc := defScope s__law_changed) (own := [("row", 9)]) (by decide +kernel)) (fun _ _ _ _ _ => (pg_name (i := 9) sc.nd rfl (Or.inl rfl))) (fun _ _ _ _ _ => pts_nil) (fun _ _ _ _ _ => (pe_callTy call_list_of (by rfl) T.n_list (by decide +kernel) (pa_cons (pv 9) pa_nil)))) (pa_cons (pe_callTy call_list_of (by rfl) T.n_list (by decide +kernel) (pa_cons (pe_ix ix_tup (pv 1) pe_int (fun _ _ => rfl)) pa_nil)) pa_nil)) rfl)
      (pss_cons (ps_par3 (i := 4) (j := 5) (l := 6) rfl sc.nd rfl rfl rfl (by decide) (by decide) (by decide) rfl rfl rfl (pa_cons (pe_call G_draw (hr.mono (by decide)) rfl T.L.pen.D__law_draw.g T.L.pen.D__law_draw.F.kp T.L.pen.D__law_draw.b .nil pass0 (pa_cons (pv 0) (pa_cons (pe_callB call_len (by rfl) T.n_len (by decide +kernel) (pa_cons (pv 2) pa_nil)) pa_nil))) (pa_cons (pe_call G_draw (hr.mono (by decide)) rfl T.L.pen.D__law_draw.g T.L.pen.D__law_draw.F.kp T.L.pen.D__law_draw.b .nil pass0 (pa_cons (pv 0) (pa_cons (pe_callB call_len (by rfl) T.n_len (by decide +kernel) (pa_cons (pe_ix ix_list (pv 2) pe_int (fun _ _ => rfl)) pa_nil)) pa_nil))) (pa_cons (pe_call G_draw (hr.mono (by decide)) rfl T.L.pen.D__law_draw.g T.L.pen.D__law_draw.F.kp T.L.pen.D__law_draw.b .nil pass0 (pa_cons (pv 0) (pa_cons pe_int pa_nil))) pa_nil))) rfl)
      (pss_cons (ps_asg (pe_ix ix_list (pe_ix ix_list (pv 2) (pv 4) (fun _ _ => rfl)) (pv 5) (fun _ _ => rfl)) (pg_tup rfl (pgs_cons (pg_name (i := 7) sc.nd rfl (Or.inl rfl)) (pgs_cons (pg_name (i := 8) sc.nd rfl (Or.inl rfl)) pgs_nil))))
      (C8.pss_cut (ps_if (pt_cmpR op_eq (pv 6) pe_int (nomark _)) (pss_one (ps_asg (pe_tup (pa_cons (pe_call G_draw (hr.mono (by decide)) rfl T.L.pen.D__law_draw.g T.L.pen.D__law_draw.F.kp T.L.pen.D__law_draw.b .nil pass0 (pa_cons (pv 0) (pa_cons (pe_callB call_len (by rfl) T.n_len (by decide +kernel) (pa_cons (pv 2) pa_nil)) pa_nil))) (pa_cons (pv 8) pa_nil))) (pg_sub (pe_ix ix_list (pv 2) (pv 4) (fun _ _ => rfl)) (pv 5) set_list))) pss_nil)
      (C8.pss_cut (ps_if (pt_cmpR op_eq (pv 6) pe_int (nomark _)) (pss_one (ps_asg (pe_tup (pa_cons (pv 7) (pa_cons (pe_call G_keys (hr.mono (by decide)) rfl T.L.D__law_keys.g T.L.D__law_keys.F.kp T.L.D__law_keys.b .nil pass0 (pa_cons (pv 0) (pa_cons (pe_lst (pa_cons pe_str (pa_cons pe_str pa_nil))) pa_nil))) pa_nil))) (pg_sub (pe_ix ix_list (pv 2) (pv 4) (fun _ _ => rfl)) (pv 5) set_list))) pss_nil)
      (C8.pss_cut (ps_if (pt_cmpR op_eq (pv 6) pe_int (nomark _)) (pss_one (ps_asg (pe_call G_keys (hr.mono (by decide)) rfl T.L.D__law_keys.g T.L.D__law_keys.F.kp T.L.D__law_keys.b .nil pass0 (pa_cons (pv 0) (pa_cons (pe_lst (pa_cons pe_str (pa_cons pe_str pa_nil))) pa_nil))) (pg_sub (pv 3) (pv 4) set_list))) pss_nil)
      (pss_one (ps_ret (pe_tup (pa_cons (pv 2) (pa_cons (pv 3) pa_nil))))))))))), ?_⟩
    obtain ⟨r, e, rv, ev, ht, hrv, pR, hev, pE⟩ := TA
    have lR : rv.length = R.length := Paired.length pR
    have lE : ev.length = Es.length := Paired.length pE
    have l100 := G0.le
    have rpos := G0.pos
    have ree := G0.ee
    refine ⟨_, rfl, t, _, 0, _, rfl, rfl, SqT.of ht, atI_nat (j := 0) rfl, r, rfl, ⟨_, SqL.of hrv⟩, fun Rb hRb => ?_⟩
    refine lcs_it [some (.ref p), some (.ref t), none, none, none, none, none, none, none, none] rfl walk_list
      (fun j H' => Same H H' ∧ ∃ as : List Addr, H' Rb = some (.lst (as.map V.ref)) ∧ as.length = j ∧ as.Nodup ∧ (∀ a ∈ as, H a = none ∧ a ≠ Rb ∧ (H' a).isSome = true) ∧ Paired (fun a q => ∃ vs, H' a = some (.lst vs) ∧ Paired (WayE H) vs q) as (R.take j)) ⟨Same.upd hRb, [], upd_same, rfl, .nil, fun a ha => (nomatch ha), .nil⟩ (fun j H' _ z => SqL.of (z.1 _ _ hrv)) ?_ ?_
    · rintro j x _ H1 hj ⟨sm1, as, has, hl, nd, fr, pa⟩ ⟨rfl, hx⟩
      obtain ⟨q0, hq0, a0, vs0, rfl, ha0, pr0⟩ := pat pR hx
      refine ⟨rfl, tyes ?_⟩
      simp only [if_true]
      refine ⟨_, rfl, a0, _, rfl, .inl (SqL.of (sm1 _ _ ha0)), fun l2 hl2 => ?_⟩
      have nl : l2 ≠ Rb := fun z => by rw [z, has] at hl2; cases hl2
      have nas : l2 ∉ as := fun z => by have := (fr _ z).2.2; rw [hl2] at this; cases this
      have Hl2 : H l2 = none := by
        cases e : H l2 with
        | none => rfl
        | some o => rw [sm1 _ _ e] at hl2; cases hl2
      have has2 := Same.upd (o := .lst vs0) hl2 _ _ has
      refine ⟨_, has2, by rw [List.length_map, hl, sizeLine_eq]; omega, fun b o z => ?_, as ++ [l2], by rw [upd_same, List.map_append]; rfl, by rw [List.length_append, hl]; rfl, ?_, fun a ha => ?_, ?_⟩
      · rw [upd_ne (ne_of_none z hRb)]
        exact Same.upd hl2 _ _ (sm1 _ _ z)
      · refine List.nodup_append.mpr ⟨nd, by simp, fun x hx y hy e => ?_⟩
        rw [List.mem_singleton.mp hy] at e
        exact nas (e ▸ hx)
      · rcases List.mem_append.mp ha with h | h
        · obtain ⟨f1, f2, f3⟩ := fr a h
          refine ⟨f1, f2, ?_⟩
          rw [upd_ne f2]
          cases e : H1 a with
          | none => rw [e] at f3; cases f3
          | some o => rw [Same.upd hl2 _ _ e]; rfl
        · rw [List.mem_singleton.mp h]
          exact ⟨Hl2, nl, by rw [upd_ne nl, upd_same]; rfl⟩
      · have tk : R.take (j + 1) = R.take j ++ [q0] := by rw [List.take_add_one, hq0]; rfl
        rw [tk]
        refine psnoc (paired_mem pa fun a q ha ⟨vs, h1, h2⟩ => ⟨vs, by rw [upd_ne (fr a ha).2.1]; exact Same.upd hl2 _ _ h1, h2⟩) ⟨vs0, by rw [upd_ne nl]; exact upd_same, pr0⟩
    rintro H1 ⟨sm1, as, has, hl, nd, fr, pa⟩
    rw [lR, List.take_length] at pa
    rw [lR] at hl
    refine ⟨_, rfl, t, _, 1, _, rfl, rfl, SqT.of (sm1 _ _ ht), atI_nat (j := 1) rfl, e, _, rfl, .inl (SqL.of (sm1 _ _ hev)), fun Eb hEb => ⟨_, _, rfl, ?_⟩⟩
    have hE2 : (upd H1 Eb (.lst ev)) Eb = some (.lst ev) := upd_same
    have hR2 : (upd H1 Eb (.lst ev)) Rb = some (.lst (as.map V.ref)) := Same.upd hEb _ _ has
    have sm2 : Same H (upd H1 Eb (.lst ev)) := sm1.trans (Same.upd hEb)
    have nRE : Rb ≠ Eb := fun z => by rw [← z, has] at hEb; cases hEb
    have HEb : H Eb = none := by
      cases e : H Eb with
      | none => rfl
      | some o => rw [sm1 _ _ e] at hEb; cases hEb
    have nEa : Eb ∉ as := fun z => by have := (fr _ z).2.2; rw [hEb] at this; cases this
    have nRa : Rb ∉ as := fun z => (fr _ z).2.1 rfl
    have fresh : ∀ b ∈ Rb :: Eb :: as, H b = none := fun b hb => by
      simp only [List.mem_cons] at hb
      rcases hb with rfl | rfl | hb
      · exact hRb
      · exact HEb
      · exact (fr b hb).1
    have out : ∀ {b o}, H b = some o → b ∉ Rb :: Eb :: as := fun {b o} z hb => by rw [fresh b hb] at z; cases z
    have pX2 : Paired (RowX (Rb :: Eb :: as) (upd H1 Eb (.lst ev))) as R := L2.Paired.mapP pa fun a q ⟨vs, h1, h2⟩ => ⟨vs, Same.upd hEb _ _ h1, L2.Paired.mapP h2 fun _ _ ⟨b, kv, e1, e2, e3⟩ => ⟨b, kv, e1, sm2 _ _ e2, sm2 _ _ e3, out e3, out e2⟩⟩
    have pE2 : Paired (KeyX (Rb :: Eb :: as) (upd H1 Eb (.lst ev))) ev Es := L2.Paired.mapP pE fun _ _ ⟨b, e1, e2⟩ => ⟨b, e1, sm2 _ _ e2, out e2⟩
    have pen2 := pen0.keep sm2
    have sb2 : SameBut p H (upd H1 Eb (.lst ev)) := fun b o z _ => sm2 _ _ z
    generalize upd H1 Eb (.lst ev) = H2 at hE2 hR2 sm2 pX2 pE2 pen2 sb2 ⊢
    clear sm2 has pa hEb sm1 hRb HEb
    generalize hbad : Rb :: Eb :: as = bad at *
    have bR : Rb ∈ bad := by rw [← hbad]; simp
    have bE : Eb ∈ bad := by rw [← hbad]; simp
    have bA : ∀ a ∈ as, a ∈ bad := fun a ha => by rw [← hbad]; simp [ha]
    have nd3 : (Rb :: Eb :: as).Nodup := by
      simp only [List.nodup_cons, List.mem_cons, not_or]
      exact ⟨⟨nRE, nRa⟩, nEa, nd⟩
    have r_at : ∀ {i : Nat} {Hx : Hp}, i < R.length → Paired (RowX bad Hx) as R → ∃ (a : Addr) (q : List Way) (vs : List V), as[i]? = some a ∧ (as.map V.ref)[i]? = some (.ref a) ∧ R[i]? = some q ∧ Hx a = some (.lst vs) ∧ Paired (WayX bad Hx) vs q := fun {i Hx} hi pX => by
      have ha : as[i]? = some (as[i]'(by omega)) := List.getElem?_eq_getElem (by omega)
      obtain ⟨q, hq, vs, h1, h2⟩ := pat pX ha
      exact ⟨_, q, vs, ha, by rw [List.getElem?_map, ha]; rfl, hq, h1, h2⟩
    refine ⟨_, rfl, _, rfl, .ref Rb, as.length, rfl, .inl ⟨_, SqL.of hR2, by rw [List.length_map]⟩, p, c, _, _, rfl, pen2, by omega, by omega, by omega, fun st H3 st0 st1 pen3 sb3 => ?_⟩
    obtain ⟨st, rfl⟩ := Int.eq_ofNat_of_zero_le st0
    have hR3 := sb3 _ _ hR2 (pen2.ne hR2)
    have hE3 := sb3 _ _ hE2 (pen2.ne hE2)
    have pX3 : Paired (RowX bad H3) as R := L2.Paired.mapP pX2 fun _ _ z => z.keep (pen_tl pen2 sb3)
    have pE3 : Paired (KeyX bad H3) ev Es := L2.Paired.mapP pE2 fun _ _ z => z.keep fun b o q _ t => pen_tl pen2 sb3 b o q t
    obtain ⟨a0, q00, vs00, g1, g2, g3, g4, g5⟩ := r_at rpos pX3
    have lz0 : vs00.length = z := by rw [Paired.length g5]; exact (G0.row q00 (List.mem_of_getElem? g3)).1
    refine ⟨_, rfl, _, rfl, Rb, _, _, _, rfl, rfl, SqL.of hR3, atI_nat (j := 0) g2, .ref a0, vs00.length, rfl, .inl ⟨_, SqL.of g4, rfl⟩, p, c, _, _, rfl, pen3, by omega, by omega, by omega, fun pl H4 pl0 pl1 pen4 sb4 => ?_⟩
    obtain ⟨pl, rfl⟩ := Int.eq_ofNat_of_zero_le pl0
    refine ⟨_, rfl, p, c, _, _, rfl, pen4, by omega, by decide, by decide, fun so H5 so0 so1 pen5 sb5 => ?_⟩
    have sb35 := sb4.trans sb5
    have hR5 := sb35 _ _ hR3 (pen3.ne hR3)
    have hE5 := sb35 _ _ hE3 (pen3.ne hE3)
    have pX5 : Paired (RowX bad H5) as R := L2.Paired.mapP pX3 fun _ _ z => z.keep (pen_tl pen3 sb35)
    have pE5 : Paired (KeyX bad H5) ev Es := L2.Paired.mapP pE3 fun _ _ z => z.keep fun b o q _ t => pen_tl pen3 sb35 b o q t
    have sb05 : SameBut p H H5 := (sb2.trans sb3).trans sb35
    clear hR2 hE2 pX2 pE2 sb2 pen2 hR3 hE3 pX3 pE3 sb3 pen3 sb4 sb5 sb35 pen4 g1 g2 g3 g4 g5
    refine ⟨_, _, _, rfl, ?_⟩
    -- goal, keys
    obtain ⟨a1, q1, vs1, g1, g2, g3, g4, g5⟩ := r_at (i := st) (by omega) pX5
    have q1m := List.mem_of_getElem? g3
    have lz1 : vs1.length = z := by rw [Paired.length g5]; exact (G0.row q1 q1m).1
    have hv1 : vs1[pl]? = some (vs1[pl]'(by omega)) := List.getElem?_eq_getElem (by omega)
    obtain ⟨wy, hwy, b1, kv, eb1, hb1, hkv1, nkv, nb1⟩ := pat g5 hv1
    rw [eb1] at hv1
    obtain ⟨okw, onew⟩ := (G0.row q1 q1m).2 wy (List.mem_of_getElem? hwy)
    refine ⟨_, rfl, _, rfl, Rb, _, _, _, rfl, rfl, SqL.of hR5, atI_nat g2, _, rfl, a1, vs1, _, _, rfl, rfl, SqL.of g4, atI_nat hv1, b1, _, rfl, SqT.of hb1, rfl, _, _, rfl, _, _, rfl, rfl, ?_⟩
    have M0 : MidC p c H z N R.length as bad Rb Eb kv wy.2 [some (.ref p), some (.ref t), some (.ref Rb), some (.ref Eb), some (.int (st : Nat)), some (.int (pl : Nat)), some (.int so), some (.int wy.1), some (.ref kv), none] (n + 4) [some (.ref p), some (.ref t), some (.ref Rb), some (.ref Eb), some (.int (st : Nat)), some (.int (pl : Nat)), some (.int so), some (.int wy.1), some (.ref kv), none] H5 :=
      ⟨R, Es, ev, rfl, pen5.mono (by omega), sb05, hR5, hE5, pX5, pE5, G0, rfl, hkv1⟩
    clear hR5 hE5 pX5 pE5 sb05 pen5 g1 g2 g4 g5 hb1 hkv1 hv1 eb1
    refine ⟨MidC p c H z N R.length as bad Rb Eb kv wy.2 [some (.ref p), some (.ref t), some (.ref Rb), some (.ref Eb), some (.int (st : Nat)), some (.int (pl : Nat)), some (.int so), some (.int wy.1), some (.ref kv), none] (n + 8), ?_, ?_⟩
    · refine ⟨_, rfl, rfl, _, rfl, ?_⟩
      rcases Decidable.em (V.int so = V.int 0) with e3 | e3
      · rw [decide_eq_true e3]
        refine iteT ?_
        obtain ⟨_, _, _, _, pn, _, h1, _⟩ := id M0
        refine ⟨_, rfl, _, rfl, .ref Rb, as.length, rfl, .inl ⟨_, SqL.of h1, by rw [List.length_map]⟩, p, c, _, _, rfl, pn, by omega, by omega, by omega, fun g H6 g0 g1 pen6 sb6 => ?_⟩
        refine ⟨_, rfl, by show 2 ≤ sizeLine; decide, fun b hb => ?_⟩
        have M5 := M0.pen sb6 (pen6.mono (show n + 4 + 1 ≤ n + 8 by omega))
        have nb := M5.out hbad hb
        have M6 := M5.same (Same.upd (o := .tup [.int g, .ref kv]) hb)
        obtain ⟨a, vs, ha, hr', hv, lv⟩ := M6.row (st := st) (pl := pl) hl (by omega) (by omega)
        obtain ⟨_, _, _, _, _, _, h1, _, _, _, _, _, h7⟩ := id M6
        refine ⟨_, rfl, _, rfl, Rb, _, _, _, rfl, rfl, SqL.of h1, atI_nat hr', _, rfl, a, vs, _, pl, rfl, rfl, hv, ixN_nat (by omega), ?_⟩
        exact M6.put pen0 nd3 hbad fresh nkv ha hv (w := (g, wy.2)) ⟨b, kv, rfl, upd_same, h7, nkv, nb⟩ ⟨g0, by show g < (R.length : Int); omega⟩ onew
      · rw [decide_eq_false e3]
        exact iteF (M0.mono (by omega))
    rintro σ H6 M6
    obtain ⟨_, _, _, e6, pn6, _, h16, _, _, _, _, _, h76⟩ := id M6
    subst e6
    refine ⟨MidC p c H z N R.length as bad Rb Eb kv wy.2 [some (.ref p), some (.ref t), some (.ref Rb), some (.ref Eb), some (.int (st : Nat)), some (.int (pl : Nat)), some (.int so), some (.int wy.1), some (.ref kv), none] (n + 13), ?_, ?_⟩
    · refine ⟨_, rfl, rfl, _, rfl, ?_⟩
      rcases Decidable.em (V.int so = V.int 1) with e3 | e3
      · rw [decide_eq_true e3]
        refine iteT ?_
        refine ⟨_, rfl, _, rfl, by show 2 ≤ sizeLine; decide, fun l5 hl5 => ?_⟩
        have M7 := M6.same (Same.upd (o := .lst [.str "x", .str "y"]) hl5)
        obtain ⟨_, _, _, _, pn7, _, h17, _⟩ := id M7
        refine ⟨p, c, l5, _, W2, rfl, pn7, by omega, upd_same, by decide, by decide, fun t8 ks8 H8 ht8 hk8 in8 two8 one8 pen8 sb8 => ?_⟩
        refine ⟨by show 2 ≤ sizeLine; decide, fun b hb => ?_⟩
        have n8 := M7.out hbad ht8
        have M8 := M7.pen sb8 (pen8.mono (show n + 8 + 3 ≤ n + 13 by omega))
        have nb := M8.out hbad hb
        have M9 := M8.same (Same.upd (o := .tup [.int wy.1, .ref t8]) hb)
        obtain ⟨a, vs, ha, hr', hv, lv⟩ := M9.row (st := st) (pl := pl) hl (by omega) (by omega)
        obtain ⟨_, _, _, _, _, _, h1, _⟩ := id M9
        refine ⟨_, rfl, _, rfl, Rb, _, _, _, rfl, rfl, SqL.of h1, atI_nat hr', _, rfl, a, vs, _, pl, rfl, rfl, hv, ixN_nat (by omega), ?_⟩
        exact M9.put pen0 nd3 hbad fresh nkv ha hv (w := (wy.1, ks8)) ⟨b, t8, rfl, upd_same, Same.upd hb _ _ hk8, n8, nb⟩ okw ⟨one8, in8⟩
      · rw [decide_eq_false e3]
        exact iteF (M6.mono (by omega))
    rintro σ H7 M7
    obtain ⟨_, _, _, e7, _⟩ := id M7
    subst e7
    refine ⟨MidC p c H z N R.length as bad Rb Eb kv wy.2 [some (.ref p), some (.ref t), some (.ref Rb), some (.ref Eb), some (.int (st : Nat)), some (.int (pl : Nat)), some (.int so), some (.int wy.1), some (.ref kv), none] (n + 18), ?_, ?_⟩
    · refine ⟨_, rfl, rfl, _, rfl, ?_⟩
      rcases Decidable.em (V.int so = V.int 2) with e3 | e3
      · rw [decide_eq_true e3]
        refine iteT ?_
        refine ⟨_, rfl, by show 2 ≤ sizeLine; decide, fun l5 hl5 => ?_⟩
        have M8 := M7.same (Same.upd (o := .lst [.str "x", .str "y"]) hl5)
        obtain ⟨_, _, _, _, pn8, _⟩ := id M8
        refine ⟨p, c, l5, _, W2, rfl, pn8, by omega, upd_same, by decide, by decide, fun t8 ks8 H8 ht8 hk8 in8 two8 one8 pen8 sb8 => ?_⟩
        have n8 := M8.out hbad ht8
        have M9 := M8.pen sb8 (pen8.mono (show n + 13 + 3 ≤ n + 18 by omega))
        obtain ⟨R9, E9, ev9, _, _, _, _, h2, _, p9, G9, l9, _⟩ := id M9
        refine ⟨_, rfl, _, rfl, Eb, ev9, _, st, rfl, rfl, h2, ixN_nat (by have := Paired.length p9; have := G9.ee; omega), ?_⟩
        exact M9.putE pen0 nd3 hbad fresh nkv h2 ⟨t8, rfl, hk8, n8⟩ ⟨one8, in8⟩
      · rw [decide_eq_false e3]
        exact iteF (M7.mono (by omega))
    rintro σ H8 M8
    obtain ⟨R8, E8, ev8, e8, pn8, sb8, h1, h2, h3, h4, h5, h6, _⟩ := M8
    subst e8
    refine ⟨_, rfl, _, rfl, by show 2 ≤ sizeLine; decide, fun t9 ht9 => ?_⟩
    have s9 : Same H8 (upd H8 t9 (.tup [.ref Rb, .ref Eb])) := Same.upd ht9
    refine k t9 R8 E8 _ ((pn8.keep s9).mono (by omega)) (sb8.trans fun b o z _ => s9 _ _ z) ⟨Rb, Eb, as.map V.ref, ev8, upd_same, s9 _ _ h1, ?_, s9 _ _ h2, L2.Paired.mapP h4 fun _ _ ⟨a, e1, e2, _⟩ => ⟨a, e1, s9 _ _ e2⟩⟩ h5
    exact paired_map (L2.Paired.mapP h3 fun a q ⟨vs, e1, e2⟩ => ⟨a, vs, rfl, s9 _ _ e1, L2.Paired.mapP e2 fun _ _ ⟨b, kv, f1, f2, f3, _⟩ => ⟨b, kv, f1, s9 _ _ f2, s9 _ _ f3⟩⟩)
end
end Kx

namespace Kx
open PySem L2 Own PinX DicN
abbrev s__law_later : Stmt := top 48
abbrev Sd := Nat × List Str
def SdAt (H : Hp) (v : V) (l : Sd) : Prop := ∃ b g, v = .ref b ∧ H b = some (.tup [.int (l.1 : Nat), .ref g]) ∧ H g = some (.tup (l.2.map V.str))
theorem SdAt.keep {H H' : Hp} {v : V} {l : Sd} (s : ∀ b xs, H b = some (.tup xs) → H' b = some (.tup xs)) (h : SdAt H v l) : SdAt H' v l := by
  obtain ⟨b, g, e, h1, h2⟩ := h
  exact ⟨b, g, e, s _ _ h1, s _ _ h2⟩
def sdD (l : Sd) : PyData := .tuple [.int (l.1 : Nat), keysD l.2]
theorem dp_sd {K : PySem.W.Frag} {H : Hp} {v : V} {l : Sd} (h : SdAt H v l) : Dp K H v (sdD l) := by
  obtain ⟨b, g, rfl, h1, h2⟩ := h
  exact .tup (SqT.of h1) (.cons (.int _) (.cons (dp_keys ⟨g, rfl, h2⟩) .nil))
theorem dp_sds {K : PySem.W.Frag} {H : Hp} : ∀ {us : List V} {ls : List Sd}, Paired (SdAt H) us ls → DpAll K H us (ls.map sdD)
  | _, _, .nil => .nil
  | _, _, .cons r t => .cons (dp_sd r) (dp_sds t)
theorem sh_sd {l : Sd} (h : l.2 ∈ G4) : Sh 2 (sdD l) := Sh.tup (n := 1) fun x hx => by
  simp only [List.mem_cons, List.not_mem_nil, or_false] at hx
  rcases hx with rfl | rfl
  · exact Sh.up (Sh.int _)
  · exact sh_keys (G4_ok h)
theorem eqv_sd (a b : Sd) : PyData.eqv (sdD a) (sdD b) = decide (a = b) := by
  unfold sdD
  rw [PyData.eqv, PyData.eqvAll, PyData.eqvAll, PyData.eqvAll, eqv_keys, PyData.eqv]
  obtain ⟨a1, a2⟩ := a
  obtain ⟨b1, b2⟩ := b
  by_cases h1 : a1 = b1 <;> by_cases h2 : a2 = b2 <;> simp [h1, h2, Int.natCast_inj]
theorem any_sd (ls : List Sd) (q : Sd) : ((ls.map sdD).any fun z => PyData.eqv z (sdD q)) = decide (q ∈ ls) := by
  induction ls with
  | nil => rfl
  | cons p r ih =>
    rw [List.map_cons, List.any_cons, ih, eqv_sd]
    by_cases h : p = q
    · simp [h]
    · have h' : ¬ q = p := fun z => h z.symm
      simp [h, h']
theorem few_sd {n : Nat} {ls : List Sd} (nd : ls.Nodup) (h : ∀ l ∈ ls, l.1 < n ∧ l.2 ∈ G4) : ls.length ≤ n * 4 := by
  have e : ((List.range n).flatMap fun i => G4.map fun g => ((i, g) : Sd)).length = n * 4 := by
    rw [List.length_flatMap]
    have : (List.range n).map (fun i => (G4.map fun g => ((i, g) : Sd)).length) = List.replicate n 4 := by
      refine List.ext_getElem (by simp) fun i h1 h2 => ?_
      rw [List.getElem_map, List.getElem_replicate]
      rfl
    rw [this, List.sum_replicate_nat]
  rw [← e]
  refine nd_sub_len nd fun x hx => ?_
  obtain ⟨h1, h2⟩ := h x hx
  exact List.mem_flatMap.mpr ⟨x.1, List.mem_range.mpr h1, List.mem_map.mpr ⟨x.2, h2, rfl⟩⟩
theorem G4_one {g : List Str} (h : g ∈ G4) : KOne g := by
  refine ⟨?_, (G4_in h).1⟩
  unfold G4 at h
  simp only [List.mem_cons, List.not_mem_nil, or_false] at h
  rcases h with rfl | rfl | rfl | rfl <;> exact kl_congr fun y => kl_mem
theorem one_G4 {g : List Str} (h : KOne g) : g ∈ G4 := h.1 ▸ in_G4 h.2
/-- a row that stands at an address that stays -/
def RowZ (bad : List Addr) (H : Hp) (v : V) (q : List Way) : Prop := ∃ a, v = .ref a ∧ a ∉ bad ∧ RowX bad H a q
theorem RowZ.keep {bad : List Addr} {H H' : Hp} {v : V} {q : List Way} (k : ∀ b o, H b = some o → b ∉ bad → H' b = some o) (h : RowZ bad H v q) : RowZ bad H' v q := by
  obtain ⟨a, e, na, vs, h1, h2⟩ := h
  exact ⟨a, e, na, vs, k _ _ h1 na, L2.Paired.mapP h2 fun _ _ z => z.keep fun b o e n _ => k b o e n⟩
theorem Good.wide {z N M : Nat} {R : List (List Way)} {Es : List (List Str)} (G : Good z N R Es) (h : N ≤ M) : Good z M R Es := ⟨G.row, G.fin, Nat.le_trans G.le h, G.pos, G.ee⟩
/-- the state of the walk: what is known, what is found -/
structure LaSt (H H' : Hp) (B : List Addr) (Sb Fb Lb : Addr) (n z d1 d2 : Nat) (ls : List Sd) : Prop where
  same : Same H H'
  nd : ls.Nodup
  inn : ∀ l ∈ ls, l.1 < n ∧ l.2 ∈ G4
  pos : 0 < ls.length
  st : ∃ us, H' Sb = some (.lst us) ∧ Paired (SdAt H') us ls
  fo : ∃ fv Rf, H' Fb = some (.lst fv) ∧ Paired (RowZ B H') fv Rf ∧ Rf.length = d1 ∧ ∀ q ∈ Rf, q.length = z ∧ ∀ w ∈ q, Okw ls.length w ∧ KOne w.2
  la : ∃ lv Ls, H' Lb = some (.lst lv) ∧ Paired (KeyX B H') lv Ls ∧ Ls.length = d2 ∧ ∀ ks ∈ Ls, KOne ks
section
variable {H H1 H2 : Hp} {B : List Addr} {Sb Fb Lb x : Addr} {n z d1 d2 : Nat} {ls : List Sd}
theorem LaSt.keep (S : LaSt H H1 B Sb Fb Lb n z d1 d2 ls) (s : Same H1 H2) : LaSt H H2 B Sb Fb Lb n z d1 d2 ls := by
  obtain ⟨a, nd, inn, pos, ⟨us, h1, h2⟩, ⟨fv, Rf, h3, h4, h5⟩, lv, Ls, h6, h7, h8⟩ := S
  exact ⟨a.trans s, nd, inn, pos, ⟨us, s _ _ h1, L2.Paired.mapP h2 fun _ _ z => z.keep fun b xs y => s _ _ y⟩, ⟨fv, Rf, s _ _ h3, L2.Paired.mapP h4 fun _ _ z => z.keep fun b o y _ => s _ _ y, h5⟩, lv, Ls, s _ _ h6, L2.Paired.mapP h7 fun _ _ z => z.keep fun b o y _ _ => s _ _ y, h8⟩
theorem LaSt.chg {xs ys : List V} (S : LaSt H H1 B Sb Fb Lb n z d1 d2 ls) (hx : H1 x = some (.lst xs)) (xB : x ∈ B) (x1 : x ≠ Sb) (x2 : x ≠ Fb) (x3 : x ≠ Lb) (nx : H x = none) : LaSt H (upd H1 x (.lst ys)) B Sb Fb Lb n z d1 d2 ls := by
  obtain ⟨a, nd, inn, pos, ⟨us, h1, h2⟩, ⟨fv, Rf, h3, h4, h5⟩, lv, Ls, h6, h7, h8⟩ := S
  have kt : ∀ b ts, H1 b = some (.tup ts) → (upd H1 x (.lst ys)) b = some (.tup ts) := fun b ts y => by rw [upd_ne (ne_of y hx (by intro q; cases q))]; exact y
  have kB : ∀ b o, H1 b = some o → b ∉ B → (upd H1 x (.lst ys)) b = some o := fun b o y nb => by rw [upd_ne fun e => nb (by rw [e]; exact xB)]; exact y
  exact ⟨fun b o y => by rw [upd_ne (ne_of_none y nx)]; exact a _ _ y, nd, inn, pos, ⟨us, by rw [upd_ne x1.symm]; exact h1, L2.Paired.mapP h2 fun _ _ z => z.keep kt⟩, ⟨fv, Rf, by rw [upd_ne x2.symm]; exact h3, L2.Paired.mapP h4 fun _ _ z => z.keep kB, h5⟩, lv, Ls, by rw [upd_ne x3.symm]; exact h6, L2.Paired.mapP h7 fun _ _ z => z.keep fun b o y nb _ => kB b o y nb, h8⟩
theorem okw_mono {a b : Nat} {w : Way} (h : Okw a w) (l : a ≤ b) : Okw b w := ⟨h.1, by have := h.2; omega⟩
theorem LaSt.add {us : List V} {v : V} {l : Sd} (S : LaSt H H1 B Sb Fb Lb n z d1 d2 ls) (hs : H1 Sb = some (.lst us)) (sB : Sb ∈ B) (n1 : Sb ≠ Fb) (n2 : Sb ≠ Lb) (ns : H Sb = none) (hv : SdAt H1 v l) (hl : l ∉ ls) (il : l.1 < n ∧ l.2 ∈ G4) : LaSt H (upd H1 Sb (.lst (us ++ [v]))) B Sb Fb Lb n z d1 d2 (ls ++ [l]) := by
  obtain ⟨a, nd, inn, pos, ⟨us', h1, h2⟩, ⟨fv, Rf, h3, h4, h5, h5'⟩, lv, Ls, h6, h7, h8⟩ := S
  rw [hs] at h1
  obtain rfl := HO.lst.inj (Option.some.inj h1)
  have kt : ∀ b ts, H1 b = some (.tup ts) → (upd H1 Sb (.lst (us ++ [v]))) b = some (.tup ts) := fun b ts y => by rw [upd_ne (ne_of y hs (by intro q; cases q))]; exact y
  have kB : ∀ b o, H1 b = some o → b ∉ B → (upd H1 Sb (.lst (us ++ [v]))) b = some o := fun b o y nb => by rw [upd_ne fun e => nb (by rw [e]; exact sB)]; exact y
  refine ⟨fun b o y => by rw [upd_ne (ne_of_none y ns)]; exact a _ _ y, ?_, fun q hq => ?_, by rw [List.length_append]; omega, ⟨_, upd_same, psnoc (L2.Paired.mapP h2 fun _ _ z => z.keep kt) (hv.keep kt)⟩, ⟨fv, Rf, by rw [upd_ne n1.symm]; exact h3, L2.Paired.mapP h4 fun _ _ z => z.keep kB, h5, fun q hq => ⟨(h5' q hq).1, fun w hw => ⟨okw_mono ((h5' q hq).2 w hw).1 (by rw [List.length_append]; omega), ((h5' q hq).2 w hw).2⟩⟩⟩, lv, Ls, by rw [upd_ne n2.symm]; exact h6, L2.Paired.mapP h7 fun _ _ z => z.keep fun b o y nb _ => kB b o y nb, h8⟩
  · refine List.nodup_append.mpr ⟨nd, by simp, fun x hx y hy e => ?_⟩
    rw [List.mem_singleton.mp hy] at e
    exact hl (e ▸ hx)
  · rcases List.mem_append.mp hq with h | h
    · exact inn q h
    · rw [List.mem_singleton.mp h]; exact il
theorem LaSt.row {fv : List V} {v : V} {q : List Way} (S : LaSt H H1 B Sb Fb Lb n z d1 d2 ls) (hf : H1 Fb = some (.lst fv)) (fB : Fb ∈ B) (n1 : Fb ≠ Sb) (n2 : Fb ≠ Lb) (nf : H Fb = none) (hv : RowZ B H1 v q) (lq : q.length = z) (gq : ∀ w ∈ q, Okw ls.length w ∧ KOne w.2) : LaSt H (upd H1 Fb (.lst (fv ++ [v]))) B Sb Fb Lb n z (d1 + 1) d2 ls := by
  obtain ⟨a, nd, inn, pos, ⟨us, h1, h2⟩, ⟨fv', Rf, h3, h4, h5, h5'⟩, lv, Ls, h6, h7, h8⟩ := S
  rw [hf] at h3
  obtain rfl := HO.lst.inj (Option.some.inj h3)
  have kt : ∀ b ts, H1 b = some (.tup ts) → (upd H1 Fb (.lst (fv ++ [v]))) b = some (.tup ts) := fun b ts y => by rw [upd_ne (ne_of y hf (by intro q; cases q))]; exact y
  have kB : ∀ b o, H1 b = some o → b ∉ B → (upd H1 Fb (.lst (fv ++ [v]))) b = some o := fun b o y nb => by rw [upd_ne fun e => nb (by rw [e]; exact fB)]; exact y
  refine ⟨fun b o y => by rw [upd_ne (ne_of_none y nf)]; exact a _ _ y, nd, inn, pos, ⟨us, by rw [upd_ne n1.symm]; exact h1, L2.Paired.mapP h2 fun _ _ z => z.keep kt⟩, ⟨_, Rf ++ [q], upd_same, psnoc (L2.Paired.mapP h4 fun _ _ z => z.keep kB) (hv.keep kB), by rw [List.length_append, h5]; rfl, fun x hx => ?_⟩, lv, Ls, by rw [upd_ne n2.symm]; exact h6, L2.Paired.mapP h7 fun _ _ z => z.keep fun b o y nb _ => kB b o y nb, h8⟩
  rcases List.mem_append.mp hx with h | h
  · exact h5' x h
  · rw [List.mem_singleton.mp h]; exact ⟨lq, gq⟩
theorem LaSt.fin {lv : List V} {v : V} {ks : List Str} (S : LaSt H H1 B Sb Fb Lb n z d1 d2 ls) (hf : H1 Lb = some (.lst lv)) (fB : Lb ∈ B) (n1 : Lb ≠ Sb) (n2 : Lb ≠ Fb) (nf : H Lb = none) (hv : KeyX B H1 v ks) (one : KOne ks) : LaSt H (upd H1 Lb (.lst (lv ++ [v]))) B Sb Fb Lb n z d1 (d2 + 1) ls := by
  obtain ⟨a, nd, inn, pos, ⟨us, h1, h2⟩, ⟨fv, Rf, h3, h4, h5⟩, lv', Ls, h6, h7, h8, h9⟩ := S
  rw [hf] at h6
  obtain rfl := HO.lst.inj (Option.some.inj h6)
  have kt : ∀ b ts, H1 b = some (.tup ts) → (upd H1 Lb (.lst (lv ++ [v]))) b = some (.tup ts) := fun b ts y => by rw [upd_ne (ne_of y hf (by intro q; cases q))]; exact y
  have kB : ∀ b o, H1 b = some o → b ∉ B → (upd H1 Lb (.lst (lv ++ [v]))) b = some o := fun b o y nb => by rw [upd_ne fun e => nb (by rw [e]; exact fB)]; exact y
  refine ⟨fun b o y => by rw [upd_ne (ne_of_none y nf)]; exact a _ _ y, nd, inn, pos, ⟨us, by rw [upd_ne n1.symm]; exact h1, L2.Paired.mapP h2 fun _ _ z => z.keep kt⟩, ⟨fv, Rf, by rw [upd_ne n2.symm]; exact h3, L2.Paired.mapP h4 fun _ _ z => z.keep kB, h5⟩, _, Ls ++ [ks], upd_same, psnoc (L2.Paired.mapP h7 fun _ _ z => z.keep fun b o y nb _ => kB b o y nb) (hv.keep fun b o y nb _ => kB b o y nb), by rw [List.length_append, h8]; rfl, fun x hx => ?_⟩
  rcases List.mem_append.mp hx with h | h
  · exact h9 x h
  · rw [List.mem_singleton.mp h]; exact one
/-- a new record is apart from all of them -/
theorem LaSt.more {o : HO} (S : LaSt H H1 B Sb Fb Lb n z d1 d2 ls) (hx : H1 x = none) : LaSt H (upd H1 x o) (x :: B) Sb Fb Lb n z d1 d2 ls := by
  have nm : ∀ {b o'}, H1 b = some o' → b ∉ B → b ∉ x :: B := fun {b o'} y nb hm => by
    rcases List.mem_cons.mp hm with rfl | hm
    · rw [hx] at y; cases y
    · exact nb hm
  have nw : ∀ {v w}, WayX B H1 v w → WayX (x :: B) H1 v w := fun {v w} ⟨a, kv, e, h1, h2, h3, h4⟩ => ⟨a, kv, e, h1, h2, nm h2 h3, nm h1 h4⟩
  obtain ⟨a, nd, inn, pos, st, ⟨fv, Rf, h3, h4, h5⟩, lv, Ls, h6, h7, h8⟩ := S
  exact LaSt.keep ⟨a, nd, inn, pos, st, ⟨fv, Rf, h3, L2.Paired.mapP h4 fun _ _ ⟨a, e, na, vs, g1, g2⟩ => ⟨a, e, nm g1 na, vs, g1, L2.Paired.mapP g2 fun _ _ z => nw z⟩, h5⟩, lv, Ls, h6, L2.Paired.mapP h7 fun _ _ ⟨a, e, g1, g2⟩ => ⟨a, e, g1, nm g1 g2⟩, h8⟩ (Same.upd hx)
theorem LaSt.less (S : LaSt H H1 (x :: B) Sb Fb Lb n z d1 d2 ls) : LaSt H H1 B Sb Fb Lb n z d1 d2 ls := by
  have nm : ∀ {b}, b ∉ x :: B → b ∉ B := fun {b} nb hm => nb (List.mem_cons_of_mem _ hm)
  obtain ⟨a, nd, inn, pos, st, ⟨fv, Rf, h3, h4, h5⟩, lv, Ls, h6, h7, h8⟩ := S
  exact ⟨a, nd, inn, pos, st, ⟨fv, Rf, h3, L2.Paired.mapP h4 fun _ _ ⟨a, e, na, vs, g1, g2⟩ => ⟨a, e, nm na, vs, g1, L2.Paired.mapP g2 fun _ _ ⟨a, kv, e, h1, h2, h3, h4⟩ => ⟨a, kv, e, h1, h2, nm h3, nm h4⟩⟩, h5⟩, lv, Ls, h6, L2.Paired.mapP h7 fun _ _ ⟨a, e, g1, g2⟩ => ⟨a, e, g1, nm g2⟩, h8⟩
end
theorem upd_at {H : Hp} {a : Addr} {o : HO} (_ : H a = none) : upd H a o a = some o := upd_same
structure TxtLa (K : PySem.W.Frag) (mg : Str → Option Value) (f : Addr) (d : FuncData) : Prop where
  D__law_later : DefT K mg "_law_later" "_law_later" s__law_later ["tables"] f d
  n_len : mg "len" = none
  n_list : mg "list" = none
  n_set : mg "set" = none
  n_tuple : mg "tuple" = none
  n_sorted : mg "sorted" = none
section
variable {P : Program} {w : World} {K : PySem.W.Frag} {mg : Str → Option Value} {base : Heap} {f : Addr} {d : FuncData}
def spLater : Sp := fun vs H Q _ => ∃ (t : Addr) (z : Nat) (R : List (List Way)) (Es : List (List Str)), vs = [.ref t] ∧ TabAt H t R Es ∧ Good z 3 R Es ∧ z ≤ 4 ∧ ∀ t' R' E' H', Same H H' → TabAt H' t' R' E' → Good z 12 R' E' → Q (.ref t') H'
abbrev Nla : List Str := ["tables", "rows", "ends", "states", "found", "last", "state", "held", "ways", "goal", "keys", "node"]
theorem sc_la : FnScope Nla ["tables"] (defScope s__law_later) := ⟨rfl, rfl, rfl, by decide +kernel, rfl, by decide +kernel, by decide +kernel⟩
theorem ok_later (T : TxtLa K mg f d) : FnOk P w K mg base CX0 1 f d ["tables"] spLater := by
  have sc := sc_la
  refine T.D__law_later.F.ok sc (fun vs H Q E h => ?_) (fun cdv A1 outer s H vs Q E hr h => ?_)
  · obtain ⟨_, _, _, _, rfl, _⟩ := h; rfl
  · obtain ⟨t, z, R, Es, rfl, TA, G0, z4, k⟩ := h
    have hu65 : (A1.deeper (PyProof.Rows.envOfC "_law_later" (defScope s__law_later) s.heap.objs.size f cdv)).units + 65 < cLine := by have := hr.un; omega
    refine ⟨_, (pss_cons (ps_asg (pv 0) (pg_tup rfl (pgs_cons (pg_name (i := 1) sc.nd rfl (Or.inl rfl)) (pgs_cons (pg_name (i := 2) sc.nd rfl (Or.inl rfl)) pgs_nil))))
      (pss_cons (ps_par3 (i := 3) (j := 4) (l := 5) rfl sc.nd rfl rfl rfl (by decide) (by decide) (by decide) rfl rfl rfl (pa_cons (pe_lst (pa_cons (pe_tup (pa_cons pe_int (pa_cons (pe_tup pa_nil) pa_nil))) pa_nil)) (pa_cons (pe_lst pa_nil) (pa_cons (pe_lst pa_nil) pa_nil))) rfl)
      (pss_cons (ps_while PassesOwn.never (pt_cmpR op_lt (pe_callB call_len (by rfl) T.n_len (by decide +kernel) (pa_cons (pv 4) pa_nil)) (pe_callB call_len (by rfl) T.n_len (by decide +kernel) (pa_cons (pv 3) pa_nil)) (nomark _)) (pss_cons (ps_asg (pe_ix ix_list (pv 3) (pe_callB call_len (by rfl) T.n_len (by decide +kernel) (pa_cons (pv 4) pa_nil)) (fun _ _ => rfl)) (pg_tup rfl (pgs_cons (pg_name (i := 6) sc.nd rfl (Or.inl rfl)) (pgs_cons (pg_name (i := 7) sc.nd rfl (Or.inl rfl)) pgs_nil))))
      (pss_cons (ps_set (i := 8) sc.nd rfl (Or.inl rfl) (pe_lst pa_nil))
      (pss_cons (ps_for PassesOwn.never rfl (pi_list (pe_ix ix_list (pv 1) (pv 6) (fun _ _ => rfl))) (pg_tup rfl (pgs_cons (pg_name (i := 9) sc.nd rfl (Or.inl rfl)) (pgs_cons (pg_name (i := 10) sc.nd rfl (Or.inl rfl)) pgs_nil))) (pss_cons (ps_set (i := 11) sc.nd rfl (Or.inl rfl) (pe_tup (pa_cons (pv 9) (pa_cons (pe_tupleOf rfl T.n_tuple (pe_callB (cr_sortT rfl) (by rfl) T.n_sorted (by decide +kernel) (pa_cons (pe_callTy (cr_setT rfl) (by rfl) T.n_set (by decide +kernel) (pa_cons (pv 10) pa_nil)) pa_nil))) pa_nil))))
      (C8.pss_cut (ps_if (pt_cmpR (op_notInD hu65) (pv 11) (pv 3) (by rfl)) (pss_one (ps_expr (pe_bm PySem.F.plainAttrs_list PySem.F.slot_list_append PySem.F.type_list_append mt_append (pv 3) (pa_cons (pv 11) pa_nil)))) pss_nil)
      (pss_one (ps_expr (pe_bm PySem.F.plainAttrs_list PySem.F.slot_list_append PySem.F.type_list_append mt_append (pv 8) (pa_cons (pe_tup (pa_cons (pe_bm PySem.F.plainAttrs_list PySem.F.slot_list_index PySem.F.type_list_index (mt_indexD hu65) (pv 3) (pa_cons (pv 11) pa_nil)) (pa_cons (pe_callTy call_list_of (by rfl) T.n_list (by decide +kernel) (pa_cons (pv 7) pa_nil)) pa_nil))) pa_nil)))))))
      (pss_cons (ps_expr (pe_bm PySem.F.plainAttrs_list PySem.F.slot_list_append PySem.F.type_list_append mt_append (pv 4) (pa_cons (pv 8) pa_nil)))
      (pss_one (ps_expr (pe_bm PySem.F.plainAttrs_list PySem.F.slot_list_append PySem.F.type_list_append mt_append (pv 5) (pa_cons (pe_callB (cr_sortT rfl) (by rfl) T.n_sorted (by decide +kernel) (pa_cons (pe_callTy (cr_setT rfl) (by rfl) T.n_set (by decide +kernel) (pa_cons (pe_op op_cat (pe_callTy call_list_of (by rfl) T.n_list (by decide +kernel) (pa_cons (pv 7) pa_nil)) (pe_callTy call_list_of (by rfl) T.n_list (by decide +kernel) (pa_cons (pe_ix ix_list (pv 2) (pv 6) (fun _ _ => rfl)) pa_nil))) pa_nil)) pa_nil)) pa_nil)))))))))
      (pss_one (ps_ret (pe_tup (pa_cons (pv 4) (pa_cons (pv 5) pa_nil)))))))), ?_⟩
    obtain ⟨r, e, rv, ev, ht, hrv, pR, hev, pE⟩ := TA
    have lR : rv.length = R.length := Paired.length pR
    have lE : ev.length = Es.length := Paired.length pE
    have l3 := G0.le
    have rpos := G0.pos
    have ree := G0.ee
    refine ⟨_, rfl, _, _, rfl, SqT.of ht, rfl, ?_⟩
    refine ⟨_, _, rfl, _, _, rfl, rfl, ?_⟩
    refine ⟨by show 0 ≤ sizeLine; decide, fun g0 hg0 => ⟨by show 2 ≤ sizeLine; decide, fun b0 hb0 => ⟨by show 1 ≤ sizeLine; decide, fun Sb hSb => ⟨by show 0 ≤ sizeLine; decide, fun Fb hFb => ⟨by show 0 ≤ sizeLine; decide, fun Lb hLb => ⟨_, _, _, rfl, ?_⟩⟩⟩⟩⟩⟩
    have nF : Sb ≠ Fb := fun q => by rw [← q, upd_same] at hFb; cases hFb
    have nL : Sb ≠ Lb := fun q => by
      have := hLb
      rw [← q, upd_ne nF, upd_same] at this; cases this
    have nFL : Fb ≠ Lb := fun q => by rw [← q, upd_same] at hLb; cases hLb
    have s0 : Same H _ := ((Same.upd hg0).trans (Same.upd hb0)).trans (((Same.upd hSb).trans (Same.upd hFb)).trans (Same.upd (o := .lst []) hLb))
    have HS : H Sb = none := by
      cases q : H Sb with
      | none => rfl
      | some o => rw [((Same.upd hg0).trans (Same.upd hb0)) _ _ q] at hSb; cases hSb
    have HF : H Fb = none := by
      cases q : H Fb with
      | none => rfl
      | some o => rw [((Same.upd hg0).trans ((Same.upd hb0).trans (Same.upd hSb))) _ _ q] at hFb; cases hFb
    have HL : H Lb = none := by
      cases q : H Lb with
      | none => rfl
      | some o => rw [(((Same.upd hg0).trans (Same.upd hb0)).trans ((Same.upd hSb).trans (Same.upd hFb))) _ _ q] at hLb; cases hLb
    have hg1 := ((Same.upd hb0).trans (((Same.upd hSb).trans (Same.upd hFb)).trans (Same.upd (o := .lst []) hLb))) _ _ (upd_same (a := g0) (o := .tup []) (H := H))
    have hb1 := (((Same.upd hSb).trans (Same.upd hFb)).trans (Same.upd (o := .lst []) hLb)) _ _ (upd_same (a := b0) (o := .tup [.int 0, .ref g0]) (H := upd H g0 (.tup [])))
    have S0 : LaSt H _ [Sb, Fb, Lb] Sb Fb Lb R.length z 0 0 [((0 : Nat), ([] : List Str))] := ⟨s0, by simp, fun l hl => by
      rw [List.mem_singleton.mp hl]; exact ⟨rpos, by unfold G4; exact List.mem_cons.mpr (.inl (by decide +kernel))⟩, by decide, ⟨[.ref b0], ((Same.upd hFb).trans (Same.upd (o := .lst []) hLb)) _ _ upd_same, .cons ⟨b0, g0, rfl, hb1, hg1⟩ .nil⟩, ⟨[], [], Same.upd hLb _ _ upd_same, .nil, rfl, fun q hq => (nomatch hq)⟩, [], [], upd_same, .nil, rfl, fun q hq => (nomatch hq)⟩
    generalize upd _ Lb (.lst []) = H1 at S0 ⊢
    clear hg0 hb0 hSb hFb hLb s0 hg1 hb1
    refine ⟨fun m σ H' => ∃ (d : Nat) (ls : List Sd) (v6 v7 v8 v9 v10 v11 : Option V), m + d = 13 ∧ σ = [some (.ref t), some (.ref r), some (.ref e), some (.ref Sb), some (.ref Fb), some (.ref Lb), v6, v7, v8, v9, v10, v11] ∧ LaSt H H' [Sb, Fb, Lb] Sb Fb Lb R.length z d d ls ∧ d ≤ ls.length, ⟨13, 0, _, none, none, none, none, none, none, rfl, rfl, S0, Nat.zero_le _⟩, ?_⟩
    clear S0 H1
    rintro m _ H1 ⟨d, ls, v6, v7, v8, v9, v10, v11, hm, rfl, S, dl⟩
    have few := few_sd S.nd S.inn
    obtain ⟨us, hs, pu⟩ := S.st
    obtain ⟨fv, Rf, hf, pf, lf, gf⟩ := S.fo
    obtain ⟨lv, Ls, hl, pl, ll, gl⟩ := S.la
    have lfv : fv.length = d := by rw [Paired.length pf, lf]
    have lus : us.length = ls.length := Paired.length pu
    refine ⟨_, rfl, .ref Fb, d, rfl, .inl ⟨_, SqL.of hf, lfv.symm⟩, _, rfl, .ref Sb, ls.length, rfl, .inl ⟨_, SqL.of hs, lus.symm⟩, ?_⟩
    refine ⟨_, _, rfl, rfl, _, rfl, ?_⟩
    rcases Decidable.em ((d : Int) < (ls.length : Int)) with hd | hd
    · rw [decide_eq_true hd]
      refine iteT ⟨fun σ' H' => ∃ (ls : List Sd) (v6 v7 v8 v9 v10 v11 : Option V), σ' = [some (.ref t), some (.ref r), some (.ref e), some (.ref Sb), some (.ref Fb), some (.ref Lb), v6, v7, v8, v9, v10, v11] ∧ LaSt H H' [Sb, Fb, Lb] Sb Fb Lb R.length z (d + 1) (d + 1) ls ∧ d + 1 ≤ ls.length, ?_, ?_⟩
      · rintro _ H2 ⟨ls2, w6, w7, w8, w9, w10, w11, rfl, S2, dl2⟩
        exact ⟨m - 1, by omega, d + 1, ls2, w6, w7, w8, w9, w10, w11, by omega, rfl, S2, dl2⟩
      have hx : us[d]? = some (us[d]'(by omega)) := List.getElem?_eq_getElem (by omega)
      obtain ⟨⟨st, hh⟩, hq, b0, g0, eb0, hb0, hg0⟩ := pat pu hx
      rw [eb0] at hx
      obtain ⟨st3, hh4⟩ := S.inn _ (List.mem_of_getElem? hq)
      refine ⟨_, rfl, _, rfl, .ref Fb, d, rfl, .inl ⟨_, SqL.of hf, lfv.symm⟩, Sb, us, _, _, rfl, rfl, SqL.of hs, atI_nat hx, b0, _, rfl, SqT.of hb0, rfl, _, _, rfl, _, _, rfl, rfl, ?_⟩
      refine ⟨by show 0 ≤ sizeLine; decide, fun Wb hWb => ⟨_, rfl, _, rfl, ?_⟩⟩
      have st3' : st < R.length := st3
      have hrx : rv[st]? = some (rv[st]'(by omega)) := List.getElem?_eq_getElem (by omega)
      obtain ⟨q0, hq0, a0, vs0, era, ha0, pr0⟩ := pat pR hrx
      rw [era] at hrx
      obtain ⟨lq0, gq0⟩ := G0.row q0 (List.mem_of_getElem? hq0)
      have lvs0 : vs0.length = z := by rw [Paired.length pr0, lq0]
      have gg : H1 g0 = some (.tup (hh.map V.str)) := hg0
      have nW : Wb ∉ [Sb, Fb, Lb] := fun hm => by
        simp only [List.mem_cons, List.not_mem_nil, or_false] at hm
        rcases hm with rfl | rfl | rfl
        · rw [hs] at hWb; cases hWb
        · rw [hf] at hWb; cases hWb
        · rw [hl] at hWb; cases hWb
      have HW : H Wb = none := by
        cases q : H Wb with
        | none => rfl
        | some o => rw [S.same _ _ q] at hWb; cases hWb
      have S2 := S.more (o := .lst []) hWb
      refine ⟨r, rv, _, _, rfl, rfl, SqL.of (S2.same _ _ hrv), atI_nat hrx, a0, rfl, ⟨_, SqL.of (S2.same _ _ ha0)⟩, ?_⟩
      refine for_it walk_list (fun j σ H' => ∃ (ls : List Sd) (v9 v10 v11 : Option V) (wv : List V) (qs : List Way), σ = [some (.ref t), some (.ref r), some (.ref e), some (.ref Sb), some (.ref Fb), some (.ref Lb), some (.int (st : Nat)), some (.ref g0), some (.ref Wb), v9, v10, v11] ∧ LaSt H H' [Wb, Sb, Fb, Lb] Sb Fb Lb R.length z d d ls ∧ H' Wb = some (.lst wv) ∧ Paired (WayX [Wb, Sb, Fb, Lb] H') wv qs ∧ qs.length = j ∧ (∀ w ∈ qs, Okw ls.length w ∧ KOne w.2) ∧ H' g0 = some (.tup (hh.map V.str)) ∧ d < ls.length)
        ⟨ls, v9, v10, v11, [], [], rfl, S2, upd_same, .nil, rfl, fun w hw => (nomatch hw), Same.upd hWb _ _ gg, by omega⟩ (fun j σ H' _ ⟨_, _, _, _, _, _, _, S, _⟩ => SqL.of (S.same _ _ ha0)) ?_ ?_
      · rintro j x _ _ H2 hj ⟨ls2, v9, v10, v11, wv, qs, rfl, S2, hW, pW, lqs, gqs, gg2, dl2⟩ ⟨rfl, hxj⟩
        obtain ⟨wy, hwy, b1, kv, rfl, hb1, hkv1⟩ := pat pr0 hxj
        obtain ⟨okw, onew⟩ := gq0 wy (List.mem_of_getElem? hwy)
        refine ⟨b1, _, rfl, SqT.of (S2.same _ _ hb1), rfl, _, _, rfl, _, _, rfl, rfl, ?_⟩
        have S2kv := S2.same _ _ hkv1
        obtain ⟨gN, egN⟩ := Int.eq_ofNat_of_zero_le okw.1
        have gNlt : gN < R.length := by have := okw.2; rw [egN] at this; omega
        have l2 : wy.2.length ≤ 2 := (G4_in (one_G4 onew)).2
        refine ⟨_, rfl, _, rfl, .ref kv, _, rfl, .list (SqL.of S2kv), by show wy.2.length + 1 < scanBound; unfold scanBound; omega, fun p3 l3 hp3 nd3 hm3 hl3 => ?_⟩
        refine ⟨p3, l3, rfl, upd_same, by unfold scanBound; omega, fun p4 ys4 hp4 pm4 hs4 => ?_⟩
        obtain rfl := kl_of pm4 hs4 nd3 hm3
        rw [onew.1]
        refine .inl ⟨p4, _, rfl, SqL.of upd_same, fun u5 hu5 => ⟨by show 2 ≤ sizeLine; decide, fun nb hnb => ?_⟩⟩
        have s25 := ((Same.upd hp3).trans (Same.upd hp4)).trans ((Same.upd hu5).trans (Same.upd (o := .tup [.int wy.1, .ref u5]) hnb))
        have hnd5 : SdAt (upd _ nb (.tup [.int wy.1, .ref u5])) (.ref nb) (gN, wy.2) := ⟨nb, u5, rfl, by rw [upd_same, egN], Same.upd hnb _ _ upd_same⟩
        clear hp3 hp4 hu5 hnb pm4 hs4 nd3 hm3 hl3
        generalize upd _ nb (.tup [.int wy.1, .ref u5]) = H5 at s25 hnd5 ⊢
        have S5 := S2.keep s25
        have hW5 := s25 _ _ hW
        have pW5 : Paired (WayX [Wb, Sb, Fb, Lb] H5) wv qs := L2.Paired.mapP pW fun _ _ z => z.keep fun b o y _ _ => s25 _ _ y
        have gg5 := s25 _ _ gg2
        clear s25 hW pW gg2 S2 S2kv
        refine ⟨fun σ H' => ∃ (ls : List Sd) (wv : List V) (qs : List Way), σ = [some (.ref t), some (.ref r), some (.ref e), some (.ref Sb), some (.ref Fb), some (.ref Lb), some (.int (st : Nat)), some (.ref g0), some (.ref Wb), some (.int wy.1), some (.ref kv), some (.ref nb)] ∧ LaSt H H' [Wb, Sb, Fb, Lb] Sb Fb Lb R.length z d d ls ∧ H' Wb = some (.lst wv) ∧ Paired (WayX [Wb, Sb, Fb, Lb] H') wv qs ∧ qs.length = j ∧ (∀ w ∈ qs, Okw ls.length w ∧ KOne w.2) ∧ H' g0 = some (.tup (hh.map V.str)) ∧ d < ls.length ∧ SdAt H' (.ref nb) (gN, wy.2) ∧ (gN, wy.2) ∈ ls, ?_, ?_⟩
        · obtain ⟨us2, hs2, pu2⟩ := S5.st
          refine ⟨_, rfl, _, rfl, sdD (gN, wy.2), ls2.map sdD, dp_sd hnd5, .lst (SqL.of hs2) (dp_sds pu2), (sh_sd (one_G4 onew)).ok (by decide), (Sh.list (n := 2) fun x hx => by
            obtain ⟨q, hq, rfl⟩ := List.mem_map.mp hx
            exact sh_sd (S5.inn q hq).2).ok (by decide), _, rfl, ?_⟩
          rw [any_sd]
          by_cases mem : ((gN, wy.2) : Sd) ∈ ls2
          · exact ifFn mem ⟨ls2, wv, qs, rfl, S5, hW5, pW5, lqs, gqs, gg5, dl2, hnd5, mem⟩
          · refine ifTn mem ?_
            have few2 := few_sd S5.nd S5.inn
            have lus2 := Paired.length pu2
            refine ⟨_, rfl, .inl ⟨rfl, _, SqL.of hs2⟩, _, rfl, Sb, us2, _, rfl, rfl, hs2, by rw [lus2, sizeLine_eq]; omega, ?_⟩
            have S6 := S5.add hs2 (by simp) nF nL HS hnd5 mem ⟨gNlt, one_G4 onew⟩
            have kt : ∀ b ts, H5 b = some (.tup ts) → (upd H5 Sb (.lst (us2 ++ [.ref nb]))) b = some (.tup ts) := fun b ts y => by rw [upd_ne (ne_of y hs2 (by intro q; cases q))]; exact y
            have kB : ∀ b o, H5 b = some o → b ∉ [Wb, Sb, Fb, Lb] → (upd H5 Sb (.lst (us2 ++ [.ref nb]))) b = some o := fun b o y nb => by rw [upd_ne fun e => nb (by rw [e]; simp)]; exact y
            exact ⟨ls2 ++ [(gN, wy.2)], wv, qs, rfl, S6, by rw [upd_ne fun y => nW (by rw [y]; simp)]; exact hW5, L2.Paired.mapP pW5 fun _ _ z => z.keep fun b o y nb _ => kB b o y nb, lqs, fun w hw => ⟨okw_mono (gqs w hw).1 (by rw [List.length_append]; omega), (gqs w hw).2⟩, kt _ _ gg5, by rw [List.length_append]; omega, hnd5.keep kt, by simp⟩
        · rintro σ H6 ⟨ls6, wv6, qs6, rfl, S6, hW6, pW6, lqs6, gqs6, gg6, dl6, hnd6, mem6⟩
          obtain ⟨us6, hs6, pu6⟩ := S6.st
          have few6 := few_sd S6.nd S6.inn
          obtain ⟨jx, hjx⟩ := List.getElem?_of_mem mem6
          have jlt : jx < ls6.length := (List.getElem?_eq_some_iff.mp hjx).1
          refine ⟨_, rfl, .inl ⟨rfl, _, SqL.of hW6⟩, ?_⟩
          refine ⟨_, rfl, .inl ⟨rfl, _, SqL.of hs6⟩, _, rfl, Sb, .ref nb, sdD (gN, wy.2), ls6.map sdD, jx, sdD (gN, wy.2), rfl, rfl, .lst (SqL.of hs6) (dp_sds pu6), dp_sd hnd6, (Sh.list (n := 2) fun x hx => by
            obtain ⟨q, hq, rfl⟩ := List.mem_map.mp hx
            exact sh_sd (S6.inn q hq).2).ok (by decide), (sh_sd (one_G4 onew)).ok (by decide), by rw [List.getElem?_map, hjx]; rfl, by rw [eqv_sd]; exact decide_eq_true rfl, fun mm z' hmm hz' => by
              rw [List.getElem?_map] at hz'
              obtain ⟨q, hq, rfl⟩ := Option.map_eq_some_iff.mp hz'
              rw [eqv_sd]
              refine decide_eq_false fun y => ?_
              have := (List.getElem?_inj (by omega) S6.nd).mp (by rw [hq, hjx, y] : ls6[mm]? = ls6[jx]?)
              omega, ?_⟩
          refine ⟨_, rfl, g0, _, rfl, .inr (SqT.of gg6), fun l8 hl8 => ⟨by show 2 ≤ sizeLine; decide, fun b8 hb8 => ?_⟩⟩
          have s68 := (Same.upd hl8).trans (Same.upd (o := .tup [.int (jx : Nat), .ref l8]) hb8)
          have S8 := S6.keep s68
          have hW8 := s68 _ _ hW6
          have gg8 := s68 _ _ gg6
          obtain ⟨us8, hs8, _⟩ := S6.st
          obtain ⟨fv8, _, hf8, _⟩ := S6.fo
          obtain ⟨lv8, _, hl9, _⟩ := S6.la
          have nl8 : l8 ∉ [Wb, Sb, Fb, Lb] := fun hm => by
            simp only [List.mem_cons, List.not_mem_nil, or_false] at hm
            rcases hm with rfl | rfl | rfl | rfl
            · rw [hW6] at hl8; cases hl8
            · rw [hs8] at hl8; cases hl8
            · rw [hf8] at hl8; cases hl8
            · rw [hl9] at hl8; cases hl8
          have nb8 : b8 ∉ [Wb, Sb, Fb, Lb] := fun hm => by
            simp only [List.mem_cons, List.not_mem_nil, or_false] at hm
            rcases hm with rfl | rfl | rfl | rfl
            · rw [Same.upd hl8 _ _ hW6] at hb8; cases hb8
            · rw [Same.upd hl8 _ _ hs8] at hb8; cases hb8
            · rw [Same.upd hl8 _ _ hf8] at hb8; cases hb8
            · rw [Same.upd hl8 _ _ hl9] at hb8; cases hb8
          have wx8 : WayX [Wb, Sb, Fb, Lb] (upd _ b8 (.tup [.int (jx : Nat), .ref l8])) (.ref b8) (((jx : Nat) : Int), hh) := ⟨b8, l8, rfl, upd_same, Same.upd hb8 _ _ upd_same, nl8, nb8⟩
          have pW8 : Paired (WayX [Wb, Sb, Fb, Lb] (upd _ b8 (.tup [.int (jx : Nat), .ref l8]))) wv6 qs6 := L2.Paired.mapP pW6 fun _ _ z => z.keep fun b o y _ _ => s68 _ _ y
          generalize upd _ b8 (.tup [.int (jx : Nat), .ref l8]) = H8 at s68 S8 hW8 gg8 wx8 pW8 ⊢
          clear s68 S6 hW6 pW6 gg6 hs6 pu6 hs8 hf8 hl9 hl8 hb8
          have lw6 : wv6.length = j := by rw [Paired.length pW8, lqs6]
          refine ⟨Wb, wv6, _, rfl, rfl, hW8, by rw [lw6, sizeLine_eq]; omega, ?_⟩
          have kB : ∀ b o, H8 b = some o → b ∉ [Wb, Sb, Fb, Lb] → (upd H8 Wb (.lst (wv6 ++ [.ref b8]))) b = some o := fun b o y nb => by rw [upd_ne fun e => nb (by rw [e]; simp)]; exact y
          refine ⟨ls6, _, _, _, wv6 ++ [.ref b8], qs6 ++ [(((jx : Nat) : Int), hh)], rfl, S8.chg hW8 (by simp) (fun y => nW (by rw [y]; simp)) (fun y => nW (by rw [y]; simp)) (fun y => nW (by rw [y]; simp)) HW, upd_same, psnoc (L2.Paired.mapP pW8 fun _ _ z => z.keep fun b o y nb _ => kB b o y nb) (wx8.keep fun b o y nb _ => kB b o y nb), by rw [List.length_append, lqs6]; rfl, fun w hw => ?_, by rw [upd_ne (ne_of gg8 hW8 (by intro y; cases y))]; exact gg8, dl6⟩
          rcases List.mem_append.mp hw with h | h
          · exact gqs6 w h
          · rw [List.mem_singleton.mp h]
            exact ⟨⟨Int.natCast_nonneg _, by show ((jx : Nat) : Int) < (ls6.length : Nat); omega⟩, G4_one hh4⟩
      · rintro σ H2 ⟨ls2, w9, w10, w11, wv, qs, rfl, S2, hW, pW, lqs, gqs, gg2, dl2⟩
        obtain ⟨fv2, Rf2, hf2, pf2, lf2, gf2⟩ := id S2.fo
        have few2 := few_sd S2.nd S2.inn
        refine ⟨_, rfl, .inl ⟨rfl, _, SqL.of hf2⟩, _, rfl, Fb, fv2, _, rfl, rfl, hf2, by rw [Paired.length pf2, lf2, sizeLine_eq]; omega, ?_⟩
        have pW2 : Paired (WayX [Sb, Fb, Lb] H2) wv qs := L2.Paired.mapP pW fun _ _ ⟨a, kv, e, h1, h2, h3, h4⟩ => ⟨a, kv, e, h1, h2, fun y => h3 (List.mem_cons_of_mem _ y), fun y => h4 (List.mem_cons_of_mem _ y)⟩
        have S3 := S2.less.row hf2 (by simp) nF.symm nFL HF (v := .ref Wb) (q := qs) ⟨Wb, rfl, nW, wv, hW, pW2⟩ (by rw [lqs, lvs0]) gqs
        have gg3 : (upd H2 Fb (.lst (fv2 ++ [.ref Wb]))) g0 = some (.tup (hh.map V.str)) := by rw [upd_ne (ne_of gg2 hf2 (by intro y; cases y))]; exact gg2
        generalize upd H2 Fb (.lst (fv2 ++ [.ref Wb])) = H3 at S3 gg3 ⊢
        clear S2 hW pW gg2 hf2 pf2 gf2 pW2 lf2
        obtain ⟨lv3, Ls3, hl3, pl3, ll3, gl3⟩ := id S3.la
        have hex : ev[st]? = some (ev[st]'(by omega)) := List.getElem?_eq_getElem (by omega)
        obtain ⟨ks, hks, ka, eka, hka⟩ := pat pE hex
        rw [eka] at hex
        have one := G0.fin ks (List.mem_of_getElem? hks)
        have lk2 := (G4_in (one_G4 one)).2
        have lh2 : hh.length ≤ 2 := (G4_in hh4).2
        refine ⟨_, rfl, .inl ⟨rfl, _, SqL.of hl3⟩, ?_⟩
        refine ⟨_, rfl, g0, _, rfl, .inr (SqT.of gg3), fun l4 hl4 => ?_⟩
        have hka4 := Same.upd (o := .lst (hh.map V.str)) hl4 _ _ (S3.same _ _ hka)
        refine ⟨_, rfl, _, rfl, e, ev, _, _, rfl, rfl, SqL.of (Same.upd hl4 _ _ (S3.same _ _ hev)), atI_nat hex, ka, _, rfl, .inl (SqL.of hka4), fun l5 hl5 => ?_⟩
        refine ⟨l4, l5, _, _, rfl, rfl, Same.upd hl5 _ _ upd_same, upd_same, by rw [List.length_map, List.length_map, sizeLine_eq]; omega, fun l6 hl6 => ?_⟩
        rw [← List.map_append]
        refine ⟨.ref l6, hh ++ ks, rfl, .list (SqL.of upd_same), by rw [List.length_append]; unfold scanBound; omega, fun p7 t7 hp7 nd7 hm7 hl7 => ?_⟩
        rw [List.length_append] at hl7
        refine ⟨p7, t7, rfl, upd_same, by unfold scanBound; omega, fun p8 ys8 hp8 pm8 hs8 => ?_⟩
        obtain rfl := kl_of pm8 hs8 nd7 hm7
        have s38 := ((Same.upd hl4).trans (Same.upd hl5)).trans (((Same.upd hl6).trans (Same.upd hp7)).trans (Same.upd (o := .lst ((kl (hh ++ ks)).map V.str)) hp8))
        have n8 : p8 ∉ [Sb, Fb, Lb] := fun hm => by
          have sx := fun o : HO => ((Same.upd hl4).trans (Same.upd hl5)).trans ((Same.upd hl6).trans (Same.upd (o := o) hp7))
          obtain ⟨us8, hs8, _⟩ := S3.st
          obtain ⟨fv8, _, hf8, _⟩ := S3.fo
          simp only [List.mem_cons, List.not_mem_nil, or_false] at hm
          rcases hm with rfl | rfl | rfl
          · rw [sx _ _ _ hs8] at hp8; cases hp8
          · rw [sx _ _ _ hf8] at hp8; cases hp8
          · rw [sx _ _ _ hl3] at hp8; cases hp8
        have kx8 := upd_at (o := .lst ((kl (hh ++ ks)).map V.str)) hp8
        generalize upd _ p8 (.lst ((kl (hh ++ ks)).map V.str)) = H8 at s38 kx8 ⊢
        have S8 := S3.keep s38
        have hl8 := s38 _ _ hl3
        refine ⟨Lb, lv3, _, rfl, rfl, hl8, by rw [Paired.length pl3, ll3, sizeLine_eq]; omega, ?_⟩
        exact ⟨ls2, _, _, _, _, _, _, rfl, S8.fin hl8 (by simp) nL.symm nFL.symm HL ⟨p8, rfl, kx8, n8⟩ ⟨kl_kl _, fun y hy => by
          rcases List.mem_append.mp (kl_mem.mp hy) with h | h
          · exact (G4_in hh4).1 y h
          · exact one.2 y h⟩, by omega⟩
    · rw [decide_eq_false hd]
      have e : d = ls.length := by omega
      subst e
      refine iteF ⟨_, rfl, _, rfl, by show 2 ≤ sizeLine; decide, fun t9 ht9 => ?_⟩
      have s9 : Same H1 (upd H1 t9 (.tup [.ref Fb, .ref Lb])) := Same.upd ht9
      refine k t9 Rf Ls _ (S.same.trans s9) ⟨Fb, Lb, fv, lv, upd_same, s9 _ _ hf, L2.Paired.mapP pf fun _ _ ⟨a, e, _, vs, e1, e2⟩ => ⟨a, vs, e, s9 _ _ e1, L2.Paired.mapP e2 fun _ _ ⟨b, kv, f1, f2, f3, _⟩ => ⟨b, kv, f1, s9 _ _ f2, s9 _ _ f3⟩⟩, s9 _ _ hl, L2.Paired.mapP pl fun _ _ ⟨a, e1, e2, _⟩ => ⟨a, e1, s9 _ _ e2⟩⟩ ⟨fun q hq => ?_, gl, by omega, by have := S.pos; omega, by omega⟩
      rw [lf]
      exact gf q hq
end
end Kx

/-! list(text) -/
namespace Own
open PySem PySem.Spec L2 PyProof.Rows PySem.Froz
def rListX : List V → Hp → VK → Prop := fun vs H Q => ∃ y : Str, vs = [.str y] ∧ y.cps.size ≤ sizeLine ∧ ∀ p : Addr, H p = none → Q (.ref p) (upd H p (.lst ((letters y).map V.str)))
theorem cr_listX {X : Cx} (hc : X.calm = true) : CallR X (.type "list") rListX := by
  intro pins s σ H vs us Q I r h
  obtain ⟨y, rfl, hz, q⟩ := h
  obtain ⟨u, rfl, t, rfl⟩ := vals1 r
  refine call_list_str (I.ok.hd hc) y t (fun h' tk acc c k g it => ?_) hz
  have lz : ((letters y).map V.str).length ≤ sizeLine := by rw [List.length_map]; unfold letters; rw [List.length_map, Array.length_toList]; exact hz
  exact ⟨.ref s.heap.objs.size, _, I.laid (t' := tk) k (Nat.le_refl _) (show ObjOk X.prog X.w _ h' _ (.lst _) from ⟨lz, acc.toList, c, vals_of_strs (items_letters it), by simpa using g⟩), rfl, q _ (I.hok.fresh (Nat.le_refl _))⟩
end Own

namespace Kx
open PySem L2 Own PinX DicN
abbrev s_law : Stmt := top 51
structure FiAd where
  ff : Addr
  df : FuncData
  fb : Addr
  db : FuncData
  cb : Addr
  Pb : Addr
  fs : Addr
  ds : FuncData
  fk : Addr
  dk : FuncData
  fp : Addr
  dp : FuncData
  cp : Addr
  Pp : Addr
  ft : Addr
  dt : FuncData
  fw : Addr
  dw : FuncData
  fu : Addr
  du : FuncData
  fc : Addr
  dc : FuncData
  fl : Addr
  dl : FuncData
structure TxtW (K : PySem.W.Frag) (mg : Str → Option Value) (base : Heap) (N : List NdefX.NTab) (A : EAd) (B : MAd) (Z : CAd) (S : SAd) (U : Addr) (L : LAd) (F : FiAd) (f : Addr) (d : FuncData) : Prop where
  M : TxtM K mg B
  E : TxtE K mg A
  C : TxtC K mg Z
  S : TxtS K mg A Z S
  Ch : TxtCh K mg L F.fc F.dc
  L : TxtL K mg L
  Ft : TxtFt K mg F.ff F.df
  Pb : TxtPb K mg base N F.fb F.db F.cb F.Pb
  Cs : TxtCs K mg A U F.fs F.fk F.ds F.dk
  Pa : TxtPa K mg base N F.fp F.dp F.cp F.Pp
  To : TxtTo K mg U F.ft F.dt
  Fp : TxtFp K mg F.fw F.dw
  Tu : DefT K mg "_law_turned" "_law_turned" s__law_turned ["signs", "mates", "tables"] F.fu F.du
  La : TxtLa K mg F.fl F.dl
  D_law : DefT K mg "law" "law" s_law ["script"] f d
  n_range : mg "range" = none
  n_min : mg "min" = none
  n_len : mg "len" = none
  n_list : mg "list" = none
theorem one_left12 {sg : Str} (z3 : sg.cps.size ≤ 3) : (("abcd" : Str).cps.toList.filter fun c => !decide (c ∈ sg.cps.toList)) ≠ [] := fun h => by
  have all : ∀ c ∈ ("abcd" : Str).cps.toList, c ∈ sg.cps.toList := fun c hc => by
    have := List.filter_eq_nil_iff.mp h c hc
    simpa using this
  have := nd_sub_len (show ("abcd" : Str).cps.toList.Nodup by decide +kernel) all
  have e : ("abcd" : Str).cps.toList.length = 4 := rfl
  rw [e, Array.length_toList] at this
  omega
def txL (m : List Nat) : Str := ⟨m.toArray⟩
theorem ixAt9 {n j : Nat} (hj : j < n) : ixN n (j : Int) = some j := by
  have h : (j : Int) < n := Int.ofNat_lt.mpr hj
  simp only [ixN, Int.natCast_nonneg, if_true, h, Int.toNat_natCast]
theorem cut_perm9 {α : Type} {x : α} : ∀ {xs : List α} {i : Nat}, xs[i]? = some x → (x :: xs.eraseIdx i).Perm xs
  | [], i, h => by cases i <;> cases h
  | a :: r, 0, h => by
    have e : a = x := Option.some.inj h
    subst e
    exact .refl _
  | a :: r, i + 1, h => by
    have ih := cut_perm9 (xs := r) (i := i) h
    exact (List.Perm.swap a x _).trans (ih.cons a)
theorem cut_map9 {α β : Type} (g : α → β) : ∀ (xs : List α) (i : Nat), (xs.map g).eraseIdx i = (xs.eraseIdx i).map g
  | [], _ => rfl
  | _ :: _, 0 => rfl
  | a :: r, i + 1 => congrArg (g a :: ·) (cut_map9 g r i)
theorem str_tl9 {x y : Str} (h : TL.tl x = TL.tl y) : x = y := by
  have e : x.cps = y.cps := Array.toList_inj.mp h
  cases x; cases y
  exact congrArg Str.mk e
theorem txL_snoc (m : List Nat) (x : Nat) : txL m ++ Froz.sing x = txL (m ++ [x]) := by
  refine str_tl9 ?_
  rw [TL.tl_append]
  rfl
theorem cut_to {xs : List Str} (k : Nat) : cutV (xs.map V.str) none (some (k : Int)) = (xs.take k).map V.str := by
  unfold cutV
  rw [HT.sIx_none, HT.sIx_nat, List.drop_zero, Nat.sub_zero, List.map_take]
  by_cases h : k ≤ (xs.map V.str).length
  · rw [Nat.min_eq_left h]
  · rw [Nat.min_eq_right (by omega), List.take_of_length_le (Nat.le_refl _), List.take_of_length_le (by omega)]
theorem TabAt.still {H H' : Hp} {p c n : _} {t : Addr} {R : List (List Way)} {Es : List (List Str)} (hp : PenAt H p c n) (s : Still p H H') (h : TabAt H t R Es) : TabAt H' t R Es := by
  obtain ⟨r, e, rv, ev, h1, h2, h3, h4, h5⟩ := h
  exact ⟨r, e, rv, ev, s.tup hp h1, s.lst hp h2, L2.Paired.mapP h3 fun _ _ z => rowE_still hp s z, s.lst hp h4, L2.Paired.mapP h5 fun _ _ z => keyE_still hp s z⟩
section
variable {z n : Nat} {sg : Str} {R : List (List Way)} {Es : List (List Str)}
theorem Good.keys (G : Good z n R Es) : ∀ y ∈ keysOfRows R ++ Es.flatten, y ∈ W2 := fun y hy => by
  rcases List.mem_append.mp hy with hy | hy
  · obtain ⟨q, hq, hy⟩ := List.mem_flatMap.mp hy
    obtain ⟨w, hw, hy⟩ := List.mem_flatMap.mp hy
    exact ((G.row q hq).2 w hw).2.2 y hy
  · obtain ⟨ks, hks, hy⟩ := List.mem_flatten.mp hy
    exact (G.fin ks hks).2 y hy
theorem Good.few (G : Good z n R Es) : (kl (keysOfRows R ++ Es.flatten)).length ≤ 12 := Nat.le_trans (nd_sub_len (m := W2) (kl_nodup _) fun y hy => G.keys y (kl_mem.mp hy)) (by decide)
theorem Good.nrm (G : Good z n R Es) : R.map nrm = R := map_same fun q hq => nrm_same fun w hw => ((G.row q hq).2 w hw).2.1
theorem Good.nke (G : Good z n R Es) : Es.map kl = Es := map_same fun ks hks => (G.fin ks hks).1
theorem Good.four (G : Good z n R Es) : ∀ q ∈ R, q.length = z ∧ ∀ w ∈ q, Okw R.length w ∧ w.2.length ≤ 4 := fun q hq => ⟨(G.row q hq).1, fun w hw => ⟨((G.row q hq).2 w hw).1, Nat.le_trans ((G.row q hq).2 w hw).2.two (by decide)⟩⟩
theorem Good.efour (G : Good z n R Es) : ∀ ks ∈ Es, ks.length ≤ 4 := fun ks hks => Nat.le_trans (G.fin ks hks).two (by decide)
theorem Good.full (G : Good z n R Es) (e : sg.cps.size = z) (nd : sg.cps.toList.Nodup) (z4 : z ≤ 4) (n16 : n ≤ 16) : Full sg R Es :=
  full_of nd (by omega) (by rw [e]; exact G.four) (Nat.le_trans G.le n16) G.pos G.ee G.efour
theorem Good.fewK (G : Good z n R Es) (e : sg.cps.size = z) (nd : sg.cps.toList.Nodup) (z4 : z ≤ 4) (n16 : n ≤ 16) : FewK sg R Es := by
  refine ⟨G.full e nd z4 n16, Nat.le_trans G.le n16, fun i c => ?_, fun i => ?_⟩
  · have nil : (([] : List Str)).length ≤ 4 ∧ ∀ y ∈ ([] : List Str), y ∈ W2 := ⟨by decide, fun y hy => nomatch hy⟩
    show (acc1 sg R (i, []) c).2.length ≤ 4 ∧ ∀ y ∈ (acc1 sg R (i, []) c).2, y ∈ W2
    unfold acc1
    cases h : stepW sg R i c with
    | none => exact nil
    | some w =>
      dsimp only
      rw [List.nil_append]
      unfold stepW at h
      obtain ⟨j, _, h⟩ := Option.bind_eq_some_iff.mp h
      obtain ⟨q, hq, h⟩ := Option.bind_eq_some_iff.mp h
      have := (G.row q (List.mem_of_getElem? hq)).2 w (List.mem_of_getElem? h)
      exact ⟨Nat.le_trans this.2.two (by decide), this.2.2⟩
  · rw [List.getD_eq_getElem?_getD]
    cases h : Es[i]? with
    | none => exact ⟨by decide, fun y hy => nomatch hy⟩
    | some ks =>
      have := G.fin ks (List.mem_of_getElem? h)
      exact ⟨Nat.le_trans this.two (by decide), this.2⟩
end
theorem none_of {cs : List Nat} {Pp : List Nat → Prop} {r : Option (List Nat)} (h : Fst.IsMin cs Pp r) (no : ∀ t, ¬ Pp t) : r = none := by
  cases r with
  | none => rfl
  | some u => exact absurd h.2.1 (no u)
theorem min_nones {cs cs' : List Nat} {Pp Pp' : List Nat → Prop} {r r' : Option (List Nat)} (h : Fst.IsMin cs Pp r) (h' : Fst.IsMin cs' Pp' r') (e : ∀ t, (Fst.Of cs t ∧ Pp t) ↔ (Fst.Of cs' t ∧ Pp' t)) : Fst.resV r = V.non ↔ Fst.resV r' = V.non := by
  cases r with
  | none =>
    cases r' with
    | none => exact Iff.rfl
    | some u => exact absurd ((e u).mpr ⟨h'.1, h'.2.1⟩).2 (h u ((e u).mpr ⟨h'.1, h'.2.1⟩).1)
  | some u =>
    cases r' with
    | none => exact absurd ((e u).mp ⟨h.1, h.2.1⟩).2 (h' u ((e u).mp ⟨h.1, h.2.1⟩).1)
    | some u' => exact ⟨fun z => (by cases z), fun z => (by cases z)⟩
theorem scal_res (r : Option (List Nat)) : scal (Fst.resV r) (Fst.resV r) = true := by cases r <;> rfl
def spLaw (K : PySem.W.Frag) (N : List NdefX.NTab) : Sp := fun vs H Q _ => ∃ (a : Addr) (ns : List Int), vs = [.ref a] ∧ SqL K H a (ns.map V.int) ∧ ns.length ≤ 63 ∧ NdefX.TabsN N H ∧ ∀ H', Q (.bl true) H'
abbrev Nlaw : List Str := ["script", "pen", "turn", "signs", "mates", "left", "one", "sort", "other", "first", "second", "due", "back", "letters", "strange", "letter", "sign"]
theorem sc_law : FnScope Nlaw ["script"] (defScope s_law) := ⟨rfl, rfl, rfl, by decide +kernel, rfl, by decide +kernel, by decide +kernel⟩
section
variable {P : Program} {w : World} {K : PySem.W.Frag} {mg : Str → Option Value} {base : Heap} {N : List NdefX.NTab} {A : EAd} {B : MAd} {Z : CAd} {S : SAd} {U : Addr} {L : LAd} {F : FiAd} {f : Addr} {d : FuncData}
theorem ok_law (T : TxtW K mg base N A B Z S U L F f d) : FnOk P w K mg base CX0 11 f d ["script"] (spLaw K N) := by
  have sc := sc_law
  have G_pen : FnOk P w K mg base CX0 1 L.p1 L.q1 ["script"] (spPen K) := ok_pen T.L.pen
  have G_draw : FnOk P w K mg base CX0 1 L.p2 L.q2 ["pen", "many"] spDraw := ok_draw T.L.pen
  have G_signs : FnOk P w K mg base CX0 2 L.f1 L.d1 ["pen", "many"] spSigns := ok_signs T.L
  have G_tables : FnOk P w K mg base CX0 4 L.f3 L.d3 ["pen", "signs", "most", "words"] spTables := ok_tables T.L
  have G_init : FnOk P w K mg base (L2.CX P w) 5 Z.f Z.d ["self", "signs", "rows", "ends"] (spInit K A Z) := ok_init T.M T.E T.C
  have G_changed : FnOk P w K mg base CX0 4 F.fc F.dc ["pen", "tables"] spChanged := ok_changed T.Ch
  have G_later : FnOk P w K mg base CX0 1 F.fl F.dl ["tables"] spLater := ok_later T.La
  have G_turned : FnOk P w K mg base CX0 1 F.fu F.du ["signs", "mates", "tables"] spTurn := ok_turned T.Tu
  have G_fp : FnOk P w K mg base CX0 1 F.fw F.dw ["signs", "one", "mates", "other"] spFp := ok_fp T.Fp
  have G_told : FnOk P w K mg base CX0 10 F.ft F.dt ["one", "other"] (spToldP Z N) := ok_toldP T.M T.E T.C T.S T.Ft T.Pb T.Cs T.Pa T.To
  refine T.D_law.F.ok sc (fun vs H Q E h => ?_) (fun cdv A1 outer s H vs Q E hr h => ?_)
  · obtain ⟨_, _, rfl, _⟩ := h; rfl
  · obtain ⟨sa, ns, rfl, hS, hl, hT, kQ⟩ := h
    refine ⟨_, (pss_cons (ps_set (i := 1) sc.nd rfl (Or.inl rfl) (pe_call G_pen (hr.mono (by decide)) rfl T.L.pen.D__law_pen.g T.L.pen.D__law_pen.F.kp T.L.pen.D__law_pen.b .nil pass0 (pa_cons (pv 0) pa_nil)))
      (pss_cons (ps_for PassesOwn.never rfl (pi_range1 rfl T.n_range (pa_cons (pe_op op_add pe_int (pe_callB (call_min2 rfl) (by rfl) T.n_min (by decide +kernel) (pa_cons pe_int (pa_cons (pe_callB call_len (by rfl) T.n_len (by decide +kernel) (pa_cons (pv 0) pa_nil)) pa_nil)))) pa_nil)) (pg_name (i := 2) sc.nd rfl (Or.inl rfl))
      (pss_cons (ps_asg (pe_tup (pa_cons (pe_call G_signs (hr.mono (by decide)) rfl T.L.D__law_signs.g T.L.D__law_signs.F.kp T.L.D__law_signs.b .nil pass0 (pa_cons (pv 1) (pa_cons (pe_op op_add pe_int (pe_call G_draw (hr.mono (by decide)) rfl T.L.pen.D__law_draw.g T.L.pen.D__law_draw.F.kp T.L.pen.D__law_draw.b .nil pass0 (pa_cons (pv 1) (pa_cons pe_int pa_nil)))) pa_nil))) (pa_cons pe_str pa_nil))) (pg_tup rfl (pgs_cons (pg_name (i := 3) sc.nd rfl (Or.inr rfl)) (pgs_cons (pg_name (i := 4) sc.nd rfl (Or.inl rfl)) pgs_nil))))
      (pss_cons (ps_set (i := 5) sc.nd rfl (Or.inl rfl) (pe_callTy (cr_listX rfl) (by rfl) T.n_list (by decide +kernel) (pa_cons (pv 3) pa_nil)))
      (pss_cons (ps_while PassesOwn.never (pt_cmpR (op_neD hr.units) (pv 5) (pe_lst pa_nil) (nomark _)) (pss_one (ps_set (i := 4) sc.nd rfl (Or.inl rfl) (pe_op op_add_str (pv 4) (pe_bm PySem.F.plainAttrs_list PySem.F.slot_list_pop PySem.F.type_list_pop mt_popAt (pv 5) (pa_cons (pe_call G_draw (hr.mono (by decide)) rfl T.L.pen.D__law_draw.g T.L.pen.D__law_draw.F.kp T.L.pen.D__law_draw.b .nil pass0 (pa_cons (pv 1) (pa_cons (pe_callB call_len (by rfl) T.n_len (by decide +kernel) (pa_cons (pv 5) pa_nil)) pa_nil))) pa_nil))))))
      (pss_cons (ps_par (i := 6) (j := 7) rfl sc.nd rfl rfl (by decide) rfl rfl (pa_cons (pe_call G_tables (hr.mono (by decide)) rfl T.L.D__law_tables.g T.L.D__law_tables.F.kp T.L.D__law_tables.b .nil pass0 (pa_cons (pv 1) (pa_cons (pv 3) (pa_cons pe_int (pa_cons (pe_slice sl_list (pe_lst (pa_cons pe_str (pa_cons pe_str pa_nil))) po_none (po_some (pe_op op_add pe_int (pe_call G_draw (hr.mono (by decide)) rfl T.L.pen.D__law_draw.g T.L.pen.D__law_draw.F.kp T.L.pen.D__law_draw.b .nil pass0 (pa_cons (pv 1) (pa_cons pe_int pa_nil)))))) pa_nil))))) (pa_cons (pe_call G_draw (hr.mono (by decide)) rfl T.L.pen.D__law_draw.g T.L.pen.D__law_draw.F.kp T.L.pen.D__law_draw.b .nil pass0 (pa_cons (pv 1) (pa_cons pe_int pa_nil))) pa_nil)) rfl)
      (C8.pss_cut (ps_set (i := 8) sc.nd rfl (Or.inl rfl) (pe_ifExp (pt_cmpR op_eq (pv 7) pe_int (nomark _)) (pe_call G_tables (hr.mono (by decide)) rfl T.L.D__law_tables.g T.L.D__law_tables.F.kp T.L.D__law_tables.b .nil pass0 (pa_cons (pv 1) (pa_cons (pv 3) (pa_cons pe_int (pa_cons (pe_lst (pa_cons pe_str (pa_cons pe_str pa_nil))) pa_nil))))) (pe_call G_changed (hr.mono (by decide)) rfl T.Ch.D__law_changed.g T.Ch.D__law_changed.F.kp T.Ch.D__law_changed.b .nil pass0 (pa_cons (pv 1) (pa_cons (pv 6) pa_nil)))))
      (C8.pss_cut (ps_set (i := 8) sc.nd rfl (Or.inl rfl) (pe_ifExp (PW.pt (pw_and (pt_cmpR op_eq (pv 7) pe_int (nomark _)) (pw_and1 (pt_cmpR op_eq (pe_call G_draw (hr.mono (by decide)) rfl T.L.pen.D__law_draw.g T.L.pen.D__law_draw.F.kp T.L.pen.D__law_draw.b .nil pass0 (pa_cons (pv 1) (pa_cons pe_int pa_nil))) pe_int (nomark _))))) (pe_call G_later (hr.mono (by decide)) rfl T.La.D__law_later.g T.La.D__law_later.F.kp T.La.D__law_later.b .nil pass0 (pa_cons (pv 6) pa_nil)) (pv 8)))
      (pss_cons (ps_set (i := 8) sc.nd rfl (Or.inl rfl) (pe_call G_turned (hr.mono (by decide)) rfl T.Tu.g T.Tu.F.kp T.Tu.b .nil pass0 (pa_cons (pv 3) (pa_cons (pv 4) (pa_cons (pv 8) pa_nil)))))
      (pss_cons (ps_par (i := 9) (j := 10) rfl sc.nd rfl rfl (by decide) rfl rfl (pa_cons (pe_make T.C.make G_init (hr.mono (by decide)) rfl T.C.g T.C.b .nil (passX0 fun _ _ _ h => h) (pa_cons (pv 3) (pa_cons (pe_ix ix_tup (pv 6) pe_int (fun _ _ => rfl)) (pa_cons (pe_ix ix_tup (pv 6) pe_int (fun _ _ => rfl)) pa_nil)))) (pa_cons (pe_make T.C.make G_init (hr.mono (by decide)) rfl T.C.g T.C.b .nil (passX0 fun _ _ _ h => h) (pa_cons (pv 4) (pa_cons (pe_ix ix_tup (pv 8) pe_int (fun _ _ => rfl)) (pa_cons (pe_ix ix_tup (pv 8) pe_int (fun _ _ => rfl)) pa_nil)))) pa_nil)) rfl)
      (pss_cons (ps_set (i := 11) sc.nd rfl (Or.inl rfl) (pe_call G_fp (hr.mono (by decide)) rfl T.Fp.D__law_first_parted.g T.Fp.D__law_first_parted.F.kp T.Fp.D__law_first_parted.b .nil pass0 (pa_cons (pv 3) (pa_cons (pv 6) (pa_cons (pv 4) (pa_cons (pv 8) pa_nil))))))
      (pss_cons (ps_if (PW.pt (pw_or (pt_cmpR op_ne (pe_call G_told (hr.mono (by decide)) rfl T.To.D__law_told.g T.To.D__law_told.F.kp T.To.D__law_told.b .nil pass0 (pa_cons (pv 9) (pa_cons (pv 10) pa_nil))) (pv 11) (nomark _)) (pw_or1 (pt_cmpR op_notN (pe_call G_told (hr.mono (by decide)) rfl T.To.D__law_told.g T.To.D__law_told.F.kp T.To.D__law_told.b .nil pass0 (pa_cons (pv 9) (pa_cons (pv 9) pa_nil))) pe_non (nomark _))))) (pss_one (ps_ret pe_bl)) pss_nil)
      (pss_cons (ps_set (i := 12) sc.nd rfl (Or.inl rfl) (pe_call G_fp (hr.mono (by decide)) rfl T.Fp.D__law_first_parted.g T.Fp.D__law_first_parted.F.kp T.Fp.D__law_first_parted.b .nil pass0 (pa_cons (pv 4) (pa_cons (pv 8) (pa_cons (pv 3) (pa_cons (pv 6) pa_nil))))))
      (pss_cons (ps_if (PW.pt (pw_or (pt_cmpR op_ne (pe_call G_told (hr.mono (by decide)) rfl T.To.D__law_told.g T.To.D__law_told.F.kp T.To.D__law_told.b .nil pass0 (pa_cons (pv 10) (pa_cons (pv 9) pa_nil))) (pv 12) (nomark _)) (pw_or1 (pt_cmpR op_ne (pe_cmpR op_isN (pv 12) pe_non (nomark _)) (pe_cmpR op_isN (pv 11) pe_non (nomark _)) (nomark _))))) (pss_one (ps_ret pe_bl)) pss_nil)
      (pss_cons (ps_set (i := 13) sc.nd rfl (Or.inl rfl) (pe_op op_add_str (pv 3) (pe_ix ix_list (pe_lc (own := [("letter", 15)]) (g := gName 15)  (te := tVar 15) rfl sc.nd (pi_str pe_str) (blkOk_by (N := Nlaw) (sc := defScope s_law) (own := [("letter", 15)]) (by decide +kernel)) (fun _ _ _ _ _ => (pg_name (i := 15) sc.nd rfl (Or.inl rfl))) (fun _ _ _ _ _ => pts_one (pt_cmpR op_notIn_sign (pv 15) (pv 3) (by rfl))) (fun _ _ _ _ _ => pv 15)) pe_int (fun _ _ => rfl))))
      (pss_cons (ps_set (i := 14) sc.nd rfl (Or.inl rfl) (pe_make T.C.make G_init (hr.mono (by decide)) rfl T.C.g T.C.b .nil (passX0 fun _ _ _ h => h) (pa_cons (pv 13) (pa_cons (pe_lst (pa_cons (pe_lc (own := [("sign", 16)]) (g := gName 16) (tt := tYes) (te := tTup (tCons (tC (.int 0)) (tCons (tLst tNil) tNil))) rfl sc.nd (pi_str (pv 13)) (blkOk_by (N := Nlaw) (sc := defScope s_law) (own := [("sign", 16)]) (by decide +kernel)) (fun _ _ _ _ _ => (pg_name (i := 16) sc.nd rfl (Or.inl rfl))) (fun _ _ _ _ _ => pts_nil) (fun _ _ _ _ _ => (pe_tup (pa_cons pe_int (pa_cons (pe_lst pa_nil) pa_nil))))) pa_nil)) (pa_cons (pe_lst (pa_cons (pe_lst pa_nil) pa_nil)) pa_nil)))))
      (pss_one (ps_if (PW.pt (pw_or (pt_cmpR op_ne (pe_call G_told (hr.mono (by decide)) rfl T.To.D__law_told.g T.To.D__law_told.F.kp T.To.D__law_told.b .nil pass0 (pa_cons (pv 9) (pa_cons (pv 14) pa_nil))) pe_str (nomark _)) (pw_or1 (pt_cmpR op_ne (pe_call G_told (hr.mono (by decide)) rfl T.To.D__law_told.g T.To.D__law_told.F.kp T.To.D__law_told.b .nil pass0 (pa_cons (pv 14) (pa_cons (pv 9) pa_nil))) pe_str (nomark _))))) (pss_one (ps_ret pe_bl)) pss_nil)))))))))))))))))
      (pss_one (ps_ret pe_bl)))), ?_⟩
    refine ⟨_, rfl, sa, ns, rfl, hS, hl, fun p c H1 hp s1 pen1 => ?_⟩
    have hS1 := s1.seq hS
    have T1 : NdefX.TabsN N H1 := hT.ext s1
    refine ⟨_, rfl, .ref sa, ns.length, rfl, .inl ⟨_, hS1, by rw [List.length_map]⟩, _, _, rfl, _, _, rfl, rfl, ?_⟩
    have hm0 : 0 ≤ (if (ns.length : Int) < 4 then (ns.length : Int) else 4) ∧ (if (ns.length : Int) < 4 then (ns.length : Int) else 4) ≤ 4 := by
      split <;> omega
    generalize (if (ns.length : Int) < 4 then (ns.length : Int) else 4) = m at hm0 ⊢
    refine ⟨_, rfl, by omega, by omega, ?_⟩
    clear hS1 s1 hT hS
    refine for_range (lo := 0) (n := (3 + m).toNat) (fun i σ H' => (∃ o2 o3 o4 o5 o6 o7 o8 o9 o10 o11 o12 o13 o14 : Option V, σ = [some (.ref sa), some (.ref p), o2, o3, o4, o5, o6, o7, o8, o9, o10, o11, o12, o13, o14, none, none]) ∧ PenAt H' p c (2000 * i) ∧ NdefX.TabsN N H') ⟨⟨none, none, none, none, none, none, none, none, none, none, none, none, none, rfl⟩, pen1, T1⟩ ?_ ?_
    · rintro i σ H2 hi ⟨⟨o2, o3, o4, o5, o6, o7, o8, o9, o10, o11, o12, o13, o14, rfl⟩, pen2, T2⟩
      refine ⟨_, rfl, _, rfl, p, c, 3, 2000 * i, rfl, pen2, by omega, by decide, by decide, fun r H3 r0 r1 pen3 sb3 => ?_⟩
      obtain ⟨r, rfl⟩ := Int.eq_ofNat_of_zero_le r0
      refine ⟨_, _, rfl, rfl, p, c, 1 + r, 2000 * i + 1, by rw [Int.natCast_add]; rfl, pen3, by omega, by omega, fun sg H4 zs nd al pen4 sb4 => ?_⟩
      refine ⟨by show 2 ≤ sizeLine; decide, fun t0 ht0 => ?_⟩
      refine ⟨t0, _, rfl, SqT.of upd_same, rfl, _, _, rfl, _, _, rfl, rfl, ?_⟩
      have z3 : sg.cps.size ≤ 3 := by omega
      have z1 : 1 ≤ sg.cps.size := by omega
      have pen5 : PenAt (upd H4 t0 (.tup [.str sg, .str ""])) p c (2000 * i + 10) := (pen4.keep (Same.upd ht0)).mono (by omega)
      have sb5 : SameBut p H2 (upd H4 t0 (.tup [.str sg, .str ""])) := (sb3.trans sb4).trans (.new ht0)
      generalize upd H4 t0 (.tup [.str sg, .str ""]) = H5 at pen5 sb5 ⊢
      clear pen3 pen4 sb3 sb4 ht0
      have lowA : ∀ c ∈ alpha, c < 128 := by decide +kernel
      have low : ∀ c ∈ sg.cps.toList, c < 128 := fun c hc => lowA c (al c hc)
      have ascL : ∀ {q : Str}, (∀ c ∈ q.cps.toList, c < 128) → q.cps.all (· < 128) = true := fun {q} h => by
        rw [← Array.all_toList, List.all_eq_true]
        exact fun x hx => decide_eq_true (h x hx)
      -- mates
      refine ⟨_, rfl, sg, rfl, by rw [sizeLine_eq]; omega, fun l5 hl5 => ?_⟩
      have hl5' : H2 l5 = none := none_back sb5 pen5 hl5
      have ap5 := pen5.apart hl5
      refine ⟨fun m σ H' => ∃ xs ms : List Nat, σ = [some (.ref sa), some (.ref p), some (.int (0 + (i : Nat))), some (.str sg), some (.str (txL ms)), some (.ref l5), o6, o7, o8, o9, o10, o11, o12, o13, o14, none, none] ∧ H' l5 = some (.lst ((xs.map Froz.sing).map V.str)) ∧ xs.length = m ∧ (ms ++ xs).Perm sg.cps.toList ∧ PenAt H' p c (2000 * i + 10 + ms.length) ∧ SameBut p H2 H',
        ⟨_, sg.cps.toList, [], rfl, upd_same, rfl, .refl _, pen5.keep (Same.upd hl5), sb5.trans (.new hl5)⟩, ?_⟩
      rintro m σ H6 ⟨xs, ms, rfl, hxs, lxs, pm, pen6, sb6⟩
      have lsum : ms.length + xs.length = sg.cps.size := by
        have := pm.length_eq
        rw [List.length_append, Array.length_toList] at this
        exact this
      have inx : ∀ x ∈ xs, x ∈ sg.cps.toList := fun x hx => pm.mem_iff.mp (List.mem_append_right _ hx)
      refine ⟨_, rfl, by decide, fun e0 he0 => ?_⟩
      refine ⟨.list ((xs.map Froz.sing).map PyData.str), .list (([] : List Str).map PyData.str), .lst (SqL.of (Same.upd he0 _ _ hxs)) (dp_strs _ _ _), .lst (SqL.of upd_same) .nil, (Sh.list (n := 0) fun x hx => ?_).ok (by decide), (Sh.list (n := 0) fun x hx => by cases hx).ok (by decide), _, rfl, ?_⟩
      · obtain ⟨y, hy, rfl⟩ := List.mem_map.mp hx
        obtain ⟨z, hz, rfl⟩ := List.mem_map.mp hy
        exact Sh.str (low_ok z (low z (inx z hz)))
      rw [eqv_list]
      have pen7 := pen6.keep (Same.upd (o := .lst []) he0)
      have sb7 := sb6.trans (.new (o := .lst []) he0)
      have hx7 := Same.upd (o := .lst []) he0 _ _ hxs
      generalize upd H6 e0 (.lst []) = H7 at pen7 sb7 hx7 ⊢
      clear pen6 sb6 hxs he0
      by_cases cx : xs = []
      case neg =>
        have lp : 0 < xs.length := List.length_pos_iff.mpr cx
        rw [decide_eq_false (fun h => cx (List.map_eq_nil_iff.mp h))]
        refine ⟨fun σ H' => ∃ ys ms' : List Nat, σ = [some (.ref sa), some (.ref p), some (.int (0 + (i : Nat))), some (.str sg), some (.str (txL ms')), some (.ref l5), o6, o7, o8, o9, o10, o11, o12, o13, o14, none, none] ∧ H' l5 = some (.lst ((ys.map Froz.sing).map V.str)) ∧ ys.length + 1 = xs.length ∧ (ms' ++ ys).Perm sg.cps.toList ∧ PenAt H' p c (2000 * i + 10 + ms'.length) ∧ SameBut p H2 H',
          fun σ' H' ⟨ys, ms', z1, z2, z3, z4, z5⟩ => ⟨ys.length, by omega, ys, ms', z1, z2, rfl, z4, z5⟩, ?_⟩
        refine ⟨_, rfl, _, rfl, .inl ⟨rfl, _, SqL.of hx7⟩, _, rfl, _, rfl, .ref l5, xs.length, rfl, .inl ⟨_, SqL.of hx7, by rw [List.length_map, List.length_map]⟩, p, c, _, _, rfl, pen7, by omega, by omega, by omega, fun r8 H8 r80 r81 pen8 sb8 => ?_⟩
        obtain ⟨r8, rfl⟩ := Int.eq_ofNat_of_zero_le r80
        have hx8 := sb8 _ _ hx7 (pen7.ne hx7)
        have rl8 : r8 < xs.length := by omega
        have hv : xs[r8]? = some xs[r8] := List.getElem?_eq_getElem rl8
        have hv2 : ((xs.map Froz.sing).map V.str)[r8]? = some (V.str (Froz.sing xs[r8])) := by rw [List.getElem?_map, List.getElem?_map, hv]; rfl
        have hsq : seqIndex? (r8 : Int) ((xs.map Froz.sing).map V.str).length = some r8 := (ixN_seq (ixAt9 (by rw [List.length_map, List.length_map]; exact rl8))).1
        generalize xs[r8] = x8 at hv hv2
        refine ⟨l5, _, _, r8, _, rfl, rfl, hx8, by omega, by omega, hsq, hv2, ?_⟩
        refine ⟨txL ms, Froz.sing x8, rfl, rfl, by rw [sizeLine_eq]; show ms.length + 1 ≤ _; omega, xs.eraseIdx r8, ms ++ [x8], by rw [txL_snoc]; rfl, ?_, by rw [List.length_eraseIdx, if_pos rl8]; omega, ?_, ?_, fun b o z nb => ?_⟩
        · rw [upd_same, cut_map9, cut_map9]
        · refine List.Perm.trans ?_ pm
          rw [List.append_assoc]
          refine List.Perm.append_left ms ?_
          exact cut_perm9 hv
        · rw [List.length_append]
          exact (pen8.put ap5.1 ap5.2).mono (by show 2000 * i + 10 + ms.length + 1 ≤ 2000 * i + 10 + (ms.length + 1); omega)
        · rw [upd_ne (ne_of_none z hl5')]
          exact sb8 _ _ (sb7 _ _ z nb) nb
      rw [decide_eq_true (by rw [cx]; rfl : xs.map Froz.sing = [])]
      refine ⟨_, rfl, ?_⟩
      subst cx
      rw [List.append_nil] at pm
      generalize hmt : txL ms = mt
      have mtl : mt.cps.toList = ms := by rw [← hmt]; rfl
      have pmt : sg.cps.toList.Perm mt.cps.toList := by rw [mtl]; exact pm.symm
      have penA : PenAt H7 p c (2000 * i + 20) := pen7.mono (by omega)
      clear pen5 sb5 hl5 ap5 pen7 hx7 hmt mtl pm inx lsum lxs hl5'
      -- one, sort
      refine ⟨_, rfl, by show 2 ≤ sizeLine; decide, fun wa hwa => ?_⟩
      have hw : (upd H7 wa (.lst [V.str "x", V.str "y"])) wa = some (.lst (W2.map V.str)) := upd_same
      have penB := penA.keep (Same.upd (o := .lst [V.str "x", V.str "y"]) hwa)
      have sbB := sb7.trans (.new (o := .lst [V.str "x", V.str "y"]) hwa)
      generalize upd H7 wa (.lst [V.str "x", V.str "y"]) = HB at hw penB sbB ⊢
      refine ⟨_, rfl, p, c, 2, _, rfl, penB, by omega, by decide, by decide, fun r2 HC r20 r21 penC sbC => ?_⟩
      obtain ⟨r2, rfl⟩ := Int.eq_ofNat_of_zero_le r20
      have hwC := sbC _ _ hw (penB.ne hw)
      refine ⟨_, _, rfl, rfl, _, rfl, wa, _, rfl, SqL.of hwC, fun wb hwb => ?_⟩
      rw [show (1 + (r2 : Int)) = ((1 + r2 : Nat) : Int) by omega, cut_to]
      have W0 : 0 < (W2.take (1 + r2)).length ∧ (W2.take (1 + r2)).length ≤ 2 := by
        rw [List.length_take]
        show 0 < min (1 + r2) 2 ∧ min (1 + r2) 2 ≤ 2
        omega
      have inW : ∀ y ∈ W2.take (1 + r2), y ∈ W2 := fun y hy => List.mem_of_mem_take hy
      refine ⟨p, c, wb, sg, 3, _, W2.take (1 + r2), rfl, penC.keep (Same.upd hwb), by omega, by omega, by decide, by decide, upd_same, W0.1, by omega, fun t1 re1 ee1 rv1 ev1 R1 E1 many HD m0 m3 ht hrv pR hev pE lR lE gR gE nt nr ne penD sbD => ?_⟩
      have G1 : Good sg.cps.size 3 R1 E1 := ⟨fun q hq => ⟨(gR q hq).1, fun w hw => by
        obtain ⟨h1, h2, h3, h4, h5⟩ := (gR q hq).2 w hw
        exact ⟨⟨h1, by rw [lR]; exact h2⟩, h5, fun y hy => inW y (h3 y hy)⟩⟩, fun ks hks => by
        obtain ⟨h3, h4, h5⟩ := gE ks hks
        exact ⟨h5, fun y hy => inW y (h3 y hy)⟩, by omega, by omega, by omega⟩
      have TA1 : TabAt HD t1 R1 E1 := ⟨re1, ee1, rv1, ev1, ht, hrv, L2.Paired.mapP pR fun _ _ ⟨a, vs, e1, e2, _, k⟩ => ⟨a, vs, e1, e2, L2.Paired.mapP k fun _ _ ⟨b, kv, e3, e4, e5, _⟩ => ⟨b, kv, e3, e4, e5⟩⟩, hev, L2.Paired.mapP pE fun _ _ ⟨a, e1, e2, _⟩ => ⟨a, e1, e2⟩⟩
      have sbD' := ((sbB.trans sbC).trans (.new (o := .lst ((W2.take (1 + r2)).map V.str)) hwb)).trans sbD
      clear pR pE gR gE nt nr ne hwb sbD sbB sbC penC penB hw hwC penA sb7 hwa ht hrv hev lR lE m0 m3
      refine ⟨_, rfl, p, c, 3, _, rfl, penD, by omega, by decide, by decide, fun so HE so0 so1 penE sbE => ?_⟩
      replace TA1 := TA1.still penD (still_but sbE)
      have sbE' := sbD'.trans sbE
      refine ⟨_, _, rfl, ?_⟩
      -- other
      refine ⟨fun σ H' => ∃ (t2 : Addr) (R2 : List (List Way)) (E2 : List (List Str)), σ = [some (.ref sa), some (.ref p), some (.int (0 + (i : Nat))), some (.str sg), some (.str mt), some (.ref l5), some (.ref t1), some (.int so), some (.ref t2), o9, o10, o11, o12, o13, o14, none, none] ∧ PenAt H' p c (2000 * i + 900) ∧ SameBut p H2 H' ∧ TabAt H' t1 R1 E1 ∧ TabAt H' t2 R2 E2 ∧ Good sg.cps.size 3 R2 E2, ?_, ?_⟩
      · refine ⟨_, rfl, rfl, _, rfl, ?_⟩
        rcases Decidable.em (V.int so = V.int 0) with e3 | e3
        · rw [decide_eq_true e3]
          refine iteT ?_
          refine ⟨_, rfl, _, rfl, by show 2 ≤ sizeLine; decide, fun wa hwa => ?_⟩
          refine ⟨p, c, wa, sg, 3, _, W2, rfl, penE.keep (Same.upd hwa), by omega, by omega, by decide, by decide, upd_same, by decide, by decide, fun t2 re1 ee1 rv1 ev1 R2 E2 many HD m0 m3 ht hrv pR hev pE lR lE gR gE nt nr ne penF sbF => ?_⟩
          have sbF' := (SameBut.new (o := .lst [.str "x", .str "y"]) hwa).trans sbF
          refine ⟨t2, R2, E2, rfl, penF.mono (by omega), sbE'.trans sbF', TA1.still penE (still_but sbF'), ⟨re1, ee1, rv1, ev1, ht, hrv, L2.Paired.mapP pR fun _ _ ⟨a, vs, e1, e2, _, k⟩ => ⟨a, vs, e1, e2, L2.Paired.mapP k fun _ _ ⟨b, kv, e3, e4, e5, _⟩ => ⟨b, kv, e3, e4, e5⟩⟩, hev, L2.Paired.mapP pE fun _ _ ⟨a, e1, e2, _⟩ => ⟨a, e1, e2⟩⟩, ⟨fun q hq => ⟨(gR q hq).1, fun w hw => by
            obtain ⟨h1, h2, h3, h4, h5⟩ := (gR q hq).2 w hw
            exact ⟨⟨h1, by rw [lR]; exact h2⟩, h5, h3⟩⟩, fun ks hks => by
            obtain ⟨h3, h4, h5⟩ := gE ks hks
            exact ⟨h5, h3⟩, by omega, by omega, by omega⟩⟩
        · rw [decide_eq_false e3]
          refine iteF ?_
          refine ⟨_, rfl, _, rfl, p, c, t1, _, sg.cps.size, 3, R1, E1, rfl, penE, by omega, TA1, G1, by decide, z1, by omega, fun t2 R2 E2 HF penF sbF TA2 G2 => ?_⟩
          exact ⟨t2, R2, E2, rfl, penF.mono (by omega), sbE'.trans sbF, TA1.still penE (still_but sbF), TA2, G2⟩
      · rintro σ HF ⟨t2, R2, E2, rfl, penF, sbF, TA1F, TA2, G2⟩
        clear TA1 sbE' penE penD sbD'
        refine ⟨fun σ H' => ∃ (t2 : Addr) (R2 : List (List Way)) (E2 : List (List Str)), σ = [some (.ref sa), some (.ref p), some (.int (0 + (i : Nat))), some (.str sg), some (.str mt), some (.ref l5), some (.ref t1), some (.int so), some (.ref t2), o9, o10, o11, o12, o13, o14, none, none] ∧ PenAt H' p c (2000 * i + 910) ∧ SameBut p H2 H' ∧ TabAt H' t1 R1 E1 ∧ TabAt H' t2 R2 E2 ∧ Good sg.cps.size 12 R2 E2, ?_, ?_⟩
        · refine ⟨_, rfl, rfl, _, rfl, ?_⟩
          rcases Decidable.em (V.int so = V.int 2) with e3 | e3
          · rw [decide_eq_true e3]
            refine iteT ?_
            refine ⟨_, rfl, p, c, 2, _, rfl, penF, by omega, by decide, by decide, fun rr HG rr0 rr1 penG sbG => ⟨rfl, _, rfl, ?_⟩⟩
            have TA1G := TA1F.still penF (still_but sbG)
            have TA2G := TA2.still penF (still_but sbG)
            rcases Decidable.em (V.int rr = V.int 0) with e4 | e4
            · rw [decide_eq_true e4]
              refine iteT ?_
              refine ⟨_, rfl, t1, sg.cps.size, R1, E1, rfl, TA1G, G1, by omega, fun t2 R2 E2 HH sH TA2 G2 => ?_⟩
              exact ⟨t2, R2, E2, rfl, (penG.keep sH).mono (by omega), (sbF.trans sbG).trans fun b o z _ => sH _ _ z, TA1G.keep (sameN sH), TA2, G2⟩
            · rw [decide_eq_false e4]
              refine iteF ⟨_, rfl, t2, R2, E2, rfl, penG.mono (by omega), sbF.trans sbG, TA1G, TA2G, G2.wide (by decide)⟩
          · rw [decide_eq_false e3]
            exact iteF (iteF ⟨_, rfl, t2, R2, E2, rfl, penF.mono (by omega), sbF, TA1F, TA2, G2.wide (by decide)⟩)
        · rintro σ HI ⟨t2, R2, E2, rfl, penI, sbI, TA1I, TA2I, G2⟩
          have mtz : mt.cps.size = sg.cps.size := by rw [← Array.length_toList, ← Array.length_toList, pmt.length_eq]
          have ndM : mt.cps.toList.Nodup := pmt.nodup_iff.mp nd
          have lowM : ∀ c ∈ mt.cps.toList, c < 128 := fun c hc => low c (pmt.mem_iff.mpr hc)
          refine ⟨_, rfl, _, rfl, _, rfl, t2, sg, mt, 12, R2, E2, rfl, TA2I, G2, by decide, by omega, fun c hc => pmt.mem_iff.mpr hc, fun t3 HJ sJ TA3 => ?_⟩
          replace G2 := G2.turn (s2 := mt) fun c hc => pmt.mem_iff.mpr hc
          replace TA1I := TA1I.keep (sameN sJ)
          have penJ := penI.keep sJ
          have TJ : NdefX.TabsN N HJ := (tabs_pen pen2 sbI T2).ext sJ
          generalize R2.map (turnW sg mt) = R3 at G2 TA3
          clear penI sbI TA2I TA1F sbF penF TA2 R2 pen2 T2 sJ
          -- the two machines
          obtain ⟨re1, ee1, rv1, ev1, ht1, hr1, pR1, he1, pE1⟩ := id TA1I
          obtain ⟨re2, ee2, rv2, ev2, ht2, hr2, pR2, he2, pE2⟩ := id TA3
          have at1 : ∀ {r e : Addr}, atI ([.ref r, .ref e] : List V) 0 = some (.ref r) := fun {_ _} => atI_nat (j := 0) rfl
          have at2 : ∀ {r e : Addr}, atI ([.ref r, .ref e] : List V) 1 = some (.ref e) := fun {_ _} => atI_nat (j := 1) rfl
          refine ⟨_, rfl, _, rfl, t1, _, 0, _, rfl, rfl, SqT.of ht1, at1, _, rfl, t1, _, 1, _, rfl, rfl, SqT.of ht1, at2, fun a1 dx1 hm1 hdx1 nm1 => ?_⟩
          refine init_okL hm1 hdx1 hr1 (L2.Paired.mapP pR1 fun _ _ z => toRow z) he1 (L2.Paired.mapP pE1 fun _ _ z => toTexts z) (ascL low) (by omega) G1.four (Nat.le_trans G1.le (by decide)) (by rw [G1.ee]; exact Nat.le_trans G1.le (by decide)) G1.efour G1.few fun HK sK ma1 => ⟨rfl, ?_⟩
          rw [G1.nrm, G1.nke] at ma1
          have pR2t : Paired (RowE HK) rv2 R3 := L2.Paired.mapP pR2 fun _ _ z => z.keep sK
          have pE2t : Paired (KeyE HK) ev2 E2 := L2.Paired.mapP pE2 fun _ _ z => z.keep sK
          refine ⟨_, rfl, _, rfl, t3, _, 0, _, rfl, rfl, SqT.of (sK _ _ ht2), at1, _, rfl, t3, _, 1, _, rfl, rfl, SqT.of (sK _ _ ht2), at2, fun a2 dx2 hm2 hdx2 nm2 => ?_⟩
          refine init_okL hm2 hdx2 (sK _ _ hr2) (L2.Paired.mapP pR2t fun _ _ z => toRow z) (sK _ _ he2) (L2.Paired.mapP pE2t fun _ _ z => toTexts z) (ascL lowM) (by omega) G2.four (Nat.le_trans G2.le (by decide)) (by rw [G2.ee]; exact Nat.le_trans G2.le (by decide)) G2.efour G2.few fun HL sL ma2 => ⟨rfl, ?_⟩
          rw [G2.nrm, G2.nke] at ma2
          have sJL : Same HJ HL := fun b o z => sL _ _ (sK _ _ z)
          have ma1L := ma1.keepE (sameN sL)
          have TAl1 := TA1I.keep (sameN sJL)
          have TAl2 := TA3.keep (sameN sJL)
          have penL := penJ.keep sJL
          have TL : NdefX.TabsN N HL := TJ.ext sJL
          clear pR2t pE2t pR1 pR2 pE1 pE2 ht1 ht2 hr1 hr2 he1 he2 hm1 hm2 hdx1 hdx2 nm1 nm2 ma1 sJL sK sL penJ TJ TA1I TA3
          refine ⟨_, _, rfl, ?_⟩
          have K1 : FewK sg R1 E1 := G1.fewK rfl nd (by omega) (by decide)
          have K2 : FewK mt R3 E2 := G2.fewK rfl ndM (by omega) (by decide)
          have lo1 : Low sg := ⟨by omega, low⟩
          have lo2 : Low mt := ⟨by omega, lowM⟩
          have w12 : Two sg mt R1 R3 E1 E2 := ⟨K1.F, K2.F, lo1, lo2, by omega, z1, K1.l16, K2.l16, G1.few, G2.few⟩
          have w21 : Two mt sg R3 R1 E2 E1 := ⟨K2.F, K1.F, lo2, lo1, by omega, by omega, K2.l16, K1.l16, G2.few, G1.few⟩
          have w11 : Two sg sg R1 R1 E1 E1 := ⟨K1.F, K1.F, lo1, lo1, by omega, z1, K1.l16, K1.l16, G1.few, G1.few⟩
          have zl1 : 0 < sg.cps.toList.length := by rw [Array.length_toList]; exact z1
          have zl2 : 0 < mt.cps.toList.length := by rw [Array.length_toList]; omega
          -- due
          refine ⟨_, rfl, _, rfl, _, rfl, _, rfl, t1, t3, sg, mt, R1, R3, E1, E2, rfl, TAl1, TAl2, K1, K2, by omega, fun c hc => pmt.mem_iff.mp hc, fun r1 HM sM st1 => ?_⟩
          have mn1 := min_two K1.F K2.F zl1 st1
          refine ⟨_, rfl, _, rfl, a1, a2, sg, mt, R1, R3, E1, E2, rfl, ma1L.keepE (sameN sM), ma2.keepE (sameN sM), w12, TL.ext sM, fun np => absurd pmt np, fun _ r' HN eN TN mn => ?_⟩
          obtain rfl : r' = r1 := parted_one K1.F K2.F zl1 mn st1
          refine ⟨_, rfl, scal_res _, _, rfl, ?_⟩
          rw [decide_eq_true (rfl : Fst.resV r' = Fst.resV r')]
          have eLN : LamX.ExtN HL HN := (sameN sM).trans eN
          refine iteF ⟨_, rfl, _, rfl, a1, a1, sg, sg, R1, R1, E1, E1, rfl, ma1L.keepE eLN, ma1L.keepE eLN, w11, TN, fun np => absurd (List.Perm.refl _) np, fun _ r0 HO eO TO mn0 => ?_⟩
          obtain rfl : r0 = none := none_of mn0 fun t h => absurd rfl ((parts_iff K1.F K1.F).mp h)
          refine ⟨rfl, _, rfl, iteF ?_⟩
          have eLO := eLN.trans eO
          -- back
          refine ⟨_, rfl, _, rfl, _, rfl, _, rfl, t3, t1, mt, sg, R3, R1, E2, E1, rfl, TAl2.keep eLO, TAl1.keep eLO, K2, K1, by omega, fun c hc => pmt.mem_iff.mpr hc, fun r2 HP sP st2 => ?_⟩
          have mn2 := min_two K2.F K1.F zl2 st2
          have eLP : LamX.ExtN HL HP := eLO.trans (sameN sP)
          refine ⟨_, rfl, _, rfl, a2, a1, mt, sg, R3, R1, E2, E1, rfl, ma2.keepE eLP, ma1L.keepE eLP, w21, TO.ext sP, fun np => absurd pmt.symm np, fun _ r'' HQ eQ TQ mn' => ?_⟩
          obtain rfl : r'' = r2 := parted_one K2.F K1.F zl2 mn' st2
          refine ⟨_, rfl, scal_res _, _, rfl, ?_⟩
          rw [decide_eq_true (rfl : Fst.resV r'' = Fst.resV r'')]
          have eLQ := eLP.trans eQ
          have both : decide (Fst.resV r'' = V.non) = decide (Fst.resV r' = V.non) := decide_eq_decide.mpr (min_nones mn2 mn1 fun t => ⟨fun ⟨h1, h2⟩ => ⟨fun c hc => pmt.mem_iff.mpr (h1 c hc), fun y => h2 y.symm⟩, fun ⟨h1, h2⟩ => ⟨fun c hc => pmt.mem_iff.mp (h1 c hc), fun y => h2 y.symm⟩⟩)
          refine iteF ⟨_, rfl, rfl, _, rfl, rfl, rfl, _, rfl, ?_⟩
          rw [both, decide_eq_true (rfl : V.bl (decide (Fst.resV r' = V.non)) = V.bl (decide (Fst.resV r' = V.non)))]
          refine iteF ?_
          have penQ : PenAt HQ p c (2000 * i + 910) := pen_ext eLQ penL
          have ma1Q := ma1L.keepE eLQ
          clear eLQ eQ eLP sP eLO eO eLN eN sM mn mn' mn0 mn1 mn2 st1 st2 TL TN TO TAl1 TAl2 ma1L ma2 penL w12 w21 w11
          -- strange signs
          refine ⟨_, rfl, "abcd", rfl, fun D33 hD33 => ?_⟩
          refine lcs_it [some (.ref sa), some (.ref p), some (.int (0 + (i : Nat))), some (.str sg), some (.str mt), some (.ref l5), some (.ref t1), some (.int so), some (.ref t3), some (.ref a1), some (.ref a2), some (Fst.resV r'), some (Fst.resV r''), o13, o14, none, none] rfl walk_str
            (fun i2 H' => Same HQ H' ∧ ∃ cs : List Nat, H' D33 = some (.lst ((cs.map Froz.sing).map V.str)) ∧ cs.length ≤ i2 ∧ cs = (("abcd" : Str).cps.toList.take i2).filter fun c => !decide (c ∈ sg.cps.toList)) ⟨Same.upd hD33, [], upd_same, Nat.le_refl _, rfl⟩ (fun _ _ _ _ => trivial) ?_ ?_
          · rintro i2 x _ H33 hi2 ⟨s33, cs, hcs, lc, ecs⟩ ⟨rfl, c3, hc3, rfl⟩
            have hct : ("abcd" : Str).cps.toList[i2]? = some c3 := by rw [Array.getElem?_toList]; exact hc3
            have tk : ("abcd" : Str).cps.toList.take (i2 + 1) = ("abcd" : Str).cps.toList.take i2 ++ [c3] := by rw [List.take_add_one, hct]; rfl
            have i5 : i2 < 4 := hi2
            refine ⟨rfl, _, rfl, _, rfl, c3, sg, rfl, rfl, _, rfl, ?_⟩
            by_cases cm : c3 ∈ sg.cps.toList
            · rw [decide_eq_true cm]
              refine ⟨s33, cs, hcs, by omega, ?_⟩
              have e9 : ([c3] : List Nat).filter (fun c => !decide (c ∈ sg.cps.toList)) = [] := by rw [List.filter_cons, decide_eq_true cm]; rfl
              rw [tk, List.filter_append, ← ecs, e9, List.append_nil]
            · rw [decide_eq_false cm]
              refine ⟨_, rfl, _, hcs, by rw [List.length_map, List.length_map, sizeLine_eq]; omega, fun b o z => ?_, cs ++ [c3], by rw [upd_same, List.map_append, List.map_append]; rfl, by rw [List.length_append]; exact Nat.succ_le_succ lc, ?_⟩
              · rw [upd_ne (ne_of_none z hD33)]
                exact s33 _ _ z
              · have e9 : ([c3] : List Nat).filter (fun c => !decide (c ∈ sg.cps.toList)) = [c3] := by rw [List.filter_cons, decide_eq_false cm]; rfl
                rw [tk, List.filter_append, ← ecs, e9]
          rintro H33 ⟨s33, cs, hcs, lc, ecs⟩
          have ecs' : cs = ("abcd" : Str).cps.toList.filter fun c => !decide (c ∈ sg.cps.toList) := by
            rw [ecs, List.take_of_length_le]
            simp
          obtain ⟨ch5, rest5, ecs5⟩ : ∃ a l, cs = a :: l := by
            cases h : cs with
            | nil => exact absurd (ecs'.symm.trans h) (one_left12 z3)
            | cons a l => exact ⟨a, l, rfl⟩
          have m5 : ch5 ∈ ("abcd" : Str).cps.toList ∧ ch5 ∉ sg.cps.toList := by
            have m5 : ch5 ∈ cs := by rw [ecs5]; exact List.mem_cons_self
            rw [ecs'] at m5
            have := List.mem_filter.mp m5
            exact ⟨this.1, by simpa using this.2⟩
          have hat5 : atI ((cs.map Froz.sing).map V.str) 0 = some (.str (Froz.sing ch5)) := atI_nat (j := 0) (by rw [ecs5]; rfl)
          refine ⟨D33, _, 0, _, rfl, rfl, SqL.of hcs, hat5, _, _, rfl, rfl, by rw [sizeLine_eq]; show sg.cps.size + 1 ≤ _; omega, ?_⟩
          have tlL : (sg ++ Froz.sing ch5).cps.toList = sg.cps.toList ++ [ch5] := TL.tl_append sg (Froz.sing ch5)
          generalize sg ++ Froz.sing ch5 = lt at tlL ⊢
          have ltz : lt.cps.size = sg.cps.size + 1 := by rw [← Array.length_toList, tlL, List.length_append, Array.length_toList, List.length_singleton]
          have ndL : lt.cps.toList.Nodup := by
            rw [tlL, List.nodup_append]
            exact ⟨nd, by simp, fun a ha b hb e => m5.2 (by rw [← List.mem_singleton.mp hb, ← e]; exact ha)⟩
          have lowC : ∀ c ∈ ("abcd" : Str).cps.toList, c < 128 := by decide +kernel
          have lowL : ∀ c ∈ lt.cps.toList, c < 128 := fun c hc => by
            rw [tlL] at hc
            rcases List.mem_append.mp hc with hc | hc
            · exact low c hc
            · rw [List.mem_singleton.mp hc]
              exact lowC _ m5.1
          have chL : ch5 ∈ lt.cps.toList := by rw [tlL]; simp
          have np1 : ¬ sg.cps.toList.Perm lt.cps.toList := fun h => m5.2 (h.mem_iff.mpr chL)
          have np2 : ¬ lt.cps.toList.Perm sg.cps.toList := fun h => m5.2 (h.mem_iff.mp chL)
          -- the strange machine
          refine ⟨_, rfl, _, rfl, lt, rfl, fun D4 hD4 => ?_⟩
          refine lcs_it [some (.ref sa), some (.ref p), some (.int (0 + (i : Nat))), some (.str sg), some (.str mt), some (.ref l5), some (.ref t1), some (.int so), some (.ref t3), some (.ref a1), some (.ref a2), some (Fst.resV r'), some (Fst.resV r''), some (.str lt), o14, none, none] rfl walk_str
            (fun j H' => Same H33 H' ∧ ∃ vs : List V, H' D4 = some (.lst vs) ∧ vs.length = j ∧ Paired (fun v (w : Way) => ∃ b k0, v = V.ref b ∧ H' b = some (.tup [.int w.1, .ref k0]) ∧ H' k0 = some (.lst (w.2.map V.str)) ∧ k0 ≠ D4) vs (List.replicate j ((0 : Int), ([] : List Str)))) ⟨Same.upd hD4, [], upd_same, rfl, .nil⟩ (fun _ _ _ _ => trivial) ?_ ?_
          · rintro j x _ H34 hj ⟨s34, vs, hvs, lvs, pvs⟩ ⟨rfl, cc, hc, rfl⟩
            have hj' : j < lt.cps.size := hj
            refine ⟨rfl, by show 0 ≤ sizeLine; decide, fun kv hkv => ⟨by show 2 ≤ sizeLine; decide, fun a ha => ?_⟩⟩
            have hvs2 := Same.upd (o := .tup [V.int 0, V.ref kv]) ha _ _ (Same.upd (o := .lst []) hkv _ _ hvs)
            have nD : D4 ≠ a := ne_of_none (Same.upd (o := .lst []) hkv _ _ hvs) ha
            have nK : D4 ≠ kv := ne_of_none hvs hkv
            have nA : kv ≠ a := fun z => by rw [← z, upd_same] at ha; cases ha
            refine ⟨_, hvs2, by rw [lvs, sizeLine_eq]; omega, fun b o z => ?_, vs ++ [V.ref a], upd_same, by rw [List.length_append, lvs]; rfl, ?_⟩
            · rw [upd_ne (ne_of_none z hD4)]
              exact Same.upd ha _ _ (Same.upd hkv _ _ (s34 _ _ z))
            · rw [List.replicate_succ']
              refine psnoc (L2.Paired.mapP pvs fun v w ⟨b, k0, e1, e2, e3, e4⟩ => ⟨b, k0, e1, ?_, ?_, e4⟩) ⟨a, kv, rfl, ?_, ?_, nK.symm⟩
              · rw [upd_ne (ne_of e2 hvs (by intro q; cases q))]
                exact Same.upd ha _ _ (Same.upd hkv _ _ e2)
              · rw [upd_ne e4]
                exact Same.upd ha _ _ (Same.upd hkv _ _ e3)
              · rw [upd_ne nD.symm, upd_same]
              · rw [upd_ne nK.symm, upd_ne nA, upd_same]
                rfl
          rintro H34 ⟨s34, vs, hvs, lvs, pvs⟩
          have pvs' : Paired (WayE H34) vs (List.replicate lt.cps.size ((0 : Int), ([] : List Str))) := L2.Paired.mapP pvs fun v w ⟨b, k0, e1, e2, e3, _⟩ => ⟨b, k0, e1, e2, e3⟩
          refine ⟨by show 1 ≤ sizeLine; decide, fun r3 hr3 => ⟨by show 0 ≤ sizeLine; decide, fun e3 he3 => ⟨by show 1 ≤ sizeLine; decide, fun q3 hq3 => ?_⟩⟩⟩
          have h35 : Same H34 (upd (upd (upd H34 r3 (.lst [.ref D4])) e3 (.lst [])) q3 (.lst [.ref e3])) := fun b o z => Same.upd hq3 _ _ (Same.upd he3 _ _ (Same.upd hr3 _ _ z))
          have g1 : (upd (upd (upd H34 r3 (.lst [.ref D4])) e3 (.lst [])) q3 (.lst [.ref e3])) r3 = some (.lst [V.ref D4]) := Same.upd hq3 _ _ (Same.upd he3 _ _ upd_same)
          have g2 : (upd (upd (upd H34 r3 (.lst [.ref D4])) e3 (.lst [])) q3 (.lst [.ref e3])) e3 = some (.lst (([] : List Str).map V.str)) := Same.upd hq3 _ _ upd_same
          have g3 : (upd (upd (upd H34 r3 (.lst [.ref D4])) e3 (.lst [])) q3 (.lst [.ref e3])) q3 = some (.lst [V.ref e3]) := upd_same
          generalize upd (upd (upd H34 r3 (.lst [.ref D4])) e3 (.lst [])) q3 (.lst [.ref e3]) = H35 at h35 g1 g2 g3 ⊢
          intro a3 dx3 hm3 hdx3 nm3
          have knil : kl ([] : List Str) = [] := List.eq_nil_of_length_eq_zero (Nat.le_zero.mp (nd_sub_len (m := []) (kl_nodup _) fun y hy => kl_mem.mp hy))
          have one0 : KOne [] := ⟨knil, fun y hy => nomatch hy⟩
          have G3 : Good lt.cps.size 3 [List.replicate lt.cps.size ((0 : Int), ([] : List Str))] [[]] := ⟨fun q hq => by
            rw [List.mem_singleton.mp hq]
            refine ⟨List.length_replicate, fun u hu => ?_⟩
            rw [(List.mem_replicate.mp hu).2]
            exact ⟨⟨by decide, by show (0 : Int) < ((1 : Nat) : Int); decide⟩, one0⟩, fun ks hks => by rw [List.mem_singleton.mp hks]; exact one0, by show 1 ≤ 3; decide, by show 0 < 1; decide, rfl⟩
          refine init_okL hm3 hdx3 g1 (.cons (toRow ⟨D4, vs, rfl, h35 _ _ hvs, L2.Paired.mapP pvs' fun v w ⟨b, k0, e1, e2, e3⟩ => ⟨b, k0, e1, h35 _ _ e2, h35 _ _ e3⟩⟩) .nil) g3 (.cons (toTexts ⟨e3, rfl, g2⟩) .nil) (ascL lowL) (by omega) G3.four (by show 1 ≤ 16; decide) (by show 1 ≤ 16; decide) G3.efour G3.few fun H36 s36 ma4 => ⟨rfl, ?_⟩
          rw [G3.nrm, G3.nke] at ma4
          have K3 : FewK lt [List.replicate lt.cps.size ((0 : Int), ([] : List Str))] [[]] := G3.fewK rfl ndL (by omega) (by decide)
          have lo3 : Low lt := ⟨by omega, lowL⟩
          have w13 : Two sg lt R1 _ E1 [[]] := ⟨K1.F, K3.F, lo1, lo3, by omega, z1, K1.l16, K3.l16, G1.few, G3.few⟩
          have w31 : Two lt sg _ R1 [[]] E1 := ⟨K3.F, K1.F, lo3, lo1, by omega, by omega, K3.l16, K1.l16, G3.few, G1.few⟩
          have sQ : Same HQ H36 := fun b o z => s36 _ _ (h35 _ _ (s34 _ _ (s33 _ _ z)))
          have T36 := TQ.ext sQ
          have ma1R := ma1Q.keepE (sameN sQ)
          refine ⟨_, rfl, _, rfl, a1, a3, sg, lt, R1, _, E1, [[]], rfl, ma1R, ma4, w13, T36, fun _ H37 e37 T37 => ?_, fun pm => absurd pm np1⟩
          refine ⟨rfl, _, rfl, ?_⟩
          rw [decide_eq_true rfl]
          refine iteF ⟨_, rfl, _, rfl, a3, a1, lt, sg, _, R1, [[]], E1, rfl, ma4.keepE e37, ma1R.keepE e37, w31, T37, fun _ H38 e38 T38 => ?_, fun pm => absurd pm np2⟩
          refine ⟨rfl, _, rfl, ?_⟩
          rw [decide_eq_true rfl]
          refine iteF ?_
          exact ⟨⟨_, _, _, _, _, _, _, _, _, _, _, _, _, rfl⟩, (pen_ext e38 (pen_ext e37 (penQ.keep sQ))).mono (by omega), T38⟩
    · rintro σ H2 ⟨⟨o2, o3, o4, o5, o6, o7, o8, o9, o10, o11, o12, o13, o14, rfl⟩, pen2, T2⟩
      exact kQ _
end
end Kx

namespace Kx
open PySem L2 Own PinX DicN
theorem pairs_one {α β : Type} : ∀ (l : List (α × β)), (l.map (·.1)).Nodup → ∀ {p : α × β} {a : α} {b : β}, p ∈ l → (a, b) ∈ l → p.1 = a → p.2 = b
  | [], _, _, _, _, h, _, _ => nomatch h
  | (c, d) :: l, nd, p, a, b, h, g, e => by
    rw [List.map_cons] at nd
    have n1 := (List.nodup_cons.mp nd).1
    rcases List.mem_cons.mp h with rfl | h
    · rcases List.mem_cons.mp g with g | g
      · cases g; rfl
      · exact absurd (List.mem_map.mpr ⟨(a, b), g, e.symm⟩) n1
    · rcases List.mem_cons.mp g with g | g
      · cases g
        exact absurd (List.mem_map.mpr ⟨p, h, e⟩) n1
      · exact pairs_one l (List.nodup_cons.mp nd).2 h g e
theorem err_mk {K : PySem.W.Frag} {mg : Str → Option Value} {name : Str} {C M : Addr} {nm q : Str} {N : Addr} {bs : List Value} {sn : List Str} {sub : List Value} {ab : Bool} {col : Option Bool} {dd : Option Addr} {m0 m1 m2 m3 m5 : Option Value}
    (g : mg name = some (.ref C)) (xL : K.lookup C = some (excClassObj nm q C N bs (tailM M) true sn sub ab col dd m0 m1 m2 m3 m5 "ValueError.__new__"))
    (sa : PySem.W.findIn K (.ref C) "__setattr__" = some (some (.builtin "object.__setattr__"))) (ga : PySem.W.findIn K (.ref C) "__getattribute__" = some (some (.builtin "BaseException.__getattribute__"))) (gg : PySem.W.findIn K (.ref C) "__getattr__" = some none)
    (ha : PySem.W.findIn K (.ref C) "__class__" = some (some (.builtin "object.__class__"))) (hn : PySem.W.specialIn K (.builtin "object.__class__") "__get__" = some (some (.builtin "getset_descriptor.__get__"))) (ht : PySem.W.takesIn K (.builtin "object.__class__") = some true)
    (kC : PySem.W.keepIn K (.ref C) = true) : ErrC K mg name C M := by
  have hc : PySem.W.clsIn K C = some { name := nm, bases := bs, mro := .ref C :: tailM M, ns := N, qualname := q, hasDict := true, slotNames := sn, subclasses := sub, abstract := ab, collection := col, hasDel := false } := by unfold PySem.W.clsIn; rw [xL] <;> rfl
  have hs : ∀ b : Value, PySem.W.subIn K (.ref C) b = some ((Value.ref C :: tailM M).contains b) := fun b => by
    show PySem.W.mroIn K C b = _
    unfold PySem.W.mroIn
    rw [hc]
    rfl
  have ty : PySem.W.typeIn K (.ref C) = some (.type "type") := by
    show (K.lookup C).map (·.cls) = _
    rw [xL]
    rfl
  have hd : PySem.W.hasDictIn K C = true := by unfold PySem.W.hasDictIn; rw [hc]; rfl
  have eB : PySem.W.subIn K (.ref C) (.type "BaseException") = some true := by rw [hs]; rfl
  have eO : PySem.W.mroIn K C (.type "object") = some true := (hs (.type "object")).trans rfl
  refine ⟨g, ⟨⟨nm, q, N, bs, _, sn, sub, ab, col, dd, m0, m1, m2, m3, m5, xL, by rfl⟩, sa, eB, ty, kC⟩, ⟨ga, gg, eB, hd, ha, hn, ht, eO⟩, by unfold PySem.W.isClsIn; rw [hc]; rfl, hs⟩
theorem kit_M {K : PySem.W.Frag} {t : Value} {C : Addr} (hd : PySem.W.hasDictIn K C = true) (ty : PySem.W.typeIn K (.ref C) = some (.type "type")) (h : PySem.W.subIn K t (.ref C) = some true) : PySem.W.kitOne K t (.ref C) = some true := by
  unfold PySem.W.kitOne
  by_cases c : (t == Value.ref C) = true
  · rw [if_pos c]
  · rw [if_neg c]
    show (if ((PySem.W.clsIn K C).isSome && PySem.W.typeIn K (.ref C) == some (.type "type")) = true then PySem.W.subIn K t (.ref C) else none) = _
    have z : (PySem.W.clsIn K C).isSome = true := by
      unfold PySem.W.hasDictIn at hd
      cases e : PySem.W.clsIn K C with
      | none => rw [e] at hd; cases hd
      | some _ => rfl
    rw [z, ty, if_pos (by rfl), h]
theorem all_mk {l : PySem.W.OpenLaw} {w : World} {K : PySem.W.Frag} {h : Heap} {mg : Str → Option Value} {fa : Addr} (X : K.In h) (G : h.Ns mainGlobals mg) (hfa : mg "law" = some (.ref fa))
    {M : Addr}
    {CBadMachine NBadMachine : Addr} {nmBadMachine qBadMachine : Str} {bsBadMachine subBadMachine : List Value} {snBadMachine : List Str} {abBadMachine : Bool} {colBadMachine : Option Bool} {ddBadMachine : Option Addr} {maBadMachine mbBadMachine mcBadMachine mdBadMachine meBadMachine : Option Value}
    {IBadMachine : Addr} {odiBadMachine aniBadMachine : Option Addr} {sliBadMachine : Array (Option Value)} {ociBadMachine kViBadMachine dciBadMachine pmiBadMachine cdiBadMachine ctiBadMachine : Value}
    {CTooMany NTooMany : Addr} {nmTooMany qTooMany : Str} {bsTooMany subTooMany : List Value} {snTooMany : List Str} {abTooMany : Bool} {colTooMany : Option Bool} {ddTooMany : Option Addr} {maTooMany mbTooMany mcTooMany mdTooMany meTooMany : Option Value}
    {ITooMany : Addr} {odiTooMany aniTooMany : Option Addr} {sliTooMany : Array (Option Value)} {ociTooMany kViTooMany dciTooMany pmiTooMany cdiTooMany ctiTooMany : Value}
    {CBadSign NBadSign : Addr} {nmBadSign qBadSign : Str} {bsBadSign subBadSign : List Value} {snBadSign : List Str} {abBadSign : Bool} {colBadSign : Option Bool} {ddBadSign : Option Addr} {maBadSign mbBadSign mcBadSign mdBadSign meBadSign : Option Value}
    {IBadSign : Addr} {odiBadSign aniBadSign : Option Addr} {sliBadSign : Array (Option Value)} {ociBadSign kViBadSign dciBadSign pmiBadSign cdiBadSign ctiBadSign : Value}
    {CUnlike NUnlike : Addr} {nmUnlike qUnlike : Str} {bsUnlike subUnlike : List Value} {snUnlike : List Str} {abUnlike : Bool} {colUnlike : Option Bool} {ddUnlike : Option Addr} {maUnlike mbUnlike mcUnlike mdUnlike meUnlike : Option Value}
    {CMachine : Addr}
    {fMachine_init : Addr} {odMachine_init anMachine_init : Option Addr} {slMachine_init : Array (Option Value)} {ocMachine_init kVMachine_init dcMachine_init pmMachine_init cdMachine_init ctMachine_init : Value}
    {fMachine_walk : Addr} {odMachine_walk anMachine_walk : Option Addr} {slMachine_walk : Array (Option Value)} {ocMachine_walk kVMachine_walk dcMachine_walk pmMachine_walk cdMachine_walk ctMachine_walk : Value}
    {fis_whole : Addr} {odis_whole anis_whole : Option Addr} {slis_whole : Array (Option Value)} {ocis_whole kVis_whole dcis_whole pmis_whole cdis_whole ctis_whole : Value}
    {fkey_list : Addr} {odkey_list ankey_list : Option Addr} {slkey_list : Array (Option Value)} {ockey_list kVkey_list dckey_list pmkey_list cdkey_list ctkey_list : Value}
    {fcheck_ways : Addr} {odcheck_ways ancheck_ways : Option Addr} {slcheck_ways : Array (Option Value)} {occheck_ways kVcheck_ways dccheck_ways pmcheck_ways cdcheck_ways ctcheck_ways : Value}
    {fkeys_in : Addr} {odkeys_in ankeys_in : Option Addr} {slkeys_in : Array (Option Value)} {ockeys_in kVkeys_in dckeys_in pmkeys_in cdkeys_in ctkeys_in : Value}
    {fcopied : Addr} {odcopied ancopied : Option Addr} {slcopied : Array (Option Value)} {occopied kVcopied dccopied pmcopied cdcopied ctcopied : Value}
    {ffirst_text : Addr} {odfirst_text anfirst_text : Option Addr} {slfirst_text : Array (Option Value)} {ocfirst_text kVfirst_text dcfirst_text pmfirst_text cdfirst_text ctfirst_text : Value}
    {f_law_pen : Addr} {od_law_pen an_law_pen : Option Addr} {sl_law_pen : Array (Option Value)} {oc_law_pen kV_law_pen dc_law_pen pm_law_pen cd_law_pen ct_law_pen : Value}
    {f_law_draw : Addr} {od_law_draw an_law_draw : Option Addr} {sl_law_draw : Array (Option Value)} {oc_law_draw kV_law_draw dc_law_draw pm_law_draw cd_law_draw ct_law_draw : Value}
    {f_law_pick : Addr} {od_law_pick an_law_pick : Option Addr} {sl_law_pick : Array (Option Value)} {oc_law_pick kV_law_pick dc_law_pick pm_law_pick cd_law_pick ct_law_pick : Value}
    {f_law_signs : Addr} {od_law_signs an_law_signs : Option Addr} {sl_law_signs : Array (Option Value)} {oc_law_signs kV_law_signs dc_law_signs pm_law_signs cd_law_signs ct_law_signs : Value}
    {f_law_keys : Addr} {od_law_keys an_law_keys : Option Addr} {sl_law_keys : Array (Option Value)} {oc_law_keys kV_law_keys dc_law_keys pm_law_keys cd_law_keys ct_law_keys : Value}
    {f_law_tables : Addr} {od_law_tables an_law_tables : Option Addr} {sl_law_tables : Array (Option Value)} {oc_law_tables kV_law_tables dc_law_tables pm_law_tables cd_law_tables ct_law_tables : Value}
    {fsame_signs : Addr} {odsame_signs ansame_signs : Option Addr} {slsame_signs : Array (Option Value)} {ocsame_signs kVsame_signs dcsame_signs pmsame_signs cdsame_signs ctsame_signs : Value}
    {fcheck_signs : Addr} {odcheck_signs ancheck_signs : Option Addr} {slcheck_signs : Array (Option Value)} {occheck_signs kVcheck_signs dccheck_signs pmcheck_signs cdcheck_signs ctcheck_signs : Value}
    {f_law_first_parted : Addr} {od_law_first_parted an_law_first_parted : Option Addr} {sl_law_first_parted : Array (Option Value)} {oc_law_first_parted kV_law_first_parted dc_law_first_parted pm_law_first_parted cd_law_first_parted ct_law_first_parted : Value}
    {f_law_turned : Addr} {od_law_turned an_law_turned : Option Addr} {sl_law_turned : Array (Option Value)} {oc_law_turned kV_law_turned dc_law_turned pm_law_turned cd_law_turned ct_law_turned : Value}
    {f_law_later : Addr} {od_law_later an_law_later : Option Addr} {sl_law_later : Array (Option Value)} {oc_law_later kV_law_later dc_law_later pm_law_later cd_law_later ct_law_later : Value}
    {f_law_changed : Addr} {od_law_changed an_law_changed : Option Addr} {sl_law_changed : Array (Option Value)} {oc_law_changed kV_law_changed dc_law_changed pm_law_changed cd_law_changed ct_law_changed : Value}
    {f_law_told : Addr} {od_law_told an_law_told : Option Addr} {sl_law_told : Array (Option Value)} {oc_law_told kV_law_told dc_law_told pm_law_told cd_law_told ct_law_told : Value}
    {flaw : Addr} {odlaw anlaw : Option Addr} {sllaw : Array (Option Value)} {oclaw kVlaw dclaw pmlaw cdlaw ctlaw : Value}
    {fparted_by ccparted_by Ptparted_by : Addr} {odparted_by anparted_by ocdparted_by : Option Addr} {slparted_by oslparted_by : Array (Option Value)} {ocparted_by occparted_by kVparted_by dcparted_by pmparted_by ctparted_by : Value} {vsparted_by : Array Value}
    {fparted ccparted Ptparted : Addr} {odparted anparted ocdparted : Option Addr} {slparted oslparted : Array (Option Value)} {ocparted occparted kVparted dcparted pmparted ctparted : Value} {vsparted : Array Value}
    {tMOST_KEYS : Tok}
    (hn : PySem.W.specialIn K (.builtin "object.__class__") "__get__" = some (some (.builtin "getset_descriptor.__get__")))
    (ht : PySem.W.takesIn K (.builtin "object.__class__") = some true)
    (aM : PySem.W.nsIn K mainGlobals "MissError" = some (some (.ref M)))
    (m1 : PySem.W.subIn K (.ref M) (.type "BaseException") = some true)
    (m2 : PySem.W.hasDictIn K M = true)
    (m3 : PySem.W.typeIn K (.ref M) = some (.type "type"))
    (aCBadMachine : PySem.W.nsIn K mainGlobals "BadMachine" = some (some (.ref CBadMachine)))
    (xLBadMachine : K.lookup CBadMachine = some (excClassObj nmBadMachine qBadMachine CBadMachine NBadMachine bsBadMachine (tailM M) true snBadMachine subBadMachine abBadMachine colBadMachine ddBadMachine maBadMachine mbBadMachine mcBadMachine mdBadMachine meBadMachine "ValueError.__new__"))
    (saBadMachine : PySem.W.findIn K (.ref CBadMachine) "__setattr__" = some (some (.builtin "object.__setattr__")))
    (gaBadMachine : PySem.W.findIn K (.ref CBadMachine) "__getattribute__" = some (some (.builtin "BaseException.__getattribute__")))
    (ggBadMachine : PySem.W.findIn K (.ref CBadMachine) "__getattr__" = some none)
    (hcBadMachine : PySem.W.findIn K (.ref CBadMachine) "__class__" = some (some (.builtin "object.__class__")))
    (kCBadMachine : PySem.W.keepIn K (.ref CBadMachine) = true)
    (iCBadMachine : PySem.W.findIn K (.ref CBadMachine) "__init__" = some (some (.ref IBadMachine)))
    (tIBadMachine : PySem.W.typeIn K (.ref IBadMachine) = some (.type "function"))
    (lIBadMachine : K.lookup IBadMachine = some ⟨ociBadMachine, odiBadMachine, .func (PySem.W.fnOf "__init__" "BadMachine.__init__" (defArgs s_BadMachine) (defBody s_BadMachine) (defScope s_BadMachine) .none kViBadMachine dciBadMachine pmiBadMachine aniBadMachine cdiBadMachine ctiBadMachine), sliBadMachine⟩)
    (cIBadMachine : PySem.W.codeIn K cdiBadMachine "BadMachine.__init__" = true)
    (kIBadMachine : PySem.W.keepIn K (.ref IBadMachine) = true)
    (nfBadMachine_state : PySem.W.findIn K (.ref CBadMachine) "state" = some none)
    (nfBadMachine_place : PySem.W.findIn K (.ref CBadMachine) "place" = some none)
    (aCTooMany : PySem.W.nsIn K mainGlobals "TooMany" = some (some (.ref CTooMany)))
    (xLTooMany : K.lookup CTooMany = some (excClassObj nmTooMany qTooMany CTooMany NTooMany bsTooMany (tailM M) true snTooMany subTooMany abTooMany colTooMany ddTooMany maTooMany mbTooMany mcTooMany mdTooMany meTooMany "ValueError.__new__"))
    (saTooMany : PySem.W.findIn K (.ref CTooMany) "__setattr__" = some (some (.builtin "object.__setattr__")))
    (gaTooMany : PySem.W.findIn K (.ref CTooMany) "__getattribute__" = some (some (.builtin "BaseException.__getattribute__")))
    (ggTooMany : PySem.W.findIn K (.ref CTooMany) "__getattr__" = some none)
    (hcTooMany : PySem.W.findIn K (.ref CTooMany) "__class__" = some (some (.builtin "object.__class__")))
    (kCTooMany : PySem.W.keepIn K (.ref CTooMany) = true)
    (iCTooMany : PySem.W.findIn K (.ref CTooMany) "__init__" = some (some (.ref ITooMany)))
    (tITooMany : PySem.W.typeIn K (.ref ITooMany) = some (.type "function"))
    (lITooMany : K.lookup ITooMany = some ⟨ociTooMany, odiTooMany, .func (PySem.W.fnOf "__init__" "TooMany.__init__" (defArgs s_TooMany) (defBody s_TooMany) (defScope s_TooMany) .none kViTooMany dciTooMany pmiTooMany aniTooMany cdiTooMany ctiTooMany), sliTooMany⟩)
    (cITooMany : PySem.W.codeIn K cdiTooMany "TooMany.__init__" = true)
    (kITooMany : PySem.W.keepIn K (.ref ITooMany) = true)
    (nfTooMany_what : PySem.W.findIn K (.ref CTooMany) "what" = some none)
    (aCBadSign : PySem.W.nsIn K mainGlobals "BadSign" = some (some (.ref CBadSign)))
    (xLBadSign : K.lookup CBadSign = some (excClassObj nmBadSign qBadSign CBadSign NBadSign bsBadSign (tailM M) true snBadSign subBadSign abBadSign colBadSign ddBadSign maBadSign mbBadSign mcBadSign mdBadSign meBadSign "ValueError.__new__"))
    (saBadSign : PySem.W.findIn K (.ref CBadSign) "__setattr__" = some (some (.builtin "object.__setattr__")))
    (gaBadSign : PySem.W.findIn K (.ref CBadSign) "__getattribute__" = some (some (.builtin "BaseException.__getattribute__")))
    (ggBadSign : PySem.W.findIn K (.ref CBadSign) "__getattr__" = some none)
    (hcBadSign : PySem.W.findIn K (.ref CBadSign) "__class__" = some (some (.builtin "object.__class__")))
    (kCBadSign : PySem.W.keepIn K (.ref CBadSign) = true)
    (iCBadSign : PySem.W.findIn K (.ref CBadSign) "__init__" = some (some (.ref IBadSign)))
    (tIBadSign : PySem.W.typeIn K (.ref IBadSign) = some (.type "function"))
    (lIBadSign : K.lookup IBadSign = some ⟨ociBadSign, odiBadSign, .func (PySem.W.fnOf "__init__" "BadSign.__init__" (defArgs s_BadSign) (defBody s_BadSign) (defScope s_BadSign) .none kViBadSign dciBadSign pmiBadSign aniBadSign cdiBadSign ctiBadSign), sliBadSign⟩)
    (cIBadSign : PySem.W.codeIn K cdiBadSign "BadSign.__init__" = true)
    (kIBadSign : PySem.W.keepIn K (.ref IBadSign) = true)
    (nfBadSign_place : PySem.W.findIn K (.ref CBadSign) "place" = some none)
    (aCUnlike : PySem.W.nsIn K mainGlobals "Unlike" = some (some (.ref CUnlike)))
    (xLUnlike : K.lookup CUnlike = some (excClassObj nmUnlike qUnlike CUnlike NUnlike bsUnlike (tailM M) true snUnlike subUnlike abUnlike colUnlike ddUnlike maUnlike mbUnlike mcUnlike mdUnlike meUnlike "ValueError.__new__"))
    (saUnlike : PySem.W.findIn K (.ref CUnlike) "__setattr__" = some (some (.builtin "object.__setattr__")))
    (gaUnlike : PySem.W.findIn K (.ref CUnlike) "__getattribute__" = some (some (.builtin "BaseException.__getattribute__")))
    (ggUnlike : PySem.W.findIn K (.ref CUnlike) "__getattr__" = some none)
    (hcUnlike : PySem.W.findIn K (.ref CUnlike) "__class__" = some (some (.builtin "object.__class__")))
    (kCUnlike : PySem.W.keepIn K (.ref CUnlike) = true)
    (s_Unlike_Unlike : PySem.W.subIn K (.ref CUnlike) (.ref CUnlike) = some true)
    (aCMachine : PySem.W.nsIn K mainGlobals "Machine" = some (some (.ref CMachine)))
    (pgMachine : PySem.W.plainGet K CMachine Str.empty = true)
    (hdMachine : PySem.W.hasDictIn K CMachine = true)
    (poMachine : PySem.W.plainOver K CMachine = true)
    (saMachine : PySem.W.findIn K (.ref CMachine) "__setattr__" = some (some (.builtin "object.__setattr__")))
    (mkMachine : PySem.W.makesIn K CMachine = true)
    (kcMachine : PySem.W.keepIn K (.ref CMachine) = true)
    (naMachine_signs : PySem.W.findIn K (.ref CMachine) "signs" = some none)
    (naMachine_rows : PySem.W.findIn K (.ref CMachine) "rows" = some none)
    (naMachine_ends : PySem.W.findIn K (.ref CMachine) "ends" = some none)
    (naMachine_all_keys : PySem.W.findIn K (.ref CMachine) "all_keys" = some none)
    (naMachine__ways : PySem.W.findIn K (.ref CMachine) "_ways" = some none)
    (aMachine_init : PySem.W.findIn K (.ref CMachine) "__init__" = some (some (.ref fMachine_init)))
    (iMachine_init : PySem.W.isFn K (.ref fMachine_init) = true)
    (lMachine_init : K.lookup fMachine_init = some ⟨ocMachine_init, odMachine_init, .func (PySem.W.fnOf "__init__" "Machine.__init__" (defArgs s_init) (defBody s_init) (defScope s_init) .none kVMachine_init dcMachine_init pmMachine_init anMachine_init cdMachine_init ctMachine_init), slMachine_init⟩)
    (cMachine_init : PySem.W.codeIn K cdMachine_init "Machine.__init__" = true)
    (kMachine_init : PySem.W.keepIn K (.ref fMachine_init) = true)
    (aMachine_walk : PySem.W.findIn K (.ref CMachine) "walk" = some (some (.ref fMachine_walk)))
    (iMachine_walk : PySem.W.isFn K (.ref fMachine_walk) = true)
    (lMachine_walk : K.lookup fMachine_walk = some ⟨ocMachine_walk, odMachine_walk, .func (PySem.W.fnOf "walk" "Machine.walk" (defArgs s_Machine_walk) (defBody s_Machine_walk) (defScope s_Machine_walk) .none kVMachine_walk dcMachine_walk pmMachine_walk anMachine_walk cdMachine_walk ctMachine_walk), slMachine_walk⟩)
    (cMachine_walk : PySem.W.codeIn K cdMachine_walk "Machine.walk" = true)
    (kMachine_walk : PySem.W.keepIn K (.ref fMachine_walk) = true)
    (ais_whole : PySem.W.nsIn K mainGlobals "is_whole" = some (some (.ref fis_whole)))
    (lis_whole : K.lookup fis_whole = some ⟨ocis_whole, odis_whole, .func (PySem.W.fnOf "is_whole" "is_whole" (defArgs s_is_whole) (defBody s_is_whole) (defScope s_is_whole) .none kVis_whole dcis_whole pmis_whole anis_whole cdis_whole ctis_whole), slis_whole⟩)
    (cis_whole : PySem.W.codeIn K cdis_whole "is_whole" = true)
    (kis_whole : PySem.W.keepIn K (.ref fis_whole) = true)
    (akey_list : PySem.W.nsIn K mainGlobals "key_list" = some (some (.ref fkey_list)))
    (lkey_list : K.lookup fkey_list = some ⟨ockey_list, odkey_list, .func (PySem.W.fnOf "key_list" "key_list" (defArgs s_key_list) (defBody s_key_list) (defScope s_key_list) .none kVkey_list dckey_list pmkey_list ankey_list cdkey_list ctkey_list), slkey_list⟩)
    (ckey_list : PySem.W.codeIn K cdkey_list "key_list" = true)
    (kkey_list : PySem.W.keepIn K (.ref fkey_list) = true)
    (acheck_ways : PySem.W.nsIn K mainGlobals "check_ways" = some (some (.ref fcheck_ways)))
    (lcheck_ways : K.lookup fcheck_ways = some ⟨occheck_ways, odcheck_ways, .func (PySem.W.fnOf "check_ways" "check_ways" (defArgs s_check_ways) (defBody s_check_ways) (defScope s_check_ways) .none kVcheck_ways dccheck_ways pmcheck_ways ancheck_ways cdcheck_ways ctcheck_ways), slcheck_ways⟩)
    (ccheck_ways : PySem.W.codeIn K cdcheck_ways "check_ways" = true)
    (kcheck_ways : PySem.W.keepIn K (.ref fcheck_ways) = true)
    (akeys_in : PySem.W.nsIn K mainGlobals "keys_in" = some (some (.ref fkeys_in)))
    (lkeys_in : K.lookup fkeys_in = some ⟨ockeys_in, odkeys_in, .func (PySem.W.fnOf "keys_in" "keys_in" (defArgs s_keys_in) (defBody s_keys_in) (defScope s_keys_in) .none kVkeys_in dckeys_in pmkeys_in ankeys_in cdkeys_in ctkeys_in), slkeys_in⟩)
    (ckeys_in : PySem.W.codeIn K cdkeys_in "keys_in" = true)
    (kkeys_in : PySem.W.keepIn K (.ref fkeys_in) = true)
    (acopied : PySem.W.nsIn K mainGlobals "copied" = some (some (.ref fcopied)))
    (lcopied : K.lookup fcopied = some ⟨occopied, odcopied, .func (PySem.W.fnOf "copied" "copied" (defArgs s_copied) (defBody s_copied) (defScope s_copied) .none kVcopied dccopied pmcopied ancopied cdcopied ctcopied), slcopied⟩)
    (ccopied : PySem.W.codeIn K cdcopied "copied" = true)
    (kcopied : PySem.W.keepIn K (.ref fcopied) = true)
    (afirst_text : PySem.W.nsIn K mainGlobals "first_text" = some (some (.ref ffirst_text)))
    (lfirst_text : K.lookup ffirst_text = some ⟨ocfirst_text, odfirst_text, .func (PySem.W.fnOf "first_text" "first_text" (defArgs s_first_text) (defBody s_first_text) (defScope s_first_text) .none kVfirst_text dcfirst_text pmfirst_text anfirst_text cdfirst_text ctfirst_text), slfirst_text⟩)
    (cfirst_text : PySem.W.codeIn K cdfirst_text "first_text" = true)
    (kfirst_text : PySem.W.keepIn K (.ref ffirst_text) = true)
    (a_law_pen : PySem.W.nsIn K mainGlobals "_law_pen" = some (some (.ref f_law_pen)))
    (l_law_pen : K.lookup f_law_pen = some ⟨oc_law_pen, od_law_pen, .func (PySem.W.fnOf "_law_pen" "_law_pen" (defArgs s__law_pen) (defBody s__law_pen) (defScope s__law_pen) .none kV_law_pen dc_law_pen pm_law_pen an_law_pen cd_law_pen ct_law_pen), sl_law_pen⟩)
    (c_law_pen : PySem.W.codeIn K cd_law_pen "_law_pen" = true)
    (k_law_pen : PySem.W.keepIn K (.ref f_law_pen) = true)
    (a_law_draw : PySem.W.nsIn K mainGlobals "_law_draw" = some (some (.ref f_law_draw)))
    (l_law_draw : K.lookup f_law_draw = some ⟨oc_law_draw, od_law_draw, .func (PySem.W.fnOf "_law_draw" "_law_draw" (defArgs s__law_draw) (defBody s__law_draw) (defScope s__law_draw) .none kV_law_draw dc_law_draw pm_law_draw an_law_draw cd_law_draw ct_law_draw), sl_law_draw⟩)
    (c_law_draw : PySem.W.codeIn K cd_law_draw "_law_draw" = true)
    (k_law_draw : PySem.W.keepIn K (.ref f_law_draw) = true)
    (a_law_pick : PySem.W.nsIn K mainGlobals "_law_pick" = some (some (.ref f_law_pick)))
    (l_law_pick : K.lookup f_law_pick = some ⟨oc_law_pick, od_law_pick, .func (PySem.W.fnOf "_law_pick" "_law_pick" (defArgs s__law_pick) (defBody s__law_pick) (defScope s__law_pick) .none kV_law_pick dc_law_pick pm_law_pick an_law_pick cd_law_pick ct_law_pick), sl_law_pick⟩)
    (c_law_pick : PySem.W.codeIn K cd_law_pick "_law_pick" = true)
    (k_law_pick : PySem.W.keepIn K (.ref f_law_pick) = true)
    (a_law_signs : PySem.W.nsIn K mainGlobals "_law_signs" = some (some (.ref f_law_signs)))
    (l_law_signs : K.lookup f_law_signs = some ⟨oc_law_signs, od_law_signs, .func (PySem.W.fnOf "_law_signs" "_law_signs" (defArgs s__law_signs) (defBody s__law_signs) (defScope s__law_signs) .none kV_law_signs dc_law_signs pm_law_signs an_law_signs cd_law_signs ct_law_signs), sl_law_signs⟩)
    (c_law_signs : PySem.W.codeIn K cd_law_signs "_law_signs" = true)
    (k_law_signs : PySem.W.keepIn K (.ref f_law_signs) = true)
    (a_law_keys : PySem.W.nsIn K mainGlobals "_law_keys" = some (some (.ref f_law_keys)))
    (l_law_keys : K.lookup f_law_keys = some ⟨oc_law_keys, od_law_keys, .func (PySem.W.fnOf "_law_keys" "_law_keys" (defArgs s__law_keys) (defBody s__law_keys) (defScope s__law_keys) .none kV_law_keys dc_law_keys pm_law_keys an_law_keys cd_law_keys ct_law_keys), sl_law_keys⟩)
    (c_law_keys : PySem.W.codeIn K cd_law_keys "_law_keys" = true)
    (k_law_keys : PySem.W.keepIn K (.ref f_law_keys) = true)
    (a_law_tables : PySem.W.nsIn K mainGlobals "_law_tables" = some (some (.ref f_law_tables)))
    (l_law_tables : K.lookup f_law_tables = some ⟨oc_law_tables, od_law_tables, .func (PySem.W.fnOf "_law_tables" "_law_tables" (defArgs s__law_tables) (defBody s__law_tables) (defScope s__law_tables) .none kV_law_tables dc_law_tables pm_law_tables an_law_tables cd_law_tables ct_law_tables), sl_law_tables⟩)
    (c_law_tables : PySem.W.codeIn K cd_law_tables "_law_tables" = true)
    (k_law_tables : PySem.W.keepIn K (.ref f_law_tables) = true)
    (asame_signs : PySem.W.nsIn K mainGlobals "same_signs" = some (some (.ref fsame_signs)))
    (lsame_signs : K.lookup fsame_signs = some ⟨ocsame_signs, odsame_signs, .func (PySem.W.fnOf "same_signs" "same_signs" (defArgs s_same_signs) (defBody s_same_signs) (defScope s_same_signs) .none kVsame_signs dcsame_signs pmsame_signs ansame_signs cdsame_signs ctsame_signs), slsame_signs⟩)
    (csame_signs : PySem.W.codeIn K cdsame_signs "same_signs" = true)
    (ksame_signs : PySem.W.keepIn K (.ref fsame_signs) = true)
    (acheck_signs : PySem.W.nsIn K mainGlobals "check_signs" = some (some (.ref fcheck_signs)))
    (lcheck_signs : K.lookup fcheck_signs = some ⟨occheck_signs, odcheck_signs, .func (PySem.W.fnOf "check_signs" "check_signs" (defArgs s_check_signs) (defBody s_check_signs) (defScope s_check_signs) .none kVcheck_signs dccheck_signs pmcheck_signs ancheck_signs cdcheck_signs ctcheck_signs), slcheck_signs⟩)
    (ccheck_signs : PySem.W.codeIn K cdcheck_signs "check_signs" = true)
    (kcheck_signs : PySem.W.keepIn K (.ref fcheck_signs) = true)
    (a_law_first_parted : PySem.W.nsIn K mainGlobals "_law_first_parted" = some (some (.ref f_law_first_parted)))
    (l_law_first_parted : K.lookup f_law_first_parted = some ⟨oc_law_first_parted, od_law_first_parted, .func (PySem.W.fnOf "_law_first_parted" "_law_first_parted" (defArgs s__law_fp) (defBody s__law_fp) (defScope s__law_fp) .none kV_law_first_parted dc_law_first_parted pm_law_first_parted an_law_first_parted cd_law_first_parted ct_law_first_parted), sl_law_first_parted⟩)
    (c_law_first_parted : PySem.W.codeIn K cd_law_first_parted "_law_first_parted" = true)
    (k_law_first_parted : PySem.W.keepIn K (.ref f_law_first_parted) = true)
    (a_law_turned : PySem.W.nsIn K mainGlobals "_law_turned" = some (some (.ref f_law_turned)))
    (l_law_turned : K.lookup f_law_turned = some ⟨oc_law_turned, od_law_turned, .func (PySem.W.fnOf "_law_turned" "_law_turned" (defArgs s__law_turned) (defBody s__law_turned) (defScope s__law_turned) .none kV_law_turned dc_law_turned pm_law_turned an_law_turned cd_law_turned ct_law_turned), sl_law_turned⟩)
    (c_law_turned : PySem.W.codeIn K cd_law_turned "_law_turned" = true)
    (k_law_turned : PySem.W.keepIn K (.ref f_law_turned) = true)
    (a_law_later : PySem.W.nsIn K mainGlobals "_law_later" = some (some (.ref f_law_later)))
    (l_law_later : K.lookup f_law_later = some ⟨oc_law_later, od_law_later, .func (PySem.W.fnOf "_law_later" "_law_later" (defArgs s__law_later) (defBody s__law_later) (defScope s__law_later) .none kV_law_later dc_law_later pm_law_later an_law_later cd_law_later ct_law_later), sl_law_later⟩)
    (c_law_later : PySem.W.codeIn K cd_law_later "_law_later" = true)
    (k_law_later : PySem.W.keepIn K (.ref f_law_later) = true)
    (a_law_changed : PySem.W.nsIn K mainGlobals "_law_changed" = some (some (.ref f_law_changed)))
    (l_law_changed : K.lookup f_law_changed = some ⟨oc_law_changed, od_law_changed, .func (PySem.W.fnOf "_law_changed" "_law_changed" (defArgs s__law_changed) (defBody s__law_changed) (defScope s__law_changed) .none kV_law_changed dc_law_changed pm_law_changed an_law_changed cd_law_changed ct_law_changed), sl_law_changed⟩)
    (c_law_changed : PySem.W.codeIn K cd_law_changed "_law_changed" = true)
    (k_law_changed : PySem.W.keepIn K (.ref f_law_changed) = true)
    (a_law_told : PySem.W.nsIn K mainGlobals "_law_told" = some (some (.ref f_law_told)))
    (l_law_told : K.lookup f_law_told = some ⟨oc_law_told, od_law_told, .func (PySem.W.fnOf "_law_told" "_law_told" (defArgs s__law_told) (defBody s__law_told) (defScope s__law_told) .none kV_law_told dc_law_told pm_law_told an_law_told cd_law_told ct_law_told), sl_law_told⟩)
    (c_law_told : PySem.W.codeIn K cd_law_told "_law_told" = true)
    (k_law_told : PySem.W.keepIn K (.ref f_law_told) = true)
    (alaw : PySem.W.nsIn K mainGlobals "law" = some (some (.ref flaw)))
    (llaw : K.lookup flaw = some ⟨oclaw, odlaw, .func (PySem.W.fnOf "law" "law" (defArgs s_law) (defBody s_law) (defScope s_law) .none kVlaw dclaw pmlaw anlaw cdlaw ctlaw), sllaw⟩)
    (claw : PySem.W.codeIn K cdlaw "law" = true)
    (klaw : PySem.W.keepIn K (.ref flaw) = true)
    (aparted_by : PySem.W.nsIn K mainGlobals "parted_by" = some (some (.ref fparted_by)))
    (lparted_by : K.lookup fparted_by = some ⟨ocparted_by, odparted_by, .func (PySem.W.fnOf "parted_by" "parted_by" (defArgs s_parted_by) (defBody s_parted_by) (defScope s_parted_by) .none kVparted_by dcparted_by pmparted_by anparted_by (.ref ccparted_by) ctparted_by), slparted_by⟩)
    (cparted_by : PySem.W.codeIn K (.ref ccparted_by) "parted_by" = true)
    (kparted_by : PySem.W.keepIn K (.ref fparted_by) = true)
    (vparted_by : K.lookup ccparted_by = some ⟨occparted_by, ocdparted_by, .fields vsparted_by, oslparted_by⟩)
    (pparted_by : vsparted_by[11]? = some (.ref Ptparted_by))
    (hparted_by : PySem.W.codeHdIn K ccparted_by Ptparted_by = true)
    (uparted_by : K.lookup Ptparted_by = none)
    (eparted_by : h.get? Ptparted_by = some { cls := .none, data := .fields #[] })
    (aparted : PySem.W.nsIn K mainGlobals "parted" = some (some (.ref fparted)))
    (lparted : K.lookup fparted = some ⟨ocparted, odparted, .func (PySem.W.fnOf "parted" "parted" (defArgs s_parted) (defBody s_parted) (defScope s_parted) .none kVparted dcparted pmparted anparted (.ref ccparted) ctparted), slparted⟩)
    (cparted : PySem.W.codeIn K (.ref ccparted) "parted" = true)
    (kparted : PySem.W.keepIn K (.ref fparted) = true)
    (vparted : K.lookup ccparted = some ⟨occparted, ocdparted, .fields vsparted, oslparted⟩)
    (pparted : vsparted[11]? = some (.ref Ptparted))
    (hparted : PySem.W.codeHdIn K ccparted Ptparted = true)
    (uparted : K.lookup Ptparted = none)
    (eparted : h.get? Ptparted = some { cls := .none, data := .fields #[] })
    (ndP : ([Ptparted_by, Ptparted] : List Addr).Nodup)
    (gMOST_KEYS : PySem.W.nsIn K mainGlobals "MOST_KEYS" = some (some (.int 12 tMOST_KEYS)))
    (z_isinstance : PySem.W.nsIn K mainGlobals "isinstance" = some none)
    (z_list : PySem.W.nsIn K mainGlobals "list" = some none)
    (z_tuple : PySem.W.nsIn K mainGlobals "tuple" = some none)
    (z_dict : PySem.W.nsIn K mainGlobals "dict" = some none)
    (z_int : PySem.W.nsIn K mainGlobals "int" = some none)
    (z_bool : PySem.W.nsIn K mainGlobals "bool" = some none)
    (z_len : PySem.W.nsIn K mainGlobals "len" = some none)
    (z_set : PySem.W.nsIn K mainGlobals "set" = some none)
    (z_sorted : PySem.W.nsIn K mainGlobals "sorted" = some none)
    (z_zip : PySem.W.nsIn K mainGlobals "zip" = some none)
    (z_enumerate : PySem.W.nsIn K mainGlobals "enumerate" = some none)
    (z_range : PySem.W.nsIn K mainGlobals "range" = some none)
    (z_min : PySem.W.nsIn K mainGlobals "min" = some none)
    (xUnlike : PySem.W.excIn K CUnlike [.type "ValueError", .type "Exception", .type "BaseException", .type "object"] "ValueError.__new__" = true)
    : LamX.LawAtS l w K (fun o H s E e s' => CX0 o H s E e s') 11 63 "script" mg fa h := by
  have e : flaw = fa := Value.ref.inj (Option.some.inj ((PySem.W.mg_of X G alaw).symm.trans hfa))
  subst e
  have E_BadMachine : ErrC K mg "BadMachine" CBadMachine M := err_mk (PySem.W.mg_of X G aCBadMachine) xLBadMachine saBadMachine gaBadMachine ggBadMachine hcBadMachine hn ht kCBadMachine
  have FI_BadMachine := fun_mk (st := s_BadMachine) lIBadMachine cIBadMachine kIBadMachine
  have I_BadMachine : IniT K "BadMachine.__init__" s_BadMachine CBadMachine IBadMachine _ ["self", "state", "place"] := ⟨iCBadMachine, tIBadMachine, FI_BadMachine, FI_BadMachine.binds (ps := ["self", "state", "place"]) fun _ _ _ _ _ _ us hl => match us, hl with | [_, _, _], _ => rfl⟩
  have E_TooMany : ErrC K mg "TooMany" CTooMany M := err_mk (PySem.W.mg_of X G aCTooMany) xLTooMany saTooMany gaTooMany ggTooMany hcTooMany hn ht kCTooMany
  have FI_TooMany := fun_mk (st := s_TooMany) lITooMany cITooMany kITooMany
  have I_TooMany : IniT K "TooMany.__init__" s_TooMany CTooMany ITooMany _ ["self", "what"] := ⟨iCTooMany, tITooMany, FI_TooMany, FI_TooMany.binds (ps := ["self", "what"]) fun _ _ _ _ _ _ us hl => match us, hl with | [_, _], _ => rfl⟩
  have E_BadSign : ErrC K mg "BadSign" CBadSign M := err_mk (PySem.W.mg_of X G aCBadSign) xLBadSign saBadSign gaBadSign ggBadSign hcBadSign hn ht kCBadSign
  have FI_BadSign := fun_mk (st := s_BadSign) lIBadSign cIBadSign kIBadSign
  have I_BadSign : IniT K "BadSign.__init__" s_BadSign CBadSign IBadSign _ ["self", "place"] := ⟨iCBadSign, tIBadSign, FI_BadSign, FI_BadSign.binds (ps := ["self", "place"]) fun _ _ _ _ _ _ us hl => match us, hl with | [_, _], _ => rfl⟩
  have E_Unlike : ErrC K mg "Unlike" CUnlike M := err_mk (PySem.W.mg_of X G aCUnlike) xLUnlike saUnlike gaUnlike ggUnlike hcUnlike hn ht kCUnlike
  have x_Unlike_Unlike : PySem.W.exmOne K (.ref CUnlike) (.ref CUnlike) = some true := PySem.W.exm_ref ((E_Unlike.sub (.type "BaseException")).trans rfl) E_Unlike.exc.hd E_Unlike.oex.tyC s_Unlike_Unlike
  have cl_Machine : Cls K CMachine := ⟨pgMachine, hdMachine, poMachine, saMachine⟩
  have F_Machine_init := fun_mk (st := s_init) lMachine_init cMachine_init kMachine_init
  have b_Machine_init := F_Machine_init.binds (ps := ["self", "signs", "rows", "ends"]) fun _ _ _ _ _ _ us hl => match us, hl with | [_, _, _, _], _ => rfl
  have mk_Machine : Mk K CMachine fMachine_init := ⟨mkMachine, aMachine_init, iMachine_init, kcMachine⟩
  have F_Machine_walk := fun_mk (st := s_Machine_walk) lMachine_walk cMachine_walk kMachine_walk
  have b_Machine_walk := F_Machine_walk.binds (ps := ["self", "state", "text"]) fun _ _ _ _ _ _ us hl => match us, hl with | [_, _, _], _ => rfl
  have m_Machine_walk : Meth K CMachine "walk" fMachine_walk := ⟨aMachine_walk, iMachine_walk, kMachine_walk⟩
  have Fis_whole := fun_mk (st := s_is_whole) lis_whole cis_whole kis_whole
  have Dis_whole : DefT K mg "is_whole" "is_whole" s_is_whole ["value"] fis_whole _ := ⟨PySem.W.mg_of X G ais_whole, Fis_whole, Fis_whole.binds (ps := ["value"]) fun _ _ _ _ _ _ us hl => match us, hl with | [_], _ => rfl⟩
  have Fkey_list := fun_mk (st := s_key_list) lkey_list ckey_list kkey_list
  have Dkey_list : DefT K mg "key_list" "key_list" s_key_list ["given"] fkey_list _ := ⟨PySem.W.mg_of X G akey_list, Fkey_list, Fkey_list.binds (ps := ["given"]) fun _ _ _ _ _ _ us hl => match us, hl with | [_], _ => rfl⟩
  have Fcheck_ways := fun_mk (st := s_check_ways) lcheck_ways ccheck_ways kcheck_ways
  have Dcheck_ways : DefT K mg "check_ways" "check_ways" s_check_ways ["rows"] fcheck_ways _ := ⟨PySem.W.mg_of X G acheck_ways, Fcheck_ways, Fcheck_ways.binds (ps := ["rows"]) fun _ _ _ _ _ _ us hl => match us, hl with | [_], _ => rfl⟩
  have Fkeys_in := fun_mk (st := s_keys_in) lkeys_in ckeys_in kkeys_in
  have Dkeys_in : DefT K mg "keys_in" "keys_in" s_keys_in ["rows", "ends"] fkeys_in _ := ⟨PySem.W.mg_of X G akeys_in, Fkeys_in, Fkeys_in.binds (ps := ["rows", "ends"]) fun _ _ _ _ _ _ us hl => match us, hl with | [_, _], _ => rfl⟩
  have Fcopied := fun_mk (st := s_copied) lcopied ccopied kcopied
  have Dcopied : DefT K mg "copied" "copied" s_copied ["field"] fcopied _ := ⟨PySem.W.mg_of X G acopied, Fcopied, Fcopied.binds (ps := ["field"]) fun _ _ _ _ _ _ us hl => match us, hl with | [_], _ => rfl⟩
  have Ffirst_text := fun_mk (st := s_first_text) lfirst_text cfirst_text kfirst_text
  have Dfirst_text : DefT K mg "first_text" "first_text" s_first_text ["signs", "label", "step", "is_goal"] ffirst_text _ := ⟨PySem.W.mg_of X G afirst_text, Ffirst_text, Ffirst_text.binds (ps := ["signs", "label", "step", "is_goal"]) fun _ _ _ _ _ _ us hl => match us, hl with | [_, _, _, _], _ => rfl⟩
  have F_law_pen := fun_mk (st := s__law_pen) l_law_pen c_law_pen k_law_pen
  have D_law_pen : DefT K mg "_law_pen" "_law_pen" s__law_pen ["script"] f_law_pen _ := ⟨PySem.W.mg_of X G a_law_pen, F_law_pen, F_law_pen.binds (ps := ["script"]) fun _ _ _ _ _ _ us hl => match us, hl with | [_], _ => rfl⟩
  have F_law_draw := fun_mk (st := s__law_draw) l_law_draw c_law_draw k_law_draw
  have D_law_draw : DefT K mg "_law_draw" "_law_draw" s__law_draw ["pen", "many"] f_law_draw _ := ⟨PySem.W.mg_of X G a_law_draw, F_law_draw, F_law_draw.binds (ps := ["pen", "many"]) fun _ _ _ _ _ _ us hl => match us, hl with | [_, _], _ => rfl⟩
  have F_law_pick := fun_mk (st := s__law_pick) l_law_pick c_law_pick k_law_pick
  have D_law_pick : DefT K mg "_law_pick" "_law_pick" s__law_pick ["pen", "items"] f_law_pick _ := ⟨PySem.W.mg_of X G a_law_pick, F_law_pick, F_law_pick.binds (ps := ["pen", "items"]) fun _ _ _ _ _ _ us hl => match us, hl with | [_, _], _ => rfl⟩
  have F_law_signs := fun_mk (st := s__law_signs) l_law_signs c_law_signs k_law_signs
  have D_law_signs : DefT K mg "_law_signs" "_law_signs" s__law_signs ["pen", "many"] f_law_signs _ := ⟨PySem.W.mg_of X G a_law_signs, F_law_signs, F_law_signs.binds (ps := ["pen", "many"]) fun _ _ _ _ _ _ us hl => match us, hl with | [_, _], _ => rfl⟩
  have F_law_keys := fun_mk (st := s__law_keys) l_law_keys c_law_keys k_law_keys
  have D_law_keys : DefT K mg "_law_keys" "_law_keys" s__law_keys ["pen", "words"] f_law_keys _ := ⟨PySem.W.mg_of X G a_law_keys, F_law_keys, F_law_keys.binds (ps := ["pen", "words"]) fun _ _ _ _ _ _ us hl => match us, hl with | [_, _], _ => rfl⟩
  have F_law_tables := fun_mk (st := s__law_tables) l_law_tables c_law_tables k_law_tables
  have D_law_tables : DefT K mg "_law_tables" "_law_tables" s__law_tables ["pen", "signs", "most", "words"] f_law_tables _ := ⟨PySem.W.mg_of X G a_law_tables, F_law_tables, F_law_tables.binds (ps := ["pen", "signs", "most", "words"]) fun _ _ _ _ _ _ us hl => match us, hl with | [_, _, _, _], _ => rfl⟩
  have Fsame_signs := fun_mk (st := s_same_signs) lsame_signs csame_signs ksame_signs
  have Dsame_signs : DefT K mg "same_signs" "same_signs" s_same_signs ["one", "other"] fsame_signs _ := ⟨PySem.W.mg_of X G asame_signs, Fsame_signs, Fsame_signs.binds (ps := ["one", "other"]) fun _ _ _ _ _ _ us hl => match us, hl with | [_, _], _ => rfl⟩
  have Fcheck_signs := fun_mk (st := s_check_signs) lcheck_signs ccheck_signs kcheck_signs
  have Dcheck_signs : DefT K mg "check_signs" "check_signs" s_check_signs ["one", "other"] fcheck_signs _ := ⟨PySem.W.mg_of X G acheck_signs, Fcheck_signs, Fcheck_signs.binds (ps := ["one", "other"]) fun _ _ _ _ _ _ us hl => match us, hl with | [_, _], _ => rfl⟩
  have F_law_first_parted := fun_mk (st := s__law_fp) l_law_first_parted c_law_first_parted k_law_first_parted
  have D_law_first_parted : DefT K mg "_law_first_parted" "_law_first_parted" s__law_fp ["signs", "one", "mates", "other"] f_law_first_parted _ := ⟨PySem.W.mg_of X G a_law_first_parted, F_law_first_parted, F_law_first_parted.binds (ps := ["signs", "one", "mates", "other"]) fun _ _ _ _ _ _ us hl => match us, hl with | [_, _, _, _], _ => rfl⟩
  have F_law_turned := fun_mk (st := s__law_turned) l_law_turned c_law_turned k_law_turned
  have D_law_turned : DefT K mg "_law_turned" "_law_turned" s__law_turned ["signs", "mates", "tables"] f_law_turned _ := ⟨PySem.W.mg_of X G a_law_turned, F_law_turned, F_law_turned.binds (ps := ["signs", "mates", "tables"]) fun _ _ _ _ _ _ us hl => match us, hl with | [_, _, _], _ => rfl⟩
  have F_law_later := fun_mk (st := s__law_later) l_law_later c_law_later k_law_later
  have D_law_later : DefT K mg "_law_later" "_law_later" s__law_later ["tables"] f_law_later _ := ⟨PySem.W.mg_of X G a_law_later, F_law_later, F_law_later.binds (ps := ["tables"]) fun _ _ _ _ _ _ us hl => match us, hl with | [_], _ => rfl⟩
  have F_law_changed := fun_mk (st := s__law_changed) l_law_changed c_law_changed k_law_changed
  have D_law_changed : DefT K mg "_law_changed" "_law_changed" s__law_changed ["pen", "tables"] f_law_changed _ := ⟨PySem.W.mg_of X G a_law_changed, F_law_changed, F_law_changed.binds (ps := ["pen", "tables"]) fun _ _ _ _ _ _ us hl => match us, hl with | [_, _], _ => rfl⟩
  have F_law_told := fun_mk (st := s__law_told) l_law_told c_law_told k_law_told
  have D_law_told : DefT K mg "_law_told" "_law_told" s__law_told ["one", "other"] f_law_told _ := ⟨PySem.W.mg_of X G a_law_told, F_law_told, F_law_told.binds (ps := ["one", "other"]) fun _ _ _ _ _ _ us hl => match us, hl with | [_, _], _ => rfl⟩
  have Flaw := fun_mk (st := s_law) llaw claw klaw
  have Dlaw : DefT K mg "law" "law" s_law ["script"] flaw _ := ⟨PySem.W.mg_of X G alaw, Flaw, Flaw.binds (ps := ["script"]) fun _ _ _ _ _ _ us hl => match us, hl with | [_], _ => rfl⟩
  have FCparted_by : FunC K "parted_by" "parted_by" s_parted_by fparted_by _ ccparted_by := ⟨⟨_, _, _, _, _, _, _, _, rfl, lparted_by, cparted_by⟩, kparted_by⟩
  have bCparted_by := FCparted_by.fn.binds (ps := ["one", "other", "key"]) fun _ _ _ _ _ _ us hl => match us, hl with | [_, _, _], _ => rfl
  have FCparted : FunC K "parted" "parted" s_parted fparted _ ccparted := ⟨⟨_, _, _, _, _, _, _, _, rfl, lparted, cparted⟩, kparted⟩
  have bCparted := FCparted.fn.binds (ps := ["one", "other"]) fun _ _ _ _ _ _ us hl => match us, hl with | [_, _], _ => rfl
  have g_MOST_KEYS := PySem.W.mg_of X G gMOST_KEYS
  have n_isinstance := PySem.W.mg_none_of X G z_isinstance
  have n_list := PySem.W.mg_none_of X G z_list
  have n_tuple := PySem.W.mg_none_of X G z_tuple
  have n_dict := PySem.W.mg_none_of X G z_dict
  have n_int := PySem.W.mg_none_of X G z_int
  have n_bool := PySem.W.mg_none_of X G z_bool
  have n_len := PySem.W.mg_none_of X G z_len
  have n_set := PySem.W.mg_none_of X G z_set
  have n_sorted := PySem.W.mg_none_of X G z_sorted
  have n_zip := PySem.W.mg_none_of X G z_zip
  have n_enumerate := PySem.W.mg_none_of X G z_enumerate
  have n_range := PySem.W.mg_none_of X G z_range
  have n_min := PySem.W.mg_none_of X G z_min
  let A : EAd := { M := M, c1 := CBadMachine, c2 := CTooMany, i1 := IBadMachine, i2 := ITooMany, e1 := PySem.W.fnOf "__init__" "BadMachine.__init__" (defArgs s_BadMachine) (defBody s_BadMachine) (defScope s_BadMachine) .none kViBadMachine dciBadMachine pmiBadMachine aniBadMachine cdiBadMachine ctiBadMachine, e2 := PySem.W.fnOf "__init__" "TooMany.__init__" (defArgs s_TooMany) (defBody s_TooMany) (defScope s_TooMany) .none kViTooMany dciTooMany pmiTooMany aniTooMany cdiTooMany ctiTooMany, fc := fcopied, dc := PySem.W.fnOf "copied" "copied" (defArgs s_copied) (defBody s_copied) (defScope s_copied) .none kVcopied dccopied pmcopied ancopied cdcopied ctcopied }
  have TE : TxtE K mg A := ⟨E_BadMachine, I_BadMachine, nfBadMachine_state, nfBadMachine_place, E_TooMany, I_TooMany, nfTooMany_what, Dcopied, n_isinstance, n_list, n_tuple, n_dict⟩
  let B : MAd := { f1 := fis_whole, f2 := fkey_list, f3 := fcheck_ways, f4 := fkeys_in, d1 := PySem.W.fnOf "is_whole" "is_whole" (defArgs s_is_whole) (defBody s_is_whole) (defScope s_is_whole) .none kVis_whole dcis_whole pmis_whole anis_whole cdis_whole ctis_whole, d2 := PySem.W.fnOf "key_list" "key_list" (defArgs s_key_list) (defBody s_key_list) (defScope s_key_list) .none kVkey_list dckey_list pmkey_list ankey_list cdkey_list ctkey_list, d3 := PySem.W.fnOf "check_ways" "check_ways" (defArgs s_check_ways) (defBody s_check_ways) (defScope s_check_ways) .none kVcheck_ways dccheck_ways pmcheck_ways ancheck_ways cdcheck_ways ctcheck_ways, d4 := PySem.W.fnOf "keys_in" "keys_in" (defArgs s_keys_in) (defBody s_keys_in) (defScope s_keys_in) .none kVkeys_in dckeys_in pmkeys_in ankeys_in cdkeys_in ctkeys_in }
  have TM : TxtM K mg B := ⟨Dis_whole, Dkey_list, Dcheck_ways, Dkeys_in, n_isinstance, n_int, n_bool, n_len, n_set, n_sorted, n_tuple, n_zip, n_enumerate⟩
  let Z : CAd := { C := CMachine, f := fMachine_init, d := PySem.W.fnOf "__init__" "Machine.__init__" (defArgs s_init) (defBody s_init) (defScope s_init) .none kVMachine_init dcMachine_init pmMachine_init anMachine_init cdMachine_init ctMachine_init }
  have TC : TxtC K mg Z := ⟨cl_Machine, mk_Machine, F_Machine_init, b_Machine_init, PySem.W.mg_of X G aCMachine, naMachine_signs, naMachine_rows, naMachine_ends, naMachine_all_keys, naMachine__ways, ⟨_, g_MOST_KEYS⟩⟩
  let S : SAd := { c := CBadSign, i := IBadSign, e := PySem.W.fnOf "__init__" "BadSign.__init__" (defArgs s_BadSign) (defBody s_BadSign) (defScope s_BadSign) .none kViBadSign dciBadSign pmiBadSign aniBadSign cdiBadSign ctiBadSign, fw := fMachine_walk, fk := fMachine_walk, dw := PySem.W.fnOf "walk" "Machine.walk" (defArgs s_Machine_walk) (defBody s_Machine_walk) (defScope s_Machine_walk) .none kVMachine_walk dcMachine_walk pmMachine_walk anMachine_walk cdMachine_walk ctMachine_walk, dk := PySem.W.fnOf "walk" "Machine.walk" (defArgs s_Machine_walk) (defBody s_Machine_walk) (defScope s_Machine_walk) .none kVMachine_walk dcMachine_walk pmMachine_walk anMachine_walk cdMachine_walk ctMachine_walk }
  have TS : TxtS K mg A Z S := ⟨E_BadSign, I_BadSign, nfBadSign_place, m_Machine_walk, F_Machine_walk, b_Machine_walk⟩
  let L : LAd := { f1 := f_law_signs, f2 := f_law_keys, f3 := f_law_tables, d1 := PySem.W.fnOf "_law_signs" "_law_signs" (defArgs s__law_signs) (defBody s__law_signs) (defScope s__law_signs) .none kV_law_signs dc_law_signs pm_law_signs an_law_signs cd_law_signs ct_law_signs, d2 := PySem.W.fnOf "_law_keys" "_law_keys" (defArgs s__law_keys) (defBody s__law_keys) (defScope s__law_keys) .none kV_law_keys dc_law_keys pm_law_keys an_law_keys cd_law_keys ct_law_keys, d3 := PySem.W.fnOf "_law_tables" "_law_tables" (defArgs s__law_tables) (defBody s__law_tables) (defScope s__law_tables) .none kV_law_tables dc_law_tables pm_law_tables an_law_tables cd_law_tables ct_law_tables, p1 := f_law_pen, p2 := f_law_draw, p3 := f_law_pick, q1 := PySem.W.fnOf "_law_pen" "_law_pen" (defArgs s__law_pen) (defBody s__law_pen) (defScope s__law_pen) .none kV_law_pen dc_law_pen pm_law_pen an_law_pen cd_law_pen ct_law_pen, q2 := PySem.W.fnOf "_law_draw" "_law_draw" (defArgs s__law_draw) (defBody s__law_draw) (defScope s__law_draw) .none kV_law_draw dc_law_draw pm_law_draw an_law_draw cd_law_draw ct_law_draw, q3 := PySem.W.fnOf "_law_pick" "_law_pick" (defArgs s__law_pick) (defBody s__law_pick) (defScope s__law_pick) .none kV_law_pick dc_law_pick pm_law_pick an_law_pick cd_law_pick ct_law_pick }
  have TP : TxtP K mg f_law_pen f_law_draw f_law_pick (PySem.W.fnOf "_law_pen" "_law_pen" (defArgs s__law_pen) (defBody s__law_pen) (defScope s__law_pen) .none kV_law_pen dc_law_pen pm_law_pen an_law_pen cd_law_pen ct_law_pen) (PySem.W.fnOf "_law_draw" "_law_draw" (defArgs s__law_draw) (defBody s__law_draw) (defScope s__law_draw) .none kV_law_draw dc_law_draw pm_law_draw an_law_draw cd_law_draw ct_law_draw) (PySem.W.fnOf "_law_pick" "_law_pick" (defArgs s__law_pick) (defBody s__law_pick) (defScope s__law_pick) .none kV_law_pick dc_law_pick pm_law_pick an_law_pick cd_law_pick ct_law_pick) := ⟨D_law_pen, D_law_draw, D_law_pick, n_list, n_int, n_len⟩
  have TL : TxtL K mg L := ⟨TP, D_law_signs, D_law_keys, D_law_tables, n_len, n_range, n_set, n_sorted⟩
  let F : FiAd := { ff := ffirst_text, df := PySem.W.fnOf "first_text" "first_text" (defArgs s_first_text) (defBody s_first_text) (defScope s_first_text) .none kVfirst_text dcfirst_text pmfirst_text anfirst_text cdfirst_text ctfirst_text, fb := fparted_by, db := (PySem.W.fnOf "parted_by" "parted_by" (defArgs s_parted_by) (defBody s_parted_by) (defScope s_parted_by) .none kVparted_by dcparted_by pmparted_by anparted_by (.ref ccparted_by) ctparted_by), cb := ccparted_by, Pb := Ptparted_by, fs := fsame_signs, ds := PySem.W.fnOf "same_signs" "same_signs" (defArgs s_same_signs) (defBody s_same_signs) (defScope s_same_signs) .none kVsame_signs dcsame_signs pmsame_signs ansame_signs cdsame_signs ctsame_signs, fk := fcheck_signs, dk := PySem.W.fnOf "check_signs" "check_signs" (defArgs s_check_signs) (defBody s_check_signs) (defScope s_check_signs) .none kVcheck_signs dccheck_signs pmcheck_signs ancheck_signs cdcheck_signs ctcheck_signs, fp := fparted, dp := (PySem.W.fnOf "parted" "parted" (defArgs s_parted) (defBody s_parted) (defScope s_parted) .none kVparted dcparted pmparted anparted (.ref ccparted) ctparted), cp := ccparted, Pp := Ptparted, ft := f_law_told, dt := PySem.W.fnOf "_law_told" "_law_told" (defArgs s__law_told) (defBody s__law_told) (defScope s__law_told) .none kV_law_told dc_law_told pm_law_told an_law_told cd_law_told ct_law_told, fw := f_law_first_parted, dw := PySem.W.fnOf "_law_first_parted" "_law_first_parted" (defArgs s__law_fp) (defBody s__law_fp) (defScope s__law_fp) .none kV_law_first_parted dc_law_first_parted pm_law_first_parted an_law_first_parted cd_law_first_parted ct_law_first_parted, fu := f_law_turned, du := PySem.W.fnOf "_law_turned" "_law_turned" (defArgs s__law_turned) (defBody s__law_turned) (defScope s__law_turned) .none kV_law_turned dc_law_turned pm_law_turned an_law_turned cd_law_turned ct_law_turned, fc := f_law_changed, dc := PySem.W.fnOf "_law_changed" "_law_changed" (defArgs s__law_changed) (defBody s__law_changed) (defScope s__law_changed) .none kV_law_changed dc_law_changed pm_law_changed an_law_changed cd_law_changed ct_law_changed, fl := f_law_later, dl := PySem.W.fnOf "_law_later" "_law_later" (defArgs s__law_later) (defBody s__law_later) (defScope s__law_later) .none kV_law_later dc_law_later pm_law_later an_law_later cd_law_later ct_law_later }
  have dist : ∀ {P : Addr} {g : Nat → Nat → Str}, (P, g) ∈ [(Ptparted_by, nmPb), (Ptparted, nmPa)] → ∀ p ∈ [(Ptparted_by, nmPb), (Ptparted, nmPa)], p.1 = P → p.2 = g := fun {P g} hm p hp e => pairs_one [(Ptparted_by, nmPb), (Ptparted, nmPa)] (by simpa using ndP) hp hm e
  refine ⟨PySem.W.fnOf "law" "law" (defArgs s_law) (defBody s_law) (defScope s_law) .none kVlaw dclaw pmlaw anlaw cdlaw ctlaw, [(ccparted_by, Ptparted_by), (ccparted, Ptparted)], spLaw K [(Ptparted_by, nmPb), (Ptparted, nmPa)], ?_, ?_, ?_, fun s v => .of_eq rfl, fun H a ns hl _ hT hS => ⟨a, ns, rfl, hS, hl, fun p hp => ?_, fun _ => rfl⟩, fun base Xb Gb hb => ?_⟩
  · intro p hp
    simp only [List.mem_cons, List.not_mem_nil, or_false] at hp
    rcases hp with rfl | rfl
    all_goals assumption
  · intro p hp
    simp only [List.mem_cons, List.not_mem_nil, or_false] at hp
    rcases hp with rfl | rfl
    all_goals assumption
  · intro p hp
    simp only [List.mem_cons, List.not_mem_nil, or_false] at hp
    rcases hp with rfl | rfl
    all_goals exact PySem.W.codeHd_of_K X (by assumption)
  · have hT' := hT
    simp only [List.mem_cons, List.not_mem_nil, or_false] at hp
    rcases hp with rfl | rfl
    · exact NdefX.TabN.nil (hT (ccparted_by, Ptparted_by) (by simp))
    · exact NdefX.TabN.nil (hT (ccparted, Ptparted) (by simp))
  · have T0 : TxtPb K mg base [(Ptparted_by, nmPb), (Ptparted, nmPa)] fparted_by _ ccparted_by Ptparted_by := ⟨PySem.W.mg_of X G aparted_by, FCparted_by, bCparted_by, hb (ccparted_by, Ptparted_by) (by simp), by simp, dist (by simp)⟩
    have T1 : TxtPa K mg base [(Ptparted_by, nmPb), (Ptparted, nmPa)] fparted _ ccparted Ptparted := ⟨PySem.W.mg_of X G aparted, FCparted, bCparted, hb (ccparted, Ptparted) (by simp), by simp, dist (by simp), n_min, n_len⟩
    have T : TxtW K mg base [(Ptparted_by, nmPb), (Ptparted, nmPa)] A B Z S CUnlike L F flaw (PySem.W.fnOf "law" "law" (defArgs s_law) (defBody s_law) (defScope s_law) .none kVlaw dclaw pmlaw anlaw cdlaw ctlaw) := ⟨TM, TE, TC, TS, ⟨TL, D_law_changed, n_len, n_list⟩, TL, ⟨Dfirst_text, n_len⟩, T0, ⟨⟨Dsame_signs, n_sorted⟩, Dcheck_signs, E_Unlike, xUnlike⟩, T1, ⟨D_law_told, x_Unlike_Unlike⟩, ⟨D_law_first_parted, n_len, n_set, n_tuple, n_sorted⟩, D_law_turned, ⟨D_law_later, n_len, n_list, n_set, n_tuple, n_sorted⟩, Dlaw, n_range, n_min, n_len, n_list⟩
    exact ok_law T
theorem walk {l : PySem.W.OpenLaw} {q : Program} {loose : List Str} {XP : (Str → Option Value) → Heap → Prop} {YP : World → Heap → Prop} {d : DefRec} (hn : l.most = some 63) (hdf : d.params.defaults = [])
    (F : ∀ (w : World) (mg : Str → Option Value) (fa : Addr) (h : Heap), YP w h → h.Ns mainGlobals mg → mg d.name = some (.ref fa) → ∃ K : PySem.W.Frag, K.In h ∧ LamX.LawAtS l w K (fun o H s E e s' => CX0 o H s E e s') 11 63 "script" mg fa h) :
    PySem.W.WalkO q loose XP YP l.row.toRowW d [] (fun f vs => PySem.call f vs) :=
  LamX.walk_ofTsE (n := 63) (k := 11) (x := "script") (CX := fun _ o H s E e s' => CX0 o H s E e s') hn (by decide) hdf ⟨rfl, by decide, by decide⟩ F fun _ _ _ _ _ z => z
end Kx

open PySem PySem.W PyProof.Rows
set_option maxRecDepth 100000 in
set_option maxHeartbeats 0 in
theorem PySem.Challenge.cw_nevermiss_k12_whole_first_unlike_texts_holds : PySem.Challenge.rw_nevermiss_k12_whole_first_unlike_texts.Holds := by
  w_on; o_law; km_head; (case hw => w_witness2)
  k_fill
  refine Kx.walk (l := PySem.Challenge.rw_nevermiss_k12_whole_first_unlike_texts) rfl rfl ?F
  case F =>
    intro w mg fa h Y G hmg
    have KX := km_in_of Y
    refine' ⟨_, KX, ?_⟩
    refine' Kx.all_mk KX G hmg ?hn ?ht ?aM ?m1 ?m2 ?m3 ?aCBadMachine ?xLBadMachine ?saBadMachine ?gaBadMachine ?ggBadMachine ?hcBadMachine ?kCBadMachine ?iCBadMachine ?tIBadMachine ?lIBadMachine ?cIBadMachine ?kIBadMachine ?nfBadMachine_state ?nfBadMachine_place ?aCTooMany ?xLTooMany ?saTooMany ?gaTooMany ?ggTooMany ?hcTooMany ?kCTooMany ?iCTooMany ?tITooMany ?lITooMany ?cITooMany ?kITooMany ?nfTooMany_what ?aCBadSign ?xLBadSign ?saBadSign ?gaBadSign ?ggBadSign ?hcBadSign ?kCBadSign ?iCBadSign ?tIBadSign ?lIBadSign ?cIBadSign ?kIBadSign ?nfBadSign_place ?aCUnlike ?xLUnlike ?saUnlike ?gaUnlike ?ggUnlike ?hcUnlike ?kCUnlike ?s_Unlike_Unlike ?aCMachine ?pgMachine ?hdMachine ?poMachine ?saMachine ?mkMachine ?kcMachine ?naMachine_signs ?naMachine_rows ?naMachine_ends ?naMachine_all_keys ?naMachine__ways ?aMachine_init ?iMachine_init ?lMachine_init ?cMachine_init ?kMachine_init ?aMachine_walk ?iMachine_walk ?lMachine_walk ?cMachine_walk ?kMachine_walk ?ais_whole ?lis_whole ?cis_whole ?kis_whole ?akey_list ?lkey_list ?ckey_list ?kkey_list ?acheck_ways ?lcheck_ways ?ccheck_ways ?kcheck_ways ?akeys_in ?lkeys_in ?ckeys_in ?kkeys_in ?acopied ?lcopied ?ccopied ?kcopied ?afirst_text ?lfirst_text ?cfirst_text ?kfirst_text ?a_law_pen ?l_law_pen ?c_law_pen ?k_law_pen ?a_law_draw ?l_law_draw ?c_law_draw ?k_law_draw ?a_law_pick ?l_law_pick ?c_law_pick ?k_law_pick ?a_law_signs ?l_law_signs ?c_law_signs ?k_law_signs ?a_law_keys ?l_law_keys ?c_law_keys ?k_law_keys ?a_law_tables ?l_law_tables ?c_law_tables ?k_law_tables ?asame_signs ?lsame_signs ?csame_signs ?ksame_signs ?acheck_signs ?lcheck_signs ?ccheck_signs ?kcheck_signs ?a_law_first_parted ?l_law_first_parted ?c_law_first_parted ?k_law_first_parted ?a_law_turned ?l_law_turned ?c_law_turned ?k_law_turned ?a_law_later ?l_law_later ?c_law_later ?k_law_later ?a_law_changed ?l_law_changed ?c_law_changed ?k_law_changed ?a_law_told ?l_law_told ?c_law_told ?k_law_told ?alaw ?llaw ?claw ?klaw ?aparted_by ?lparted_by ?cparted_by ?kparted_by ?vparted_by ?pparted_by ?hparted_by ?uparted_by ?eparted_by ?aparted ?lparted ?cparted ?kparted ?vparted ?pparted ?hparted ?uparted ?eparted ?ndP ?gMOST_KEYS ?z_isinstance ?z_list ?z_tuple ?z_dict ?z_int ?z_bool ?z_len ?z_set ?z_sorted ?z_zip ?z_enumerate ?z_range ?z_min ?xUnlike
    (case hn => k_is)
    (case ht => k_is)
    (case aM => k_is)
    (case m1 => k_is)
    (case m2 => k_is)
    (case m3 => k_is)
    (case aCBadMachine => k_is)
    (case xLBadMachine => k_is)
    (case saBadMachine => k_is)
    (case gaBadMachine => k_is)
    (case ggBadMachine => k_is)
    (case hcBadMachine => k_is)
    (case kCBadMachine => k_is)
    (case iCBadMachine => k_is)
    (case tIBadMachine => k_is)
    (case lIBadMachine => k_is)
    (case cIBadMachine => k_is)
    (case kIBadMachine => k_is)
    (case nfBadMachine_state => k_is)
    (case nfBadMachine_place => k_is)
    (case aCTooMany => k_is)
    (case xLTooMany => k_is)
    (case saTooMany => k_is)
    (case gaTooMany => k_is)
    (case ggTooMany => k_is)
    (case hcTooMany => k_is)
    (case kCTooMany => k_is)
    (case iCTooMany => k_is)
    (case tITooMany => k_is)
    (case lITooMany => k_is)
    (case cITooMany => k_is)
    (case kITooMany => k_is)
    (case nfTooMany_what => k_is)
    (case aCBadSign => k_is)
    (case xLBadSign => k_is)
    (case saBadSign => k_is)
    (case gaBadSign => k_is)
    (case ggBadSign => k_is)
    (case hcBadSign => k_is)
    (case kCBadSign => k_is)
    (case iCBadSign => k_is)
    (case tIBadSign => k_is)
    (case lIBadSign => k_is)
    (case cIBadSign => k_is)
    (case kIBadSign => k_is)
    (case nfBadSign_place => k_is)
    (case aCUnlike => k_is)
    (case xLUnlike => k_is)
    (case saUnlike => k_is)
    (case gaUnlike => k_is)
    (case ggUnlike => k_is)
    (case hcUnlike => k_is)
    (case kCUnlike => k_is)
    (case s_Unlike_Unlike => k_is)
    (case aCMachine => k_is)
    (case pgMachine => k_is)
    (case hdMachine => k_is)
    (case poMachine => k_is)
    (case saMachine => k_is)
    (case mkMachine => k_is)
    (case kcMachine => k_is)
    (case naMachine_signs => k_is)
    (case naMachine_rows => k_is)
    (case naMachine_ends => k_is)
    (case naMachine_all_keys => k_is)
    (case naMachine__ways => k_is)
    (case aMachine_init => k_is)
    (case iMachine_init => k_is)
    (case lMachine_init => k_is)
    (case cMachine_init => k_is)
    (case kMachine_init => k_is)
    (case aMachine_walk => k_is)
    (case iMachine_walk => k_is)
    (case lMachine_walk => k_is)
    (case cMachine_walk => k_is)
    (case kMachine_walk => k_is)
    (case ais_whole => k_is)
    (case lis_whole => k_is)
    (case cis_whole => k_is)
    (case kis_whole => k_is)
    (case akey_list => k_is)
    (case lkey_list => k_is)
    (case ckey_list => k_is)
    (case kkey_list => k_is)
    (case acheck_ways => k_is)
    (case lcheck_ways => k_is)
    (case ccheck_ways => k_is)
    (case kcheck_ways => k_is)
    (case akeys_in => k_is)
    (case lkeys_in => k_is)
    (case ckeys_in => k_is)
    (case kkeys_in => k_is)
    (case acopied => k_is)
    (case lcopied => k_is)
    (case ccopied => k_is)
    (case kcopied => k_is)
    (case afirst_text => k_is)
    (case lfirst_text => k_is)
    (case cfirst_text => k_is)
    (case kfirst_text => k_is)
    (case a_law_pen => k_is)
    (case l_law_pen => k_is)
    (case c_law_pen => k_is)
    (case k_law_pen => k_is)
    (case a_law_draw => k_is)
    (case l_law_draw => k_is)
    (case c_law_draw => k_is)
    (case k_law_draw => k_is)
    (case a_law_pick => k_is)
    (case l_law_pick => k_is)
    (case c_law_pick => k_is)
    (case k_law_pick => k_is)
    (case a_law_signs => k_is)
    (case l_law_signs => k_is)
    (case c_law_signs => k_is)
    (case k_law_signs => k_is)
    (case a_law_keys => k_is)
    (case l_law_keys => k_is)
    (case c_law_keys => k_is)
    (case k_law_keys => k_is)
    (case a_law_tables => k_is)
    (case l_law_tables => k_is)
    (case c_law_tables => k_is)
    (case k_law_tables => k_is)
    (case asame_signs => k_is)
    (case lsame_signs => k_is)
    (case csame_signs => k_is)
    (case ksame_signs => k_is)
    (case acheck_signs => k_is)
    (case lcheck_signs => k_is)
    (case ccheck_signs => k_is)
    (case kcheck_signs => k_is)
    (case a_law_first_parted => k_is)
    (case l_law_first_parted => k_is)
    (case c_law_first_parted => k_is)
    (case k_law_first_parted => k_is)
    (case a_law_turned => k_is)
    (case l_law_turned => k_is)
    (case c_law_turned => k_is)
    (case k_law_turned => k_is)
    (case a_law_later => k_is)
    (case l_law_later => k_is)
    (case c_law_later => k_is)
    (case k_law_later => k_is)
    (case a_law_changed => k_is)
    (case l_law_changed => k_is)
    (case c_law_changed => k_is)
    (case k_law_changed => k_is)
    (case a_law_told => k_is)
    (case l_law_told => k_is)
    (case c_law_told => k_is)
    (case k_law_told => k_is)
    (case alaw => k_is)
    (case llaw => k_is)
    (case claw => k_is)
    (case klaw => k_is)
    (case aparted_by => k_is)
    (case lparted_by => k_is)
    (case cparted_by => k_is)
    (case kparted_by => k_is)
    (case vparted_by => k_is)
    (case pparted_by => rfl)
    (case hparted_by => kernel_rfl)
    (case uparted_by => kernel_rfl)
    (case eparted_by => exact km_tabs_of Y _ (by k_mem))
    (case aparted => k_is)
    (case lparted => k_is)
    (case cparted => k_is)
    (case kparted => k_is)
    (case vparted => k_is)
    (case pparted => rfl)
    (case hparted => kernel_rfl)
    (case uparted => kernel_rfl)
    (case eparted => exact km_tabs_of Y _ (by k_mem))
    (case ndP => decide)
    (case gMOST_KEYS => k_is)
    (case z_isinstance => k_is)
    (case z_list => k_is)
    (case z_tuple => k_is)
    (case z_dict => k_is)
    (case z_int => k_is)
    (case z_bool => k_is)
    (case z_len => k_is)
    (case z_set => k_is)
    (case z_sorted => k_is)
    (case z_zip => k_is)
    (case z_enumerate => k_is)
    (case z_range => k_is)
    (case z_min => k_is)
    (case xUnlike => k_exc)

