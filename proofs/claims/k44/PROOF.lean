import PyProof.Rows.All
import Wide.All
import OpenK.AllK
import Wide.FinOn
import HandS.ForMost
import HandS.SortInts
import HandS.Wide
import HandS.IsInst
import HandS.Codes
import HandS.DictComp
import HandS.Conv
import HandS.DictTup
import HandS.Walk
import PySem.Challenge.RW_halfpicked_k44_prices_for_an_answer
import KE.KExcSuper
import HandS.ForExc
import HandS.ExcField
import HandS.ExcSuper
import HandS.HeadHook1
import HandS.HeadHook2
import HandS.Defaults
import HandS.SlotsOwn
import PyProof.InstNe
import HandS.Head0
import HandS.Head1
import HandS.Head2
import HandS.HeadEnd
import HandS.Deep
import HandS.DictEq
import KE.KEqDict
import HandS.WordsDict
import HandS.Evl
import HandS.TupAny
import HandS.Style
import HandS.More
import HandS.WideBits
import KE.GoesMore
import HandS.Finally
import HandS.Text
import PyProof.TupleOfGen
import KE.KDictList
import PyProof.DictUpdate
import PyProof.DictDisplay
import HandS.Dict
import HandS.Star
import HandS.TryMany
import HandS.ExcOwn
import KE.KDictZip
import KE.KDictKeyed
import KE.KTurns
import HandS.Iter
import HandS.Call
import HandS.TupLen
import PyProof.Rows.InDataRows
import HandS.Flow
import HandS.Property
import HandS.NoneIn
import HandS.Zip
import KE.KRevSl
import KE.KEqNest
import PyProof.NeKinds
set_option Elab.async false
set_option linter.all false
section
set_option maxRecDepth 100000
set_option maxHeartbeats 4000000
namespace Own
open PySem PySem.Spec PyProof.Rows L2 SrtO
/-! ### the order of texts and of pairs of texts -/
def ltS (x y : Str) : Bool := decide (x.cps.toList < y.cps.toList)
def ltP (p q : Str × Str) : Bool := if p.1 = q.1 then ltS p.2 q.2 else ltS p.1 q.1
theorem ltS_irr (x : Str) : ltS x x = false := decide_eq_false (List.lt_irrefl _)
theorem ltS_asym {x y : Str} (h : ltS x y = true) : ltS y x = false := by
  have h1 := of_decide_eq_true h
  exact decide_eq_false fun h2 => List.lt_irrefl _ (List.lt_trans h1 h2)
theorem cps_ext {x y : Str} (h : x.cps.toList = y.cps.toList) : x = y := by
  obtain ⟨x⟩ := x
  obtain ⟨y⟩ := y
  have h' : x.toList = y.toList := h
  rw [Array.toList_inj.mp h']
theorem ltS_tri {x y : Str} (h1 : ltS x y = false) (h2 : ltS y x = false) : x = y := by
  have a := of_decide_eq_false h1
  have b := of_decide_eq_false h2
  exact cps_ext (List.le_antisymm (List.not_lt.mp b) (List.not_lt.mp a))
theorem ltS_trans {x y z : Str} (h1 : ltS x y = true) (h2 : ltS y z = true) : ltS x z = true :=
  decide_eq_true (List.lt_trans (of_decide_eq_true h1) (of_decide_eq_true h2))
theorem ltS_tot {x y : Str} (h : x ≠ y) : ltS x y = true ∨ ltS y x = true := by
  cases h1 : ltS x y with
  | true => exact .inl rfl
  | false =>
    cases h2 : ltS y x with
    | true => exact .inr rfl
    | false => exact absurd (ltS_tri h1 h2) h
theorem swoS : Swo ltS := by
  refine ⟨fun x y h => ltS_asym h, fun x y z h1 h2 => ?_⟩
  cases h3 : ltS z x with
  | false => rfl
  | true =>
    by_cases e : x = y
    · subst e
      rw [h3] at h2
      cases h2
    · rcases ltS_tot e with q | q
      · have := ltS_trans h3 q
        rw [h2] at this
        cases this
      · rw [h1] at q
        cases q
theorem ltP_asym {p q : Str × Str} (h : ltP p q = true) : ltP q p = false := by
  unfold ltP at h ⊢
  by_cases e : p.1 = q.1
  · rw [if_pos e] at h
    rw [if_pos e.symm]
    exact ltS_asym h
  · rw [if_neg e] at h
    rw [if_neg fun z => e z.symm]
    exact ltS_asym h
theorem swoP : Swo ltP := by
  refine ⟨fun x y h => ltP_asym h, fun x y z h1 h2 => ?_⟩
  unfold ltP at h1 h2 ⊢
  by_cases e1 : z.1 = x.1
  · rw [if_pos e1]
    by_cases e2 : y.1 = x.1
    · rw [if_pos e2] at h1
      rw [if_pos (e1.trans e2.symm)] at h2
      exact swoS.tr _ _ _ h1 h2
    · rw [if_neg e2] at h1
      rw [if_neg fun q => e2 (q.symm.trans e1), e1] at h2
      exact absurd (ltS_tri h1 h2) e2
  · rw [if_neg e1]
    by_cases e2 : y.1 = x.1
    · rw [if_neg fun q => e1 (q.trans e2), e2] at h2
      exact h2
    · rw [if_neg e2] at h1
      by_cases e3 : z.1 = y.1
      · rw [e3]
        exact h1
      · rw [if_neg e3] at h2
        exact swoS.tr _ _ _ h1 h2
/-- in ascending order -/
def AscS (l : List Str) : Prop := l.Pairwise fun x y => ltS y x = false
def AscP (l : List (Str × Str)) : Prop := l.Pairwise fun x y => ltP y x = false
/-! ### sorted of a list or a tuple, by an order -/
section
variable {prog : Program} {w : World} {A : Around} {E : Value → Shared → Prop} {s : Shared}
theorem sorted_seq_ord {it : Addr} {T : String} {o : Obj} {vs : List Value} {n : Nat} {ltv : Value → Value → Bool} {Q : Value → Shared → Prop} (O : Swo ltv) (hT : T = "list" ∨ T = "tuple") (ho : s.heap.get? it = some o) (hc : o.cls = .type T)
    (hd : o.data = .seq vs.toArray n) (hz : vs.length ≤ sizeLine)
    (hS : 2 ≤ vs.length → ∀ (h₁ : Heap) (a : Addr), h₁.get? a = some (seqObj "list" vs.toArray 0) → (∀ b o, s.heap.get? b = some o → b ≠ a ∧ h₁.get? b = some o) → SortableO prog w A.in1.in1 { s with heap := h₁ } a vs ltv)
    (h : ∀ (h' : Heap) (out : List Value), Srtd ltv out → Stb ltv out vs → (∀ b o, s.heap.get? b = some o → h'.get? b = some o) → Q (.ref h'.objs.size) { s with heap := sortedHeap (h'.push (seqObj "list" vs.toArray 0)) h'.objs.size vs out.toArray }) :
    wpAny (model prog w) A (call (.builtin "sorted") [.ref it]) Q E s := by
  refine Calls.call_function_entry kind_sorted plain_sorted entry_sorted (args_sorted1 _) ?_
  unfold Builtin.«sorted»
  refine wpAny_bind (m := checkCount "sorted" 1 1 _) (wpAny_pure ?_)
  refine wpAny_bind (wpAny_collect_seq (items := vs.toArray) it hT ho hc hd (fun h' hk => ?_) (by simpa using hz))
  rw [show vs.toArray.toList = vs by simp]
  refine wpAny_bind (wpAny_newList ?_ hz)
  have hoL : (h'.push (seqObj "list" vs.toArray 0)).get? h'.objs.size = some (seqObj "list" vs.toArray 0) := Heap.get?_push_size _ rfl
  have keep : ∀ b o, s.heap.get? b = some o → b ≠ h'.objs.size ∧ (h'.push (seqObj "list" vs.toArray 0)).get? b = some o := fun b o q => ⟨Nat.ne_of_lt (Heap.lt_size (hk b o q)), Heap.get?_push_of_some _ (hk b o q)⟩
  show wpAny _ _ _ _ _ { s with heap := h'.push (seqObj "list" vs.toArray 0) }
  refine wpAny_bind (wpAny_holding (wpAny_call_entry slot_list_sort ⟨_, hoL, rfl⟩ entry_list_sort (list_sort_ord (s := { s with heap := h'.push (seqObj "list" vs.toArray 0) }) O hoL hz (fun h2 => hS h2 _ _ hoL keep) fun out hs hb => ⟨_, rfl, ?_⟩) (args_list_sort _)))
  exact wpAny_pure ⟨_, rfl, h h' out hs hb hk⟩
/-! ### texts -/
def sv : Value → Str
  | .str x _ => x
  | _ => ⟨#[]⟩
theorem swo_sv : Swo fun v u => ltS (sv v) (sv u) := ⟨fun x y => swoS.asym _ _, fun x y z => swoS.tr _ _ _⟩
theorem strs_sortable {a : Addr} {vs : List Value} {ss : List Str} (hS : StrsAre vs ss) (h2 : 2 ≤ vs.length) : SortableO prog w A s a vs fun v u => ltS (sv v) (sv u) := by
  intro h' _
  refine ⟨oneType', fun Q E hq => ?_, fun p q hm hm' => ?_⟩
  · match vs, hS, h2 with
    | v1 :: v2 :: rest, hS, _ =>
      rw [keyKind_strs hS]
      exact wpAny_pure hq
    | [], _, h => exact absurd h (by decide)
    | [v], _, h => exact absurd h (by simp)
  · obtain ⟨x, t, e⟩ := hS.all _ hm
    obtain ⟨y, u, e'⟩ := hS.all _ hm'
    show wpAny (model prog w) A (keyLt' oneType' p.1 q.1) (fun r s' => s' = _ ∧ r = ltS (sv p.1) (sv q.1)) (fun _ _ => False) _
    rw [e, e', keyLt'_oneType]
    exact oneLt_str ⟨rfl, rfl⟩
/-! ### pairs of texts -/
def IsTS (h : Heap) (v : Value) (x y : Str) : Prop := ∃ a o t u n, v = .ref a ∧ h.get? a = some o ∧ o.cls = .type "tuple" ∧ o.data = .seq #[.str x t, .str y u] n
theorem IsTS.keeps {h h' : Heap} {v : Value} {x y : Str} (p : IsTS h v x y) (k : ∀ b o, h.get? b = some o → o.cls = .type "tuple" → h'.get? b = some o) : IsTS h' v x y := by
  obtain ⟨a, o, t, u, n, e, ho, hc, hd⟩ := p
  exact ⟨a, o, t, u, n, e, k _ _ ho hc, hc, hd⟩
theorem firstsS {h : Heap} : ∀ {vs : List Value}, (∀ v ∈ vs, ∃ x y, IsTS h v x y) → ∃ fs : List Value, PySem.W.KatTups h vs fs ∧ fs.length = vs.length ∧ ∀ f ∈ fs, ∃ x t, f = Value.str x t
  | [], _ => ⟨[], PySem.W.KatTups.nil, rfl, fun _ hm => by simp at hm⟩
  | v :: vs, hp => by
    obtain ⟨fs, h1, h2, h3⟩ := firstsS (vs := vs) fun v' hm => hp v' (List.mem_cons_of_mem _ hm)
    obtain ⟨x, y, a, o, t, u, n, e, ho, hc, hd⟩ := hp v (List.mem_cons_self ..)
    subst e
    refine ⟨.str x t :: fs, PySem.W.KatTups.cons ho hc hd rfl h1, by rw [List.length_cons, List.length_cons, h2], fun f hm => ?_⟩
    rcases List.mem_cons.mp hm with rfl | hm
    · exact ⟨x, t, rfl⟩
    · exact h3 f hm
theorem tsCmp {vs : List Value} {k : Value → Str × Str} (hp : ∀ v ∈ vs, IsTS s.heap v (k v).1 (k v).2) : Cmp prog w A s (tuples' true) (fun p => p.1 ∈ vs) (lt2 fun v u => ltP (k v) (k u)) := by
  intro p q hm hm'
  have h1 := hp _ hm
  have h2 := hp _ hm'
  show wpAny (model prog w) A (keyLt' (tuples' true) p.1 q.1) (fun r s' => s' = s ∧ r = ltP (k p.1) (k q.1)) (fun _ _ => False) s
  unfold ltP
  generalize (k p.1).1 = x at h1 ⊢
  generalize (k p.1).2 = y at h1 ⊢
  generalize (k q.1).1 = x' at h2 ⊢
  generalize (k q.1).2 = y' at h2 ⊢
  obtain ⟨a, o, t, u, n, e, ho, hc, hd⟩ := h1
  obtain ⟨a', o', t', u', n', e', ho', hc', hd'⟩ := h2
  rw [e, e']
  refine PySem.W.kat_lt ho hd ho' hd' ?_
  show PySem.W.KatLex prog w A true (decide (2 < 2)) _ [(.str x t, .str x' t'), (.str y u, .str y' u')] 0 s
  refine PySem.W.kat_cons (wpAny_eqBool_str ?_)
  refine PySem.W.kat_go (fun e1 => ?_) (fun e1 => ?_)
  · have ex : x = x' := by simpa using e1
    refine PySem.W.kat_yes (PySem.W.kat_cons (wpAny_eqBool_str ?_))
    refine PySem.W.kat_go (fun e2 => ?_) (fun e2 => ?_)
    · have ey : y = y' := by simpa using e2
      have e3 : (if x = x' then ltS y y' else ltS x x') = false := by rw [if_pos ex, ey, ltS_irr]
      exact PySem.W.kat_yes (PySem.W.kat_nil ⟨rfl, e3.symm⟩)
    · have e3 : (if x = x' then ltS y y' else ltS x x') = ltS y y' := if_pos ex
      refine PySem.W.kat_no (PySem.W.kat_one _ _ (PyProof.Rows.lt_str ?_))
      exact (show s = s ∧ decide (y.cps.toList < y'.cps.toList) = (if x = x' then ltS y y' else ltS x x') from ⟨rfl, e3.symm⟩)
  · have ex : ¬ x = x' := by simpa using e1
    have e3 : (if x = x' then ltS y y' else ltS x x') = ltS x x' := if_neg ex
    exact PySem.W.kat_no (oneLt_str ⟨rfl, e3.symm⟩)
theorem ts_sortable {a : Addr} {vs : List Value} {k : Value → Str × Str} (h0 : 0 < vs.length) (hp : ∀ v ∈ vs, IsTS s.heap v (k v).1 (k v).2) (ha : ∀ o, s.heap.get? a = some o → o.cls ≠ .type "tuple") : SortableO prog w A s a vs fun v u => ltP (k v) (k u) := by
  intro h' keep
  have hp' : ∀ v ∈ vs, IsTS h' v (k v).1 (k v).2 := fun v hm => (hp v hm).keeps fun b o e c => keep b o (fun z => by subst z; exact ha o e c) e
  obtain ⟨fs, h1, h2, h3⟩ := firstsS fun v hm => ⟨_, _, hp' v hm⟩
  refine ⟨tuples' true, fun Q E hq => ?_, tsCmp hp'⟩
  refine PySem.W.kat_kind (T := .type "str") h1 (by omega) (fun f hm => ?_) (by rfl) ?_
  · obtain ⟨x, t, rfl⟩ := h3 f hm
    exact PySem.W.Looks.now
  · have e : (Value.type "str" != Value.type "tuple") = true := by first | decide +kernel | rfl | decide
    rw [e]
    exact hq
end

/-! ### the rules -/
def tieV (H : Hp) : V → Str × Str
  | .ref a => match H a with
    | some (.tup [.str x, .str y]) => (x, y)
    | _ => (⟨#[]⟩, ⟨#[]⟩)
  | _ => (⟨#[]⟩, ⟨#[]⟩)
theorem tieV_of {H : Hp} {t : Addr} {x y : Str} (h : H t = some (.tup [.str x, .str y])) : tieV H (.ref t) = (x, y) := by
  simp only [tieV, h]
def rSortS (K : PySem.W.Frag) : List V → Hp → VK → Prop := fun vs H Q => ∃ (a : Addr) (ss : List Str), vs = [V.ref a] ∧ (SqL K H a (ss.map V.str) ∨ SqT K H a (ss.map V.str)) ∧
  ∀ (ys : List Str) (p : Addr), ys.Perm ss → AscS ys → H p = none → Q (.ref p) (upd H p (.lst (ys.map V.str)))
def rSortT (K : PySem.W.Frag) : List V → Hp → VK → Prop := fun vs H Q => ∃ (a : Addr) (xs : List V), vs = [V.ref a] ∧ (SqL K H a xs ∨ SqT K H a xs) ∧ (∀ x ∈ xs, ∃ t a b, x = V.ref t ∧ H t = some (.tup [.str a, .str b])) ∧
  ∀ (ys : List V) (p : Addr), ys.Perm xs → AscP (ys.map (tieV H)) → H p = none → Q (.ref p) (upd H p (.lst ys))
section
variable {X : Cx}
theorem seq_at {pins : List (Addr × Obj)} {σ : L2.St} {H : Hp} {s : Shared} {a : Addr} {xs : List V} (I : Inv X pins σ H s) (h : SqL X.K H a xs ∨ SqT X.K H a xs) :
    ∃ (T : String) (o : Obj) (its : List Value) (n : Nat), (T = "list" ∨ T = "tuple") ∧ s.heap.get? a = some o ∧ o.cls = .type T ∧ o.data = .seq its.toArray n ∧ Vals xs its ∧ xs.length ≤ sizeLine := by
  rcases h with h | h
  · obtain ⟨its, rv, hl, hz⟩ := I.list h
    obtain ⟨o, ho, hc, n, hd⟩ := hl.isList
    exact ⟨"list", o, its, n, .inl rfl, ho, hc, hd, rv, hz⟩
  · obtain ⟨its, rv, ⟨o, ho, hc, n, hd⟩, hz⟩ := I.tuple h
    exact ⟨"tuple", o, its, n, .inr rfl, ho, hc, hd, rv, hz⟩
theorem vals_strs : ∀ {us : List Value}, (∀ v ∈ us, ∃ x t, v = Value.str x t) → Vals ((us.map sv).map V.str) us
  | [], _ => .nil
  | u :: us, h => by
    obtain ⟨x, t, e⟩ := h u List.mem_cons_self
    subst e
    exact .cons ⟨t, rfl⟩ (vals_strs fun v hv => h v (List.mem_cons_of_mem _ hv))
theorem sv_strs : ∀ {vs : List Value} {ss : List Str}, StrsAre vs ss → vs.map sv = ss
  | _, _, .nil => rfl
  | _, _, .cons x t h => by
    rw [List.map_cons, sv_strs h]
    rfl
theorem cr_sortS : CallR X (.builtin "sorted") (rSortS X.K) := by
  intro pins s σ H vs us Q I r h
  obtain ⟨a, ss, rfl, hs, q⟩ := h
  obtain ⟨T, o, its, n, hT, ho, hc, hd, rv, hz⟩ := seq_at I hs
  rw [Vals.ref1 r]
  have hS := rv.strs
  refine sorted_seq_ord swo_sv hT ho hc hd (by rw [← rv.length]; exact hz) (fun h2 h₁ a' _ _ => strs_sortable hS h2) fun h' out h1 h2 hk => ?_
  have I1 : Inv X pins σ H { s with heap := h' } := I.kept (t' := s.toks) hk
  have hoL : (h'.push (seqObj "list" its.toArray 0)).get? h'.objs.size = some (seqObj "list" its.toArray 0) := Heap.get?_push_size _ rfl
  obtain ⟨ep, he'⟩ := PyProof.Rows.sortedHeap_at (vs := its) (out := out.toArray) hoL
  have hall : ∀ v ∈ out, ∃ x t, v = Value.str x t := fun v hv => hS.all v (h2.perm.mem_iff.mp hv)
  have hp : (out.map sv).Perm ss := by
    have := h2.perm.map sv
    rwa [sv_strs hS] at this
  have hlen : ((out.map sv).map V.str).length ≤ sizeLine := by
    rw [List.length_map, hp.length_eq]
    rw [List.length_map] at hz
    exact hz
  refine ⟨.ref h'.objs.size, upd H h'.objs.size (.lst ((out.map sv).map V.str)), I1.laid (t' := s.toks) (fun b u e => ?_) (Nat.le_refl _) ⟨hlen, out, ep, vals_strs hall, he'⟩, rfl, q _ _ hp (List.pairwise_map.mpr h1) (I1.hok.fresh (Nat.le_refl _))⟩
  have hb : b < h'.objs.size := Heap.lt_size e
  rw [PyProof.Rows.sortedHeap_old (Nat.ne_of_lt hb) (by rw [size_push']; exact Nat.lt_succ_of_lt hb)]
  exact Heap.get?_push_of_some _ e
theorem cr_sortT : CallR X (.builtin "sorted") (rSortT X.K) := by
  intro pins s σ H vs us Q I r h
  obtain ⟨a, xs, rfl, hs, hx, q⟩ := h
  obtain ⟨T, o, its, n, hT, ho, hc, hd, rv, hz⟩ := seq_at I hs
  rw [Vals.ref1 r]
  obtain ⟨e1, e2⟩ := refs_back rv fun x m => by
    obtain ⟨t, _, _, e, _⟩ := hx x m
    exact ⟨t, e⟩
  have hp : ∀ v ∈ its, IsTS s.heap v (tieV H (backV v)).1 (tieV H (backV v)).2 := fun v hv => by
    obtain ⟨t, rfl⟩ := e2 v hv
    have hm : V.ref t ∈ xs := by rw [e1]; exact List.mem_map.mpr ⟨_, hv, rfl⟩
    obtain ⟨t', x, y, e, ht⟩ := hx _ hm
    cases e
    have et : tieV H (backV (Value.ref t)) = (x, y) := tieV_of ht
    rw [et]
    obtain ⟨_, its2, r2, o, ho, hc, n, hd⟩ := I.hok _ _ ht
    obtain ⟨u1, u2, rfl, ri, rj⟩ := vals2 r2
    obtain ⟨t1, rfl⟩ := ri
    obtain ⟨t2, rfl⟩ := rj
    exact ⟨t, o, t1, t2, n, rfl, ho, hc, hd⟩
  refine sorted_seq_ord (ltv := fun v u => ltP (tieV H (backV v)) (tieV H (backV u))) ⟨fun x y => swoP.asym _ _, fun x y z => swoP.tr _ _ _⟩ hT ho hc hd (by rw [← rv.length]; exact hz) (fun h2 h₁ a' ha kk => ?_) fun h' out h1 h2 hk => ?_
  · refine ts_sortable (s := { s with heap := h₁ }) (by omega) (fun v hm => (hp v hm).keeps fun b o e _ => (kk b o e).2) fun o e => ?_
    have e' : some o = some (seqObj "list" its.toArray 0) := e.symm.trans ha
    cases e'
    intro c
    exact absurd (Value.type.inj c) (by decide)
  have I1 : Inv X pins σ H { s with heap := h' } := I.kept (t' := s.toks) hk
  have hoL : (h'.push (seqObj "list" its.toArray 0)).get? h'.objs.size = some (seqObj "list" its.toArray 0) := Heap.get?_push_size _ rfl
  obtain ⟨ep, he'⟩ := PyProof.Rows.sortedHeap_at (vs := its) (out := out.toArray) hoL
  have h3 : ∀ u ∈ out, ∃ a, u = Value.ref a := fun u hu => e2 u (h2.perm.mem_iff.mp hu)
  have hpm : (out.map backV).Perm xs := by
    rw [e1]
    exact h2.perm.map backV
  have hlen : (out.map backV).length ≤ sizeLine := by
    rw [hpm.length_eq]
    exact hz
  refine ⟨.ref h'.objs.size, upd H h'.objs.size (.lst (out.map backV)), I1.laid (t' := s.toks) (fun b u e => ?_) (Nat.le_refl _) ⟨hlen, out, ep, vals_back h3, he'⟩, rfl, q _ _ hpm ?_ (I1.hok.fresh (Nat.le_refl _))⟩
  · have hb : b < h'.objs.size := Heap.lt_size e
    rw [PyProof.Rows.sortedHeap_old (Nat.ne_of_lt hb) (by rw [size_push']; exact Nat.lt_succ_of_lt hb)]
    exact Heap.get?_push_of_some _ e
  · rw [List.map_map]
    exact List.pairwise_map.mpr h1
end
end Own
end

section
set_option maxRecDepth 100000
set_option maxHeartbeats 4000000
namespace KK
open PySem PySem.Spec PyProof.Rows L2
def top (i : Nat) : Stmt := PySem.Challenge.pw_halfpicked_k44_prices_for_an_answer.main.body.getD i (.Pass ⟨0, 0, 0, 0⟩)
abbrev s_is_integer : Stmt := top 17
abbrev s_is_between : Stmt := top 18
abbrev s_is_price : Stmt := top 19
abbrev s_is_name : Stmt := top 20
abbrev s_is_among : Stmt := top 21
abbrev s_has_just : Stmt := top 22
abbrev s_has_values : Stmt := top 23
abbrev s_in_order : Stmt := top 24
abbrev s_names_fault : Stmt := top 25
abbrev s_price_fault : Stmt := top 26
abbrev s_is_answer : Stmt := top 28
abbrev s_parts : Stmt := top 30
abbrev s_level_tie : Stmt := top 31
abbrev s_distances : Stmt := top 32
abbrev s_prices_for : Stmt := top 34
abbrev s_only_for : Stmt := top 35
abbrev s_fault_of : Stmt := top 36
abbrev s_need_answer : Stmt := top 37
abbrev s_partners : Stmt := top 38
abbrev s_idle : Stmt := top 39
abbrev s_prices : Stmt := top 40
abbrev s_two_sides : Stmt := top 41
abbrev s_web_of : Stmt := top 44
abbrev s_is_tie : Stmt := top 45
abbrev s_tie_fault : Stmt := top 46
abbrev s_law_stream : Stmt := top 48
abbrev s_law_draw : Stmt := top 49
abbrev s_law_name : Stmt := top 50
abbrev s_law_places : Stmt := top 51
abbrev s_law_prices : Stmt := top 52
abbrev s_law_ties : Stmt := top 53
abbrev s_law_web : Stmt := top 54
abbrev s_law_rows : Stmt := top 55
abbrev s_law_is_integer : Stmt := top 56
abbrev s_law_is_answer : Stmt := top 57
abbrev s_law_sum : Stmt := top 58
abbrev s_law_answers : Stmt := top 59
abbrev s_law_drawn_answer : Stmt := top 60
abbrev s_law_near : Stmt := top 61
abbrev s_law_is_lone : Stmt := top 62
abbrev s_law_lone_places : Stmt := top 63
abbrev s_law_tidied : Stmt := top 64
abbrev s_law_are_prices : Stmt := top 65
abbrev s_law_refused : Stmt := top 66
abbrev s_law_turned : Stmt := top 67
abbrev s_law : Stmt := top 68
abbrev s_BadPlaces_init : Stmt := inClass (top 3) 0
abbrev s_BadTie_init : Stmt := inClass (top 4) 0
abbrev s_BadPrice_init : Stmt := inClass (top 5) 0
abbrev s_NoPlace_init : Stmt := inClass (top 6) 0
abbrev s_CommonPlace_init : Stmt := inClass (top 7) 0
abbrev s_TooMany_init : Stmt := inClass (top 10) 0
abbrev s_Web_init : Stmt := inClass (top 43) 0
abbrev s_Web_places : Stmt := inClass (top 43) 1
abbrev s_Web_ties : Stmt := inClass (top 43) 2
abbrev s_Web_price : Stmt := inClass (top 43) 3
abbrev s_Web_near : Stmt := inClass (top 43) 4
abbrev s_Web_len : Stmt := inClass (top 43) 6
abbrev s_Web_contains : Stmt := inClass (top 43) 7
abbrev s_Web_eq : Stmt := inClass (top 43) 8
abbrev s_Web_with_price : Stmt := inClass (top 43) 9
abbrev s_Web_inside : Stmt := inClass (top 43) 14
abbrev s_Web_add : Stmt := inClass (top 43) 15
abbrev s_Web_need : Stmt := inClass (top 43) 16
abbrev s_Web_part : Stmt := inClass (top 43) 17
/-! ### what the text has written -/
/-- a def of the top -/
def Has (K : PySem.W.Frag) (mg : Str → Option Value) (x : Str) (st : Stmt) : Prop := ∃ f fd, Fun K x x st f fd ∧ mg x = some (.ref f)
/-- a method -/
def HasM (K : PySem.W.Frag) (C : Addr) (m qual : Str) (st : Stmt) : Prop := ∃ f fd, Fun K m qual st f fd ∧ Meth K C m f
/-- an int of the top -/
structure GInt (mg : Str → Option Value) (x : Str) (i : Int) : Prop where
  ex : ∃ t, mg x = some (.int i t)
/-- the built-in names that nobody has bound -/
structure Blt (mg : Str → Option Value) : Prop where
  b_len : mg "len" = none
  b_isinstance : mg "isinstance" = none
  b_int : mg "int" = none
  b_str : mg "str" = none
  b_bool : mg "bool" = none
  b_list : mg "list" = none
  b_tuple : mg "tuple" = none
  b_dict : mg "dict" = none
  b_sorted : mg "sorted" = none
  b_all : mg "all" = none
  b_range : mg "range" = none
  b_enumerate : mg "enumerate" = none
section
variable {P : Program} {w : World} {K : PySem.W.Frag} {mg : Str → Option Value} {base : Heap}
theorem calF {x : Str} {st : Stmt} {N ps : List Str} {k : Nat} {sp : Sp} (F : Has K mg x st) (b : ∀ f fd, Fun K x x st f fd → Binds K fd ps []) (S : FnScope N ps (defScope st)) (len : ∀ vs H Q E, sp vs H Q E → vs.length = ps.length)
    (hbody : ∀ (f : Addr) (cdv : Value) (A : Around) (outer : List Env) (s : Shared) (H : Hp) (vs : List V) (Q : VK) (E : XK), Room k (A.deeper (envOfC x (defScope st) s.heap.objs.size f cdv)) → sp vs H Q E →
      ∃ t, PSs (cxOf CX0 P w K mg base N x (defScope st) f cdv A outer s H E).nox (defBody st) t ∧ t { nx := fun _ H' => Q .non H', rt := Q } (start N vs) H) : C8.Cal P w K mg base (k + 1) x sp [] := by
  obtain ⟨f, fd, F, hm⟩ := F
  exact ⟨f, fd, ps, [], F.ok S len (hbody f), hm, F.kp, b f fd F, .nil⟩
theorem metF {m qual : Str} {C : Addr} {st : Stmt} {N ps : List Str} {k : Nat} {sp : Sp} (c : Cls K C) (F : HasM K C m qual st) (b : ∀ f fd, Fun K m qual st f fd → Binds K fd ps []) (S : FnScope N ps (defScope st)) (len : ∀ vs H Q E, sp vs H Q E → vs.length = ps.length)
    (hbody : ∀ (f : Addr) (cdv : Value) (A : Around) (outer : List Env) (s : Shared) (H : Hp) (vs : List V) (Q : VK) (E : XK), Room k (A.deeper (envOfC qual (defScope st) s.heap.objs.size f cdv)) → sp vs H Q E →
      ∃ t, PSs (cxOf CX0 P w K mg base N qual (defScope st) f cdv A outer s H E).nox (defBody st) t ∧ t { nx := fun _ H' => Q .non H', rt := Q } (start N vs) H) : C8.Met P w K mg base (k + 1) C m sp [] := by
  obtain ⟨f, fd, F, hm⟩ := F
  exact ⟨f, fd, ps, [], c, hm, F.ok S len (hbody f), b f fd F, .nil⟩
end
/-! ### heaps -/
/-- all that stood stands, but what is at a -/
def But (a : Addr) (H H' : Hp) : Prop := ∀ b o, H b = some o → b ≠ a → H' b = some o
theorem But.trans {a : Addr} {H H1 H2 : Hp} (x : But a H H1) (y : But a H1 H2) : But a H H2 := fun b o h n => y b o (x b o h n) n
theorem But.of {a : Addr} {H H' : Hp} (x : Same H H') : But a H H' := fun b o h _ => x b o h
theorem But.upd {a : Addr} {H : Hp} {o : HO} : But a H (upd H a o) := fun b u h n => by rw [upd_ne n]; exact h
theorem Same.new {H : Hp} {p : Addr} {o : HO} (h : H p = none) : Same H (upd H p o) := fun a u e => by
  rw [upd_ne (ne_of_none e h)]
  exact e
theorem Same.seqT {K : PySem.W.Frag} {H H' : Hp} {a : Addr} {xs : List V} (e : Same H H') (h : SqT K H a xs) : SqT K H' a xs := by
  rcases h with (h | ⟨o, h⟩) | h
  · exact .inl (.inl (e _ _ h))
  · exact .inl (.inr ⟨o, e _ _ h⟩)
  · exact .inr h
theorem fits {n : Nat} (h : n ≤ 100000) : n ≤ sizeLine := Nat.le_trans h (by decide)
theorem fitsL {n : Nat} (h : n ≤ 100000) : n < sizeLine := Nat.lt_of_le_of_lt h (by decide)
/-! ### streams -/
def StrAt (H : Hp) (a : Addr) (m : Int) : Prop := ∃ c k : Int, H a = some (.lst [.int c, .int k]) ∧ 0 ≤ k ∧ k ≤ m
end KK
end

section
set_option maxRecDepth 100000
set_option maxHeartbeats 4000000
/-! an own error class whose __init__ says super().__init__(text) and stores its one argument -/
namespace PySem
namespace Err1
open PySem.W PySem.Calls PyProof.Rows PySem.HandSPX
def iA (fld : Str) (p1 p2 : Pos) : Arguments := { posonlyargs := [], args := [{ arg := "self", annotation := none, pos := p1 }, { arg := fld, annotation := none, pos := p2 }], vararg := none, kwonlyargs := [], kw_defaults := [], kwarg := none, defaults := [] }
/-- the text of such an __init__: its message, its places -/
structure EP where
  txt : Str
  k : Nat
  p1 : Pos
  p2 : Pos
  q0 : Pos
  q1 : Pos
  q2 : Pos
  q3 : Pos
  q4 : Pos
  q5 : Pos
  q6 : Pos
  q7 : Pos
  q8 : Pos
  q9 : Pos
abbrev sC (e : EP) : Expr := .Call (.Name "super" e.q0) [] [] e.q1
abbrev cC (e : EP) : Expr := .Call (.Attribute (sC e) "__init__" e.q2) [.Constant (.str e.txt) e.k e.q3] [] e.q4
def iB (fld : Str) (e : EP) : List Stmt := [.Expr (cC e) e.q5, .Assign [.Attribute (.Name "self" e.q6) fld e.q7] (.Name fld e.q8) e.q9]
def iS (fld : Str) : Scope := { kind := .function, names := [(PySem.Str.ofString "self", .local), (fld, .local), (PySem.Str.ofString "__class__", .free), (PySem.Str.ofString "super", .globalImplicit)], isGenerator := false, isCoroutine := false, more := [] }
/-- a name that may be such a field -/
structure FldOk (fld : Str) (e : EP) : Prop where
  bd : ∀ (qual : Str) (body : List Stmt) (doc pm : Value) (an : Option Addr) (cda ct : Value) (cc : Addr) (x v : Value), bindArgs (ksFn "__init__" qual (iA fld e.p1 e.p2) body (iS fld) .none .none doc pm an cda ct cc) ⟨[x, v], []⟩ = pure [(("self" : Str), x), (fld, v)]
  hx : ∀ env : Env, interactive env = false → swapsWith (cC e) none e.q5.line env = pure false
  he : ∀ env : Env, ∃ pl, eval (cC e) env = (do
      let ov ← attributeBase (sC e) "__init__" env (eval (sC e) env)
      standAt e.q2.atName
      let (f, first) ← holding [ov] (getMethod ov "__init__" pl)
      callWith e.q4 f first (backTo e.q4 (starEach [.Constant (.str e.txt) e.k e.q3] env)) [])
  s : ¬ fld = "self"
  c : ¬ fld = "__class__"
  u : ¬ fld = "super"
  d : (fld == ("__debug__" : Str)) = false
/-- what the written part says of the class at C, and of its __init__, at fI -/
structure ErrTxt (prog : Program) (K : Frag) (mg : Str → Option Value) (nm qual fld : Str) (e : EP) (C fI : Addr) : Prop where
  fo : FldOk fld e
  gC : mg nm = some (.ref C)
  gS : mg "super" = none
  top : (prog.main.scope.names.lookup ("super" : Str)).isSome = false
  cls : ∃ nm' q N bs bm sn sub ab col dd k0 k1 k2 k3 k5, K.lookup C = some (excClassObj nm' q C N bs bm true sn sub ab col dd k0 k1 k2 k3 k5 "ValueError.__new__") ∧ refsVE bm = true
  sa : findIn K (.ref C) "__setattr__" = some (some (.builtin "object.__setattr__"))
  noN : findIn K (.ref C) fld = some none
  iC : findIn K (.ref C) "__init__" = some (some (.ref fI))
  tC : typeIn K (.ref fI) = some (.type "function")
  kC : keepIn K (.ref C) = true
  exC : subIn K (.ref C) (.type "BaseException") = some true
  tyC : typeIn K (.ref C) = some (.type "type")
  hdC : hasDictIn K C = true
  veC : subIn K (.ref C) (.type "ValueError") = some true
  opq : nsIn K cStatics "thirdparty.any" = some none
  sup : ks_superIn K C C "__init__" = some (some (.builtin "ValueError.__init__"))
  fn : ∃ (oc : Value) (od : Option Addr) (doc pm : Value) (an : Option Addr) (cda : Addr) (ct : Value) (osl : Array (Option Value)) (cc : Addr),
    K.lookup fI = some ⟨oc, od, .func (ksFn "__init__" qual (iA fld e.p1 e.p2) (iB fld e) (iS fld) .none .none doc pm an (.ref cda) ct cc), osl⟩ ∧ codeIn K (.ref cda) qual = true ∧
    (∃ ccl cdd vs ccs tf, K.lookup cda = some ⟨ccl, cdd, .fields vs, ccs⟩ ∧ vs[2]? = some (.str prog.main.file tf)) ∧ ∃ cl cld csl, K.lookup cc = some ⟨cl, cld, .cell (some (.ref C)), csl⟩
section
variable {prog : Program} {w : World} {A : Around} {E : Value → Shared → Prop} {h : Heap} {g : Array GenState} {d : Drawn} {t : Nat} {os : OsState}
variable {nm q : Str} {C N : Addr} {bs bm : List Value} {hdct : Bool} {sn : List Str} {sub : List Value} {ab : Bool} {col : Option Bool} {dd : Option Addr} {k0 k1 k2 k3 k5 : Option Value}
end
/-- what __init__ leaves of a fresh exception at x -/
structure InitEnd (h h' : Heap) (x C dx t1 : Addr) (fld : Str) (v : Value) : Prop where
  keep : ∀ b o, b ≠ x → h.get? b = some o → h'.get? b = some o
  obj : h'.get? x = some { cls := .ref C, dict := some dx, data := .fields #[.ref t1, .none, .none, .none, .bool false, .none] }
  dbig : h.objs.size ≤ dx
  dne : dx ≠ x
  ns : h'.Ns1 dx (fun y => if y = fld then some v else none)
/-- a made one -/
structure OwnMade (h h' : Heap) (e C d : Addr) (fld : Str) (v : Value) : Prop where
  keep : ∀ b o, h.get? b = some o → h'.get? b = some o
  new : h.objs.size ≤ e
  obj : ∃ oe vs, h'.get? e = some oe ∧ oe.cls = .ref C ∧ oe.dict = some d ∧ oe.data = .fields vs ∧ vs[1]? = some .none
  dbig : h.objs.size ≤ d
  dne : d ≠ e
  ns : h'.Ns1 d (fun y => if y = fld then some v else none)
section
variable {prog : Program} {w : World} {A : Around} {E : Value → Shared → Prop} {R : Result → Shared → Prop} {s : Shared} {K : Frag} {mg : Str → Option Value} {nm qual fld : Str} {e : EP} {C fI : Addr}
end
end Err1
end PySem
namespace L2
open PySem PySem.Spec PyProof.Rows
section
variable {X : Cx} {C fI : Addr} {nm qual fld : Str} {ep : PySem.Err1.EP}
/-- Name(e) -/
def tMkErr (C : Addr) (fld : Str) (ta : TA) : St → Hp → XK → Prop := fun σ H Q => ta σ H fun vs H1 => ∃ v, vs = [v] ∧ ∀ d, H1 d = none → Q (.ref C) (some d) (upd H1 d (.xd [(fld, v)]))
/-- raise Name(e) -/
def tRaiseErr (C : Addr) (fld : Str) (W : WX) (ta : TA) : TS := fun _ σ H => tMkErr C fld ta σ H fun cls d H' => W cls d σ H'
end
end L2
end

section
set_option maxRecDepth 100000
set_option maxHeartbeats 4000000
/-! the head's facts: the kit's, and an own error class with a closed __init__ -/
namespace OwnH
open PySem PySem.Spec PyProof.Rows L2 He
def asO (g : Addr → Option Obj) (n : Nat) : List Addr := cStatics :: asD g n
/-- an own error class: its name, its __init__ -/
structure ErrD where
  name : Str
  qual : Str
  fld : Str
  ep : PySem.Err1.EP
abbrev FnC : Type := Option (Str × Str × Arguments × FuncBody × Scope × Addr × List Str × Addr × Value × Value)
def fnC (K : PySem.W.Frag) (p : Str × Option Str) : FnC := match K.lookup (fAd K p) with
  | some ⟨_, _, .func fd, _⟩ => some (fd.name, fd.qualname, fd.params, fd.body, fd.scope, fd.globals, fd.closure.map (·.1), fd.builtins, fd.defaults, fd.kwdefaults)
  | _ => none
def ErrD.at_ (d : ErrD) : Str × Option Str := (d.name, some "__init__")
def ErrD.val (d : ErrD) : FnC := some ("__init__", d.qual, PySem.Err1.iA d.fld d.ep.p1 d.ep.p2, .stmts (PySem.Err1.iB d.fld d.ep), PySem.Err1.iS d.fld, mainGlobals, ["__class__"], builtinsNs, .none, .none)
def clsB (K : PySem.W.Frag) (C : Addr) : Bool := match K.lookup C with
  | some ⟨.type "type", _, .cls cd, sl⟩ => (match cd.mro, sl.toList with
    | .ref C' :: bm, [_, _, _, _, some (.builtin n), _] => C' == C && (n == "ValueError.__new__" && (!cd.hasDel && (cd.hasDict && PySem.HandSPX.refsVE bm)))
    | _, _ => false)
  | _ => false
def codeB (file : Str) (K : PySem.W.Frag) (C : Addr) (fd : FuncData) (qual : Str) : Bool := match fd.code with
  | .ref cda => PySem.W.codeIn K (.ref cda) qual && ((match K.lookup cda with
    | some ⟨_, _, .fields vs, _⟩ => (match vs[2]? with
      | some (Value.str z _) => decide (z = file)
      | _ => false)
    | _ => false) && (match fd.closure with
    | [(_, cc)] => (match K.lookup cc with
      | some ⟨_, _, .cell (some (.ref C')), _⟩ => decide (C' = C)
      | _ => false)
    | _ => false))
  | _ => false
def initB (file : Str) (K : PySem.W.Frag) (C : Addr) (f : Addr) (qual : Str) : Bool := match K.lookup f with
  | some ⟨_, _, .func fd, _⟩ => codeB file K C fd qual
  | _ => false
def errB (file : Str) (K : PySem.W.Frag) (d : ErrD) : Bool :=
  eqO (PySem.W.nsIn K mainGlobals d.name) (some (some (.ref (ga K d.name)))) && (eqO (PySem.W.nsIn K mainGlobals "super") (some none) && (clsB K (ga K d.name) && (eqO (PySem.W.findIn K (.ref (ga K d.name)) "__setattr__") (some (some (.builtin "object.__setattr__"))) && (eqO (PySem.W.findIn K (.ref (ga K d.name)) d.fld) (some none) &&
  (eqO (PySem.W.findIn K (.ref (ga K d.name)) "__init__") (some (some (.ref (fAd K d.at_)))) && (decide (PySem.W.typeIn K (.ref (fAd K d.at_)) = some (.type "function")) && (PySem.W.keepIn K (.ref (ga K d.name)) && (decide (PySem.W.subIn K (.ref (ga K d.name)) (.type "BaseException") = some true) &&
  (decide (PySem.W.typeIn K (.ref (ga K d.name)) = some (.type "type")) && (PySem.W.hasDictIn K (ga K d.name) && (decide (PySem.W.subIn K (.ref (ga K d.name)) (.type "ValueError") = some true) && (eqO (PySem.W.nsIn K cStatics "thirdparty.any") (some none) &&
  (eqO (PySem.W.ks_superIn K (ga K d.name) (ga K d.name) "__init__") (some (some (.builtin "ValueError.__init__"))) && (initB file K (ga K d.name) (fAd K d.at_) d.qual && (xfB K (ga K d.name) && decide (PySem.W.exmOne K (.ref (ga K d.name)) (.ref (ga K d.name)) = some true))))))))))))))))
/-! ### the Hook -/
abbrev AlO : Type := AlD × Bool × List FnC
def obsO (file : Str) (n : Nat) (fa : List Fa) (fn : List DefD) (er : List ErrD) (g : Addr → Option Obj) : AlO := (obsD fa fn (frG g (asO g n)), er.all (fun d => errB file (frG g (asO g n)) d), er.map fun d => fnC (frG g (asO g n)) d.at_)
def valO (fn : List DefD) (er : List ErrD) : AlO := (valD fn, true, er.map ErrD.val)
structure SaysO (file : Str) (fa : List Fa) (fn : List DefD) (er : List ErrD) (K : PySem.W.Frag) : Prop where
  d : SaysD fa fn K
  b : er.all (fun d => errB file K d) = true
  e : (er.map fun d => fnC K d.at_) = er.map ErrD.val
def hookO (file : Str) (n : Nat) (fa : List Fa) (fn : List DefD) (er : List ErrD) : PySem.W.Hook where
  α := AlO
  obs := fun s => obsO file n fa fn er s.heap.get?
  val := fun _ => valO fn er
  says := fun _ h => ∃ K : PySem.W.Frag, K.In h ∧ SaysO file fa fn er K
  of := fun _ s e => ⟨_, frG_in, congrArg (fun z : AlO => z.1) e, congrArg (fun z : AlO => z.2.1) e, congrArg (fun z : AlO => z.2.2) e⟩
  keeps := fun _ _ _ ⟨K, hK, c⟩ k => ⟨K, PySem.W.Frag.In.keeps hK k, c⟩
end OwnH
end

section
set_option maxRecDepth 100000
set_option maxHeartbeats 4000000
/-! x in o, len(o) where the class of o has its own __contains__, __len__ -/
namespace Own
open PySem PySem.Spec PyProof.Rows L2
section
variable {X : Cx} {k : Nat} {f C : Addr} {fd : FuncData} {ps : List Str} {sp : Sp}
/-- what is asked: the promise of the method, a truth value handed back -/
def rInO (C : Addr) (sp : Sp) (neg : Bool) : R2 := fun x y H Q => ∃ a dx fs, y = .ref a ∧ H a = some (.ins C dx fs) ∧ sp [.ref a, x] H (fun r H' => ∃ b, r = .bl b ∧ Q (.bl (if neg then !b else b)) H') E0
def rLenO (C : Addr) (sp : Sp) : List V → Hp → VK → Prop := fun xs H Q => ∃ a dx fs, xs = [.ref a] ∧ H a = some (.ins C dx fs) ∧ sp [.ref a] H (fun r H' => ∃ n : Int, r = .int n ∧ 0 ≤ n ∧ n < 2 ^ 63 ∧ Q (.int n) H') E0
end
end Own
namespace Own
open PySem PySem.Spec PyProof.Rows L2
section
variable {X : Cx}
/-- k in d, as an operation on values -/
theorem op_in_dict (hu : X.A.units + 1 < cLine) : OpR X (compareOp .In) (fun x y H Q => ∃ a o, y = .ref a ∧ DGet H a x o ∧ Q (.bl o.isSome) H) := by
  intro pins s σ H x y v u Q I rx ry h
  obtain ⟨a, o, rfl, g, q⟩ := h
  obtain rfl : u = Value.ref a := ry
  exact d_in hu I g rx fun s3 I3 => ⟨.bl o.isSome, H, I3, rfl, q⟩
/-- either of two readings -/
theorem op_or {f : Value → Value → Sem Value} {r1 r2 : R2} (h1 : OpR X f r1) (h2 : OpR X f r2) : OpR X f (fun x y H Q => r1 x y H Q ∨ r2 x y H Q) := by
  intro pins s σ H x y v u Q I rx ry h
  rcases h with h | h
  · exact h1 pins s σ H x y v u Q I rx ry h
  · exact h2 pins s σ H x y v u Q I rx ry h
def rInAny (K : PySem.W.Frag) : R2 := fun x y H Q => rIn K false x y H Q ∨ ∃ a o, y = .ref a ∧ DGet H a x o ∧ Q (.bl o.isSome) H
theorem op_inAny (hu : X.A.units + 1 < cLine) : OpR X (compareOp .In) (rInAny X.K) := op_or op_in_seq (op_in_dict hu)
end
end Own
end

section
set_option maxRecDepth 100000
set_option maxHeartbeats 4000000
/-! x + y, x == y where the class of both has its own __add__, __eq__ -/
namespace Own
open PySem PySem.Spec PyProof.Rows L2
section
variable {X : Cx} {CX : CXT} {k : Nat} {f C : Addr} {fd : FuncData} {ps : List Str} {sp : Sp} {E : XK}
def rOpO (C : Addr) (sp : Sp) (E : XK) : R2 := fun x y H Q => ∃ a dx fs b dy gs, x = .ref a ∧ y = .ref b ∧ H a = some (.ins C dx fs) ∧ H b = some (.ins C dy gs) ∧ sp [x, y] H Q E
end
end Own
end

section
set_option maxRecDepth 100000
set_option maxHeartbeats 4000000
/-! x != y where the class of both has its own __eq__ and no __ne__ -/
namespace Own
open PySem PySem.Spec PyProof.Rows L2
def eqClsB (K : PySem.W.Frag) (C : Addr) (f : Addr) : Bool := match K.lookup C with
  | some ⟨.type "type", _, .cls cd, sl⟩ => (match cd.mro, sl.toList with
    | [.ref C', .type o], [_, _, _, _, some (.builtin _), _] => C' == C && (o == "object" && (!cd.hasDel && (PySem.W.nsOkIn K cd.ns && (decide (PySem.W.nsIn K cd.ns "__eq__" = some (some (.ref f))) && decide (PySem.W.nsIn K cd.ns "__ne__" = some none)))))
    | _, _ => false)
  | _ => false
section
variable {X : Cx} {k : Nat} {f C : Addr} {fd : FuncData} {ps : List Str} {sp : Sp} {E : XK}
/-- what is asked: the promise of __eq__, a truth value handed back -/
def rNeO (C : Addr) (sp : Sp) (E : XK) : R2 := fun x y H Q => ∃ a dx fs b dy gs, x = .ref a ∧ y = .ref b ∧ H a = some (.ins C dx fs) ∧ H b = some (.ins C dy gs) ∧ sp [x, y] H (fun r H' => ∃ c, r = .bl c ∧ Q (.bl (!c)) H') E
end
end Own
end

section
set_option maxRecDepth 100000
set_option maxHeartbeats 4000000
/-! the head's facts, with a look of one's own at the written part -/
namespace OwnQ
open PySem PySem.Spec PyProof.Rows L2 He OwnH
abbrev AlQ : Type := AlO × Bool
def obsQ (file : Str) (n : Nat) (fa : List Fa) (fn : List DefD) (er : List ErrD) (ck : PySem.W.Frag → Bool) (g : Addr → Option Obj) : AlQ := (obsO file n fa fn er g, ck (frG g (asO g n)))
def hookQ (file : Str) (n : Nat) (fa : List Fa) (fn : List DefD) (er : List ErrD) (ck : PySem.W.Frag → Bool) : PySem.W.Hook where
  α := AlQ
  obs := fun s => obsQ file n fa fn er ck s.heap.get?
  val := fun _ => (valO fn er, true)
  says := fun _ h => ∃ K : PySem.W.Frag, K.In h ∧ SaysO file fa fn er K ∧ ck K = true
  of := fun _ s e => ⟨_, frG_in, ⟨congrArg (fun z : AlQ => z.1.1) e, congrArg (fun z : AlQ => z.1.2.1) e, congrArg (fun z : AlQ => z.1.2.2) e⟩, congrArg (fun z : AlQ => z.2) e⟩
  keeps := fun _ _ _ ⟨K, hK, c⟩ k => ⟨K, PySem.W.Frag.In.keeps hK k, c⟩
def insB (K : PySem.W.Frag) (C : Addr) : Bool := decide (PySem.W.findIn K (.ref C) "__class__" = some (some (.builtin "object.__class__"))) && (decide (PySem.W.specialIn K (.builtin "object.__class__") "__get__" = some (some (.builtin "getset_descriptor.__get__"))) &&
  (decide (PySem.W.takesIn K (.builtin "object.__class__") = some true) && (decide (PySem.W.mroIn K C (.type "object") = some true) && decide (PySem.W.kitOne K (.ref C) (.ref C) = some true))))
theorem ins_ok {K : PySem.W.Frag} {C : Addr} (c : Cls K C) (h : insB K C = true) : C8.InsC K C := by
  unfold insB at h
  simp only [Bool.and_eq_true, decide_eq_true_eq] at h
  exact ⟨c, h.1, h.2.1, h.2.2.1, h.2.2.2.1, h.2.2.2.2⟩
/-- what the class has that is compared by its own __eq__ -/
def webB (K : PySem.W.Frag) : Bool := Own.eqClsB K (ga K "Web") (ma K (ga K "Web") "__eq__") && (PySem.W.notFirst K (ga K "Web") (.ref (ga K "Web")) && insB K (ga K "Web"))
end OwnQ
end

section
set_option maxRecDepth 100000
set_option maxHeartbeats 4000000
/-! the head's facts, looked at through a literal list of addresses (no search of the heap) -/
namespace OwnL
open PySem PySem.Spec PyProof.Rows L2 He OwnH OwnQ
def obsW (file : Str) (fa : List Fa) (fn : List DefD) (er : List ErrD) (ck : PySem.W.Frag → Bool) (K : PySem.W.Frag) : AlQ := ((obsD fa fn K, er.all (fun d => errB file K d), er.map fun d => fnC K d.at_), ck K)
def obsL (file : Str) (as : List Addr) (fa : List Fa) (fn : List DefD) (er : List ErrD) (ck : PySem.W.Frag → Bool) (g : Addr → Option Obj) : AlQ := obsW file fa fn er ck (frG g as)
def hookL (file : Str) (as : List Addr) (fa : List Fa) (fn : List DefD) (er : List ErrD) (ck : PySem.W.Frag → Bool) : PySem.W.Hook where
  α := AlQ
  obs := fun s => obsL file as fa fn er ck s.heap.get?
  val := fun _ => (valO fn er, true)
  says := fun _ h => ∃ K : PySem.W.Frag, K.In h ∧ SaysO file fa fn er K ∧ ck K = true
  of := fun _ s e => ⟨_, frG_in, ⟨congrArg (fun z : AlQ => z.1.1) e, congrArg (fun z : AlQ => z.1.2.1) e, congrArg (fun z : AlQ => z.1.2.2) e⟩, congrArg (fun z : AlQ => z.2) e⟩
  keeps := fun _ _ _ ⟨K, hK, c⟩ k => ⟨K, PySem.W.Frag.In.keeps hK k, c⟩
theorem obsL_eq {file : Str} {as : List Addr} {fa : List Fa} {fn : List DefD} {er : List ErrD} {ck : PySem.W.Frag → Bool} {g : Addr → Option Obj} {s : Shared} (h : ∀ a, g a = s.heap.get? a) : obsL file as fa fn er ck g = (hookL file as fa fn er ck).obs s := by
  have e : g = s.heap.get? := funext h
  rw [e] <;> rfl
end OwnL
end

section
set_option maxRecDepth 100000
set_option maxHeartbeats 0
namespace KK
open PySem PySem.Spec PyProof.Rows L2
def looseA : List Str := ["_wall", "__name__", "HalfError", "BadPlaces", "BadTie", "BadPrice", "NoPlace", "CommonPlace", "EmptyWeb", "BadList", "TooMany", "NoAnswer", "MOST_PLACES", "MOST_TIES", "LONGEST_NAME", "GREATEST_PRICE", "is_integer", "is_between", "is_price", "is_name", "is_among"]
def looseB : List Str := ["has_just", "has_values", "in_order", "names_fault", "price_fault", "is_answer", "parts", "level_tie", "_distances", "prices_for", "only_for", "fault_of", "_need_answer", "_partners", "_idle", "_prices", "_two_sides", "Web", "_web_of", "_is_tie", "_tie_fault"]
def looseC : List Str := ["_law_stream", "_law_draw", "_law_name", "_law_places", "_law_prices", "_law_ties", "_law_web", "_law_rows", "_law_is_integer", "_law_is_answer", "_law_sum", "_law_answers", "_law_drawn_answer", "_law_near", "_law_is_lone", "_law_lone_places", "_law_tidied", "_law_are_prices", "_law_refused", "_law_turned"]
def fn : List He.DefD := [
  ⟨("is_integer", none), "is_integer", "is_integer", defArgs s_is_integer, defBody s_is_integer, defScope s_is_integer, [], []⟩,
  ⟨("is_between", none), "is_between", "is_between", defArgs s_is_between, defBody s_is_between, defScope s_is_between, [], []⟩,
  ⟨("is_price", none), "is_price", "is_price", defArgs s_is_price, defBody s_is_price, defScope s_is_price, [], []⟩,
  ⟨("is_name", none), "is_name", "is_name", defArgs s_is_name, defBody s_is_name, defScope s_is_name, [], []⟩,
  ⟨("is_among", none), "is_among", "is_among", defArgs s_is_among, defBody s_is_among, defScope s_is_among, [], []⟩,
  ⟨("has_just", none), "has_just", "has_just", defArgs s_has_just, defBody s_has_just, defScope s_has_just, [], []⟩,
  ⟨("has_values", none), "has_values", "has_values", defArgs s_has_values, defBody s_has_values, defScope s_has_values, [], []⟩,
  ⟨("in_order", none), "in_order", "in_order", defArgs s_in_order, defBody s_in_order, defScope s_in_order, [], []⟩,
  ⟨("names_fault", none), "names_fault", "names_fault", defArgs s_names_fault, defBody s_names_fault, defScope s_names_fault, [], []⟩,
  ⟨("price_fault", none), "price_fault", "price_fault", defArgs s_price_fault, defBody s_price_fault, defScope s_price_fault, [], []⟩,
  ⟨("is_answer", none), "is_answer", "is_answer", defArgs s_is_answer, defBody s_is_answer, defScope s_is_answer, [], []⟩,
  ⟨("parts", none), "parts", "parts", defArgs s_parts, defBody s_parts, defScope s_parts, [], []⟩,
  ⟨("level_tie", none), "level_tie", "level_tie", defArgs s_level_tie, defBody s_level_tie, defScope s_level_tie, [], []⟩,
  ⟨("_distances", none), "_distances", "_distances", defArgs s_distances, defBody s_distances, defScope s_distances, [], []⟩,
  ⟨("prices_for", none), "prices_for", "prices_for", defArgs s_prices_for, defBody s_prices_for, defScope s_prices_for, [], []⟩,
  ⟨("only_for", none), "only_for", "only_for", defArgs s_only_for, defBody s_only_for, defScope s_only_for, [], []⟩,
  ⟨("fault_of", none), "fault_of", "fault_of", defArgs s_fault_of, defBody s_fault_of, defScope s_fault_of, [], []⟩,
  ⟨("_need_answer", none), "_need_answer", "_need_answer", defArgs s_need_answer, defBody s_need_answer, defScope s_need_answer, [], []⟩,
  ⟨("_partners", none), "_partners", "_partners", defArgs s_partners, defBody s_partners, defScope s_partners, [], []⟩,
  ⟨("_idle", none), "_idle", "_idle", defArgs s_idle, defBody s_idle, defScope s_idle, [], []⟩,
  ⟨("_prices", none), "_prices", "_prices", defArgs s_prices, defBody s_prices, defScope s_prices, [], []⟩,
  ⟨("_two_sides", none), "_two_sides", "_two_sides", defArgs s_two_sides, defBody s_two_sides, defScope s_two_sides, [], []⟩,
  ⟨("_web_of", none), "_web_of", "_web_of", defArgs s_web_of, defBody s_web_of, defScope s_web_of, [], []⟩,
  ⟨("_is_tie", none), "_is_tie", "_is_tie", defArgs s_is_tie, defBody s_is_tie, defScope s_is_tie, [], []⟩,
  ⟨("_tie_fault", none), "_tie_fault", "_tie_fault", defArgs s_tie_fault, defBody s_tie_fault, defScope s_tie_fault, [], []⟩,
  ⟨("_law_stream", none), "_law_stream", "_law_stream", defArgs s_law_stream, defBody s_law_stream, defScope s_law_stream, [], []⟩,
  ⟨("_law_draw", none), "_law_draw", "_law_draw", defArgs s_law_draw, defBody s_law_draw, defScope s_law_draw, [], []⟩,
  ⟨("_law_name", none), "_law_name", "_law_name", defArgs s_law_name, defBody s_law_name, defScope s_law_name, [], []⟩,
  ⟨("_law_places", none), "_law_places", "_law_places", defArgs s_law_places, defBody s_law_places, defScope s_law_places, [], []⟩,
  ⟨("_law_prices", none), "_law_prices", "_law_prices", defArgs s_law_prices, defBody s_law_prices, defScope s_law_prices, [], []⟩,
  ⟨("_law_ties", none), "_law_ties", "_law_ties", defArgs s_law_ties, defBody s_law_ties, defScope s_law_ties, [], []⟩,
  ⟨("_law_web", none), "_law_web", "_law_web", defArgs s_law_web, defBody s_law_web, defScope s_law_web, [], []⟩,
  ⟨("_law_rows", none), "_law_rows", "_law_rows", defArgs s_law_rows, defBody s_law_rows, defScope s_law_rows, [], []⟩,
  ⟨("_law_is_integer", none), "_law_is_integer", "_law_is_integer", defArgs s_law_is_integer, defBody s_law_is_integer, defScope s_law_is_integer, [], []⟩,
  ⟨("_law_is_answer", none), "_law_is_answer", "_law_is_answer", defArgs s_law_is_answer, defBody s_law_is_answer, defScope s_law_is_answer, [], []⟩,
  ⟨("_law_sum", none), "_law_sum", "_law_sum", defArgs s_law_sum, defBody s_law_sum, defScope s_law_sum, [], []⟩,
  ⟨("_law_answers", none), "_law_answers", "_law_answers", defArgs s_law_answers, defBody s_law_answers, defScope s_law_answers, [], []⟩,
  ⟨("_law_drawn_answer", none), "_law_drawn_answer", "_law_drawn_answer", defArgs s_law_drawn_answer, defBody s_law_drawn_answer, defScope s_law_drawn_answer, [], []⟩,
  ⟨("_law_near", none), "_law_near", "_law_near", defArgs s_law_near, defBody s_law_near, defScope s_law_near, [], []⟩,
  ⟨("_law_is_lone", none), "_law_is_lone", "_law_is_lone", defArgs s_law_is_lone, defBody s_law_is_lone, defScope s_law_is_lone, [], []⟩,
  ⟨("_law_lone_places", none), "_law_lone_places", "_law_lone_places", defArgs s_law_lone_places, defBody s_law_lone_places, defScope s_law_lone_places, [], []⟩,
  ⟨("_law_tidied", none), "_law_tidied", "_law_tidied", defArgs s_law_tidied, defBody s_law_tidied, defScope s_law_tidied, [], []⟩,
  ⟨("_law_are_prices", none), "_law_are_prices", "_law_are_prices", defArgs s_law_are_prices, defBody s_law_are_prices, defScope s_law_are_prices, [], []⟩,
  ⟨("_law_refused", none), "_law_refused", "_law_refused", defArgs s_law_refused, defBody s_law_refused, defScope s_law_refused, [], []⟩,
  ⟨("_law_turned", none), "_law_turned", "_law_turned", defArgs s_law_turned, defBody s_law_turned, defScope s_law_turned, [], []⟩,
  ⟨("law", none), "law", "law", defArgs s_law, defBody s_law, defScope s_law, [], []⟩,
  ⟨("Web", some "__init__"), "__init__", "Web.__init__", defArgs s_Web_init, defBody s_Web_init, defScope s_Web_init, [], []⟩,
  ⟨("Web", some "places"), "places", "Web.places", defArgs s_Web_places, defBody s_Web_places, defScope s_Web_places, [], []⟩,
  ⟨("Web", some "ties"), "ties", "Web.ties", defArgs s_Web_ties, defBody s_Web_ties, defScope s_Web_ties, [], []⟩,
  ⟨("Web", some "near"), "near", "Web.near", defArgs s_Web_near, defBody s_Web_near, defScope s_Web_near, [], []⟩,
  ⟨("Web", some "with_price"), "with_price", "Web.with_price", defArgs s_Web_with_price, defBody s_Web_with_price, defScope s_Web_with_price, [], []⟩,
  ⟨("Web", some "inside"), "inside", "Web.inside", defArgs s_Web_inside, defBody s_Web_inside, defScope s_Web_inside, [], []⟩,
  ⟨("Web", some "_need"), "_need", "Web._need", defArgs s_Web_need, defBody s_Web_need, defScope s_Web_need, [], []⟩,
  ⟨("Web", some "_part"), "_part", "Web._part", defArgs s_Web_part, defBody s_Web_part, defScope s_Web_part, [], []⟩]
def fa : List He.Fa := [.int "MOST_PLACES" 40, .int "MOST_TIES" 400, .int "LONGEST_NAME" 8, .int "GREATEST_PRICE" (10 ^ 30), .free "len", .free "isinstance", .free "int", .free "str", .free "bool", .free "list", .free "tuple", .free "dict", .free "sorted", .free "all", .free "range", .free "enumerate", .glo "Web", .cls "Web", .noat "Web" "_prices", .noat "Web" "_ties", .mkr "Web", .meth "Web" "places", .meth "Web" "ties", .meth "Web" "near", .meth "Web" "with_price", .meth "Web" "inside", .meth "Web" "_need", .meth "Web" "_part", .exc "NoAnswer", .exm "NoAnswer" "NoAnswer" true, .glo "NoAnswer", .glo "is_integer", .glo "is_between", .glo "is_price", .glo "is_name", .glo "is_among", .glo "has_just", .glo "has_values", .glo "in_order", .glo "names_fault", .glo "price_fault", .glo "is_answer", .glo "parts", .glo "level_tie", .glo "_distances", .glo "prices_for", .glo "only_for", .glo "fault_of", .glo "_need_answer", .glo "_partners", .glo "_idle", .glo "_prices", .glo "_two_sides", .glo "_web_of", .glo "_is_tie", .glo "_tie_fault", .glo "_law_stream", .glo "_law_draw", .glo "_law_name", .glo "_law_places", .glo "_law_prices", .glo "_law_ties", .glo "_law_web", .glo "_law_rows", .glo "_law_is_integer", .glo "_law_is_answer", .glo "_law_sum", .glo "_law_answers", .glo "_law_drawn_answer", .glo "_law_near", .glo "_law_is_lone", .glo "_law_lone_places", .glo "_law_tidied", .glo "_law_are_prices", .glo "_law_refused", .glo "_law_turned", .glo "law"]

def er : List OwnH.ErrD := []
abbrev ck : PySem.W.Frag → Bool := (fun K => PySem.W.selfFirst K (He.ga K "Web") && OwnQ.insB K (He.ga K "Web"))
abbrev R : PySem.W.OpenRow := PySem.W.OpenLaw.row PySem.Challenge.rw_halfpicked_k44_prices_for_an_answer
def asL : List Addr := [2, 3, 6, 4, 21, 31, 53, 74, 95, 116, 137, 149, 161, 182, 194, 203, 210, 217, 222, 229, 234, 239, 246, 253, 260, 265, 272, 279, 286, 293, 300, 305, 312, 317, 322, 329, 334, 463, 474, 481, 488, 495, 502, 509, 516, 523, 530, 537, 544, 551, 558, 565, 572, 579, 586, 591, 596, 603, 610, 617, 624, 629, 0, 20, 30, 52, 73, 94, 115, 136, 148, 160, 181, 193, 202, 209, 216, 221, 228, 233, 238, 245, 252, 259, 264, 271, 278, 285, 292, 299, 304, 311, 316, 321, 328, 333, 462, 473, 480, 487, 494, 501, 508, 515, 522, 529, 536, 543, 550, 557, 564, 571, 578, 585, 590, 595, 602, 609, 616, 623, 628, 15, 16, 17, 18, 19, 29, 32, 50, 51, 71, 72, 92, 93, 113, 114, 134, 135, 147, 159, 179, 180, 192, 197, 198, 199, 200, 201, 204, 205, 206, 207, 208, 211, 212, 213, 214, 215, 218, 219, 220, 223, 224, 225, 226, 227, 230, 231, 232, 235, 236, 237, 240, 241, 242, 243, 244, 247, 248, 249, 250, 251, 254, 255, 256, 257, 258, 261, 262, 263, 266, 267, 268, 269, 270, 273, 274, 275, 276, 277, 280, 281, 282, 283, 284, 287, 288, 289, 290, 291, 294, 295, 296, 297, 298, 301, 302, 303, 306, 307, 308, 309, 310, 313, 314, 315, 318, 319, 320, 323, 324, 325, 326, 327, 330, 331, 332, 346, 353, 360, 367, 372, 379, 386, 393, 400, 407, 414, 421, 429, 436, 443, 448, 455, 460, 461, 464, 465, 468, 469, 470, 471, 472, 475, 476, 477, 478, 479, 482, 483, 484, 485, 486, 489, 490, 491, 492, 493, 496, 497, 498, 499, 500, 503, 504, 505, 506, 507, 510, 511, 512, 513, 514, 517, 518, 519, 520, 521, 524, 525, 526, 527, 528, 531, 532, 533, 534, 535, 538, 539, 540, 541, 542, 545, 546, 547, 548, 549, 552, 553, 554, 555, 556, 559, 560, 561, 562, 563, 566, 567, 568, 569, 570, 573, 574, 575, 576, 577, 580, 581, 582, 583, 584, 587, 588, 589, 592, 593, 594, 597, 598, 599, 600, 601, 604, 605, 606, 607, 608, 611, 612, 613, 614, 615, 618, 619, 620, 621, 622, 625, 626, 627, 49, 38, 70, 59, 91, 80, 112, 101, 133, 122, 178, 167, 345, 352, 359, 366, 371, 378, 385, 392, 399, 406, 413, 420, 428, 422, 435, 442, 447, 454, 459, 44, 45, 46, 47, 48, 65, 66, 67, 68, 69, 86, 87, 88, 89, 90, 107, 108, 109, 110, 111, 128, 129, 130, 131, 132, 173, 174, 175, 176, 177, 342, 343, 344, 347, 348, 349, 350, 351, 354, 355, 356, 357, 358, 361, 362, 363, 364, 365, 368, 369, 370, 373, 374, 375, 376, 377, 380, 381, 382, 383, 384, 387, 388, 389, 390, 391, 394, 395, 396, 397, 398, 401, 402, 403, 404, 405, 408, 409, 410, 411, 412, 415, 416, 417, 418, 419, 423, 424, 425, 426, 427, 430, 431, 432, 433, 434, 437, 438, 439, 440, 441, 444, 445, 446, 449, 450, 451, 452, 453, 456, 457, 458]
abbrev hk : PySem.W.Hook := OwnL.hookL "/claim/cut.py" asL fa fn er ck
def ob (s : PySem.W.SharedT) : OwnQ.AlQ := OwnL.obsL "/claim/cut.py" asL fa fn er ck (HandSHeadRun.getT s)
theorem ob_eq (s : PySem.W.SharedT) : ob s = hk.obs s.abs := OwnL.obsL_eq (HandSHeadRun.getT_eq s)
theorem opt3 {σ α β γ : Type _} {m : Option σ} {A : σ → α} {B : σ → β} {C : σ → γ} {a : α} {b : β} {c : γ} (h1 : m.map A = some a) (h2 : m.map B = some b) (h3 : m.map C = some c) : m.map (fun s => (A s, B s, C s)) = some (a, b, c) := by
  cases m with
  | none => cases h1
  | some s =>
    have e1 : A s = a := Option.some.inj h1
    have e2 : B s = b := Option.some.inj h2
    have e3 : C s = c := Option.some.inj h3
    rw [← e1, ← e2, ← e3]
    rfl
section
open HandSHeadRun PySem.W
abbrev vw : Program := PySem.W.view R.prog [68]
theorem run1 (w : World) (os : OsState) : (endF (stepQ (denQ tabQ) R.prog w) 12000 R.prog w os).map (fun s => looksF R.prog (boot_heap w.params) s.abs) = some true := by
  kernel_rfl
theorem run2 (w : World) (os : OsState) : (endF (stepQ (denQ tabQ) R.prog w) 12000 R.prog w os).map (fun s => seenQ vw (looseA ++ looseB ++ looseC) (importedModules R.prog.main.body) (fun s => xlAt vw [] s && recOk R.toRowW.records s) s.abs) = some (openGood vw (looseA ++ looseB ++ looseC)) := by
  kernel_rfl
theorem run3 (w : World) (os : OsState) : (endF (stepQ (denQ tabQ) R.prog w) 12000 R.prog w os).map (fun s => ob s) = some (hk.val w) := by
  kernel_rfl
end
theorem run (w : World) : HandSHeadRun.RunEq R vw hk ob 12000 (looseA ++ looseB ++ looseC) w := fun os => opt3 (run1 w os) (run2 w os) (run3 w os)
end KK
end

section
set_option maxRecDepth 100000
set_option maxHeartbeats 4000000
/-! Typed readings: what may be shared, what is owned (by a path: a slot, then fields, items). -/
namespace Y
open PySem PySem.Spec PyProof.Rows L2
/-- what may become of an address: shared (never written), a dict that is walked, another's, a thing that keeps a law, one's own by its path -/
inductive Md where
  | sh | lk | fo
  | st (φ : HO → Prop)
  | ow (p : List Nat)
abbrev Wd := Addr → Md
/-- where what is new hangs until it gets its place -/
def tmp : Nat := 1000000
/-- to be read -/
def RdW (W : Wd) (H : Hp) (b : Addr) (o : HO) : Prop := (W b = .sh ∧ H b = some o) ∨ ((W b = .lk ∨ W b = .fo) ∧ ∃ od, H b = some (.frz od o))
theorem RdW.rd {W : Wd} {H : Hp} {b : Addr} {o : HO} (h : RdW W H b o) : Rd H b o := by
  rcases h with ⟨_, h⟩ | ⟨_, od, h⟩
  · exact .inl h
  · exact .inr ⟨od, h⟩
theorem RdW.no {W : Wd} {H : Hp} {b : Addr} {o : HO} (h : RdW W H b o) {p : List Nat} : W b ≠ .ow p := fun e => by
  rcases h with ⟨w, _⟩ | ⟨w | w, _⟩ <;> rw [w] at e <;> cases e
/-- what was to be read is to be read, lists stand, what keeps a law keeps it -/
structure Mv (W : Wd) (H : Hp) (W' : Wd) (H' : Hp) : Prop where
  rd : ∀ b o, RdW W H b o → RdW W' H' b o
  ls : ∀ b vs, W b = .sh → H b = some (.lst vs) → W' b = .sh ∧ H' b = some (.lst vs)
  st : ∀ b φ, W b = .st φ → W' b = .st φ
theorem Mv.refl {W : Wd} {H : Hp} : Mv W H W H := ⟨fun _ _ h => h, fun _ _ w h => ⟨w, h⟩, fun _ _ h => h⟩
structure Ty (α : Type) where
  R : Wd → Hp → V → α → Prop
  go : ∀ {W W' : Wd} {H H' : Hp} {v : V} {x : α}, R W H v x → Mv W H W' H' → R W' H' v x
/-- a thing of one's own, at a path -/
structure OT (α : Type) where
  R : List Nat → Wd → Hp → V → α → Prop
  sv : Ty α
  mv : ∀ {p p' : List Nat} {W W' : Wd} {H H' : Hp} {v : V} {x : α}, R p W H v x → (∀ b o q, W b = .ow (p ++ q) → H b = some o → W' b = .ow (p' ++ q) ∧ H' b = some o) → Mv W H W' H' → R p' W' H' v x
  fz : ∀ {p : List Nat} {W W' : Wd} {H H' : Hp} {v : V} {x : α}, R p W H v x → (∀ b o q, W b = .ow (p ++ q) → H b = some o → W' b = .sh ∧ H' b = some o) → Mv W H W' H' → sv.R W' H' v x
/-- all but one's own stands -/
structure Go (W : Wd) (H : Hp) (W' : Wd) (H' : Hp) : Prop where
  k : ∀ b o, H b = some o → (W b = .sh ∨ W b = .lk ∨ W b = .fo) → H' b = some o ∧ W' b = W b
  s : ∀ b φ, W b = .st φ → W' b = .st φ
  l : ∀ b, W' b = .lk → W b = .lk
/-- all stands -/
structure GoE (W : Wd) (H : Hp) (W' : Wd) (H' : Hp) : Prop where
  k : ∀ b o, H b = some o → (∀ φ, W b ≠ .st φ) → (∀ r, W b ≠ .ow (tmp :: r)) → H' b = some o ∧ W' b = W b
  s : ∀ b φ, W b = .st φ → W' b = .st φ
  l : ∀ b, W' b = .lk → W b = .lk
def NoFrz : HO → Prop
  | .frz _ _ => False
  | _ => True
structure OKW (W : Wd) (H : Hp) : Prop where
  st : ∀ b φ, W b = .st φ → ∃ o, H b = some o ∧ φ o ∧ NoFrz o
  al : ∀ b, W b ≠ .sh → ∃ o, H b = some o
  nf : ∀ b p od u, W b = .ow p → H b ≠ some (.frz od u)
  lk : ∀ b, W b = .lk → ∃ od, (∃ ws, H b = some (.frz od (.dK ws))) ∨ ∃ ws, H b = some (.frz od (.dT ws))
  fo : ∀ b od u, W b = .fo → H b = some (.frz od u) → ∃ vs, u = .lst vs
  tp : ∀ b vs, H b = some (.tup vs) → W b = .sh
section
variable {W W1 W2 : Wd} {H H1 H2 : Hp}
theorem Go.refl : Go W H W H := ⟨fun _ _ h _ => ⟨h, rfl⟩, fun _ _ h => h, fun _ h => h⟩
theorem GoE.refl : GoE W H W H := ⟨fun _ _ h _ _ => ⟨h, rfl⟩, fun _ _ h => h, fun _ h => h⟩
theorem Go.trans (a : Go W H W1 H1) (b : Go W1 H1 W2 H2) : Go W H W2 H2 := ⟨fun c o h w => by
  obtain ⟨h1, e1⟩ := a.k c o h w
  obtain ⟨h2, e2⟩ := b.k c o h1 (by rw [e1]; exact w)
  exact ⟨h2, e2.trans e1⟩, fun c φ h => b.s c φ (a.s c φ h), fun c h => a.l c (b.l c h)⟩
theorem GoE.trans (a : GoE W H W1 H1) (b : GoE W1 H1 W2 H2) : GoE W H W2 H2 := ⟨fun c o h w z => by
  obtain ⟨h1, e1⟩ := a.k c o h w z
  obtain ⟨h2, e2⟩ := b.k c o h1 (by rw [e1]; exact w) (by rw [e1]; exact z)
  exact ⟨h2, e2.trans e1⟩, fun c φ h => b.s c φ (a.s c φ h), fun c h => a.l c (b.l c h)⟩
theorem GoE.go (a : GoE W H W1 H1) : Go W H W1 H1 := ⟨fun c o h w => a.k c o h (fun φ e => by rcases w with w | w | w <;> (rw [w] at e; cases e)) (fun r e => by rcases w with w | w | w <;> (rw [w] at e; cases e)), a.s, a.l⟩
theorem Go.mv (a : Go W H W1 H1) : Mv W H W1 H1 := ⟨fun b o h => by
  rcases h with ⟨w, h⟩ | ⟨w, od, h⟩
  · obtain ⟨h1, e1⟩ := a.k b _ h (.inl w)
    exact .inl ⟨e1.trans w, h1⟩
  · obtain ⟨h1, e1⟩ := a.k b _ h (.inr w)
    exact .inr ⟨by rw [e1]; exact w, od, h1⟩, fun b vs w h => by
    obtain ⟨h1, e1⟩ := a.k b _ h (.inl w)
    exact ⟨e1.trans w, h1⟩, a.s⟩
theorem Ty.mv {α : Type} (t : Ty α) {v : V} {x : α} (h : t.R W H v x) (g : Go W H W1 H1) : t.R W1 H1 v x := t.go h g.mv
theorem Ty.mvE {α : Type} (t : Ty α) {v : V} {x : α} (h : t.R W H v x) (g : GoE W H W1 H1) : t.R W1 H1 v x := t.mv h g.go
theorem GoE.own {b : Addr} {o : HO} {i : Nat} {p : List Nat} (g : GoE W H W1 H1) (h : H b = some o) (w : W b = .ow (i :: p)) (n : i ≠ tmp) : H1 b = some o ∧ W1 b = .ow (i :: p) := by
  obtain ⟨e1, w1⟩ := g.k b o h (fun φ z => by rw [w] at z; cases z) fun r z => by rw [w] at z; exact n (List.cons.inj (Md.ow.inj z)).1
  exact ⟨e1, w1.trans w⟩
/-- a new object -/
theorem OKW.fresh (ok : OKW W H) {p : Addr} (hp : H p = none) : W p = .sh := by
  cases e : W p with
  | sh => rfl
  | _ => obtain ⟨o, h⟩ := ok.al p (by rw [e]; exact fun z => nomatch z); rw [hp] at h; cases h
theorem GoE.new {p : Addr} {o : HO} (hp : H p = none) : GoE W H W (upd H p o) := ⟨fun b u h _ _ => ⟨by rw [upd_ne (ne_of_none h hp)]; exact h, rfl⟩, fun _ _ h => h, fun _ h => h⟩
def NoTup : HO → Prop
  | .frz _ _ => False
  | .tup _ => False
  | _ => True
theorem NoTup.nf {o : HO} (h : NoTup o) : NoFrz o := by cases o <;> first | trivial | exact h.elim
theorem OKW.new (ok : OKW W H) {p : Addr} {o : HO} (hp : H p = none) (nf : NoFrz o) : OKW W (upd H p o) := by
  refine ⟨fun b φ h => ?_, fun b h => ?_, fun b q od u w h => ?_, fun b h => ?_, fun b od u w h => ?_, fun b vs h => ?_⟩
  · obtain ⟨c, e, z⟩ := ok.st b φ h
    exact ⟨c, by rw [upd_ne (ne_of_none e hp)]; exact e, z⟩
  · obtain ⟨u, e⟩ := ok.al b h
    exact ⟨u, by rw [upd_ne (ne_of_none e hp)]; exact e⟩
  · by_cases n : b = p
    · subst n; rw [upd_same] at h; cases h; exact nf.elim
    · rw [upd_ne n] at h; exact ok.nf b q od u w h
  · obtain ⟨od, ⟨ws, e⟩ | ⟨ws, e⟩⟩ := ok.lk b h
    · exact ⟨od, .inl ⟨ws, by rw [upd_ne (ne_of_none e hp)]; exact e⟩⟩
    · exact ⟨od, .inr ⟨ws, by rw [upd_ne (ne_of_none e hp)]; exact e⟩⟩
  · by_cases n : b = p
    · subst n; rw [upd_same] at h; cases h; exact nf.elim
    · rw [upd_ne n] at h; exact ok.fo b od u w h
  · by_cases n : b = p
    · rw [n]; exact ok.fresh hp
    · rw [upd_ne n] at h; exact ok.tp b vs h
/-- neither a list nor a dict: it stands there itself -/
theorem OKW.exact (ok : OKW W H) {a : Addr} {o : HO} (h : RdW W H a o) (nl : ∀ vs, o ≠ .lst vs) (nd : ∀ ws, o ≠ .dK ws) (nt : ∀ ws, o ≠ .dT ws) : H a = some o := by
  rcases h with ⟨w, h⟩ | ⟨w | w, od, h⟩
  · exact h
  · obtain ⟨od2, ⟨ws, e⟩ | ⟨ws, e⟩⟩ := ok.lk a w
    · rw [h] at e; cases e; exact absurd rfl (nd ws)
    · rw [h] at e; cases e; exact absurd rfl (nt ws)
  · obtain ⟨vs, e⟩ := ok.fo a od o w h
    exact absurd e (nl vs)
/-- a dict that is not locked -/
theorem OKW.exactD (ok : OKW W H) {a : Addr} {o : HO} (h : RdW W H a o) (n : W a ≠ .lk) (nl : ∀ vs, o ≠ .lst vs) : H a = some o ∧ W a = .sh := by
  rcases h with ⟨w, h⟩ | ⟨w | w, od, h⟩
  · exact ⟨h, w⟩
  · exact absurd w n
  · obtain ⟨vs, e⟩ := ok.fo a od o w h
    exact absurd e (nl vs)
theorem rdNew (ok : OKW W H) {p : Addr} {o : HO} (hp : H p = none) : RdW W (upd H p o) p o := .inl ⟨ok.fresh hp, upd_same⟩
end
def setW (W : Wd) (a : Addr) (m : Md) : Wd := fun b => if b = a then m else W b
theorem setW_same {W : Wd} {a : Addr} {m : Md} : setW W a m a = m := if_pos rfl
theorem setW_ne {W : Wd} {a b : Addr} {m : Md} (h : b ≠ a) : setW W a m b = W b := if_neg h
/-! ### types -/
def tInt : Ty Int := ⟨fun _ _ v i => v = .int i, fun h _ => h⟩
def tStr : Ty Str := ⟨fun _ _ v i => v = .str i, fun h _ => h⟩
def tBl : Ty Bool := ⟨fun _ _ v i => v = .bl i, fun h _ => h⟩
def tNon : Ty Unit := ⟨fun _ _ v _ => v = .non, fun h _ => h⟩
/-- what a stream is -/
def IsStm (o : HO) : Prop := ∃ c k : Int, o = .lst [.int c, .int k] ∧ 0 ≤ k
def tStm : Ty Unit := ⟨fun W _ v _ => ∃ a, v = .ref a ∧ W a = .st IsStm, fun ⟨a, e, h⟩ m => ⟨a, e, m.st a _ h⟩⟩
def tVal : Ty V := ⟨fun _ _ v x => v = x, fun h _ => h⟩
def tOpt {α : Type} (t : Ty α) : Ty (Option α) := ⟨fun W H v x => match x with
  | none => v = .non
  | some y => t.R W H v y, fun {W W' H H' v x} h m => by
  cases x with
  | none => exact h
  | some y => exact t.go h m⟩
def tSum {α β : Type} (t : Ty α) (u : Ty β) : Ty (α ⊕ β) := ⟨fun W H v x => match x with
  | .inl y => t.R W H v y
  | .inr y => u.R W H v y, fun {W W' H H' v x} h m => by
  cases x with
  | inl y => exact t.go h m
  | inr y => exact u.go h m⟩
/-- a list of one's own making -/
def SqW (_ : PySem.W.Frag) (W : Wd) (H : Hp) (a : Addr) (vs : List V) : Prop := W a = .sh ∧ H a = some (.lst vs)
/-- any list that may be read -/
def SqR (K : PySem.W.Frag) (W : Wd) (H : Hp) (a : Addr) (vs : List V) : Prop := RdW W H a (.lst vs) ∨
    ∃ (o : Obj) (its : Array Value) (n : Nat), K.lookup a = some o ∧ o.cls = .type "list" ∧ o.dict = none ∧ o.data = .seq its n ∧ its.size ≤ sizeLine ∧ Vals vs its.toList
def SqTW (_ : PySem.W.Frag) (W : Wd) (H : Hp) (a : Addr) (vs : List V) : Prop := RdW W H a (.tup vs)
section
variable {K : PySem.W.Frag} {W W' : Wd} {H H' : Hp} {a : Addr} {vs : List V}
theorem SqW.l (h : SqW K W H a vs) : SqL K H a vs := .inl (.inl h.2)
theorem SqTW.t (h : SqTW K W H a vs) : SqT K H a vs := .inl (RdW.rd h)
theorem SqW.mv (h : SqW K W H a vs) (m : Mv W H W' H') : SqW K W' H' a vs := m.ls a vs h.1 h.2
theorem SqR.mv (h : SqR K W H a vs) (m : Mv W H W' H') : SqR K W' H' a vs := by
  rcases h with h | h
  · exact .inl (m.rd a _ h)
  · exact .inr h
theorem SqTW.mv (h : SqTW K W H a vs) (m : Mv W H W' H') : SqTW K W' H' a vs := m.rd a _ h
theorem SqTW.at (h : SqTW K W H a vs) (ok : OKW W H) : H a = some (.tup vs) := ok.exact h (fun _ e => by cases e) (fun _ e => by cases e) (fun _ e => by cases e)
end
section
variable (K : PySem.W.Frag)
def tLs {α : Type} (t : Ty α) : Ty (List α) := ⟨fun W H v xs => ∃ a vs, v = .ref a ∧ SqW K W H a vs ∧ Paired (t.R W H) vs xs, by
  rintro W W' H H' v xs ⟨a, vs, e, h, p⟩ m
  exact ⟨a, vs, e, h.mv m, L2.Paired.mapP p fun u x r => t.go r m⟩⟩
/-- the script: ints that are read -/
def tScr : Ty (List Int) := ⟨fun W H v xs => ∃ a, v = .ref a ∧ SqR K W H a (xs.map V.int), by
  rintro W W' H H' v xs ⟨a, e, h⟩ m
  exact ⟨a, e, h.mv m⟩⟩
/-- a tuple of things of one kind -/
def tTu {α : Type} (t : Ty α) : Ty (List α) := ⟨fun W H v xs => ∃ a vs, v = .ref a ∧ SqTW K W H a vs ∧ Paired (t.R W H) vs xs, by
  rintro W W' H H' v xs ⟨a, vs, e, h, p⟩ m
  exact ⟨a, vs, e, h.mv m, L2.Paired.mapP p fun u x r => t.go r m⟩⟩
def tT2 {α β : Type} (t : Ty α) (u : Ty β) : Ty (α × β) := ⟨fun W H v x => ∃ a p q, v = .ref a ∧ SqTW K W H a [p, q] ∧ t.R W H p x.1 ∧ u.R W H q x.2, by
  rintro W W' H H' v xs ⟨a, p, q, e, h, r1, r2⟩ m
  exact ⟨a, p, q, e, h.mv m, t.go r1 m, u.go r2 m⟩⟩
def tT3 {α β γ : Type} (t : Ty α) (u : Ty β) (z : Ty γ) : Ty (α × β × γ) := ⟨fun W H v x => ∃ a p q r, v = .ref a ∧ SqTW K W H a [p, q, r] ∧ t.R W H p x.1 ∧ u.R W H q x.2.1 ∧ z.R W H r x.2.2, by
  rintro W W' H H' v xs ⟨a, p, q, r, e, h, r1, r2, r3⟩ m
  exact ⟨a, p, q, r, e, h.mv m, t.go r1 m, u.go r2 m, z.go r3 m⟩⟩
def tT4 {α β γ δ : Type} (t : Ty α) (u : Ty β) (z : Ty γ) (y : Ty δ) : Ty (α × β × γ × δ) := ⟨fun W H v x => ∃ a p q r s, v = .ref a ∧ SqTW K W H a [p, q, r, s] ∧ t.R W H p x.1 ∧ u.R W H q x.2.1 ∧ z.R W H r x.2.2.1 ∧ y.R W H s x.2.2.2, by
  rintro W W' H H' v xs ⟨a, p, q, r, s, e, h, r1, r2, r3, r4⟩ m
  exact ⟨a, p, q, r, s, e, h.mv m, t.go r1 m, u.go r2 m, z.go r3 m, y.go r4 m⟩⟩
def tL2 {α β : Type} (t : Ty α) (u : Ty β) : Ty (α × β) := ⟨fun W H v x => ∃ a p q, v = .ref a ∧ SqW K W H a [p, q] ∧ t.R W H p x.1 ∧ u.R W H q x.2, by
  rintro W W' H H' v xs ⟨a, p, q, e, h, r1, r2⟩ m
  exact ⟨a, p, q, e, h.mv m, t.go r1 m, u.go r2 m⟩⟩
def tL3 {α β γ : Type} (t : Ty α) (u : Ty β) (z : Ty γ) : Ty (α × β × γ) := ⟨fun W H v x => ∃ a p q r, v = .ref a ∧ SqW K W H a [p, q, r] ∧ t.R W H p x.1 ∧ u.R W H q x.2.1 ∧ z.R W H r x.2.2, by
  rintro W W' H H' v xs ⟨a, p, q, r, e, h, r1, r2, r3⟩ m
  exact ⟨a, p, q, r, e, h.mv m, t.go r1 m, u.go r2 m, z.go r3 m⟩⟩
def tL4 {α β γ δ : Type} (t : Ty α) (u : Ty β) (z : Ty γ) (y : Ty δ) : Ty (α × β × γ × δ) := ⟨fun W H v x => ∃ a p q r s, v = .ref a ∧ SqW K W H a [p, q, r, s] ∧ t.R W H p x.1 ∧ u.R W H q x.2.1 ∧ z.R W H r x.2.2.1 ∧ y.R W H s x.2.2.2, by
  rintro W W' H H' v xs ⟨a, p, q, r, s, e, h, r1, r2, r3, r4⟩ m
  exact ⟨a, p, q, r, s, e, h.mv m, t.go r1 m, u.go r2 m, z.go r3 m, y.go r4 m⟩⟩
end
/-- a kind of keys -/
structure Ky (κ : Type) where
  k : κ → Key
  inj : ∀ a b, k a = k b → a = b
def kS : Ky Str := ⟨Sum.inr, fun _ _ h => Sum.inr.inj h⟩
def kI : Ky Int := ⟨Sum.inl, fun _ _ h => Sum.inl.inj h⟩
/-- a dict, its pairs in order -/
def tDk {κ α : Type} (ke : Ky κ) (t : Ty α) : Ty (List (κ × α)) := ⟨fun W H v kvs => ∃ a ws, v = .ref a ∧ RdW W H a (.dK ws) ∧ Paired (fun (p : Key × V) (q : κ × α) => p.1 = ke.k q.1 ∧ t.R W H p.2 q.2) ws kvs, by
  rintro W W' H H' v xs ⟨a, vs, e, h, p⟩ m
  exact ⟨a, vs, e, m.rd _ _ h, L2.Paired.mapP p fun u x r => ⟨r.1, t.go r.2 m⟩⟩⟩
/-! ### one's own things -/
def oL (K : PySem.W.Frag) {α : Type} (t : Ty α) : OT (List α) where
  R p W H v xs := ∃ a vs, v = .ref a ∧ W a = .ow p ∧ H a = some (.lst vs) ∧ Paired (t.R W H) vs xs
  sv := tLs K t
  mv := by
    rintro p p' W W' H H' v xs ⟨a, vs, e, w, h, r⟩ k m
    obtain ⟨w1, h1⟩ := k a _ [] (by rw [List.append_nil]; exact w) h
    exact ⟨a, vs, e, by rw [List.append_nil] at w1; exact w1, h1, L2.Paired.mapP r fun u x r => t.go r m⟩
  fz := by
    rintro p W W' H H' v xs ⟨a, vs, e, w, h, r⟩ k m
    obtain ⟨w1, h1⟩ := k a _ [] (by rw [List.append_nil]; exact w) h
    exact ⟨a, vs, e, ⟨w1, h1⟩, L2.Paired.mapP r fun u x r => t.go r m⟩
def oD {κ α : Type} (ke : Ky κ) (t : Ty α) : OT (List (κ × α)) where
  R p W H v xs := ∃ a ws, v = .ref a ∧ W a = .ow p ∧ H a = some (.dK ws) ∧ Paired (fun (p : Key × V) (q : κ × α) => p.1 = ke.k q.1 ∧ t.R W H p.2 q.2) ws xs
  sv := tDk ke t
  mv := by
    rintro p p' W W' H H' v xs ⟨a, vs, e, w, h, r⟩ k m
    obtain ⟨w1, h1⟩ := k a _ [] (by rw [List.append_nil]; exact w) h
    exact ⟨a, vs, e, by rw [List.append_nil] at w1; exact w1, h1, L2.Paired.mapP r fun u x r => ⟨r.1, t.go r.2 m⟩⟩
  fz := by
    rintro p W W' H H' v xs ⟨a, vs, e, w, h, r⟩ k m
    obtain ⟨w1, h1⟩ := k a _ [] (by rw [List.append_nil]; exact w) h
    exact ⟨a, vs, e, .inl ⟨w1, h1⟩, L2.Paired.mapP r fun u x r => ⟨r.1, t.go r.2 m⟩⟩
/-! ### contexts -/
inductive Sl : Type 1 where
  | un
  | sh {α : Type} (t : Ty α) (x : α)
  | ow {α : Type} (O : OT α) (x : α)
def Sl.at (s : Sl) (p : List Nat) (W : Wd) (H : Hp) (v : V) : Prop := match s with
  | .un => True
  | .sh t x => t.R W H v x
  | .ow O x => O.R p W H v x
def SlOk (i : Nat) (W : Wd) (H : Hp) (s : Sl) (e : Option V) : Prop := match s with
  | .un => True
  | .sh t x => ∃ v, e = some v ∧ t.R W H v x
  | .ow O x => ∃ v, e = some v ∧ O.R [i] W H v x
theorem SlOk.of {i : Nat} {W : Wd} {H : Hp} {s : Sl} {v : V} (h : s.at [i] W H v) : SlOk i W H s (some v) := by
  cases s with
  | un => trivial
  | sh t x => exact ⟨v, rfl, h⟩
  | ow O x => exact ⟨v, rfl, h⟩
theorem SlOk.at {i : Nat} {W : Wd} {H : Hp} {s : Sl} {v : V} (h : SlOk i W H s (some v)) : s.at [i] W H v := by
  cases s with
  | un => trivial
  | sh t x => obtain ⟨v, e, h⟩ := h; cases e; exact h
  | ow O x => obtain ⟨v, e, h⟩ := h; cases e; exact h
theorem SlOk.mv {i : Nat} {W W' : Wd} {H H' : Hp} {s : Sl} {e : Option V} (h : SlOk i W H s e) (k : ∀ b o q, W b = .ow (i :: q) → H b = some o → W' b = .ow (i :: q) ∧ H' b = some o) (m : Mv W H W' H') : SlOk i W' H' s e := by
  cases s with
  | un => trivial
  | sh t x => obtain ⟨v, e, r⟩ := h; exact ⟨v, e, t.go r m⟩
  | ow O x => obtain ⟨v, e, r⟩ := h; exact ⟨v, e, O.mv r (p' := [i]) k m⟩
/-- n: no dict is locked; p: slots that stay as they are -/
structure Ct where
  n : Bool
  s : List Sl
  p : List (Option V) := []
def Ct.set (G : Ct) (i : Nat) (s : Sl) : Ct := ⟨G.n, G.s.set i s, G.p⟩
def Ct.free (G : Ct) (i : Nat) : Prop := ∀ v, G.p[i]? ≠ some (some v)
structure Holds (G : Ct) (W : Wd) (H : Hp) (σ : L2.St) : Prop where
  len : σ.length = G.s.length
  ok : OKW W H
  sl : ∀ (i : Nat) s e, G.s[i]? = some s → σ[i]? = some e → SlOk i W H s e
  nl : G.n = true → ∀ b, W b ≠ .lk
  pn : ∀ (i : Nat) v, G.p[i]? = some (some v) → σ[i]? = some (some v)
  sm : G.s.length ≤ tmp
section
variable {W W1 : Wd} {H H1 : Hp} {G : Ct} {σ : L2.St}
theorem SlOk.goE {i : Nat} {s : Sl} {e : Option V} (h : SlOk i W H s e) (g : GoE W H W1 H1) (n : i ≠ tmp) : SlOk i W1 H1 s e := h.mv (fun b o q w e => by
  obtain ⟨e1, w1⟩ := g.own e w n
  exact ⟨w1, e1⟩) g.go.mv
theorem Holds.lt {i : Nat} {s : Sl} (h : Holds G W H σ) (e : G.s[i]? = some s) : i ≠ tmp := fun z => by
  have := (List.getElem?_eq_some_iff.mp e).1
  have := h.sm
  omega
theorem Holds.goE (h : Holds G W H σ) (g : GoE W H W1 H1) (ok : OKW W1 H1) : Holds G W1 H1 σ := ⟨h.len, ok, fun i s e a b => (h.sl i s e a b).goE g (h.lt a), fun n b w => h.nl n b (g.l b w), h.pn, h.sm⟩
theorem Holds.get {i : Nat} {s : Sl} (h : Holds G W H σ) (e : G.s[i]? = some s) : ∃ z, σ[i]? = some z ∧ SlOk i W H s z := by
  have hi : i < σ.length := by rw [h.len]; exact (List.getElem?_eq_some_iff.mp e).1
  exact ⟨σ[i], List.getElem?_eq_getElem hi, h.sl i s _ e (List.getElem?_eq_getElem hi)⟩
theorem Holds.var {α : Type} {t : Ty α} {x : α} {i : Nat} (h : Holds G W H σ) (e : G.s[i]? = some (.sh t x)) : ∃ v, σ[i]? = some (some v) ∧ t.R W H v x := by
  obtain ⟨z, e1, v, rfl, r⟩ := h.get e
  exact ⟨v, e1, r⟩
theorem Holds.own {α : Type} {O : OT α} {x : α} {i : Nat} (h : Holds G W H σ) (e : G.s[i]? = some (.ow O x)) : ∃ v, σ[i]? = some (some v) ∧ O.R [i] W H v x := by
  obtain ⟨z, e1, v, rfl, r⟩ := h.get e
  exact ⟨v, e1, r⟩
theorem set_key {α : Type _} {l : List α} {i m : Nat} {s z : α} (h : (l.set i s)[m]? = some z) : (m = i ∧ z = s) ∨ (m ≠ i ∧ l[m]? = some z) := by
  by_cases hm : i = m
  · subst hm
    rw [List.getElem?_set, if_pos rfl] at h
    split at h
    · cases h; exact .inl ⟨rfl, rfl⟩
    · cases h
  · rw [List.getElem?_set_ne hm] at h
    exact .inr ⟨fun z => hm z.symm, h⟩
/-- a slot is told anew, its value stands -/
theorem Holds.tell (h : Holds G W H σ) (i : Nat) {s : Sl} (ok : ∀ e, σ[i]? = some e → SlOk i W H s e) : Holds (G.set i s) W H σ := by
  refine ⟨by show σ.length = (G.s.set i s).length; rw [List.length_set]; exact h.len, h.ok, fun j s' e' (h1 : (G.s.set i s)[j]? = some s') h2 => ?_, h.nl, h.pn, by show (G.s.set i s).length ≤ tmp; rw [List.length_set]; exact h.sm⟩
  rcases set_key h1 with ⟨rfl, rfl⟩ | ⟨n1, g1⟩
  · exact ok e' h2
  · exact h.sl j s' e' g1 h2
/-- a slot is stored -/
theorem Holds.set (h : Holds G W H σ) (i : Nat) {s : Sl} {e : Option V} (ok : SlOk i W H s e) (fr : G.free i) : Holds (G.set i s) W H (σ.set i e) := by
  refine ⟨by show (σ.set i e).length = (G.s.set i s).length; rw [List.length_set, List.length_set]; exact h.len, h.ok, fun j s' e' (h1 : (G.s.set i s)[j]? = some s') h2 => ?_, h.nl, fun j v hv => ?_, by show (G.s.set i s).length ≤ tmp; rw [List.length_set]; exact h.sm⟩
  · rcases set_key h1 with ⟨rfl, rfl⟩ | ⟨n1, g1⟩
    · rcases set_key h2 with ⟨_, rfl⟩ | ⟨n, _⟩
      · exact ok
      · exact absurd rfl n
    · rcases set_key h2 with ⟨e1, _⟩ | ⟨_, g2⟩
      · exact absurd e1 n1
      · exact h.sl j s' e' g1 g2
  · have n : i ≠ j := fun z => fr v (by rw [z]; exact hv)
    rw [List.getElem?_set_ne n]
    exact h.pn j v hv
theorem Holds.setSh (h : Holds G W H σ) (i : Nat) {α : Type} {t : Ty α} {x : α} {v : V} (r : t.R W H v x) (fr : G.free i) : Holds (G.set i (.sh t x)) W H (σ.set i (some v)) := h.set i ⟨v, rfl, r⟩ fr
theorem Holds.setUn (h : Holds G W H σ) (i : Nat) (e : Option V) (fr : G.free i) : Holds (G.set i .un) W H (σ.set i e) := h.set i trivial fr
/-- forgetting a slot -/
theorem Holds.forget (h : Holds G W H σ) (i : Nat) : Holds (G.set i .un) W H σ := h.tell i fun _ _ => trivial
end
/-! ### errors -/
/-- an error: its class, its fields -/
structure Er where
  C : Addr
  fs : Option (List (Str × Sl))
inductive FldsOk (W : Wd) (H : Hp) : List (Str × V) → List (Str × Sl) → Prop where
  | nil : FldsOk W H [] []
  | cons {f : Str} {v : V} {α : Type} {t : Ty α} {x : α} {vs : List (Str × V)} {ss : List (Str × Sl)} : t.R W H v x → FldsOk W H vs ss → FldsOk W H ((f, v) :: vs) ((f, .sh t x) :: ss)
def ErAt (W : Wd) (H : Hp) (e : Er) (d : Option Addr) : Prop := match e.fs, d with
  | none, none => True
  | some fs, some d => ∃ ws, H d = some (.xd ws) ∧ W d = .sh ∧ FldsOk W H ws fs
  | _, _ => False
theorem FldsOk.go {W W1 : Wd} {H H1 : Hp} {vs : List (Str × V)} {as : List (Str × Sl)} (h : FldsOk W H vs as) (m : Mv W H W1 H1) : FldsOk W1 H1 vs as := by
  induction h with
  | nil => exact .nil
  | cons r _ ih => exact .cons (Ty.go _ r m) ih
theorem ErAt.go {W W' : Wd} {H : Hp} {e : Er} {d : Option Addr} (h : ErAt W H e d) (m : Mv W H W' H) : ErAt W' H e d := by
  unfold ErAt at h ⊢
  cases e1 : e.fs with
  | none =>
    rw [e1] at h
    cases d with
    | none => trivial
    | some d => exact h.elim
  | some fs =>
    rw [e1] at h
    cases d with
    | none => exact h.elim
    | some d =>
      obtain ⟨ws, h1, h2, h3⟩ := h
      refine ⟨ws, h1, ?_, h3.go m⟩
      rcases m.rd d _ (.inl ⟨h2, h1⟩) with ⟨w, _⟩ | ⟨_, od, q⟩
      · exact w
      · rw [h1] at q; cases q
/-- what is wanted of an exception; which may come, where -/
structure Xw where
  E : WX
  xp : Ct → Er → Prop
def Xw.ok (X : Xw) (W : Wd) (H : Hp) (σ : L2.St) : Prop := ∀ e d W' H' G', X.xp G' e → Go W H W' H' → Holds G' W' H' σ → ErAt W' H' e d → X.E (.ref e.C) d σ H'
theorem Xw.ok.mv {X : Xw} {W W1 : Wd} {H H1 : Hp} {σ : L2.St} (h : X.ok W H σ) (g : Go W H W1 H1) : X.ok W1 H1 σ := fun e d W' H' G' p g' => h e d W' H' G' p (g.trans g')
/-- what an expression hands back: shared, or one's own, new -/
inductive Rt (α : Type) where
  | sh (t : Ty α)
  | ow (O : OT α)
def Rt.R {α : Type} : Rt α → Wd → Hp → V → α → Prop
  | .sh t => t.R
  | .ow O => O.R [tmp]
/-- how one moved: k: nothing of one's own was written -/
structure Mo (k : Bool) (σ : L2.St) (G : Ct) (W : Wd) (H : Hp) (G' : Ct) (W' : Wd) (H' : Hp) : Prop where
  go : Go W H W' H'
  hs : Holds G' W' H' σ
  kp : k = true → GoE W H W' H' ∧ G' = G
section
variable {k : Bool} {σ : L2.St} {G G1 G2 : Ct} {W W1 W2 : Wd} {H H1 H2 : Hp}
theorem Mo.refl (hs : Holds G W H σ) : Mo k σ G W H G W H := ⟨.refl, hs, fun _ => ⟨.refl, rfl⟩⟩
theorem Mo.trans (a : Mo k σ G W H G1 W1 H1) (b : Mo k σ G1 W1 H1 G2 W2 H2) : Mo k σ G W H G2 W2 H2 := ⟨a.go.trans b.go, b.hs, fun e => ⟨(a.kp e).1.trans (b.kp e).1, (b.kp e).2.trans (a.kp e).2⟩⟩
theorem Mo.goE (hs : Holds G W H σ) (g : GoE W H W1 H1) (ok : OKW W1 H1) : Mo k σ G W H G W1 H1 := ⟨g.go, hs.goE g ok, fun _ => ⟨g, rfl⟩⟩
theorem Mo.thenE (a : Mo k σ G W H G1 W1 H1) (g : GoE W1 H1 W2 H2) (ok : OKW W2 H2) : Mo k σ G W H G1 W2 H2 := a.trans (.goE a.hs g ok)
end
/-! ### expressions -/
def EvR (X : Xw) (k : Bool) (te : TE) (G : Ct) {α : Type} (r : Rt α) (P : Ct → α → Prop) : Prop :=
  ∀ W H σ (Q : VK), Holds G W H σ → X.ok W H σ → (∀ v W' H' G' x, P G' x → Mo k σ G W H G' W' H' → r.R W' H' v x → Q v H') → te σ H Q
abbrev Ev (X : Xw) (k : Bool) (te : TE) (G : Ct) {α : Type} (t : Ty α) (P : Ct → α → Prop) : Prop := EvR X k te G (.sh t) P
def Et (X : Xw) (k : Bool) (tt : TT) (G : Ct) (P : Ct → Bool → Prop) : Prop :=
  ∀ W H σ (Q : Bool → Hp → Prop), Holds G W H σ → X.ok W H σ → (∀ b W' H' G', P G' b → Mo k σ G W H G' W' H' → Q b H') → tt σ H Q
/-- an argument: shared, one's own (to be written), one's own (to be read) -/
inductive Ar : Type 1 where
  | sh {α : Type} (t : Ty α) (x : α)
  | ow {α : Type} (q : List Nat) (O : OT α) (x : α)
  | vw {α : Type} (q : List Nat) (O : OT α) (x : α)
/-- where a thing of one's own hangs: in a slot, in an attribute of what hangs in a slot -/
def Hang (q : List Nat) (σ : L2.St) (W : Wd) (H : Hp) (v : V) : Prop := match q with
  | [i] => σ[i]? = some (some v)
  | [i, f] => ∃ a C dx vs nm, σ[i]? = some (some (.ref a)) ∧ W a = .ow [i] ∧ H a = some (.ins C dx vs) ∧ vs[f]? = some (nm, v)
  | _ => True
def Real (q : List Nat) : Prop := ∃ i r, q = i :: r ∧ i ≠ tmp
def Ar.at (a : Ar) (σ : L2.St) (W : Wd) (H : Hp) (v : V) : Prop := match a with
  | .sh t x => t.R W H v x
  | .ow q O x => O.R q W H v x ∧ Hang q σ W H v ∧ Real q
  | .vw q O x => O.R q W H v x ∧ Hang q σ W H v ∧ Real q
/-- as the callee sees it -/
def Ar.sl : Ar → Sl
  | .sh t x => .sh t x
  | .ow _ O x => .ow O x
  | .vw _ O x => .sh O.sv x
inductive ArgsOk (σ : L2.St) (W : Wd) (H : Hp) : List V → List Ar → Prop where
  | nil : ArgsOk σ W H [] []
  | cons {v : V} {a : Ar} {vs : List V} {as : List Ar} : a.at σ W H v → ArgsOk σ W H vs as → ArgsOk σ W H (v :: vs) (a :: as)
theorem ArgsOk.len {σ : L2.St} {W : Wd} {H : Hp} {vs : List V} {as : List Ar} (h : ArgsOk σ W H vs as) : vs.length = as.length := by
  induction h with
  | nil => rfl
  | cons _ _ ih => simp [ih]
def Ar.plain : Ar → Prop
  | .sh _ _ => True
  | _ => False
theorem ArgsOk.go {σ : L2.St} {W W1 : Wd} {H H1 : Hp} {vs : List V} {as : List Ar} (h : ArgsOk σ W H vs as) (p : ∀ a ∈ as, a.plain) (m : Mv W H W1 H1) : ArgsOk σ W1 H1 vs as := by
  induction h with
  | nil => exact .nil
  | @cons v a vs as r _ ih =>
    refine .cons ?_ (ih fun b hb => p b (List.mem_cons_of_mem _ hb))
    have := p a List.mem_cons_self
    cases a with
    | sh t x => exact t.go r m
    | _ => exact this.elim
/-- arguments; p: all of them are shared things -/
def Ea (X : Xw) (k : Bool) (ta : TA) (G : Ct) (P : Ct → List Ar → Prop) : Prop :=
  ∀ W H σ (Q : List V → Hp → Prop), Holds G W H σ → X.ok W H σ → (∀ vs W' H' G' as, P G' as → Mo k σ G W H G' W' H' → ArgsOk σ W' H' vs as → Q vs H') → ta σ H Q
end Y
end

section
set_option maxRecDepth 100000
set_option maxHeartbeats 4000000
/-! Into a callee's eyes, and back; promises by typed arguments. -/
namespace Y
open PySem PySem.Spec PyProof.Rows L2
inductive Am where
  | to (p : List Nat)
  | vw
  | hd
/-- what becomes of one's own at each path: told under another path, only to be read, hidden -/
structure Mp where
  f : List Nat → Am
  g : List Nat → Option (List Nat)
  fg : ∀ p p', f p = .to p' → g p' = some p
  gf : ∀ p p', g p' = some p → f p = .to p'
  nt : ∀ r, g (tmp :: r) = none
def enter (m : Mp) (W : Wd) : Wd := fun b => match W b with
  | .ow p => match m.f p with
    | .to p' => .ow p'
    | .vw => .sh
    | .hd => .fo
  | w => w
def back1 (m : Mp) (w : Md) : Md := match w with
  | .ow p' => match m.g p' with
    | some p => .ow p
    | none => if p'.head? = some tmp then .ow p' else .sh
  | w => w
def leave (m : Mp) (W Wc : Wd) : Wd := fun b => match W b with
  | .ow p => match m.f p with
    | .to _ => back1 m (Wc b)
    | _ => .ow p
  | _ => back1 m (Wc b)
section
variable {m : Mp} {W Wc : Wd} {H H' : Hp}
theorem enter_ne {b : Addr} (h : ∀ p, W b ≠ .ow p) : enter m W b = W b := by
  unfold enter
  cases e : W b with
  | ow p => exact absurd e (h p)
  | _ => rfl
theorem enter_to {b : Addr} {p p' : List Nat} (h : W b = .ow p) (e : m.f p = .to p') : enter m W b = .ow p' := by unfold enter; rw [h]; simp only [e]
theorem enter_vw {b : Addr} {p : List Nat} (h : W b = .ow p) (e : m.f p = .vw) : enter m W b = .sh := by unfold enter; rw [h]; simp only [e]
theorem enter_hd {b : Addr} {p : List Nat} (h : W b = .ow p) (e : m.f p = .hd) : enter m W b = .fo := by unfold enter; rw [h]; simp only [e]
theorem enter_lk {b : Addr} (h : enter m W b = .lk) : W b = .lk := by
  cases e : W b with
  | ow p =>
    cases e1 : m.f p with
    | to p' => rw [enter_to e e1] at h; cases h
    | vw => rw [enter_vw e e1] at h; cases h
    | hd => rw [enter_hd e e1] at h; cases h
  | lk => rfl
  | _ => rw [enter_ne (by rw [e]; exact fun _ z => nomatch z), e] at h; cases h
theorem enter_st {b : Addr} {φ : HO → Prop} : W b = .st φ ↔ enter m W b = .st φ := by
  constructor
  · intro h; rw [enter_ne (by rw [h]; exact fun _ z => nomatch z)]; exact h
  · intro h
    cases e : W b with
    | ow p =>
      cases e1 : m.f p with
      | to p' => rw [enter_to e e1] at h; cases h
      | vw => rw [enter_vw e e1] at h; cases h
      | hd => rw [enter_hd e e1] at h; cases h
    | _ => rw [enter_ne (by rw [e]; exact fun _ z => nomatch z), e] at h; exact h
theorem enter_mv : Mv W H (enter m W) H := by
  refine ⟨fun b o h => ?_, fun b vs w h => ⟨by rw [enter_ne (by rw [w]; exact fun _ z => nomatch z)]; exact w, h⟩, fun b φ h => enter_st.mp h⟩
  unfold RdW
  rw [enter_ne (fun p => h.no)]
  exact h
theorem enter_ok (ok : OKW W H) : OKW (enter m W) H := by
  refine ⟨fun b φ h => ok.st b φ (enter_st.mpr h), fun b h => ok.al b fun e => h ?_, fun b p od u w e => ?_, fun b h => ok.lk b (enter_lk h), fun b od u w h => ?_, fun b vs h => ?_⟩
  · rw [enter_ne (by rw [e]; exact fun _ z => nomatch z)]; exact e
  · cases e2 : W b with
    | ow p => exact ok.nf b p od u e2 e
    | _ => rw [enter_ne (by rw [e2]; exact fun _ z => nomatch z), e2] at w; cases w
  · cases e2 : W b with
    | ow p => exact absurd h (ok.nf b p od u e2)
    | _ => rw [enter_ne (by rw [e2]; exact fun _ z => nomatch z)] at w; exact ok.fo b od u w h
  · rw [enter_ne (by rw [ok.tp b vs h]; exact fun _ z => nomatch z)]; exact ok.tp b vs h
theorem leave_own {b : Addr} {p : List Nat} (h : W b = .ow p) (n : ∀ p', m.f p ≠ .to p') : leave m W Wc b = .ow p := by
  unfold leave
  rw [h]
  cases e : m.f p with
  | to p' => exact absurd e (n p')
  | _ => simp only [e]
theorem leave_else {b : Addr} (h : ∀ p, W b = .ow p → ∃ p', m.f p = .to p') : leave m W Wc b = back1 m (Wc b) := by
  unfold leave
  cases e : W b with
  | ow p =>
    obtain ⟨p', e1⟩ := h p e
    simp only [e1]
  | _ => rfl
theorem back1_own {w : Md} {p : List Nat} (h : back1 m w = .ow p) : ∃ p', w = .ow p' := by
  cases w with
  | ow p' => exact ⟨p', rfl⟩
  | _ => cases h
theorem back1_ne {w : Md} (h : ∀ p, w ≠ .ow p) : back1 m w = w := by
  cases w with
  | ow p => exact absurd rfl (h p)
  | _ => rfl
theorem back1_inv {w u : Md} (h : back1 m w = u) (n : ∀ p, u ≠ .ow p) (s : u ≠ .sh) : w = u := by
  cases w with
  | ow p =>
    unfold back1 at h
    simp only at h
    split at h
    · exact absurd h.symm (n _)
    · split at h
      · exact absurd h.symm (n _)
      · exact absurd h.symm s
  | _ => exact h
theorem back1_to {p p' : List Nat} (h : m.g p' = some p) : back1 m (.ow p') = .ow p := by unfold back1; simp only [h]
theorem back1_tmp {r : List Nat} : back1 m (.ow (tmp :: r)) = .ow (tmp :: r) := by unfold back1; simp only [m.nt r, List.head?_cons, if_true]
structure Left (m : Mp) (W : Wd) (H : Hp) (Wc : Wd) (H' : Hp) : Prop where
  go : Go W H (leave m W Wc) H'
  ok : OKW (leave m W Wc) H'
  own : ∀ b p o, W b = .ow p → (∀ p', m.f p ≠ .to p') → H b = some o → leave m W Wc b = .ow p ∧ H' b = some o
  new : ∀ b p p', Wc b = .ow p' → m.g p' = some p → leave m W Wc b = .ow p
  tmp : ∀ b r, Wc b = .ow (tmp :: r) → leave m W Wc b = .ow (tmp :: r)
  mv : (∀ p, m.f p ≠ .vw) → Mv Wc H' (leave m W Wc) H'
theorem left (ok : OKW W H) (g : Go (enter m W) H Wc H') (okc : OKW Wc H') : Left m W H Wc H' := by
  have own : ∀ b p, W b = .ow p → (∀ p', m.f p ≠ .to p') → ∃ o, H b = some o ∧ H' b = some o ∧ (∀ q, Wc b ≠ .ow q) ∧ (Wc b = .sh → m.f p = .vw) ∧ (Wc b = .sh ∨ Wc b = .fo) := fun b p h n => by
    obtain ⟨o, e⟩ := ok.al b (by rw [h]; exact fun z => nomatch z)
    cases e1 : m.f p with
    | to p' => exact absurd e1 (n p')
    | vw =>
      have w := enter_vw h e1
      obtain ⟨h1, w1⟩ := g.k b o e (.inl w)
      have w1 := w1.trans w
      exact ⟨o, e, h1, (fun q z => by rw [w1] at z; cases z), (fun _ => rfl), .inl w1⟩
    | hd =>
      have w := enter_hd h e1
      obtain ⟨h1, w1⟩ := g.k b o e (.inr (.inr w))
      have w1 := w1.trans w
      exact ⟨o, e, h1, (fun q z => by rw [w1] at z; cases z), (fun z => by rw [w1] at z; cases z), .inr w1⟩
  have spl : ∀ b, (∃ p, W b = .ow p ∧ ∀ p', m.f p ≠ .to p') ∨ (∀ p, W b = .ow p → ∃ p', m.f p = .to p') := fun b => by
    by_cases h : ∃ p, W b = .ow p ∧ ∀ p', m.f p ≠ .to p'
    · exact .inl h
    · exact .inr fun p e => Classical.byContradiction fun z => h ⟨p, e, fun p' q => z ⟨p', q⟩⟩
  refine ⟨⟨fun b o h w => ?_, fun b φ h => ?_, fun b h => ?_⟩, ⟨fun b φ h => ?_, fun b h => ?_, fun b p od u w e => ?_, fun b h => ?_, fun b od u w h => ?_, fun b vs h => ?_⟩, fun b p o h n e => ?_, fun b p p' h e => ?_, fun b r h => ?_, fun nv => ⟨fun b o h => ?_, fun b vs w h => ?_, fun b φ h => ?_⟩⟩
  · have n : ∀ p, W b ≠ .ow p := fun p z => by rcases w with w | w | w <;> (rw [w] at z; cases z)
    have e := enter_ne (m := m) n
    obtain ⟨h1, w1⟩ := g.k b o h (by rw [e]; exact w)
    refine ⟨h1, ?_⟩
    rw [leave_else fun p z => absurd z (n p), w1, e, back1_ne n]
  · have n : ∀ p, W b ≠ .ow p := fun p z => by rw [h] at z; cases z
    rw [leave_else fun p z => absurd z (n p), g.s b φ (enter_st.mp h)]
    rfl
  · rcases spl b with ⟨p, e, n⟩ | n
    · rw [leave_own e n] at h; cases h
    · rw [leave_else n] at h
      exact enter_lk (g.l b (back1_inv h (fun p z => nomatch z) fun z => nomatch z))
  · rcases spl b with ⟨p, e, n⟩ | n
    · rw [leave_own e n] at h; cases h
    · rw [leave_else n] at h
      exact okc.st b φ (back1_inv h (fun p z => nomatch z) fun z => nomatch z)
  · rcases spl b with ⟨p, e, n⟩ | n
    · obtain ⟨o, _, h1, _⟩ := own b p e n
      exact ⟨o, h1⟩
    · rw [leave_else n] at h
      exact okc.al b fun z => h (by rw [z]; rfl)
  · rcases spl b with ⟨p2, e2, n⟩ | n
    · obtain ⟨o, h0, h1, _⟩ := own b p2 e2 n
      rw [e] at h1
      exact ok.nf b p2 od u e2 (h0.trans h1.symm)
    · rw [leave_else n] at w
      obtain ⟨p', w⟩ := back1_own w
      exact okc.nf b p' od u w e
  · rcases spl b with ⟨p, e, n⟩ | n
    · rw [leave_own e n] at h; cases h
    · rw [leave_else n] at h
      exact okc.lk b (back1_inv h (fun p z => nomatch z) fun z => nomatch z)
  · rcases spl b with ⟨p, e, n⟩ | n
    · rw [leave_own e n] at w; cases w
    · rw [leave_else n] at w
      exact okc.fo b od u (back1_inv w (fun p z => nomatch z) fun z => nomatch z) h
  · rcases spl b with ⟨p, e, n⟩ | n
    · obtain ⟨o, h0, h1, _⟩ := own b p e n
      rw [h] at h1
      have := ok.tp b vs (h0.trans h1.symm)
      rw [e] at this; cases this
    · rw [leave_else n, okc.tp b vs h]; rfl
  · obtain ⟨o2, h0, h1, _⟩ := own b p h n
    rw [e] at h0; cases h0
    exact ⟨leave_own h n, h1⟩
  · rcases spl b with ⟨p2, e2, n⟩ | n
    · obtain ⟨o, _, _, z, _⟩ := own b p2 e2 n
      exact absurd h (z p')
    · rw [leave_else n, h]; exact back1_to e
  · rcases spl b with ⟨p2, e2, n⟩ | n
    · obtain ⟨o, _, _, z, _⟩ := own b p2 e2 n
      exact absurd h (z _)
    · rw [leave_else n, h]; exact back1_tmp
  · rcases spl b with ⟨p, e, n⟩ | n
    · obtain ⟨o2, h0, h1, _, hv, hw⟩ := own b p e n
      rcases h with ⟨w, _⟩ | ⟨w | w, od, h⟩
      · exact absurd (hv w) (nv p)
      · rcases hw with z | z <;> (rw [w] at z; cases z)
      · rw [h] at h1
        exact absurd (h0.trans h1.symm) (ok.nf b p od o e)
    · unfold RdW
      rw [leave_else n, back1_ne fun p => h.no]
      exact h
  · rcases spl b with ⟨p, e, n⟩ | n
    · obtain ⟨o2, h0, h1, _, hv, hw⟩ := own b p e n
      exact absurd (hv w) (nv p)
    · exact ⟨by rw [leave_else n, w]; rfl, h⟩
  · rcases spl b with ⟨p, e, n⟩ | n
    · obtain ⟨o2, h0, h1, _, hv, hw⟩ := own b p e n
      rcases hw with z | z <;> (rw [h] at z; cases z)
    · rw [leave_else n, h]; rfl
end
/-! ### promises -/
def SlsOk (W : Wd) (H : Hp) (vs : List V) (ss : List Sl) : Prop := vs.length = ss.length ∧ ∀ (k : Nat) v s, vs[k]? = some v → ss[k]? = some s → s.at [k] W H v
structure CT (ρ : Type) where
  n : Bool
  r : Rt ρ
  ct : List Sl → (List Sl → ρ → Prop) → (List Sl → Er → Prop) → Prop
/-- the promise of a def, by typed arguments -/
def spZ {ρ : Type} (c : CT ρ) : Sp := fun vs H Q E => ∃ W as P XP, OKW W H ∧ (c.n = true → ∀ b, W b ≠ .lk) ∧ SlsOk W H vs as ∧ c.ct as P XP ∧
  (∀ v W' H' os x, P os x → Go W H W' H' → OKW W' H' → SlsOk W' H' vs os → c.r.R W' H' v x → Q v H') ∧
  (∀ e d W' H' os, XP os e → Go W H W' H' → OKW W' H' → SlsOk W' H' vs os → ErAt W' H' e d → E (.ref e.C) d H')
/-- all of one's own is hidden -/
def mHide : Mp := ⟨fun _ => .hd, fun _ => none, fun _ _ h => (nomatch h), fun _ _ h => (nomatch h), fun _ => rfl⟩
theorem SlsOk.of_plain {σ : L2.St} {W : Wd} {H : Hp} : ∀ {vs : List V} {as : List Ar} (n : Nat), ArgsOk σ W H vs as → (∀ a ∈ as, a.plain) → vs.length = as.length ∧ ∀ (k : Nat) v s, vs[k]? = some v → (as.map Ar.sl)[k]? = some s → s.at [n + k] W H v
  | _, _, _, .nil, _ => ⟨rfl, fun k v s h => by simp at h⟩
  | _, _, n, .cons (a := a) r h, p => by
    obtain ⟨l, q⟩ := SlsOk.of_plain (n + 1) h fun b hb => p b (List.mem_cons_of_mem _ hb)
    refine ⟨by simp [l], fun k v s h1 h2 => ?_⟩
    cases k with
    | zero =>
      cases h1
      cases h2
      have := p a List.mem_cons_self
      cases a with
      | sh t x => exact r
      | _ => exact this.elim
    | succ k =>
      have := q k v s h1 h2
      rwa [Nat.add_right_comm, Nat.add_assoc] at this
theorem sls_plain {σ : L2.St} {W : Wd} {H : Hp} {vs : List V} {as : List Ar} (h : ArgsOk σ W H vs as) (p : ∀ a ∈ as, a.plain) : SlsOk W H vs (as.map Ar.sl) := by
  obtain ⟨l, q⟩ := SlsOk.of_plain 0 h p
  exact ⟨by rw [List.length_map]; exact l, fun k v s h1 h2 => by have := q k v s h1 h2; rwa [Nat.zero_add] at this⟩
section
variable {ρ : Type} {c : CT ρ} {W : Wd} {H : Hp} {G : Ct} {σ : L2.St}
theorem Rt.leave {m : Mp} {r : Rt ρ} {Wc : Wd} {H' : Hp} {v : V} {x : ρ} (l : Left m W H Wc H') (nv : ∀ p, m.f p ≠ .vw) (h : r.R Wc H' v x) : r.R (leave m W Wc) H' v x := by
  cases r with
  | sh t => exact t.go h (l.mv nv)
  | ow O => exact O.mv (p' := [tmp]) h (fun b o q w e => ⟨l.tmp b q w, e⟩) (l.mv nv)
/-- the callee's promise, as the caller reads it: nothing of one's own is handed over -/
theorem sp_plain {vs : List V} {as : List Ar} {Q : VK} {E : XK} {P : List Sl → ρ → Prop} {XP : List Sl → Er → Prop} (hs : Holds G W H σ) (nl : c.n = true → G.n = true) (ha : ArgsOk σ W H vs as) (pl : ∀ a ∈ as, a.plain) (hc : c.ct (as.map Ar.sl) P XP)
    (q : ∀ v W' H' os x, P os x → GoE W H W' H' → OKW W' H' → c.r.R W' H' v x → Q v H')
    (ex : ∀ e d W' H' os, XP os e → GoE W H W' H' → OKW W' H' → ErAt W' H' e d → E (.ref e.C) d H') : spZ c vs H Q E := by
  have nt : ∀ p p', mHide.f p ≠ .to p' := fun _ _ z => nomatch z
  have gE : ∀ {Wc H'}, Left mHide W H Wc H' → GoE W H (leave mHide W Wc) H' := fun {Wc H'} l => ⟨fun b o e n _ => by
    cases w : W b with
    | ow p =>
      obtain ⟨h1, h2⟩ := l.own b p o w (nt p) e
      exact ⟨h2, h1⟩
    | st φ => exact absurd w (n φ)
    | sh => rw [← w]; exact l.go.k b o e (.inl w)
    | lk => rw [← w]; exact l.go.k b o e (.inr (.inl w))
    | fo => rw [← w]; exact l.go.k b o e (.inr (.inr w)), l.go.s, l.go.l⟩
  refine ⟨enter mHide W, as.map Ar.sl, P, XP, enter_ok hs.ok, fun n b w => hs.nl (nl n) b (enter_lk w), sls_plain (ha.go pl enter_mv) pl, hc, fun v Wc H' os x p g okc so r => ?_, fun e d Wc H' os p g okc so r => ?_⟩
  · have l := left hs.ok g okc
    exact q v _ H' os x p (gE l) l.ok (Rt.leave l (fun p z => nomatch z) r)
  · have l := left hs.ok g okc
    exact ex e d _ H' os p (gE l) l.ok (r.go (l.mv fun p z => nomatch z))
end
/-! ### one's own handed over, from slots -/
def Ar.owS : Ar → Option Nat
  | .ow [i] _ _ => some i
  | _ => none
def Ar.vwS : Ar → Option Nat
  | .vw [i] _ _ => some i
  | _ => none
def Ar.simple : Ar → Prop
  | .sh _ _ => True
  | .ow [_] _ _ => True
  | .vw [_] _ _ => True
  | _ => False
def posO (as : List Ar) (i : Nat) : Option Nat := as.findIdx? fun a => decide (a.owS = some i)
def mSlots (as : List Ar) (hl : as.length ≤ tmp) : Mp where
  f p := match p with
    | [] => .hd
    | i :: r => match posO as i with
      | some k => .to (k :: r)
      | none => if as.any (fun a => decide (a.vwS = some i)) then .vw else .hd
  g p' := match p' with
    | [] => none
    | k :: r => match as[k]?.bind Ar.owS with
      | some i => if posO as i = some k then some (i :: r) else none
      | none => none
  fg p p' h := by
    cases p with
    | nil => cases h
    | cons i r =>
      simp only at h
      cases e : posO as i with
      | none => rw [e] at h; simp only at h; split at h <;> cases h
      | some k =>
        rw [e] at h
        cases h
        obtain ⟨hk, h1, _⟩ := List.findIdx?_eq_some_iff_getElem.mp e
        have h1 := of_decide_eq_true h1
        simp only [List.getElem?_eq_getElem hk, Option.bind_some, h1, e, if_true]
  gf p p' h := by
    cases p' with
    | nil => cases h
    | cons k r =>
      simp only at h
      cases e : as[k]?.bind Ar.owS with
      | none => rw [e] at h; cases h
      | some i =>
        rw [e] at h
        simp only at h
        split at h
        · rename_i q
          cases h
          simp only [q]
        · cases h
  nt r := by
    simp only
    rw [List.getElem?_eq_none hl]
    rfl
def putA (G : Ct) : List Ar → List Sl → Ct
  | .ow [i] _ _ :: as, o :: os => (putA G as os).set i o
  | _ :: as, _ :: os => putA G as os
  | _, _ => G
/-- nothing shared is asked -/
def FlatT {α : Type} (t : Ty α) : Prop := ∀ W H W' H' v x, t.R W H v x → t.R W' H' v x
def FlatO {α : Type} (O : OT α) : Prop := ∀ p p' W W' H H' v x, O.R p W H v x → (∀ b o q, W b = .ow (p ++ q) → H b = some o → W' b = .ow (p' ++ q) ∧ H' b = some o) → O.R p' W' H' v x
def FlatR {α : Type} : Rt α → Prop
  | .sh t => FlatT t
  | .ow O => FlatO O
def Sl.flat : Sl → Prop
  | .un => True
  | .sh t _ => FlatT t
  | .ow O _ => FlatO O
section
variable {ρ : Type} {c : CT ρ} {W : Wd} {H : Hp} {G : Ct} {σ : L2.St}
end
end Y
end

section
set_option maxRecDepth 100000
set_option maxHeartbeats 4000000
/-! Expressions, tests, arguments, calls, statements. -/
namespace Y
open PySem PySem.Spec PyProof.Rows L2
section
variable {X : Xw} {k : Bool} {G : Ct} {α β γ : Type} {t : Ty α} {u : Ty β} {z : Ty γ} {P : Ct → α → Prop}
theorem EvR.mono {te : TE} {r : Rt α} {P' : Ct → α → Prop} (h : EvR X k te G r P) (hp : ∀ G x, P G x → P' G x) : EvR X k te G r P' := fun W H σ Q hs ex q => h W H σ Q hs ex fun v W' H' G' x p => q v W' H' G' x (hp G' x p)
theorem Ev.as {te : TE} {P : Ct → β → Prop} (f : α → β) (h : Ev X k te G t fun G x => P G (f x)) (c : ∀ W H v x, t.R W H v x → u.R W H v (f x)) : Ev X k te G u P := fun W H σ Q hs ex q => h W H σ Q hs ex fun v W' H' G' x p m r => q v W' H' G' (f x) p m (c _ _ _ _ r)
theorem ev_var {i : Nat} {x : α} (e : G.s[i]? = some (.sh t x)) (p : P G x) : Ev X k (tVar i) G t P := fun W H σ Q hs ex q => by
  obtain ⟨v, e1, r⟩ := hs.var e
  exact ⟨v, e1, q v W H G x p (.refl hs) r⟩
theorem ev_c {v : V} {x : α} (r : ∀ W H, t.R W H v x) (p : P G x) : Ev X k (tC v) G t P := fun W H σ Q hs ex q => q v W H G x p (.refl hs) (r W H)
/-- an operation of two typed values -/
def RO (r : R2) (t : Ty α) (u : Ty β) (z : Rt γ) (C : α → β → (γ → Prop) → Prop) : Prop :=
  ∀ W H v w x y (Q : VK) (P : γ → Prop), OKW W H → t.R W H v x → u.R W H w y → C x y P → (∀ a W' H' c, P c → GoE W H W' H' → OKW W' H' → z.R W' H' a c → Q a H') → r v w H Q
theorem ev_op {r : R2} {ta tb : TE} {z : Rt γ} {C : α → β → (γ → Prop) → Prop} {P : Ct → γ → Prop} (ro : RO r t u z C) (h : Ev X k ta G t fun G x => Ev X k tb G u fun G y => C x y (P G)) : EvR X k (tOp r ta tb) G z P := fun W H σ Q hs ex q =>
  h W H σ _ hs ex fun v W1 H1 G1 x p m rv => p W1 H1 σ _ m.hs (ex.mv m.go) fun w W2 H2 G2 y c m2 rw => ro W2 H2 v w x y Q (P G2) m2.hs.ok (t.mv rv m2.go) rw c fun a W3 H3 d pd g3 ok3 r3 => q a W3 H3 G2 d pd ((m.trans m2).thenE g3 ok3) r3
/-! tests -/
theorem et_b {te : TE} {P : Ct → Bool → Prop} (h : Ev X k te G tBl P) : Et X k (tB te) G P := fun W H σ Q hs ex q => h W H σ _ hs ex fun v W' H' G' x p m r => ⟨x, r, q x W' H' G' p m⟩
theorem et_yes {P : Ct → Bool → Prop} (h : P G true) : Et X k tYes G P := fun W H σ Q hs ex q => q true W H G h (.refl hs)
theorem et_and {a b : TT} {P : Ct → Bool → Prop} (h : Et X k a G fun G x => (x = true → Et X k b G P) ∧ (x = false → P G false)) : Et X k (tAnd a b) G P := fun W H σ Q hs ex q => h W H σ _ hs ex fun x W1 H1 G1 p m => by
  cases x with
  | true => exact p.1 rfl W1 H1 σ _ m.hs (ex.mv m.go) fun y W2 H2 G2 p2 m2 => q y W2 H2 G2 p2 (m.trans m2)
  | false => exact q false W1 H1 G1 (p.2 rfl) m
theorem et_or {a b : TT} {P : Ct → Bool → Prop} (h : Et X k a G fun G x => (x = true → P G true) ∧ (x = false → Et X k b G P)) : Et X k (L2.tOr a b) G P := fun W H σ Q hs ex q => h W H σ _ hs ex fun x W1 H1 G1 p m => by
  cases x with
  | false => exact p.2 rfl W1 H1 σ _ m.hs (ex.mv m.go) fun y W2 H2 G2 p2 m2 => q y W2 H2 G2 p2 (m.trans m2)
  | true => exact q true W1 H1 G1 (p.1 rfl) m
theorem et_not {a : TT} {P : Ct → Bool → Prop} (h : Et X k a G fun G x => P G (!x)) : Et X k (tNot a) G P := fun W H σ Q hs ex q => h W H σ _ hs ex fun x W1 H1 G1 p m => q _ W1 H1 G1 p m
theorem ev_and {a b : TE} {P : Ct → Bool → Prop} (h : Ev X k a G tBl fun G x => (x = true → Ev X k b G tBl P) ∧ (x = false → P G false)) : Ev X k (tAndV a b) G tBl P := fun W H σ Q hs ex q => h W H σ _ hs ex fun v W1 H1 G1 x p m r => by
  refine ⟨x, r, ?_⟩
  cases x with
  | true => exact p.1 rfl W1 H1 σ _ m.hs (ex.mv m.go) fun y W2 H2 G2 x2 p2 m2 => q y W2 H2 G2 x2 p2 (m.trans m2)
  | false => exact q _ W1 H1 G1 false (p.2 rfl) m rfl
theorem ev_not {a : TE} {P : Ct → Bool → Prop} (h : Ev X k a G tBl fun G x => P G (!x)) : Ev X k (tNotV a) G tBl P := fun W H σ Q hs ex q => h W H σ _ hs ex fun v W1 H1 G1 x p m r => ⟨x, r, q _ W1 H1 G1 _ p m rfl⟩
theorem ev_if {c : TT} {a b : TE} {r : Rt α} (h : Et X k c G fun G x => (x = true → EvR X k a G r P) ∧ (x = false → EvR X k b G r P)) : EvR X k (tIf c a b) G r P := fun W H σ Q hs ex q => h W H σ _ hs ex fun x W1 H1 G1 p m => by
  cases x with
  | true => exact p.1 rfl W1 H1 σ _ m.hs (ex.mv m.go) fun y W2 H2 G2 x2 p2 m2 => q y W2 H2 G2 x2 p2 (m.trans m2)
  | false => exact p.2 rfl W1 H1 σ _ m.hs (ex.mv m.go) fun y W2 H2 G2 x2 p2 m2 => q y W2 H2 G2 x2 p2 (m.trans m2)
/-- a op b op c -/
theorem ev_chain {r r' : R2} {ta tb tc : TE} {P : Ct → Bool → Prop} {C : α → β → (Bool → Prop) → Prop} {C' : β → γ → (Bool → Prop) → Prop} (ro : RO r t u (.sh tBl) C) (ro' : RO r' u z (.sh tBl) C')
    (h : Ev X k ta G t fun G x => Ev X k tb G u fun G y => C x y fun b => (b = true → Ev X k tc G z fun G w => C' y w (P G)) ∧ (b = false → P G false)) : Ev X k (tChain r r' ta tb tc) G tBl P := fun W H σ Q hs ex q =>
  h W H σ _ hs ex fun v W1 H1 G1 x p m rv => p W1 H1 σ _ m.hs (ex.mv m.go) fun w W2 H2 G2 y c m2 rw => ro W2 H2 v w x y _ _ m2.hs.ok (t.mv rv m2.go) rw c fun a W3 H3 d pd g3 ok3 r3 => by
    refine ⟨d, r3, ?_⟩
    have mm := (m.trans m2).thenE g3 ok3
    cases d with
    | false => exact q _ W3 H3 G2 false (pd.2 rfl) mm rfl
    | true =>
      refine pd.1 rfl W3 H3 σ _ mm.hs (ex.mv mm.go) fun e W4 H4 G4 w4 c4 m4 r4 => ?_
      exact ro' W4 H4 w e y w4 _ (P G4) m4.hs.ok (u.mv (u.mvE rw g3) m4.go) r4 c4 fun a5 W5 H5 d5 pd5 g5 ok5 r5 => q a5 W5 H5 G4 d5 pd5 ((mm.trans m4).thenE g5 ok5) r5
/-! arguments -/
theorem ea_nil {P : Ct → List Ar → Prop} (p : P G []) : Ea X k tNil G P := fun W H σ Q hs ex q => q [] W H G [] p (.refl hs) .nil
theorem ea_cons {te : TE} {ta : TA} {P : Ct → List Ar → Prop} (h : Ev X k te G t fun G x => Ea X k ta G fun G as => P G (.sh t x :: as)) : Ea X k (tCons te ta) G P := fun W H σ Q hs ex q =>
  h W H σ _ hs ex fun v W1 H1 G1 x p m r => p W1 H1 σ _ m.hs (ex.mv m.go) fun vs W2 H2 G2 as p2 m2 r2 => q (v :: vs) W2 H2 G2 _ p2 (m.trans m2) (.cons (t.mv r m2.go) r2)
/-- a place: a thing of one's own by a path -/
def Pl (te : TE) (G : Ct) (q : List Nat) (O : OT α) (x : α) : Prop := ∀ W H σ, Holds G W H σ → ∃ v, O.R q W H v x ∧ (Hang q σ W H v ∧ Real q) ∧ ∀ (Q : VK), Q v H → te σ H Q
/-! ### calls -/
variable {ρ : Type} {c : CT ρ}
/-- what a call with shared things asks -/
def Cp (X : Xw) (c : CT ρ) (G : Ct) (P : Ct → ρ → Prop) (as : List Ar) : Prop := (c.n = true → G.n = true) ∧ (∀ a ∈ as, a.plain) ∧ ∃ P' XP, c.ct (as.map Ar.sl) P' XP ∧ (∀ os x, P' os x → P G x) ∧ ∀ os e, XP os e → X.xp G e
/-- .. with things of one's own, from slots -/
def Co (X : Xw) (c : CT ρ) (G : Ct) (P : Ct → ρ → Prop) (as : List Ar) : Prop := (c.n = true → G.n = true) ∧ as.length ≤ tmp ∧ (∀ a ∈ as, a.simple) ∧ (as.filterMap Ar.owS).Nodup ∧ (∀ a ∈ as, ∀ i, a.vwS = some i → i ∉ as.filterMap Ar.owS) ∧
  ∃ P' XP, ((∀ a ∈ as, a.vwS = none) ∨ (FlatR c.r ∧ (∀ os x, P' os x → ∀ s ∈ os, s.flat) ∧ ∀ os e, XP os e → (∀ s ∈ os, s.flat) ∧ e.fs = none)) ∧ c.ct (as.map Ar.sl) P' XP ∧ (∀ os x, P' os x → os.length = as.length → P (putA G as os) x) ∧ ∀ os e, XP os e → os.length = as.length → X.xp (putA G as os) e
theorem Cp.sp {P : Ct → ρ → Prop} {as : List Ar} {vs : List V} {W : Wd} {H : Hp} {σ : L2.St} {Q : VK} (h : Cp X c G P as) (hs : Holds G W H σ) (ex : X.ok W H σ) (ha : ArgsOk σ W H vs as) (q : ∀ v W' H' x, P G x → Mo k σ G W H G W' H' → c.r.R W' H' v x → Q v H') : spZ c vs H Q (WE X.E σ) := by
  obtain ⟨hn, pl, P', XP, hc, hp, hx⟩ := h
  exact sp_plain hs hn ha pl hc (fun v W' H' os x p g ok r => q v W' H' x (hp os x p) (.goE hs g ok) r) fun e d W' H' os p g ok r => ex e d W' H' G (hx os e p) g.go (hs.goE g ok) r
theorem ev_call {ta : TA} {P : Ct → ρ → Prop} (h : Ea X k ta G fun G as => Cp X c G P as) : EvR X k (tCallS (spZ c) (WE X.E) ta) G c.r P := fun W H σ Q hs ex q =>
  h W H σ _ hs ex fun vs W1 H1 G1 as hc m ha => hc.sp (k := k) m.hs (ex.mv m.go) ha fun v W' H' x p m2 r => q v W' H' G1 x p (m.trans m2) r
/-- o.m(..) of an instance of the class at C, what is raised wished for at the slots -/
def tMethS (C : Addr) (m : Str) (sp : Sp) (E : L2.St → XK) (ta : TE) (t : TA) : TE := fun σ H Q => ta σ H fun x H1 => ∃ a dx fs, x = .ref a ∧ H1 a = some (.ins C dx fs) ∧ fs.lookup m = none ∧
  t σ H1 fun vs H2 => sp (x :: vs) H2 Q (E σ)
/-- an instance of the class at C, its attribute m not its own -/
def Inst (C : Addr) (m : Str) (t : Ty α) : Prop := ∀ W H v x, OKW W H → t.R W H v x → ∃ a dx fs, v = .ref a ∧ H a = some (.ins C dx fs) ∧ fs.lookup m = none
def InstO (C : Addr) (m : Str) (O : OT α) : Prop := ∀ q W H v x, OKW W H → O.R q W H v x → ∃ a dx fs, v = .ref a ∧ H a = some (.ins C dx fs) ∧ fs.lookup m = none
end
/-! ### statements -/
/-- a def's wishes: what is wanted of what it hands back -/
structure Fx (ρ : Type) where
  r : Rt ρ
  rt : Ct → ρ → Prop
  X : Xw
def Blk {ρ : Type} (F : Fx ρ) (ts : TS) (G : Ct) (N B C : Ct → Prop) : Prop :=
  ∀ W0 H0 W H σ (D : Ends), Go W0 H0 W H → Holds G W H σ →
    (∀ G' W' H' σ', N G' → Go W0 H0 W' H' → Holds G' W' H' σ' → D.nx σ' H') →
    (∀ G' W' H' σ', B G' → Go W0 H0 W' H' → Holds G' W' H' σ' → D.bk σ' H') →
    (∀ G' W' H' σ', C G' → Go W0 H0 W' H' → Holds G' W' H' σ' → D.ct σ' H') →
    (∀ v G' W' H' σ' x, F.rt G' x → Go W0 H0 W' H' → Holds G' W' H' σ' → F.r.R W' H' v x → D.rt v H') →
    (∀ e d G' W' H' σ', F.X.xp G' e → Go W0 H0 W' H' → Holds G' W' H' σ' → ErAt W' H' e d → F.X.E (.ref e.C) d σ' H') → ts D σ H
theorem exo {X : Xw} {W0 W : Wd} {H0 H : Hp} {σ : L2.St} (ex : ∀ e d G' W' H' σ', X.xp G' e → Go W0 H0 W' H' → Holds G' W' H' σ' → ErAt W' H' e d → X.E (.ref e.C) d σ' H') (g : Go W0 H0 W H) : X.ok W H σ := fun e d W' H' G' p g' hs => ex e d G' W' H' σ p (g.trans g') hs
section
variable {ρ : Type} {F : Fx ρ} {G : Ct} {N B C : Ct → Prop} {α β γ : Type} {t : Ty α} {u : Ty β}
theorem blk_next (h : N G) : Blk F tNext G N B C := fun W0 H0 W H σ D g hs n _ _ _ _ => n G W H σ h g hs
theorem blk_break (h : B G) : Blk F tBreak G N B C := fun W0 H0 W H σ D g hs _ n _ _ _ => n G W H σ h g hs
theorem blk_seq {a b : TS} (h : Blk F a G (fun G' => Blk F b G' N B C) B C) : Blk F (tSeq a b) G N B C := fun W0 H0 W H σ D g hs n bk ct rt ex =>
  h W0 H0 W H σ { D with nx := b D } g hs (fun G' W' H' σ' hb g' hs' => hb W0 H0 W' H' σ' D g' hs' n bk ct rt ex) bk ct rt ex
theorem Blk.mono {a : TS} {N' B' C' : Ct → Prop} (h : Blk F a G N B C) (hn : ∀ G', N G' → N' G') (hb : ∀ G', B G' → B' G') (hc : ∀ G', C G' → C' G') : Blk F a G N' B' C' := fun W0 H0 W H σ D g hs n bk ct rt ex =>
  h W0 H0 W H σ D g hs (fun G' W' H' σ' q => n G' W' H' σ' (hn G' q)) (fun G' W' H' σ' q => bk G' W' H' σ' (hb G' q)) (fun G' W' H' σ' q => ct G' W' H' σ' (hc G' q)) rt ex
/-- what follows is shown once -/
theorem blk_cut {a b : TS} (M : Ct → Prop) (h : Blk F a G M B C) (h2 : ∀ G', M G' → Blk F b G' N B C) : Blk F (tSeq a b) G N B C := blk_seq (h.mono h2 (fun _ q => q) fun _ q => q)
theorem blk_ret {te : TE} (h : EvR F.X false te G F.r F.rt) : Blk F (tRet te) G N B C := fun W0 H0 W H σ D g hs _ _ _ rt ex => h W H σ _ hs (exo ex g) fun v W' H' G' x p m r => rt v G' W' H' σ x p (g.trans m.go) m.hs r
theorem blk_if {c : TT} {a b : TS} (h : Et F.X false c G fun G x => (x = true → Blk F a G N B C) ∧ (x = false → Blk F b G N B C)) : Blk F (tIfS c a b) G N B C := fun W0 H0 W H σ D g hs n bk ct rt ex => h W H σ _ hs (exo ex g) fun x W1 H1 G1 p m => by
  cases x with
  | true => exact p.1 rfl W0 H0 W1 H1 σ D (g.trans m.go) m.hs n bk ct rt ex
  | false => exact p.2 rfl W0 H0 W1 H1 σ D (g.trans m.go) m.hs n bk ct rt ex
theorem blk_drop {te : TE} {r : Rt α} (h : EvR F.X false te G r fun G _ => N G) : Blk F (tDrop te) G N B C := fun W0 H0 W H σ D g hs n _ _ _ ex => h W H σ _ hs (exo ex g) fun v W' H' G' x p m r => n G' W' H' σ p (g.trans m.go) m.hs
theorem blk_never (h : False) : Blk F tNever G N B C := h.elim
/-! ### targets -/
def Tg (g : TG) (G : Ct) (t : Ty α) (x : α) (vs : List Nat) (N : Ct → Prop) : Prop :=
  ∀ W H σ v (Q : L2.St → Hp → Prop), Holds G W H σ → t.R W H v x → (∀ G' σ', N G' → Holds G' W H σ' → σ'.length = σ.length → (∀ i, i ∉ vs → σ'[i]? = σ[i]?) → Q σ' H) → g v σ H Q
theorem tg_name {i : Nat} {x : α} {vs : List Nat} (hi : i ∈ vs) (fr : G.free i) (h : N (G.set i (.sh t x))) : Tg (gName i) G t x vs N := fun W H σ v Q hs r q => q _ _ h (hs.setSh i r fr) (by rw [List.length_set]) fun j hj => List.getElem?_set_ne (fun e => hj (by rw [← e]; exact hi))
theorem tg_tup2 {K : PySem.W.Frag} {g1 g2 : TG} {x : α × β} {vs : List Nat} (h : Tg g1 G t x.1 vs fun G1 => Tg g2 G1 u x.2 vs N) : Tg (gTup K 2 (gCons g1 (gCons g2 gNil))) G (tT2 K t u) x vs N := fun W H σ v Q hs r q => by
  obtain ⟨a, p, w, rfl, sq, r1, r2⟩ := r
  refine ⟨a, [p, w], rfl, sq.t, rfl, p, [w], rfl, h W H σ p _ hs r1 fun G1 σ1 h1 hs1 l1 k1 => ⟨w, [], rfl, h1 W H σ1 w _ hs1 r2 fun G2 σ2 h2 hs2 l2 k2 => ⟨rfl, q G2 σ2 h2 hs2 (l2.trans l1) fun i hi => (k2 i hi).trans (k1 i hi)⟩⟩⟩
theorem blk_asg {te : TE} {g : TG} {vs : List Nat} (h : Ev F.X false te G t fun G x => Tg g G t x vs N) : Blk F (tAsg te g) G N B C := fun W0 H0 W H σ D g0 hs n _ _ _ ex => h W H σ _ hs (exo ex g0) fun v W1 H1 G1 x p m r => p W1 H1 σ v _ m.hs r fun G' σ' q hs' _ _ => n G' W1 H1 σ' q (g0.trans m.go) hs'
theorem free_of {G : Ct} {i : Nat} (h : (G.p[i]?).join = none) : G.free i := fun v e => by rw [e] at h; cases h
theorem blk_set {te : TE} {i : Nat} (h : Ev F.X false te G t fun G1 x => (G1.p[i]?).join = none ∧ N (G1.set i (.sh t x))) : Blk F (tAsg te (gName i)) G N B C := blk_asg (vs := [i]) (EvR.mono h fun _ _ q => tg_name List.mem_cons_self (free_of q.1) q.2)
/-! ### one's own -/
/-- what is new gets its place -/
def seat (W : Wd) (i : Nat) : Wd := fun b => match W b with
  | .ow (j :: r) => if j = tmp then .ow (i :: r) else .ow (j :: r)
  | w => w
theorem seat_tmp {W : Wd} {i : Nat} {b : Addr} {r : List Nat} (h : W b = .ow (tmp :: r)) : seat W i b = .ow (i :: r) := by unfold seat; rw [h]; simp
theorem seat_ne {W : Wd} {i : Nat} {b : Addr} (h : ∀ r, W b ≠ .ow (tmp :: r)) : seat W i b = W b := by
  unfold seat
  cases e : W b with
  | ow p =>
    cases p with
    | nil => rfl
    | cons j r =>
      by_cases n : j = tmp
      · subst n; exact absurd e (h r)
      · simp [n]
  | _ => rfl
section
variable {W : Wd} {H : Hp} {i : Nat}
theorem seat_own {b : Addr} {p : List Nat} (h : seat W i b = .ow p) : ∃ p', W b = .ow p' := by
  by_cases n : ∃ r, W b = .ow (tmp :: r)
  · obtain ⟨r, e⟩ := n; exact ⟨_, e⟩
  · rw [seat_ne fun r e => n ⟨r, e⟩] at h; exact ⟨_, h⟩
theorem seat_non {b : Addr} {w : Md} (nw : ∀ p, w ≠ .ow p) : seat W i b = w ↔ W b = w := by
  by_cases n : ∃ r, W b = .ow (tmp :: r)
  · obtain ⟨r, e⟩ := n
    rw [seat_tmp e, e]
    exact ⟨fun z => absurd z.symm (nw _), fun z => absurd z.symm (nw _)⟩
  · rw [seat_ne fun r e => n ⟨r, e⟩]
theorem seat_lk {b : Addr} : seat W i b = .lk ↔ W b = .lk := seat_non fun _ => (fun z => by cases z)
theorem seat_sh {b : Addr} : seat W i b = .sh ↔ W b = .sh := seat_non fun _ => (fun z => by cases z)
theorem seat_fo {b : Addr} : seat W i b = .fo ↔ W b = .fo := seat_non fun _ => (fun z => by cases z)
theorem seat_st {b : Addr} {φ : HO → Prop} : seat W i b = .st φ ↔ W b = .st φ := seat_non fun _ => (fun z => by cases z)
theorem seat_ok (ok : OKW W H) : OKW (seat W i) H := by
  refine ⟨fun b φ h => ok.st b φ (seat_st.mp h), fun b h => ok.al b fun e => h (seat_sh.mpr e), fun b p od u w e => ?_, fun b h => ok.lk b (seat_lk.mp h), fun b od u w h => ok.fo b od u (seat_fo.mp w) h, fun b vs h => seat_sh.mpr (ok.tp b vs h)⟩
  obtain ⟨p', w⟩ := seat_own w
  exact ok.nf b p' od u w e
theorem seat_mv : Mv W H (seat W i) H := by
  refine ⟨fun b o h => ?_, fun b vs w h => ⟨seat_sh.mpr w, h⟩, fun b φ h => seat_st.mpr h⟩
  unfold RdW
  rw [seat_ne fun r => h.no]
  exact h
theorem seat_go : Go W H (seat W i) H := ⟨fun b o h w => ⟨h, seat_ne fun r e => by rcases w with w | w | w <;> (rw [w] at e; cases e)⟩, fun b φ h => seat_st.mpr h, fun b h => seat_lk.mp h⟩
end
theorem Holds.seat {W : Wd} {H : Hp} {σ : L2.St} {i : Nat} {O : OT α} {x : α} {v : V} (h : Holds G W H σ) (r : O.R [tmp] W H v x) (fr : G.free i) : Holds (G.set i (.ow O x)) (seat W i) H (σ.set i (some v)) := by
  have h1 : Holds G (Y.seat W i) H σ := ⟨h.len, seat_ok h.ok, fun j s e a b => (h.sl j s e a b).mv (fun c o q w eo => ⟨by
    rw [seat_ne fun r z => by
      rw [w] at z
      exact h.lt a (List.cons.inj (Md.ow.inj z)).1]
    exact w, eo⟩) seat_mv, fun n b w => h.nl n b (seat_lk.mp w), h.pn, h.sm⟩
  exact h1.set i ⟨v, rfl, O.mv (p' := [i]) r (fun b o q w e => ⟨seat_tmp w, e⟩) seat_mv⟩ fr
/-- name = something new, one's own -/
theorem blk_setO {te : TE} {i : Nat} {O : OT α} (h : EvR F.X false te G (.ow O) fun G1 x => (G1.p[i]?).join = none ∧ N (G1.set i (.ow O x))) : Blk F (tAsg te (gName i)) G N B C := fun W0 H0 W H σ D g0 hs n _ _ _ ex => h W H σ _ hs (exo ex g0) fun v W1 H1 G1 x ⟨hf, hn⟩ m r => n _ _ H1 _ hn ((g0.trans m.go).trans seat_go) (m.hs.seat r (free_of hf))
/-- freezing: what hangs in a slot is shared from here -/
def thaw (W : Wd) (i : Nat) : Wd := fun b => match W b with
  | .ow (j :: r) => if j = i then .sh else .ow (j :: r)
  | w => w
theorem thaw_at {W : Wd} {i : Nat} {b : Addr} {r : List Nat} (h : W b = .ow (i :: r)) : thaw W i b = .sh := by unfold thaw; rw [h]; simp
theorem thaw_ne {W : Wd} {i : Nat} {b : Addr} (h : ∀ r, W b ≠ .ow (i :: r)) : thaw W i b = W b := by
  unfold thaw
  cases e : W b with
  | ow p =>
    cases p with
    | nil => rfl
    | cons j r =>
      by_cases n : j = i
      · subst n; exact absurd e (h r)
      · simp [n]
  | _ => rfl
section
variable {W : Wd} {H : Hp} {i : Nat}
theorem thaw_own {b : Addr} {p : List Nat} (h : thaw W i b = .ow p) : W b = .ow p := by
  by_cases n : ∃ r, W b = .ow (i :: r)
  · obtain ⟨r, e⟩ := n; rw [thaw_at e] at h; cases h
  · rw [thaw_ne fun r e => n ⟨r, e⟩] at h; exact h
theorem thaw_non {b : Addr} {w : Md} (nw : ∀ p, w ≠ .ow p) (ns : w ≠ .sh) : thaw W i b = w ↔ W b = w := by
  by_cases n : ∃ r, W b = .ow (i :: r)
  · obtain ⟨r, e⟩ := n
    rw [thaw_at e, e]
    exact ⟨fun z => absurd z.symm ns, fun z => absurd z.symm (nw _)⟩
  · rw [thaw_ne fun r e => n ⟨r, e⟩]
theorem thaw_sh {b : Addr} (h : W b = .sh) : thaw W i b = .sh := by rw [thaw_ne fun r e => by rw [h] at e; cases e]; exact h
theorem thaw_lk {b : Addr} : thaw W i b = .lk ↔ W b = .lk := thaw_non (fun _ => fun z => by cases z) fun z => by cases z
theorem thaw_fo {b : Addr} : thaw W i b = .fo ↔ W b = .fo := thaw_non (fun _ => fun z => by cases z) fun z => by cases z
theorem thaw_st {b : Addr} {φ : HO → Prop} : thaw W i b = .st φ ↔ W b = .st φ := thaw_non (fun _ => fun z => by cases z) fun z => by cases z
theorem thaw_ok (ok : OKW W H) : OKW (thaw W i) H := by
  refine ⟨fun b φ h => ok.st b φ (thaw_st.mp h), fun b h => ok.al b fun e => h (thaw_sh e), fun b p od u w e => ok.nf b p od u (thaw_own w) e, fun b h => ok.lk b (thaw_lk.mp h), fun b od u w h => ok.fo b od u (thaw_fo.mp w) h, fun b vs h => thaw_sh (ok.tp b vs h)⟩
theorem thaw_mv : Mv W H (thaw W i) H := by
  refine ⟨fun b o h => ?_, fun b vs w h => ⟨thaw_sh w, h⟩, fun b φ h => thaw_st.mpr h⟩
  unfold RdW
  rw [thaw_ne fun r => h.no]
  exact h
theorem thaw_go : Go W H (thaw W i) H := ⟨fun b o h w => ⟨h, thaw_ne fun r e => by rcases w with w | w | w <;> (rw [w] at e; cases e)⟩, fun b φ h => thaw_st.mpr h, fun b h => thaw_lk.mp h⟩
theorem thaw_goE : GoE W H (thaw W tmp) H := ⟨fun b o h _ n => ⟨h, thaw_ne n⟩, fun b φ h => thaw_st.mpr h, fun b h => thaw_lk.mp h⟩
end
theorem Holds.thaw {W : Wd} {H : Hp} {σ : L2.St} {i : Nat} {O : OT α} {x : α} (h : Holds G W H σ) (hi : G.s[i]? = some (.ow O x)) : Holds (G.set i (.sh O.sv x)) (thaw W i) H σ := by
  obtain ⟨v, ev, r⟩ := h.own hi
  refine ⟨by show σ.length = (G.s.set i _).length; rw [List.length_set]; exact h.len, thaw_ok h.ok, fun j s e (h1 : (G.s.set i (.sh O.sv x))[j]? = some s) h2 => ?_, fun n b w => h.nl n b (thaw_lk.mp w), h.pn, by show (G.s.set i _).length ≤ tmp; rw [List.length_set]; exact h.sm⟩
  rcases set_key h1 with ⟨rfl, rfl⟩ | ⟨n1, g1⟩
  · rw [ev] at h2
    cases h2
    exact ⟨v, rfl, O.fz r (fun b o q w e => ⟨thaw_at w, e⟩) thaw_mv⟩
  · exact (h.sl j s e g1 h2).mv (fun b o q w eo => ⟨by
      rw [thaw_ne fun r z => by rw [w] at z; exact n1 (List.cons.inj (Md.ow.inj z)).1]
      exact w, eo⟩) thaw_mv
theorem blk_frz {ts : TS} (i : Nat) {O : OT α} {x : α} (hi : G.s[i]? = some (.ow O x)) (h : Blk F ts (G.set i (.sh O.sv x)) N B C) : Blk F ts G N B C := fun W0 H0 W H σ D g hs n bk ct rt ex => h W0 H0 _ H σ D (g.trans thaw_go) (hs.thaw hi) n bk ct rt ex
/-- .. of something new that hangs nowhere -/
theorem EvR.share {X : Xw} {k : Bool} {te : TE} {O : OT α} {P : Ct → α → Prop} (h : EvR X k te G (.ow O) P) : Ev X k te G O.sv P := fun W H σ Q hs ex q => h W H σ Q hs ex fun v W1 H1 G1 x p m r =>
  q v (Y.thaw W1 tmp) H1 G1 x p (m.thenE thaw_goE (thaw_ok m.hs.ok)) (O.fz r (fun b o q w e => ⟨thaw_at w, e⟩) thaw_mv)
end
end Y
end

section
set_option maxRecDepth 100000
set_option maxHeartbeats 4000000
/-! a text is no dict; any value looked for among texts -/
namespace Own
open PySem PySem.Spec PyProof.Rows L2 SeqAt AutoSeq1 MeetsSeq
section
variable {A : Around} {s : Shared}
end
/-- a list, a tuple or a dict is none of some texts -/
def RefK (K : PySem.W.Frag) (H : Hp) (b : Addr) : Prop := (∃ xs, SqL K H b xs) ∨ (∃ xs, SqT K H b xs) ∨ ∃ kvs, Rd H b (.dK kvs)
def rInRef (K : PySem.W.Frag) (neg : Bool) : R2 := fun x y H Q => ∃ (b p : Addr) (ns : List Str), x = .ref b ∧ y = .ref p ∧ RefK K H b ∧ (SqL K H p (ns.map V.str) ∨ SqT K H p (ns.map V.str)) ∧ Q (.bl neg) H
section
variable {X : Cx} {pins : List (Addr × Obj)} {σ : L2.St} {H : Hp} {s : Shared}
end
end Own
end

section
set_option maxRecDepth 100000
set_option maxHeartbeats 4000000
/-! What values do: displays, items, built-in calls, slices, texts, order. -/
namespace Y
open PySem PySem.Spec PyProof.Rows L2
section
variable {α β γ : Type} {R : α → β → Prop}
theorem paired_get {xs : List α} {ys : List β} (p : Paired R xs ys) : ∀ {i : Nat} {y : β}, ys[i]? = some y → ∃ x, xs[i]? = some x ∧ R x y := by
  induction p with
  | nil => intro i y h; simp at h
  | cons r _ ih =>
    intro i y h
    cases i with
    | zero => cases h; exact ⟨_, rfl, r⟩
    | succ i => exact ih (i := i) h
theorem paired_getL {xs : List α} {ys : List β} (p : Paired R xs ys) : ∀ {i : Nat} {x : α}, xs[i]? = some x → ∃ y, ys[i]? = some y ∧ R x y := by
  induction p with
  | nil => intro i y h; simp at h
  | cons r _ ih =>
    intro i y h
    cases i with
    | zero => cases h; exact ⟨_, rfl, r⟩
    | succ i => exact ih (i := i) h
theorem paired_at {xs : List α} {ys : List β} (p : Paired R xs ys) {i : Int} {y : β} (h : atI ys i = some y) : ∃ x, atI xs i = some x ∧ R x y := by
  unfold atI at h ⊢
  rw [p.length]
  cases e : ixN ys.length i with
  | none => rw [e] at h; cases h
  | some j =>
    rw [e] at h
    exact paired_get p h
theorem paired_snoc' {α β : Type} {R : α → β → Prop} : ∀ {xs : List α} {ys : List β} {x : α} {y : β}, Paired R xs ys → R x y → Paired R (xs ++ [x]) (ys ++ [y])
  | _, _, _, _, .nil, r => .cons r .nil
  | _, _, _, _, .cons a p, r => .cons a (paired_snoc' p r)
theorem paired_map {f : β → α} : ∀ {ys : List β}, (∀ y, R (f y) y) → Paired R (ys.map f) ys
  | [], _ => .nil
  | y :: ys, h => .cons (h y) (paired_map h)
theorem paired_eq {f : β → α} : ∀ {xs : List α} {ys : List β}, Paired (fun x y => x = f y) xs ys → xs = ys.map f
  | _, _, .nil => rfl
  | _, _, .cons r p => by rw [List.map_cons, ← paired_eq p, r]
end
section
variable {K : PySem.W.Frag} {X : Xw} {k : Bool} {G : Ct} {α β γ δ : Type} {t : Ty α} {u : Ty β} {z : Ty γ} {y : Ty δ}
/-- something new hangs nowhere yet -/
theorem newT {W : Wd} {H : Hp} (ok : OKW W H) {p : Addr} {o : HO} (hp : H p = none) (nt : NoTup o) : GoE W H (setW W p (.ow [tmp])) (upd H p o) ∧ OKW (setW W p (.ow [tmp])) (upd H p o) := by
  have nf := nt.nf
  have fr := ok.fresh hp
  have o1 := ok.new (o := o) hp nf
  refine ⟨⟨fun b u h _ _ => ?_, fun b φ h => ?_, fun b h => ?_⟩, ⟨fun b φ h => ?_, fun b h => ?_, fun b q od v w h => ?_, fun b h => ?_, fun b od v w h => ?_, fun b vs h => ?_⟩⟩
  · have n := ne_of_none h hp
    exact ⟨by rw [upd_ne n]; exact h, setW_ne n⟩
  · rw [setW_ne (fun e => by rw [e, fr] at h; cases h)]; exact h
  · by_cases n : b = p
    · rw [n, setW_same] at h; cases h
    · rw [setW_ne n] at h; exact h
  · by_cases n : b = p
    · rw [n, setW_same] at h; cases h
    · rw [setW_ne n] at h; exact o1.st b φ h
  · by_cases n : b = p
    · exact ⟨o, by rw [n, upd_same]⟩
    · rw [setW_ne n] at h; exact o1.al b h
  · by_cases n : b = p
    · rw [n, upd_same] at h; cases h; exact nf
    · rw [setW_ne n] at w; exact o1.nf b q od v w h
  · by_cases n : b = p
    · rw [n, setW_same] at h; cases h
    · rw [setW_ne n] at h; exact o1.lk b h
  · by_cases n : b = p
    · rw [n, upd_same] at h; cases h; exact nf.elim
    · rw [setW_ne n] at w; exact o1.fo b od v w h
  · by_cases n : b = p
    · rw [n, upd_same] at h; cases h; exact nt.elim
    · rw [setW_ne n]; exact o1.tp b vs h
theorem ArgsOk.goP {σ : L2.St} {W W1 : Wd} {H H1 : Hp} {vs : List V} {as : List Ar} (h : ArgsOk σ W H vs as) (p : ∀ a ∈ as, a.plain) (g : GoE W H W1 H1) : ArgsOk σ W1 H1 vs as := h.go p g.go.mv
/-! ### displays -/
theorem ev_tup {T : Ty γ} {ta : TA} {P : Ct → γ → Prop} (h : Ea X k ta G fun G as => as.length ≤ sizeLine ∧ (∀ a ∈ as, a.plain) ∧ ∃ x, P G x ∧ ∀ σ W H vs a, ArgsOk σ W H vs as → RdW W H a (.tup vs) → T.R W H (.ref a) x) : Ev X k (tTup ta) G T P := fun W H σ Q hs ex q =>
  h W H σ _ hs ex fun vs W1 H1 G1 as ⟨hl, pl, x, p, r⟩ m ha => ⟨by rw [ha.len]; exact hl, fun a hp => by
    have g2 := GoE.new (W := W1) (o := .tup vs) hp
    exact q _ W1 _ G1 x p (m.thenE g2 (m.hs.ok.new hp trivial)) (r σ W1 _ vs a (ha.goP pl g2) (rdNew m.hs.ok hp))⟩
/-- a list that is shared -/
theorem ev_lst {T : Ty γ} {ta : TA} {P : Ct → γ → Prop} (h : Ea X k ta G fun G as => as.length ≤ sizeLine ∧ (∀ a ∈ as, a.plain) ∧ ∃ x, P G x ∧ ∀ σ W H vs a, ArgsOk σ W H vs as → W a = .sh ∧ H a = some (.lst vs) → T.R W H (.ref a) x) : Ev X k (L2.tLst ta) G T P := fun W H σ Q hs ex q =>
  h W H σ _ hs ex fun vs W1 H1 G1 as ⟨hl, pl, x, p, r⟩ m ha => ⟨by rw [ha.len]; exact hl, fun a hp => by
    have g2 := GoE.new (W := W1) (o := .lst vs) hp
    exact q _ W1 _ G1 x p (m.thenE g2 (m.hs.ok.new hp trivial)) (r σ W1 _ vs a (ha.goP pl g2) ⟨m.hs.ok.fresh hp, upd_same⟩)⟩
theorem small {n : Nat} (h : n ≤ 1000) : n ≤ sizeLine := Nat.le_trans h (by decide)
theorem plain_cons {t : Ty α} {x : α} {as : List Ar} (h : ∀ a ∈ as, a.plain) : ∀ a ∈ Ar.sh t x :: as, a.plain := fun a ha => by
  rcases List.mem_cons.mp ha with rfl | ha
  · trivial
  · exact h a ha
theorem plain_nil : ∀ a ∈ ([] : List Ar), a.plain := fun a ha => by simp at ha
theorem ev_t2 {ta tb : TE} {P : Ct → α × β → Prop} (h : Ev X k ta G t fun G x => Ev X k tb G u fun G y => P G (x, y)) : Ev X k (tTup (tCons ta (tCons tb tNil))) G (tT2 K t u) P :=
  ev_tup (ea_cons (EvR.mono h fun G x hx => ea_cons (EvR.mono hx fun G y p => ea_nil ⟨small (show 2 ≤ 1000 by decide), plain_cons (plain_cons plain_nil), (x, y), p, fun σ W H vs a ha rd => by
    cases ha with
    | cons r1 ha => cases ha with
      | cons r2 ha => cases ha; exact ⟨a, _, _, rfl, rd, r1, r2⟩⟩)))
theorem ev_t3 {ta tb tc : TE} {P : Ct → α × β × γ → Prop} (h : Ev X k ta G t fun G x => Ev X k tb G u fun G y => Ev X k tc G z fun G w => P G (x, y, w)) : Ev X k (tTup (tCons ta (tCons tb (tCons tc tNil)))) G (tT3 K t u z) P :=
  ev_tup (ea_cons (EvR.mono h fun G x hx => ea_cons (EvR.mono hx fun G y hy => ea_cons (EvR.mono hy fun G w p => ea_nil ⟨small (show 3 ≤ 1000 by decide), plain_cons (plain_cons (plain_cons plain_nil)), (x, y, w), p, fun σ W H vs a ha rd => by
    cases ha with
    | cons r1 ha => cases ha with
      | cons r2 ha => cases ha with
        | cons r3 ha => cases ha; exact ⟨a, _, _, _, rfl, rd, r1, r2, r3⟩⟩))))
theorem ev_l3 {ta tb tc : TE} {P : Ct → α × β × γ → Prop} (h : Ev X k ta G t fun G x => Ev X k tb G u fun G y => Ev X k tc G z fun G w => P G (x, y, w)) : Ev X k (L2.tLst (tCons ta (tCons tb (tCons tc tNil)))) G (tL3 K t u z) P :=
  ev_lst (ea_cons (EvR.mono h fun G x hx => ea_cons (EvR.mono hx fun G y hy => ea_cons (EvR.mono hy fun G w p => ea_nil ⟨small (show 3 ≤ 1000 by decide), plain_cons (plain_cons (plain_cons plain_nil)), (x, y, w), p, fun σ W H vs a ha rd => by
    cases ha with
    | cons r1 ha => cases ha with
      | cons r2 ha => cases ha with
        | cons r3 ha => cases ha; exact ⟨a, _, _, _, rfl, rd, r1, r2, r3⟩⟩))))
/-- items of one kind -/
def Es (X : Xw) (k : Bool) (ta : TA) (G : Ct) (t : Ty α) (P : Ct → List α → Prop) : Prop :=
  ∀ W H σ (Q : List V → Hp → Prop), Holds G W H σ → X.ok W H σ → (∀ vs W' H' G' xs, P G' xs → Mo k σ G W H G' W' H' → Paired (t.R W' H') vs xs → Q vs H') → ta σ H Q
theorem es_nil {P : Ct → List α → Prop} (p : P G []) : Es X k tNil G t P := fun W H σ Q hs ex q => q [] W H G [] p (.refl hs) .nil
theorem es_cons {te : TE} {ta : TA} {P : Ct → List α → Prop} (h : Ev X k te G t fun G x => Es X k ta G t fun G xs => P G (x :: xs)) : Es X k (tCons te ta) G t P := fun W H σ Q hs ex q =>
  h W H σ _ hs ex fun v W1 H1 G1 x p m r => p W1 H1 σ _ m.hs (ex.mv m.go) fun vs W2 H2 G2 xs p2 m2 r2 => q (v :: vs) W2 H2 G2 _ p2 (m.trans m2) (.cons (t.mv r m2.go) r2)
/-- [a, b, ..] -/
theorem ev_list {ta : TA} {P : Ct → List α → Prop} (h : Es X k ta G t fun G xs => xs.length ≤ sizeLine ∧ P G xs) : EvR X k (L2.tLst ta) G (.ow (oL K t)) P := fun W H σ Q hs ex q =>
  h W H σ _ hs ex fun vs W1 H1 G1 xs ⟨hl, p⟩ m pp => ⟨by rw [pp.length]; exact hl, fun a hp => by
    obtain ⟨g, ok⟩ := newT m.hs.ok hp (o := .lst vs) trivial
    exact q _ _ _ G1 xs p (m.thenE g ok) ⟨a, vs, rfl, setW_same, upd_same, L2.Paired.mapP pp fun _ _ r => t.mvE r g⟩⟩
/-- {} -/
theorem ev_dnew {κ : Type} (ke : Ky κ) (t : Ty α) {P : Ct → List (κ × α) → Prop} (h : P G []) : EvR X k tDNewK G (.ow (oD ke t)) P := fun W H σ Q hs ex q => fun p hp => by
  obtain ⟨g, ok⟩ := newT hs.ok hp (o := .dK []) trivial
  exact q _ _ _ G [] h (.goE hs g ok) ⟨p, [], rfl, setW_same, upd_same, .nil⟩
/-! ### items -/
theorem ro_ixL : RO (rIxL K) (tLs K t) tInt (.sh t) (fun xs i P => ∃ x, atI xs i = some x ∧ P x) := by
  rintro W H v w xs i Q P ok ⟨a, vs, rfl, sq, p⟩ rfl ⟨x, hx, px⟩ q
  obtain ⟨y, hy, r⟩ := paired_at p hx
  exact ⟨a, vs, i, y, rfl, rfl, sq.l, hy, q y W H x px .refl ok r⟩
theorem ro_ixS : RO rIxS tStr tInt (.sh tStr) (fun s i P => s.length ≤ sizeLine ∧ ∃ c, atI s.cps.toList i = some c ∧ P ⟨#[c]⟩) := by
  rintro W H v w s i Q P ok rfl rfl ⟨hl, c, hc, p⟩ q
  exact ⟨s, i, c, rfl, rfl, hl, hc, q _ W H _ p .refl ok rfl⟩
/-! ### ints, texts, truths -/
theorem ro_I {C : Int → Int → Prop} {g : Int → Int → Int} : RO (rI C fun i j => .int (g i j)) tInt tInt (.sh tInt) (fun i j P => C i j ∧ P (g i j)) := by
  rintro W H v w x y Q P ok rfl rfl ⟨c, p⟩ q
  exact ⟨_, _, rfl, rfl, c, q _ W H _ p .refl ok rfl⟩
theorem ro_I0 {g : Int → Int → Int} : RO (rI0 fun i j => .int (g i j)) tInt tInt (.sh tInt) (fun i j P => P (g i j)) := by
  rintro W H v w x y Q P ok rfl rfl p q
  exact ⟨_, _, rfl, rfl, q _ W H _ p .refl ok rfl⟩
theorem ro_B0 {g : Int → Int → Bool} : RO (rI0 fun i j => .bl (g i j)) tInt tInt (.sh tBl) (fun i j P => P (g i j)) := by
  rintro W H v w x y Q P ok rfl rfl p q
  exact ⟨_, _, rfl, rfl, q _ W H _ p .refl ok rfl⟩
/-- values of scalars -/
structure Sc (t : Ty α) where
  f : α → V
  ok : ∀ W H v x, t.R W H v x ↔ v = f x
  eq : ∀ x y, f x = f y ↔ x = y
  fl : ∀ x, flatV (f x) = true
  sc : ∀ x y, scal (f x) (f y) = true
def scI : Sc tInt := ⟨V.int, fun _ _ _ _ => Iff.rfl, fun _ _ => ⟨fun h => V.int.inj h, fun h => by rw [h]⟩, fun _ => rfl, fun _ _ => rfl⟩
def scS : Sc tStr := ⟨V.str, fun _ _ _ _ => Iff.rfl, fun _ _ => ⟨fun h => V.str.inj h, fun h => by rw [h]⟩, fun _ => rfl, fun _ _ => rfl⟩
def scB : Sc tBl := ⟨V.bl, fun _ _ _ _ => Iff.rfl, fun _ _ => ⟨fun h => V.bl.inj h, fun h => by rw [h]⟩, fun _ => rfl, fun _ _ => rfl⟩
theorem paired_f {W : Wd} {H : Hp} (s : Sc t) {vs : List V} {xs : List α} (p : Paired (t.R W H) vs xs) : vs = xs.map s.f := paired_eq (L2.Paired.mapP p fun u x r => (s.ok W H u x).mp r)
theorem f_paired {W : Wd} {H : Hp} (s : Sc t) {xs : List α} : Paired (t.R W H) (xs.map s.f) xs := paired_map fun y => (s.ok W H _ y).mpr rfl
end
end Y
end

section
set_option maxRecDepth 100000
set_option maxHeartbeats 4000000
/-! Comparisons, membership, built-in calls, slices, texts, order, dicts. -/
namespace Y
open PySem PySem.Spec PyProof.Rows L2
section
variable {K : PySem.W.Frag} {X : Xw} {k : Bool} {G : Ct} {α β γ δ : Type} {t : Ty α} {u : Ty β} {z : Ty γ}
/-! ### == of scalars -/
theorem ro_eqS' (s : Sc t) [DecidableEq α] : RO rEq t t (.sh tBl) (fun i j P => P (decide (i = j))) := by
  rintro W H v w x y Q P ok rv rw p q
  obtain rfl := (s.ok _ _ _ _).mp rv
  obtain rfl := (s.ok _ _ _ _).mp rw
  refine ⟨s.sc x y, ?_⟩
  rw [show decide (s.f x = s.f y) = decide (x = y) from decide_eq_decide.mpr (s.eq x y)]
  exact q _ W H _ p .refl ok rfl
theorem ro_neS' (s : Sc t) [DecidableEq α] : RO rNe t t (.sh tBl) (fun i j P => P (!decide (i = j))) := by
  rintro W H v w x y Q P ok rv rw p q
  obtain rfl := (s.ok _ _ _ _).mp rv
  obtain rfl := (s.ok _ _ _ _).mp rw
  refine ⟨s.sc x y, ?_⟩
  rw [show decide (s.f x = s.f y) = decide (x = y) from decide_eq_decide.mpr (s.eq x y)]
  exact q _ W H _ p .refl ok rfl
theorem ro_eqI : RO rEq tInt tInt (.sh tBl) (fun i j P => P (decide (i = j))) := ro_eqS' scI
theorem ro_neI : RO rNe tInt tInt (.sh tBl) (fun i j P => P (!decide (i = j))) := ro_neS' scI
theorem ro_eqS : RO rEq tStr tStr (.sh tBl) (fun i j P => P (decide (i = j))) := ro_eqS' scS
theorem ro_neB : RO rNe tBl tBl (.sh tBl) (fun i j P => P (!decide (i = j))) := ro_neS' scB
/-! ### built-in calls of one thing -/
def RC1 (r : List V → Hp → VK → Prop) (t : Ty α) (u : Rt β) (n : Bool) (C : α → (β → Prop) → Prop) : Prop :=
  ∀ W H v x (Q : VK) (P : β → Prop), OKW W H → (n = true → ∀ b, W b ≠ .lk) → t.R W H v x → C x P → (∀ a W' H' c, P c → GoE W H W' H' → OKW W' H' → u.R W' H' a c → Q a H') → r [v] H Q
theorem ev_cb {r : List V → Hp → VK → Prop} {u : Rt β} {n : Bool} {C : α → (β → Prop) → Prop} {te : TE} {P : Ct → β → Prop} (rc : RC1 r t u n C) (h : Ev X k te G t fun G x => (n = true → G.n = true) ∧ C x (P G)) : EvR X k (tCB r (tCons te tNil)) G u P := fun W H σ Q hs ex q =>
  h W H σ _ hs ex fun v W1 H1 G1 x ⟨hn, c⟩ m rv => rc W1 H1 v x Q (P G1) m.hs.ok (fun e => m.hs.nl (hn e)) rv c fun a W2 H2 d pd g2 ok2 r2 => q a W2 H2 G1 d pd (m.thenE g2 ok2) r2
abbrev rLenA (K : PySem.W.Frag) : List V → Hp → VK → Prop := fun xs H Q => ∃ x n, xs = [x] ∧ LenV K x H n ∧ Q (.int n) H
theorem rc_lenL : RC1 (rLenA K) (tLs K t) (.sh tInt) false (fun xs P => P xs.length) := by
  rintro W H v x Q P ok _ ⟨a, vs, rfl, sq, p⟩ c q
  exact ⟨_, x.length, rfl, .inl ⟨vs, sq.l, p.length.symm⟩, q _ W H _ c .refl ok rfl⟩
theorem rc_lenD {κ : Type} {ke : Ky κ} : RC1 (fun xs H Q => ∃ a kvs, xs = [V.ref a] ∧ H a = some (.dK kvs) ∧ Q (.int kvs.length) H) (tDk ke t) (.sh tInt) true (fun xs P => P xs.length) := by
  rintro W H v x Q P ok nl ⟨a, ws, rfl, rd, p⟩ c q
  refine ⟨a, ws, rfl, (ok.exactD rd (nl rfl a) (fun _ e => by cases e)).1, ?_⟩
  rw [p.length]
  exact q _ W H _ c .refl ok rfl
theorem rc_all : RC1 (rAll K) (tLs K tBl) (.sh tBl) false (fun xs P => P (xs.all id)) := by
  rintro W H v x Q P ok _ ⟨a, vs, rfl, sq, p⟩ c q
  have e := paired_f scB p
  subst e
  exact ⟨a, x, rfl, sq.l, q _ W H _ c .refl ok rfl⟩
/-- a new list -/
theorem new_list {W : Wd} {H : Hp} {Q : VK} {P : List α → Prop} {vs : List V} {xs : List α} (ok : OKW W H) (c : P xs) (p : Paired (t.R W H) vs xs) (q : ∀ a W' H' c, P c → GoE W H W' H' → OKW W' H' → (oL K t).R [tmp] W' H' a c → Q a H') (l : Addr) (hl : H l = none) : Q (.ref l) (upd H l (.lst vs)) := by
  obtain ⟨g, ok2⟩ := newT ok hl (o := .lst vs) trivial
  exact q _ _ _ xs c g ok2 ⟨l, vs, rfl, setW_same, upd_same, L2.Paired.mapP p fun _ _ r => t.mvE r g⟩
theorem new_tup {W : Wd} {H : Hp} {Q : VK} {P : List α → Prop} {vs : List V} {xs : List α} (ok : OKW W H) (c : P xs) (p : Paired (t.R W H) vs xs) (q : ∀ a W' H' c, P c → GoE W H W' H' → OKW W' H' → (tTu K t).R W' H' a c → Q a H') (l : Addr) (hl : H l = none) : Q (.ref l) (upd H l (.tup vs)) :=
  q _ W _ xs c (.new hl) (ok.new hl trivial) ⟨l, vs, rfl, rdNew ok hl, L2.Paired.mapP p fun _ _ r => t.mvE r (.new hl)⟩
abbrev rListA (K : PySem.W.Frag) : List V → Hp → VK → Prop := fun xs H Q => ∃ p ys, xs = [.ref p] ∧ (SqL K H p ys ∨ SqT K H p ys) ∧ ∀ l, H l = none → Q (.ref l) (upd H l (.lst ys))
theorem rc_listL : RC1 (rListA K) (tLs K t) (.ow (oL K t)) false (fun xs P => P xs) := by
  rintro W H v x Q P ok _ ⟨a, vs, rfl, sq, p⟩ c q
  exact ⟨a, vs, rfl, .inl sq.l, new_list ok c p q⟩
/-- the type of a dict's keys, as values -/
structure KyT {κ : Type} (ke : Ky κ) (tk : Ty κ) : Prop where
  ok : ∀ W H v k, tk.R W H v k ↔ v = kV (ke.k k)
theorem kyS : KyT kS tStr := ⟨fun _ _ _ _ => Iff.rfl⟩
theorem keys_paired {κ : Type} {ke : Ky κ} {tk : Ty κ} (ky : KyT ke tk) {W : Wd} {H : Hp} {W' : Wd} {H' : Hp} : ∀ {ws : List (Key × V)} {kvs : List (κ × α)}, Paired (fun (p : Key × V) q => p.1 = ke.k q.1 ∧ t.R W H p.2 q.2) ws kvs → Paired (tk.R W' H') (ws.map fun kv => kV kv.1) (kvs.map (·.1))
  | _, _, .nil => .nil
  | _, _, .cons r p => .cons ((ky.ok _ _ _ _).mpr (congrArg kV r.1)) (keys_paired ky p)
theorem rc_listD {κ : Type} {ke : Ky κ} {tk : Ty κ} (ky : KyT ke tk) : RC1 rListD (tDk ke t) (.ow (oL K tk)) true (fun xs P => P (xs.map (·.1))) := by
  rintro W H v x Q P ok nl ⟨a, ws, rfl, rd, p⟩ c q
  exact ⟨a, ws, rfl, (ok.exactD rd (nl rfl a) (fun _ e => by cases e)).1, new_list ok c (keys_paired ky p) q⟩
abbrev rTupA (K : PySem.W.Frag) : List V → Hp → VK → Prop := fun xs H Q => ∃ p ys, xs = [.ref p] ∧ ((SqL K H p ys ∧ ∀ l, H l = none → Q (.ref l) (upd H l (.tup ys))) ∨ (SqT K H p ys ∧ Q (.ref p) H))
theorem rc_tupL : RC1 (rTupA K) (tLs K t) (.sh (tTu K t)) false (fun xs P => P xs) := by
  rintro W H v x Q P ok _ ⟨a, vs, rfl, sq, p⟩ c q
  exact ⟨a, vs, rfl, .inl ⟨sq.l, new_tup ok c p q⟩⟩
/-! ### in, not in -/
theorem inV_map (s : Sc t) [DecidableEq α] (x : α) (xs : List α) (he : ∀ x y, eqV (s.f y) (s.f x) = decide (x = y)) : inV (s.f x) (xs.map s.f) = decide (x ∈ xs) := by
  unfold inV
  rw [List.any_map]
  induction xs with
  | nil => simp
  | cons y ys ih =>
    rw [List.any_cons, ih]
    show (eqV (s.f y) (s.f x) || _) = _
    rw [he]
    by_cases h : x = y <;> simp [h]
theorem eqV_str (x y : Str) : eqV (.str y) (.str x) = decide (x = y) := by
  show (y == x) = _
  by_cases h : x = y
  · subst h; simp
  · rw [decide_eq_false h]
    simpa using fun e => h e.symm
theorem flat_map (s : Sc t) (xs : List α) : (xs.map s.f).all flatV = true := by
  rw [List.all_map, List.all_eq_true]
  exact fun x _ => s.fl x
theorem ro_inL (s : Sc t) [DecidableEq α] (he : ∀ x y, eqV (s.f y) (s.f x) = decide (x = y)) (neg : Bool) : RO (rIn K neg) t (tLs K t) (.sh tBl) (fun x xs P => P (if neg then !decide (x ∈ xs) else decide (x ∈ xs))) := by
  rintro W H v w x xs Q P ok rv ⟨a, vs, rfl, sq, p⟩ c q
  obtain rfl := (s.ok _ _ _ _).mp rv
  have e := paired_f s p
  subst e
  refine ⟨a, _, rfl, .inl sq.l, s.fl x, flat_map s xs, ?_⟩
  rw [inV_map s x xs he]
  exact q _ W H _ c .refl ok rfl
theorem ro_inSL (neg : Bool) : RO (rIn K neg) tStr (tLs K tStr) (.sh tBl) (fun x xs P => P (if neg then !decide (x ∈ xs) else decide (x ∈ xs))) := ro_inL scS eqV_str neg
end
/-! ### dicts -/
section
variable {K : PySem.W.Frag} {X : Xw} {k : Bool} {G : Ct} {κ α β : Type} [DecidableEq κ] {ke : Ky κ} {tk : Ty κ} {t : Ty α}
def lookK (kvs : List (κ × α)) (k : κ) : Option α := (kvs.find? fun p => decide (p.1 = k)).map (·.2)
def hasK (kvs : List (κ × α)) (k : κ) : Bool := (lookK kvs k).isSome
def putZ (kvs : List (κ × α)) (k : κ) (x : α) : List (κ × α) := if hasK kvs k then kvs.map fun p => if p.1 = k then (p.1, x) else p else kvs ++ [(k, x)]
theorem val_paired {W : Wd} {H : Hp} {ws : List (Key × V)} {kvs : List (κ × α)} (p : Paired (fun (p : Key × V) q => p.1 = ke.k q.1 ∧ t.R W H p.2 q.2) ws kvs) (k : κ) : (lookK kvs k = none ∧ valV ws (ke.k k) = none) ∨ ∃ x v, lookK kvs k = some x ∧ valV ws (ke.k k) = some v ∧ t.R W H v x := by
  induction p with
  | nil => exact .inl ⟨rfl, rfl⟩
  | @cons a b as bs r _ ih =>
    by_cases h : b.1 = k
    · refine .inr ⟨b.2, a.2, ?_, valV_pos (by rw [r.1, h]), r.2⟩
      unfold lookK
      rw [List.find?_cons_of_pos (by exact decide_eq_true h)]
      rfl
    · have h2 : ¬ a.1 = ke.k k := fun e => h (ke.inj _ _ (r.1.symm.trans e))
      have e1 : lookK (b :: bs) k = lookK bs k := by
        unfold lookK
        rw [List.find?_cons_of_neg (by simpa using h)]
      rw [e1, valV_neg h2]
      exact ih
theorem has_paired {W : Wd} {H : Hp} {ws : List (Key × V)} {kvs : List (κ × α)} (p : Paired (fun (p : Key × V) q => p.1 = ke.k q.1 ∧ t.R W H p.2 q.2) ws kvs) (k : κ) : (valV ws (ke.k k)).isSome = hasK kvs k := by
  unfold hasK
  rcases val_paired p k with ⟨e1, e2⟩ | ⟨x', v', e1, e2, r'⟩ <;> rw [e1, e2] <;> rfl
theorem ev_dget {td ty : TE} {P : Ct → α → Prop} (ky : KyT ke tk) (h : Ev X k td G (tDk ke t) fun G kvs => Ev X k ty G tk fun G k => ∃ x, lookK kvs k = some x ∧ P G x) : Ev X k (tDGet td ty) G t P := fun W H σ Q hs ex q =>
  h W H σ _ hs ex fun v W1 H1 G1 kvs p m r => p W1 H1 σ _ m.hs (ex.mv m.go) fun y W2 H2 G2 k ⟨x, hx, px⟩ m2 rk => by
    obtain ⟨a, ws, rfl, rd, pp⟩ := (tDk ke t).mv r m2.go
    have rk := (ky.ok _ _ _ _).mp rk
    subst rk
    rcases val_paired pp k with ⟨e, _⟩ | ⟨x', v', e1, e2, r'⟩
    · rw [e] at hx; cases hx
    · rw [e1] at hx
      cases hx
      exact ⟨a, v', rfl, .inl ⟨ws, ke.k k, rd.rd, rfl, e2.symm⟩, q v' W2 H2 G2 _ px (m.trans m2) r'⟩
theorem ev_din {td ty : TE} {P : Ct → Bool → Prop} (ky : KyT ke tk) (h : Ev X k ty G tk fun G y => Ev X k td G (tDk ke t) fun G kvs => P G (hasK kvs y)) : Ev X k (tDIn ty td) G tBl P := fun W H σ Q hs ex q =>
  h W H σ _ hs ex fun y W1 H1 G1 k p m rk => p W1 H1 σ _ m.hs (ex.mv m.go) fun v W2 H2 G2 kvs px m2 r => by
    obtain ⟨a, ws, rfl, rd, pp⟩ := r
    have rk := (ky.ok _ _ _ _).mp rk
    subst rk
    refine ⟨a, valV ws (ke.k k), rfl, .inl ⟨ws, ke.k k, rd.rd, rfl, rfl⟩, ?_⟩
    rw [has_paired pp k]
    exact q _ W2 H2 G2 _ px (m.trans m2) rfl
theorem ev_dnotin {td ty : TE} {P : Ct → Bool → Prop} (ky : KyT ke tk) (h : Ev X k ty G tk fun G y => Ev X k td G (tDk ke t) fun G kvs => P G (!hasK kvs y)) : Ev X k (tDNotIn ty td) G tBl P := fun W H σ Q hs ex q =>
  h W H σ _ hs ex fun y W1 H1 G1 k p m rk => p W1 H1 σ _ m.hs (ex.mv m.go) fun v W2 H2 G2 kvs px m2 r => by
    obtain ⟨a, ws, rfl, rd, pp⟩ := r
    have rk := (ky.ok _ _ _ _).mp rk
    subst rk
    refine ⟨a, valV ws (ke.k k), rfl, .inl ⟨ws, ke.k k, rd.rd, rfl, rfl⟩, ?_⟩
    rw [has_paired pp k]
    exact q _ W2 H2 G2 _ px (m.trans m2) rfl
theorem put_paired {R : V → α → Prop} {ws : List (Key × V)} {kvs : List (κ × α)} {v : V} {x : α} (k : κ) (r : R v x) (p : Paired (fun (p : Key × V) (q : κ × α) => p.1 = ke.k q.1 ∧ R p.2 q.2) ws kvs) :
    Paired (fun (p : Key × V) (q : κ × α) => p.1 = ke.k q.1 ∧ R p.2 q.2) (putK ws (ke.k k) v) (putZ kvs k x) := by
  have e : (ws.any fun kv => decide (kv.1 = ke.k k)) = hasK kvs k := by
    induction p with
    | nil => rfl
    | @cons a b as bs r _ ih =>
      unfold hasK lookK at ih ⊢
      rw [List.any_cons, ih]
      by_cases h : b.1 = k
      · rw [List.find?_cons_of_pos (by exact decide_eq_true h), decide_eq_true (show a.1 = ke.k k by rw [r.1, h])]
        rfl
      · rw [List.find?_cons_of_neg (by simpa using h), decide_eq_false (fun e => h (ke.inj _ _ (r.1.symm.trans e)))]
        rfl
  unfold putK putZ
  rw [e]
  cases hasK kvs k with
  | false =>
    rw [if_neg Bool.false_ne_true, if_neg Bool.false_ne_true]
    exact paired_snoc' p ⟨rfl, r⟩
  | true =>
    rw [if_pos rfl, if_pos rfl]
    clear e
    induction p with
    | nil => exact .nil
    | @cons a b as bs r2 _ ih =>
      refine .cons ?_ ih
      show (if a.1 = ke.k k then (a.1, v) else a).1 = ke.k (if b.1 = k then (b.1, x) else b).1 ∧ R (if a.1 = ke.k k then (a.1, v) else a).2 (if b.1 = k then (b.1, x) else b).2
      by_cases h : b.1 = k
      · rw [if_pos (show a.1 = ke.k k by rw [r2.1, h]), if_pos h]
        exact ⟨r2.1, r⟩
      · rw [if_neg (fun e => h (ke.inj _ _ (r2.1.symm.trans e))), if_neg h]
        exact r2
end
/-! ### slices, texts, order -/
section
variable {K : PySem.W.Frag} {X : Xw} {k : Bool} {G : Ct} {α β γ δ : Type} {t : Ty α} {u : Ty β} {z : Ty γ}
def Eo (X : Xw) (k : Bool) (to : TO) (G : Ct) (P : Ct → Option Int → Prop) : Prop := ∀ W H σ (Q : Option Int → Hp → Prop), Holds G W H σ → X.ok W H σ → (∀ i W' H' G', P G' i → Mo k σ G W H G' W' H' → Q i H') → to σ H Q
def SLI (r : V → Option Int → Option Int → Hp → VK → Prop) (t : Ty α) (u : Rt β) (C : α → Option Int → Option Int → (β → Prop) → Prop) : Prop :=
  ∀ W H v x lo hi (Q : VK) (P : β → Prop), OKW W H → t.R W H v x → C x lo hi P → (∀ a W' H' c, P c → GoE W H W' H' → OKW W' H' → u.R W' H' a c → Q a H') → r v lo hi H Q
def cutZ (xs : List α) (lo hi : Option Int) : List α := (xs.drop (HT.sIx xs.length 0 lo)).take (HT.sIx xs.length xs.length hi - HT.sIx xs.length 0 lo)
theorem paired_appZ {R : α → β → Prop} : ∀ {xs : List α} {ys : List β} {xs' : List α} {ys' : List β}, Paired R xs ys → Paired R xs' ys' → Paired R (xs ++ xs') (ys ++ ys')
  | _, _, _, _, .nil, h => h
  | _, _, _, _, .cons r t, h => .cons r (paired_appZ t h)
theorem ro_cat : RO rCat (tLs K t) (tLs K t) (.ow (oL K t)) (fun xs ys P => xs.length + ys.length ≤ sizeLine ∧ P (xs ++ ys)) := by
  rintro W H v w xs ys Q P ok ⟨a, vs, rfl, sq, p⟩ ⟨b, ws, rfl, sq2, p2⟩ ⟨hl, c⟩ q
  exact ⟨a, b, vs, ws, rfl, rfl, sq.2, sq2.2, by rw [p.length, p2.length]; exact hl, new_list ok c (paired_appZ p p2) q⟩
theorem paired_rev {R : α → β → Prop} : ∀ {xs : List α} {ys : List β}, Paired R xs ys → Paired R xs.reverse ys.reverse
  | _, _, .nil => .nil
  | _, _, .cons r p => by rw [List.reverse_cons, List.reverse_cons]; exact paired_appZ (paired_rev p) (.cons r .nil)
theorem ev_rev {te : TE} {P : Ct → List α → Prop} (h : Ev X k te G (tLs K t) fun G xs => P G xs.reverse) : EvR X k (tRevL K te) G (.ow (oL K t)) P := fun W H σ Q hs ex q => h W H σ _ hs ex fun v W1 H1 G1 xs p m r => by
  obtain ⟨a, vs, rfl, sq, pp⟩ := r
  exact ⟨a, vs, rfl, sq.l, new_list m.hs.ok p (paired_rev pp) fun a W' H' c pc g ok r => q a W' H' G1 c pc (m.thenE g ok) r⟩
theorem ro_addS : RO (fun x y H Q => ∃ i j, x = .str i ∧ y = .str j ∧ i.length + j.length ≤ sizeLine ∧ Q (.str (i ++ j)) H) tStr tStr (.sh tStr) (fun a b P => a.length + b.length ≤ sizeLine ∧ P (a ++ b)) := by
  rintro W H v w x y Q P ok rfl rfl ⟨hl, c⟩ q
  exact ⟨x, y, rfl, rfl, hl, q _ W H _ c .refl ok rfl⟩
/-! ### sorted -/
theorem rc_sortS : RC1 (Own.rSortS K) (tLs K tStr) (.ow (oL K tStr)) false (fun xs P => ∀ ys, ys.Perm xs → Own.AscS ys → P ys) := by
  rintro W H v x Q P ok _ ⟨a, vs, rfl, sq, p⟩ c q
  have e := paired_f scS p
  subst e
  exact ⟨a, x, rfl, .inl sq.l, fun ys l hp ha => new_list ok (c ys hp ha) (f_paired scS) q l⟩
end
end Y
end

section
set_option maxRecDepth 100000
set_option maxHeartbeats 4000000
/-! enumerate of a tuple -/
namespace PySem
open Sem (wp)
open AutoSeq1 (wpAny_loadPart')
theorem meets_enumerate_newT (l : Addr) (items : Array Value) :
    Meets (Builtin.«enumerate.__new__» ⟨[.type "enumerate", .ref l], []⟩) (fun _ R s => s.heap.IsTuple l items ∧
      R (.ok (.ret (.ref (s.heap.push { cls := .type "tuple_iterator", data := .fields #[.ref l, .int 0 0] }).objs.size)))
        { s with heap := (s.heap.push { cls := .type "tuple_iterator", data := .fields #[.ref l, .int 0 0] }).push { cls := .type "enumerate", data := .fields #[.none, .bool false, .ref s.heap.objs.size, rawInt 0, .none, .none] } }) :=
  .of_wp fun prog w A R s h => by
    obtain ⟨hp, g, d, tk, os⟩ := s; obtain ⟨hL, h⟩ := h
    have hsub := sub_enumerate
    obtain ⟨ol, hl, hc, n, hd⟩ := id hL
    wp_walk using wpAny_loadPart' hl
    refine wpAny_stack_any fun st => wpAny_pure ?_
    split
    · rename_i c _ _ _ _ _
      cases (c == Value.type "enumerate")
      · wp_walk using wpAny_loadPart' hl, wpAny_pyIter_tuple hL
        exact ⟨_, rfl, h⟩
      · wp_walk using wpAny_loadPart' hl, wpAny_pyIter_tuple hL
        exact ⟨_, rfl, h⟩
    · wp_walk using wpAny_loadPart' hl, wpAny_pyIter_tuple hL
      exact ⟨_, rfl, h⟩
section
variable {prog : Program} {w : World} {A : Around} {E : Value → Shared → Prop} {s : Shared}
theorem call_enumerate_tuple {l : Addr} {items : Array Value} {Q : Value → Shared → Prop} (hL : s.heap.IsTuple l items)
    (h : ∀ h', IsEnum h' (s.heap.objs.size + 1) s.heap.objs.size 0 .none → h'.IsTupleIter s.heap.objs.size l 0 → h'.objs.size = s.heap.objs.size + 2 →
      (∀ b o, s.heap.get? b = some o → h'.get? b = some o) → Q (.ref (s.heap.objs.size + 1)) { s with heap := h' }) :
    wpAny (model prog w) A (call (.type "enumerate") [.ref l]) Q E s := by
  refine callType_new F.called_enumerate (by decide) (F.typeCall_enumerate_1 _) (F.newCall_enumerate_1 _) (fun obj => F.args_object_init_2 obj _) F.entry_enumerate_new
    (meets_enumerate_newT l items) ⟨hL, ?_⟩
  have hz : (s.heap.push { cls := .type "tuple_iterator", data := .fields #[.ref l, .int 0 0] }).objs.size = s.heap.objs.size + 1 := Heap.size_push ..
  show _ ∧ _
  rw [hz]
  have he : IsEnum ((s.heap.push { cls := .type "tuple_iterator", data := .fields #[.ref l, .int 0 0] }).push
      { cls := .type "enumerate", data := .fields #[.none, .bool false, .ref s.heap.objs.size, rawInt 0, .none, .none] }) (s.heap.objs.size + 1) s.heap.objs.size 0 .none := by
    have := Heap.get?_push_size (s.heap.push { cls := .type "tuple_iterator", data := .fields #[.ref l, .int 0 0] })
      (o := { cls := .type "enumerate", data := .fields #[.none, .bool false, .ref s.heap.objs.size, rawInt 0, .none, .none] }) rfl
    rw [hz] at this; exact this
  refine ⟨⟨_, he, rfl⟩, h _ he ⟨_, Heap.get?_push_of_some _ (Heap.get?_push_size _ rfl), rfl, rfl⟩ (by rw [Heap.size_push, hz]) fun b o x => Heap.get?_push_of_some _ (Heap.get?_push_of_some _ x)⟩
end
end PySem
namespace Own
open PySem PySem.Spec PyProof.Rows L2
/-- the tuple at a, each item in a new pair -/
def IteT (K : PySem.W.Frag) (a : Addr) : It :=
  ⟨fun i H => ∃ (xs : List V) (x : V), SqT K H a xs ∧ xs[i]? = some x, fun i H v H' => ∃ T x, v = .ref T ∧ H T = none ∧ H' = upd H T (.tup [.int (i : Nat), x]) ∧ ∀ xs, SqT K H a xs → xs[i]? = some x, fun i H => ∃ xs : List V, SqT K H a xs ∧ i = xs.length⟩
theorem turn_enumT {P : Program} {w : World} {K : PySem.W.Frag} {elts : List Expr} {kk : Nat} {tpos : Pos} (a e it : Addr) (its : Array Value) (hei : e ≠ it) (hea : e ≠ a) (hai : a ≠ it) :
    Turn P w K (.Tuple elts kk tpos) (IteT K a) [e, it] e (fun i h => (∃ old, IsEnum h e it ((i : Nat) : Int) old) ∧ h.IsTupleIter it a i) where
  mem := by simp
  obj := fun i h st b hb => by
    obtain ⟨⟨old, he⟩, ⟨o, ho, hc, hd⟩⟩ := st
    have e' : b = e ∨ b = it := by simpa using hb
    rcases e' with z | z
    · rw [z]; exact ⟨_, he, fun v q => nomatch q⟩
    · rw [z]; exact ⟨o, ho, fun v q => by rw [hd] at q; cases q⟩
  keep := fun i h h' st k => let ⟨⟨old, he⟩, hi⟩ := st; ⟨⟨old, k e (by simp) _ he⟩, hi.at fun o q => k it (by simp) o q⟩
  item := by
    intro X hP hw hK hc i pins s σ H E I hf st hg
    subst hP hw hK
    obtain ⟨⟨old, he⟩, hit⟩ := st
    obtain ⟨xs, x, hq, hx⟩ := hg
    obtain ⟨its, rv, p, hz⟩ := I.tuple hq
    obtain ⟨u, hu, ru⟩ := rv.get hx
    have hel : e < s.heap.objs.size := Heap.lt_size he
    have hil : it < s.heap.objs.size := by obtain ⟨_, q, _⟩ := hit; exact Heap.lt_size q
    have hlt : i < its.toArray.size := by
      rw [List.size_toArray]
      exact (List.getElem?_eq_some_iff.mp hu).1
    refine wpAny_pyNext_enum_itemD (Draws.tuple (A := X.A.in1) (I.ok.hd hc) it a hai its.toArray) he ⟨hit, p⟩ hlt hei (by simp [hei, hea]) fun v h' tk hv ho hit' hT hsz hk => ?_
    have ev : v = u := by
      have e1 : its[i]? = some v := by simpa using hv
      rw [hu] at e1
      exact (Option.some.inj e1).symm
    subst ev
    refine ⟨_, rfl, wpAny_letOwnedTupleGo_enum (s := { s with heap := h', toks := tk + 1 }) ho fun h'' he' sb => ?_⟩
    have hT2 : h''.get? s.heap.objs.size = some { cls := .type "tuple", data := .seq #[.int i tk, v] } := (sb.2 _ (Nat.ne_of_gt hel)).trans hT
    have new : ObjOk X.prog X.w (upd H s.heap.objs.size (.tup [.int (i : Nat), x])) h'' s.heap.objs.size (.tup [.int (i : Nat), x]) :=
      ⟨by show 2 ≤ sizeLine; decide, [.int i tk, v], .cons ⟨_, rfl⟩ (.cons ru .nil), ⟨_, hT2, rfl, _, rfl⟩⟩
    have I1 : Inv X pins σ (upd H s.heap.objs.size (.tup [.int (i : Nat), x])) { s with heap := h'', toks := tk + 1 } :=
      I.turnedNew (ch := [e, it]) (fun b ob hb q => (sb.2 b (fun z => hb (by simp [z]))).trans (hk b ob (fun z => hb (by simp [z])) (fun z => hb (by simp [z])) q)) hf (Nat.le_refl _) new
    refine ⟨.ref s.heap.objs.size, _, I1, rfl, ⟨_, x, rfl, I.hok.fresh (Nat.le_refl _), rfl, fun ys hy => by rw [I.tuple_inj hy hq]; exact hx⟩, ⟨⟨v, ?_⟩, hit'.1.at fun o q => (sb.2 it (Ne.symm hei)).trans q⟩, fun b hb => ?_⟩
    · have e1 : ((i + 1 : Nat) : Int) = (i : Int) + 1 := by omega
      rw [e1]; exact he'
    · have hb' : b < s.heap.objs.size := by
        have e' : b = e ∨ b = it := by simpa using hb
        rcases e' with z | z
        · rw [z]; exact hel
        · rw [z]; exact hil
      rw [upd_ne (Nat.ne_of_lt hb')]
      exact (hf b hb).1
  done := by
    intro X hP hw hK hc i pins s σ H E I hf st hg
    subst hP hw hK
    obtain ⟨⟨old, he⟩, hit⟩ := st
    obtain ⟨xs, hq, hx⟩ := hg
    obtain ⟨its, rv, p, hz⟩ := I.tuple hq
    obtain ⟨f0, f1, f2, f3, f4, f5⟩ := hf it (by simp)
    have hl : i = its.toArray.size := by rw [hx, rv.length]; simp
    subst hl
    exact wpAny_pyNext_enum_endD (Draws.tuple (A := X.A.in1) (I.ok.hd hc) it a hai its.toArray) he ⟨hit, p⟩ fun h' eb => ⟨rfl, I.turned (t' := s.toks) (fun b o hb q => eb b o hb q) f0 f1 f3 f4 f5⟩
  self := fun A i s Q E st h => let ⟨⟨_, he⟩, _⟩ := st; wpAny_pyIter_enum he h
def iEnumT (K : PySem.W.Frag) (ta : TA) : TI := fun σ H R => ta σ H fun vs H1 => ∃ a xs, vs = [.ref a] ∧ SqT K H1 a xs ∧ R (IteT K a) H1
theorem pi_enumT {X : Cx} {e : Expr} {ta : TA} {p pos tpos : Pos} {elts : List Expr} {kk : Nat} (hg : Gl X "enumerate") (hm : X.mg "enumerate" = none) (ha : PA X [e] ta) (hs : starEach [e] X.env = [(false, eval e X.env)] := by rfl) :
    PI X (.Tuple elts kk tpos) (.Call (.Name "enumerate" p) [e] [] pos) (iEnumT X.K ta) := by
  refine ⟨fun pins s σ H R I h => ?_⟩
  refine Call_ (ld_blt I hg hm boot_enumerate (PyProof.Rows.callWith_type1 (thn (ha.run pos pins s σ H _ I h) fun us s1 ⟨vs, H1, I1, r1, q1⟩ => ?_) hs rfl))
  obtain ⟨a, xs, ex, hq, q⟩ := q1
  subst ex
  cases r1 with
  | cons r rr =>
    cases rr
    cases r
    obtain ⟨its, rv, p', hz⟩ := I1.tuple hq
    have hal : a < s1.heap.objs.size := by obtain ⟨o, ho, _⟩ := p'; exact Heap.lt_size ho
    refine call_enumerate_tuple p' fun h' he hit hsz hk => wpAny_pyIter_enum he ?_
    have I2 : Inv X pins σ H1 { s1 with heap := h' } := I1.kept (t' := s1.toks) hk
    refine ⟨s1.heap.objs.size + 1, [s1.heap.objs.size + 1, s1.heap.objs.size], _, _, H1, rfl, I2, turn_enumT a (s1.heap.objs.size + 1) s1.heap.objs.size its.toArray (Nat.succ_ne_self _) (Nat.ne_of_gt (Nat.lt_succ_of_lt hal)) (Nat.ne_of_lt hal), ⟨⟨.none, he⟩, hit⟩, fun b hb => ?_, q⟩
    have e' : b = s1.heap.objs.size + 1 ∨ b = s1.heap.objs.size := by simpa using hb
    have hle : s1.heap.objs.size ≤ b := by
      rcases e' with z | z
      · rw [z]; exact Nat.le_add_right _ _
      · rw [z]; exact Nat.le_refl _
    exact I1.fpOk hle (I1.hok.fresh hle)
theorem walk_enumT {K : PySem.W.Frag} {a : Addr} {xs : List V} : Walk (IteT K a) xs.length (fun H => SqT K H a xs) (YPair (fun i => some (.int (i : Nat))) fun i => xs[i]?) :=
  ⟨fun i _ hi q => ⟨xs, xs[i], q, by simp [hi]⟩, fun _ q => ⟨xs, q, rfl⟩, fun i H v H' _ q y => by
    obtain ⟨T, x, e1, e2, e3, e4⟩ := y
    exact ⟨T, _, x, e1, e2, e3, rfl, e4 xs q⟩⟩
end Own
end

section
set_option maxRecDepth 100000
set_option maxHeartbeats 4000000
/-! What is walked; loops; comprehensions. -/
namespace Y
open PySem PySem.Spec PyProof.Rows L2
/-- within a comprehension nothing may be raised -/
def x0 : Xw := ⟨fun _ _ _ _ => False, fun _ _ => False⟩
theorem x0_ok {W : Wd} {H : Hp} {σ : L2.St} : x0.ok W H σ := fun _ _ _ _ _ z => z.elim
/-! ### writing what is one's own -/
section
variable {W : Wd} {H : Hp} {a : Addr} {p : List Nat} {o : HO}
theorem upd_mv (w : W a = .ow p) : Mv W H W (upd H a o) := by
  refine ⟨fun b u h => ?_, fun b vs v h => ?_, fun _ _ h => h⟩
  · have n : b ≠ a := fun e => h.no (by rw [e]; exact w)
    unfold RdW
    rw [upd_ne n]
    exact h
  · have n : b ≠ a := fun e => by rw [e, w] at v; cases v
    exact ⟨v, by rw [upd_ne n]; exact h⟩
theorem upd_go (w : W a = .ow p) : Go W H W (upd H a o) := ⟨fun b u h v => by
  have n : b ≠ a := fun e => by rw [e, w] at v; rcases v with v | v | v <;> cases v
  exact ⟨by rw [upd_ne n]; exact h, rfl⟩, fun _ _ h => h, fun _ h => h⟩
theorem upd_ok (ok : OKW W H) (w : W a = .ow p) (nt : NoTup o) : OKW W (upd H a o) := by
  have nf := nt.nf
  refine ⟨fun b φ h => ?_, fun b h => ?_, fun b q od v w h => ?_, fun b h => ?_, fun b od v w2 h => ?_, fun b vs h => ?_⟩
  · have n : b ≠ a := fun e => by rw [e, w] at h; cases h
    rw [upd_ne n]; exact ok.st b φ h
  · by_cases n : b = a
    · exact ⟨o, by rw [n, upd_same]⟩
    · rw [upd_ne n]; exact ok.al b h
  · by_cases n : b = a
    · rw [n, upd_same] at h; cases h; exact nf
    · rw [upd_ne n] at h; exact ok.nf b q od v w h
  · have n : b ≠ a := fun e => by rw [e, w] at h; cases h
    rw [upd_ne n]; exact ok.lk b h
  · have n : b ≠ a := fun e => by rw [e, w] at w2; cases w2
    rw [upd_ne n] at h; exact ok.fo b od v w2 h
  · by_cases n : b = a
    · rw [n, upd_same] at h; cases h; exact nt.elim
    · rw [upd_ne n] at h; exact ok.tp b vs h
/-- one's own is told under another path -/
theorem re_mv {p' : List Nat} (w : W a = .ow p) : Mv W H (setW W a (.ow p')) H := by
  refine ⟨fun b u h => ?_, fun b vs v h => ?_, fun b φ h => ?_⟩
  · have n : b ≠ a := fun e => h.no (by rw [e]; exact w)
    unfold RdW
    rw [setW_ne n]
    exact h
  · have n : b ≠ a := fun e => by rw [e, w] at v; cases v
    exact ⟨by rw [setW_ne n]; exact v, h⟩
  · have n : b ≠ a := fun e => by rw [e, w] at h; cases h
    rw [setW_ne n]; exact h
theorem re_ok {p' : List Nat} (ok : OKW W H) (w : W a = .ow p) : OKW (setW W a (.ow p')) H := by
  have ne : ∀ {b : Addr} {m : Md}, setW W a (.ow p') b = m → (∀ q, m ≠ .ow q) → W b = m := fun {b m} h nm => by
    by_cases n : b = a
    · rw [n, setW_same] at h; exact absurd h.symm (nm _)
    · rw [setW_ne n] at h; exact h
  refine ⟨fun b φ h => ok.st b φ (ne h fun _ z => by cases z), fun b h => ?_, fun b q od v h e => ?_, fun b h => ok.lk b (ne h fun _ z => by cases z), fun b od v h e => ok.fo b od v (ne h fun _ z => by cases z) e, fun b vs h => ?_⟩
  · by_cases n : b = a
    · rw [n]; exact ok.al a (by rw [w]; exact fun z => by cases z)
    · rw [setW_ne n] at h; exact ok.al b h
  · by_cases n : b = a
    · rw [n] at e; exact ok.nf a p od v w e
    · rw [setW_ne n] at h; exact ok.nf b q od v h e
  · have := ok.tp b vs h
    have n : b ≠ a := fun e => by rw [e, w] at this; cases this
    rw [setW_ne n]; exact this
end
variable {K : PySem.W.Frag}
section
variable {α β γ ρ : Type} {t : Ty α} {u : Ty β} {X : Xw} {k : Bool} {G : Ct}
/-- what is walked, from here -/
def EiAt (k : Bool) (wi : TI) (G : Ct) (W : Wd) (H : Hp) (σ : L2.St) (t : Ty α) (P : Ct → List α → Prop) : Prop :=
  ∀ (R : It → Hp → Prop), (∀ J W1 H1 G1 xs (Gh : Hp → Prop) (Y : Nat → Hp → V → Hp → Prop), P G1 xs → Mo k σ G W H G1 W1 H1 → Walk J xs.length Gh Y → (∀ W2 H2, Go W1 H1 W2 H2 → OKW W2 H2 → Gh H2) →
    (∀ W2 H2 i v H3, Go W1 H1 W2 H2 → OKW W2 H2 → i < xs.length → Y i H2 v H3 → ∃ x W3, xs[i]? = some x ∧ GoE W2 H2 W3 H3 ∧ OKW W3 H3 ∧ t.R W3 H3 v x) → R J H1) → wi σ H R
def Ei (X : Xw) (k : Bool) (wi : TI) (G : Ct) (t : Ty α) (P : Ct → List α → Prop) : Prop := ∀ W H σ, Holds G W H σ → X.ok W H σ → EiAt k wi G W H σ t P
theorem ei_list {te : TE} {P : Ct → List α → Prop} (h : Ev X k te G (tLs K t) P) : Ei X k (iList K te) G t P := fun W H σ hs ex R q => h W H σ _ hs ex fun v W1 H1 G1 xs p m r => by
  obtain ⟨a, vs, rfl, sq, pp⟩ := r
  refine ⟨a, rfl, ⟨vs, sq.l⟩, q _ W1 H1 G1 xs _ _ p m (by rw [← pp.length]; exact walk_list) (fun W2 H2 g2 ok2 => ?_) fun W2 H2 i v H3 g2 ok2 hi hy => ?_⟩
  · exact (sq.mv g2.mv).l
  · obtain ⟨rfl, hv⟩ := hy
    obtain ⟨x, hx, r⟩ := paired_getL pp hv
    exact ⟨x, W2, hx, .refl, ok2, t.mv r g2⟩
def chars (z : Str) : List Str := z.cps.toList.map fun c => ⟨#[c]⟩
def rangeZ (i j : Int) : List Int := (List.range (j - i).toNat).map fun (k : Nat) => i + (k : Int)
theorem rangeZ_len (i j : Int) : (rangeZ i j).length = (j - i).toNat := by unfold rangeZ; rw [List.length_map, List.length_range]
theorem rangeZ_get {i j : Int} {k : Nat} {x : Int} (h : (rangeZ i j)[k]? = some x) : x = i + k ∧ k < (j - i).toNat := by
  unfold rangeZ at h
  rw [List.getElem?_map] at h
  by_cases hk : k < (j - i).toNat
  · rw [List.getElem?_range hk] at h
    exact ⟨(Option.some.inj h).symm, hk⟩
  · rw [List.getElem?_eq_none (by rw [List.length_range]; omega)] at h
    cases h
theorem ei_range1 {te : TE} {P : Ct → List Int → Prop} (h : Ev X k te G tInt fun G n => (-(2 ^ 62) ≤ n ∧ n < 2 ^ 62) ∧ P G (rangeZ 0 n)) : Ei X k (iRng1 (tCons te tNil)) G tInt P := fun W H σ hs ex R q => h W H σ _ hs ex fun v W1 H1 G1 n ⟨⟨h1, h2⟩, p⟩ m r => by
  obtain rfl : v = .int n := r
  refine ⟨n, rfl, h1, h2, q _ W1 H1 G1 _ _ _ p m (by rw [rangeZ_len, Int.sub_zero]; exact walk_range) (fun _ _ _ _ => trivial) fun W2 H2 i v H3 g2 ok2 hi hy => ?_⟩
  obtain ⟨rfl, rfl⟩ := hy
  refine ⟨0 + i, W2, ?_, .refl, ok2, rfl⟩
  rw [rangeZ_len] at hi
  unfold rangeZ
  rw [List.getElem?_map, List.getElem?_range hi]
  rfl
def enumZ (xs : List α) : List (Int × α) := xs.zipIdx.map fun p => ((p.2 : Int), p.1)
/-! ### a path to a thing: it may be read again where all stands -/
def Ap (te : TE) (G : Ct) (t : Ty α) (P : α → Prop) : Prop := ∀ W H σ, Holds G W H σ → ∃ v x, P x ∧ t.R W H v x ∧ ∀ W' H' (Q : VK), Mv W H W' H' → OKW W' H' → Q v H' → te σ H' Q
theorem ap_var {i : Nat} {x : α} {P : α → Prop} (e : G.s[i]? = some (.sh t x)) (p : P x) : Ap (tVar i) G t P := fun W H σ hs => by
  obtain ⟨v, e1, r⟩ := hs.var e
  exact ⟨v, x, p, r, fun W' H' Q _ _ q => ⟨v, e1, q⟩⟩
/-- an item at a written place -/
def ApIx (r : R2) (n : Int) (T : Ty α) (u : Ty β) (get : α → β) : Prop := ∀ W H v x, T.R W H v x → ∃ w, u.R W H w (get x) ∧ ∀ W' H' (Q : VK), Mv W H W' H' → OKW W' H' → Q w H' → r v (.int n) H' Q
/-! ### an attribute of an instance -/
def FldOf (K : PySem.W.Frag) (f : Str) (T : Ty α) (u : Ty β) (get : α → β) : Prop := ∀ W H v x, T.R W H v x → ∃ a C dx fs w, v = .ref a ∧ RdW W H a (.ins C dx fs) ∧ Cls K C ∧ NoAttr K C f ∧ fs.lookup f = some w ∧ u.R W H w (get x)
theorem ev_fld {f : Str} {get : α → β} {te : TE} {P : Ct → β → Prop} (fo : FldOf K f t u get) (h : Ev X k te G t fun G x => P G (get x)) : Ev X k (tFld K te f) G u P := fun W H σ Q hs ex q => h W H σ _ hs ex fun v W1 H1 G1 x p m r => by
  obtain ⟨a, C, dx, fs, w, rfl, ha, c, n, l, r2⟩ := fo W1 H1 v x r
  exact ⟨a, C, dx, fs, w, rfl, m.hs.ok.exact ha (fun _ e => by cases e) (fun _ e => by cases e) (fun _ e => by cases e), c, n, l, q w W1 H1 G1 _ p m r2⟩
/-! ### a dict is locked, and opened again -/
theorem lock_at {W : Wd} {H : Hp} {a : Addr} {ws : List (Key × V)} (ok : OKW W H) (w : W a = .sh) (h : H a = some (.dK ws)) (od : Obj) :
    OKW (setW W a .lk) (upd H a (.frz od (.dK ws))) ∧ Mv W H (setW W a .lk) (upd H a (.frz od (.dK ws))) := by
  refine ⟨⟨fun b φ q => ?_, fun b q => ?_, fun b p od2 u q e => ?_, fun b q => ?_, fun b od2 u q e => ?_, fun b vs e => by
    have n : b ≠ a := fun z => by rw [z, upd_same] at e; cases e
    rw [upd_ne n] at e; rw [setW_ne n]; exact ok.tp b vs e⟩, ⟨fun b o q => ?_, fun b vs q e => ?_, fun b φ q => ?_⟩⟩
  · have n : b ≠ a := fun e => by rw [e, setW_same] at q; cases q
    rw [setW_ne n] at q; rw [upd_ne n]; exact ok.st b φ q
  · by_cases n : b = a
    · exact ⟨_, by rw [n, upd_same]⟩
    · rw [setW_ne n] at q; rw [upd_ne n]; exact ok.al b q
  · have n : b ≠ a := fun z => by rw [z, setW_same] at q; cases q
    rw [setW_ne n] at q; rw [upd_ne n] at e; exact ok.nf b p od2 u q e
  · by_cases n : b = a
    · exact ⟨od, .inl ⟨ws, by rw [n, upd_same]⟩⟩
    · rw [setW_ne n] at q; rw [upd_ne n]; exact ok.lk b q
  · have n : b ≠ a := fun z => by rw [z, setW_same] at q; cases q
    rw [setW_ne n] at q; rw [upd_ne n] at e; exact ok.fo b od2 u q e
  · by_cases n : b = a
    · subst n
      have e : o = .dK ws := by
        rcases q with ⟨_, q⟩ | ⟨q | q, _⟩
        · rw [h] at q; cases q; rfl
        · rw [w] at q; cases q
        · rw [w] at q; cases q
      subst e
      exact .inr ⟨.inl setW_same, od, upd_same⟩
    · unfold RdW
      rw [setW_ne n, upd_ne n]
      exact q
  · have n : b ≠ a := fun z => by rw [z, h] at e; cases e
    rw [setW_ne n, upd_ne n]; exact ⟨q, e⟩
  · rw [setW_ne (fun e => by rw [e, w] at q; cases q)]; exact q
theorem open_at {W : Wd} {H : Hp} {a : Addr} {ws : List (Key × V)} {od : Obj} (ok : OKW W H) (w : W a = .lk) (h : H a = some (.frz od (.dK ws))) :
    OKW (setW W a .sh) (upd H a (.dK ws)) ∧ Mv W H (setW W a .sh) (upd H a (.dK ws)) := by
  refine ⟨⟨fun b φ q => ?_, fun b q => ?_, fun b p od2 u q e => ?_, fun b q => ?_, fun b od2 u q e => ?_, fun b vs e => by
    have n : b ≠ a := fun z => by rw [z, upd_same] at e; cases e
    rw [upd_ne n] at e; rw [setW_ne n]; exact ok.tp b vs e⟩, ⟨fun b o q => ?_, fun b vs q e => ?_, fun b φ q => ?_⟩⟩
  · have n : b ≠ a := fun e => by rw [e, setW_same] at q; cases q
    rw [setW_ne n] at q; rw [upd_ne n]; exact ok.st b φ q
  · have n : b ≠ a := fun e => by rw [e, setW_same] at q; exact q rfl
    rw [setW_ne n] at q; rw [upd_ne n]; exact ok.al b q
  · have n : b ≠ a := fun z => by rw [z, setW_same] at q; cases q
    rw [setW_ne n] at q; rw [upd_ne n] at e; exact ok.nf b p od2 u q e
  · have n : b ≠ a := fun z => by rw [z, setW_same] at q; cases q
    rw [setW_ne n] at q; rw [upd_ne n]; exact ok.lk b q
  · have n : b ≠ a := fun z => by rw [z, setW_same] at q; cases q
    rw [setW_ne n] at q; rw [upd_ne n] at e; exact ok.fo b od2 u q e
  · by_cases n : b = a
    · subst n
      have e : o = .dK ws := by
        rcases q with ⟨q, _⟩ | ⟨_, od2, q⟩
        · rw [w] at q; cases q
        · rw [h] at q; cases q; rfl
      subst e
      exact .inl ⟨setW_same, upd_same⟩
    · unfold RdW
      rw [setW_ne n, upd_ne n]
      exact q
  · have n : b ≠ a := fun z => by rw [z, h] at e; cases e
    rw [setW_ne n, upd_ne n]; exact ⟨q, e⟩
  · rw [setW_ne (fun e => by rw [e, w] at q; cases q)]; exact q
/-- the context while a dict is locked, and behind it -/
def Ct.lk (G : Ct) : Ct := ⟨false, G.s, G.p⟩
def Ct.op (G : Ct) (n : Bool) : Ct := ⟨n, G.s, G.p⟩
theorem Holds.lock {W : Wd} {H : Hp} {σ : L2.St} (hs : Holds G W H σ) {a : Addr} {ws : List (Key × V)} (w : W a = .sh) (h : H a = some (.dK ws)) (od : Obj) : Holds G.lk (setW W a .lk) (upd H a (.frz od (.dK ws))) σ := by
  obtain ⟨ok1, mv1⟩ := lock_at hs.ok w h od
  refine ⟨hs.len, ok1, fun i s e x y => (hs.sl i s e x y).mv (fun b o q e w2 => ?_) mv1, (fun z => nomatch z), hs.pn, hs.sm⟩
  have n : b ≠ a := fun z => by rw [z, w] at e; cases e
  exact ⟨by rw [setW_ne n]; exact e, by rw [upd_ne n]; exact w2⟩
theorem Holds.unlock {W : Wd} {H : Hp} {σ : L2.St} {n : Bool} (hs : Holds G W H σ) {a : Addr} {ws : List (Key × V)} {od : Obj} (w : W a = .lk) (h : H a = some (.frz od (.dK ws))) (nl : n = true → ∀ b, b ≠ a → W b ≠ .lk) : Holds (G.op n) (setW W a .sh) (upd H a (.dK ws)) σ := by
  obtain ⟨ok1, mv1⟩ := open_at hs.ok w h
  refine ⟨hs.len, ok1, fun i s e x y => (hs.sl i s e x y).mv (fun b o q e w2 => ?_) mv1, fun z b e => ?_, hs.pn, hs.sm⟩
  · have n : b ≠ a := fun z => by rw [z, w] at e; cases e
    exact ⟨by rw [setW_ne n]; exact e, by rw [upd_ne n]; exact w2⟩
  · by_cases m : b = a
    · rw [m, setW_same] at e; cases e
    · rw [setW_ne m] at e; exact nl z b m e
/-- the keys of a locked dict -/
theorem keys_at {κ : Type} {ke : Ky κ} {tk : Ty κ} (ky : KyT ke tk) {td : TE} {W1 : Wd} {H1 : Hp} {σ : L2.St} {a : Addr} {od : Obj} {ws : List (Key × V)} {kvs : List (κ × α)} {Wz : Wd} {Hz : Hp} (hs : Holds G W1 H1 σ) (w : W1 a = .lk) (h : H1 a = some (.frz od (.dK ws)))
    (pp : Paired (fun (p : Key × V) q => p.1 = ke.k q.1 ∧ t.R Wz Hz p.2 q.2) ws kvs) (f : ∀ Q : VK, Q (.ref a) H1 → td σ H1 Q) {P : Ct → List κ → Prop} (p : P G (kvs.map (·.1))) : EiAt k (iKeys td) G W1 H1 σ tk P := fun R q => by
  refine f _ ⟨a, od, rfl, .inl ⟨ws, h, ?_⟩⟩
  refine q _ W1 H1 G _ _ _ p (.refl hs) (by rw [List.length_map, ← pp.length]; exact walk_keys) (fun W2 H2 g2 _ => (g2.k a _ h (.inr (.inl w))).1) fun W2 H2 i v H3 g2 ok2 hi hy => ?_
  obtain ⟨rfl, k, v', hk, rfl⟩ := hy
  obtain ⟨z, hz, r, _⟩ := paired_getL pp hk
  exact ⟨z.1, W2, by rw [List.getElem?_map, hz]; rfl, .refl, ok2, (ky.ok _ _ _ _).mpr (congrArg kV r)⟩
end
/-! ### loops -/
section
variable {ρ α β : Type} {F : Fx ρ} {G : Ct} {N B C : Ct → Prop} {t : Ty α} {u : Ty β}
theorem for_core {wi : TI} {g : TG} {tb : TS} {vs : List Nat} {W0 : Wd} {H0 : Hp} {W : Wd} {H : Hp} {σ : L2.St} {D : Ends} (g0 : Go W0 H0 W H)
    (h : EiAt false wi G W H σ t fun G1 xs => ∃ V : Nat → Ct → Prop, V 0 G1 ∧ (∀ i x G', xs[i]? = some x → V i G' → Tg g G' t x vs fun G2 => Blk F tb G2 (V (i + 1)) N (V (i + 1))) ∧ ∀ G', V xs.length G' → N G')
    (n : ∀ G' W' H' σ', N G' → Go W0 H0 W' H' → Holds G' W' H' σ' → D.nx σ' H')
    (rt : ∀ v G' W' H' σ' x, F.rt G' x → Go W0 H0 W' H' → Holds G' W' H' σ' → F.r.R W' H' v x → D.rt v H')
    (ex : ∀ e d G' W' H' σ', F.X.xp G' e → Go W0 H0 W' H' → Holds G' W' H' σ' → ErAt W' H' e d → F.X.E (.ref e.C) d σ' H') : tFor wi g tb D σ H :=
  h _ fun J W1 H1 G1 xs Gh Y ⟨V, h0, ht, he⟩ m wk st yd => by
    refine for_it wk (fun i σ2 H2 => ∃ G2 W2, V i G2 ∧ Go W1 H1 W2 H2 ∧ Go W0 H0 W2 H2 ∧ Holds G2 W2 H2 σ2) ⟨G1, W1, h0, .refl, g0.trans m.go, m.hs⟩ (fun i σ2 H2 _ ⟨G2, W2, _, ga, _, hs2⟩ => st W2 H2 ga hs2.ok) ?_ ?_
    · rintro i v σ2 H2 H3 hi ⟨G2, W2, hv, ga, gb, hs2⟩ hy
      obtain ⟨x, W3, hx, g3, ok3, r⟩ := yd W2 H2 i v H3 ga hs2.ok hi hy
      refine ht i x G2 hx hv W3 H3 σ2 v _ (hs2.goE g3 ok3) r fun G4 σ4 hb hs4 _ _ => ?_
      refine hb W3 H3 W3 H3 σ4 _ .refl hs4 (fun G5 W5 H5 σ5 hv5 g5 hs5 => ⟨G5, W5, hv5, (ga.trans g3.go).trans g5, (gb.trans g3.go).trans g5, hs5⟩) (fun G5 W5 H5 σ5 hv5 g5 hs5 => n G5 W5 H5 σ5 hv5 ((gb.trans g3.go).trans g5) hs5)
        (fun G5 W5 H5 σ5 hv5 g5 hs5 => ⟨G5, W5, hv5, (ga.trans g3.go).trans g5, (gb.trans g3.go).trans g5, hs5⟩) (fun v5 G5 W5 H5 σ5 x5 hx5 g5 hs5 r5 => rt v5 G5 W5 H5 σ5 x5 hx5 ((gb.trans g3.go).trans g5) hs5 r5)
        (fun e d G5 W5 H5 σ5 hx5 g5 hs5 r5 => ex e d G5 W5 H5 σ5 hx5 ((gb.trans g3.go).trans g5) hs5 r5)
    · rintro σ2 H2 ⟨G2, W2, hv, ga, gb, hs2⟩
      exact n G2 W2 H2 σ2 (he G2 hv) gb hs2
theorem blk_for {wi : TI} {g : TG} {tb : TS} {vs : List Nat} (h : Ei F.X false wi G t fun G1 xs => ∃ V : Nat → Ct → Prop, V 0 G1 ∧
      (∀ i x G', xs[i]? = some x → V i G' → Tg g G' t x vs fun G2 => Blk F tb G2 (V (i + 1)) N (V (i + 1))) ∧ ∀ G', V xs.length G' → N G') : Blk F (tFor wi g tb) G N B C := fun W0 H0 W H σ D g0 hs n bk ct rt ex =>
  for_core g0 (h W H σ hs (exo ex g0)) n rt ex
/-- one reading or another -/
def tEither (a b : TS) : TS := fun D σ H => a D σ H ∨ b D σ H
def tEitherE (a b : TE) : TE := fun σ H Q => a σ H Q ∨ b σ H Q
theorem ps_either {X : Cx} {st : Stmt} {a b : TS} (ha : PS X st a) (hb : PS X st b) : PS X st (tEither a b) := ⟨fun pins s σ H D I h => h.elim (ha.run pins s σ H D I) (hb.run pins s σ H D I)⟩
/-- a loop over a dict, locked here or already -/
theorem ps_forD {X : Cx} {iter tg : Expr} {body : List Stmt} {td : TE} {g : TG} {tb : TS} {pos : Pos} (hp : PassesOwn (model X.prog X.w) X.A X.env X.xe) (hc : X.calm = true) (hi : PE X iter td) (hg : PG X tg g) (hb : PSs X body tb)
    (hs : ∀ x, foldedSetIterable iter X.env x = pure x := by intro _; rfl) : PS X (.For tg iter body [] pos) (tEither (tLock (tFor (iKeys td) g tb)) (tFor (iKeys td) g tb)) :=
  ps_either (ps_lock (ps_for hp hc (pi_keys hi) hg hb hs)) (ps_for hp hc (pi_keys hi) hg hb hs)
/-- for k in d; nothing may be raised within -/
theorem blk_forD {κ : Type} {ke : Ky κ} {tk : Ty κ} (ky : KyT ke tk) {td : TE} {g : TG} {tb : TS} {vs : List Nat} {kvs : List (κ × α)} (V : Nat → Ct → Prop) (hd : Ap td G (tDk ke t) fun x => x = kvs) (h0 : V 0 G.lk)
    (ht : ∀ i x G', (kvs.map (·.1))[i]? = some x → V i G' → Tg g G' tk x vs fun G2 => Blk ⟨F.r, fun G3 => F.rt (G3.op G.n), ⟨F.X.E, fun _ _ => False⟩⟩ tb G2 (V (i + 1)) (fun G3 => N (G3.op G.n)) (V (i + 1))) (he : ∀ G', V kvs.length G' → N (G'.op G.n)) :
    Blk F (tEither (tLock (tFor (iKeys td) g tb)) (tFor (iKeys td) g tb)) G N B C := fun W0 H0 W H σ D g0 hs n bk ct rt ex => by
  obtain ⟨v, x, rfl, ⟨a, ws, rfl, rd, pp⟩, f⟩ := hd W H σ hs
  by_cases w : W a = .sh
  · -- locked here
    have ha : H a = some (.dK ws) := (hs.ok.exactD rd (by rw [w]; exact fun z => by cases z) (fun _ e => by cases e)).1
    refine .inl ⟨a, .dK ws, ha, trivial, fun od => ?_⟩
    have hs1 := hs.lock w ha od
    obtain ⟨ok1, rd1⟩ := lock_at hs.ok w ha od
    have w1 : setW W a .lk a = .lk := setW_same
    have h1 : upd H a (.frz od (.dK ws)) a = some (.frz od (.dK ws)) := upd_same
    have e1 : ∀ b, b ≠ a → setW W a .lk b = W b ∧ upd H a (.frz od (.dK ws)) b = H b := fun b q => ⟨setW_ne q, upd_ne q⟩
    generalize setW W a .lk = W1 at ok1 rd1 w1 e1 hs1
    generalize upd H a (.frz od (.dK ws)) = H1 at ok1 rd1 h1 e1 hs1
    -- opened again
    have back : ∀ G' W' H' σ', Go W1 H1 W' H' → Holds G' W' H' σ' → H' a = some (.frz od (.dK ws)) ∧ Go W0 H0 (setW W' a .sh) (upd H' a (.dK ws)) ∧ Holds (G'.op G.n) (setW W' a .sh) (upd H' a (.dK ws)) σ' ∧ Mv W' H' (setW W' a .sh) (upd H' a (.dK ws)) := fun G' W' H' σ' g' hs' => by
      obtain ⟨h2, w2⟩ := g'.k a _ h1 (.inr (.inl w1))
      have w2 := w2.trans w1
      obtain ⟨ok3, rd3⟩ := open_at hs'.ok w2 h2
      refine ⟨h2, ⟨fun b o e q => ?_, fun b φ q => ?_, fun b q => ?_⟩, hs'.unlock w2 h2 fun n b m q => ?_, rd3⟩
      · obtain ⟨e2, q2⟩ := g0.k b o e q
        by_cases m : b = a
        · subst m
          rw [ha] at e2
          cases e2
          exact ⟨upd_same, by rw [setW_same, ← q2, w]⟩
        · obtain ⟨e3, q3⟩ := g'.k b o (by rw [(e1 b m).2]; exact e2) (by rw [(e1 b m).1, q2]; exact q)
          exact ⟨by rw [upd_ne m]; exact e3, by rw [setW_ne m, q3, (e1 b m).1, q2]⟩
      · have q2 := g0.s b φ q
        have m : b ≠ a := fun e => by rw [e, w] at q2; cases q2
        rw [setW_ne m]
        exact g'.s b φ (by rw [(e1 b m).1]; exact q2)
      · by_cases m : b = a
        · rw [m, setW_same] at q; cases q
        · rw [setW_ne m] at q
          have := g'.l b q
          rw [(e1 b m).1] at this
          exact g0.l b this
      · have := g'.l b q
        rw [(e1 b m).1] at this
        exact hs.nl n b this
    refine for_core (F := ⟨F.r, fun G3 => F.rt (G3.op G.n), ⟨F.X.E, fun _ _ => False⟩⟩) (N := fun G3 => N (G3.op G.n)) (W0 := W1) (H0 := H1) .refl (keys_at ky hs1 w1 h1 pp (fun Q q => f W1 H1 Q rd1 ok1 q) (P := fun G1 xs => ∃ V : Nat → Ct → Prop, V 0 G1 ∧ (∀ i x G', xs[i]? = some x → V i G' → Tg g G' tk x vs fun G2 => Blk ⟨F.r, fun G3 => F.rt (G3.op G.n), ⟨F.X.E, fun _ _ => False⟩⟩ tb G2 (V (i + 1)) (fun G3 => N (G3.op G.n)) (V (i + 1))) ∧ ∀ G', V xs.length G' → N (G'.op G.n)) ⟨V, h0, ht, by rw [List.length_map]; exact he⟩)
      (fun G' W' H' σ' hn g' hs' => ?_) (fun v G' W' H' σ' x hx g' hs' r => ?_) (fun e d G' W' H' σ' z => z.elim)
    · obtain ⟨h2, g2, hs2, rd2⟩ := back G' W' H' σ' g' hs'
      exact ⟨h2, n _ _ _ σ' hn g2 hs2⟩
    · obtain ⟨h2, g2, hs2, rd2⟩ := back G' W' H' σ' g' hs'
      refine ⟨h2, rt v _ _ _ σ' x hx g2 hs2 ?_⟩
      cases e : F.r with
      | sh t => rw [e] at r; exact t.go r rd2
      | ow O =>
        rw [e] at r
        refine O.mv (p' := [tmp]) r (fun b o q e2 e3 => ?_) rd2
        have m : b ≠ a := fun z => by rw [z] at e3; rw [h2] at e3; cases e3; exact hs'.ok.nf a _ od _ (z ▸ e2) h2
        exact ⟨by rw [setW_ne m]; exact e2, by rw [upd_ne m]; exact e3⟩
  · -- locked already
    obtain ⟨w, od, ha⟩ : W a = .lk ∧ ∃ od, H a = some (.frz od (.dK ws)) := by
      rcases rd with ⟨q, _⟩ | ⟨q | q, od, e⟩
      · exact absurd q w
      · exact ⟨q, od, e⟩
      · obtain ⟨vs, z⟩ := hs.ok.fo a od _ q e
        cases z
    have gf : G.n = false := by
      cases e : G.n with
      | false => rfl
      | true => exact absurd w (hs.nl e a)
    have hs1 : Holds G.lk W H σ := ⟨hs.len, hs.ok, hs.sl, (fun z => nomatch z), hs.pn, hs.sm⟩
    have op : ∀ {G' W' H' σ'}, Holds G' W' H' σ' → Holds (G'.op G.n) W' H' σ' := fun {G' W' H' σ'} h => ⟨h.len, h.ok, h.sl, (fun z => by rw [show (Ct.op G' G.n).n = false from gf] at z; cases z), h.pn, h.sm⟩
    refine .inr (for_core (F := ⟨F.r, fun G3 => F.rt (G3.op G.n), ⟨F.X.E, fun _ _ => False⟩⟩) (N := fun G3 => N (G3.op G.n)) g0 (keys_at ky hs1 w ha pp (fun Q q => f W H Q .refl hs.ok q) (P := fun G1 xs => ∃ V : Nat → Ct → Prop, V 0 G1 ∧ (∀ i x G', xs[i]? = some x → V i G' → Tg g G' tk x vs fun G2 => Blk ⟨F.r, fun G3 => F.rt (G3.op G.n), ⟨F.X.E, fun _ _ => False⟩⟩ tb G2 (V (i + 1)) (fun G3 => N (G3.op G.n)) (V (i + 1))) ∧ ∀ G', V xs.length G' → N (G'.op G.n)) ⟨V, h0, ht, by rw [List.length_map]; exact he⟩)
      (fun G' W' H' σ' hn g' hs' => n _ W' H' σ' hn g' (op hs')) (fun v G' W' H' σ' x hx g' hs' r => rt v _ W' H' σ' x hx g' (op hs') r) (fun e d G' W' H' σ' z => z.elim))
/-- while: V tells the contexts, by a number that falls -/
theorem blk_while {c : TT} {tb : TS} (V : Nat → Ct → Prop) (m0 : Nat) (h0 : V m0 G) (ht : ∀ m G', V m G' → Et F.X false c G' fun G'' x => (x = true → Blk F tb G'' (fun G2 => ∃ m', m' < m ∧ V m' G2) N (fun G2 => ∃ m', m' < m ∧ V m' G2)) ∧ (x = false → N G'')) : Blk F (tWhile c tb) G N B C := fun W0 H0 W H σ D g0 hs n bk ct rt ex => by
  refine ⟨fun m σ2 H2 => ∃ G2 W2, V m G2 ∧ Go W0 H0 W2 H2 ∧ Holds G2 W2 H2 σ2, ⟨m0, G, W, h0, g0, hs⟩, ?_⟩
  rintro m σ2 H2 ⟨G2, W2, hv, gb, hs2⟩
  refine ht m G2 hv W2 H2 σ2 _ hs2 (exo ex gb) fun b W3 H3 G3 p m3 => ?_
  cases b with
  | false =>
    rw [if_neg Bool.false_ne_true]
    exact n G3 W3 H3 σ2 (p.2 rfl) (gb.trans m3.go) m3.hs
  | true =>
    rw [if_pos rfl]
    refine ⟨fun σ5 H5 => ∃ m', m' < m ∧ ∃ G5 W5, V m' G5 ∧ Go W0 H0 W5 H5 ∧ Holds G5 W5 H5 σ5, fun σ5 H5 ⟨m', hm, q⟩ => ⟨m', hm, q⟩, ?_⟩
    exact p.1 rfl W0 H0 W3 H3 σ2 _ (gb.trans m3.go) m3.hs (fun G5 W5 H5 σ5 ⟨m', hm, hv5⟩ g5 hs5 => ⟨m', hm, G5, W5, hv5, g5, hs5⟩) n (fun G5 W5 H5 σ5 ⟨m', hm, hv5⟩ g5 hs5 => ⟨m', hm, G5, W5, hv5, g5, hs5⟩) rt ex
end
end Y
end

section
set_option maxRecDepth 100000
set_option maxHeartbeats 4000000
/-! Comprehensions; one's own things looked at. -/
namespace Y
open PySem PySem.Spec PyProof.Rows L2
def Ct.wipe (G : Ct) : List Nat → Ct
  | [] => G
  | i :: is => (Ct.wipe G is).set i .un
theorem wipe_p (G : Ct) : ∀ is, (G.wipe is).p = G.p
  | [] => rfl
  | i :: is => wipe_p G is
def Ct.frees (G : Ct) (is : List Nat) : Prop := ∀ i ∈ is, G.free i
theorem Holds.wipe {G : Ct} {W : Wd} {H : Hp} {σ : L2.St} (h : Holds G W H σ) : ∀ is, G.frees is → Holds (G.wipe is) W H (L2.wipe σ is)
  | [], _ => h
  | i :: is, fr => (Holds.wipe h is fun j hj => fr j (List.mem_cons_of_mem _ hj)).setUn i none (by
      have := fr i List.mem_cons_self
      unfold Ct.free at this ⊢
      rw [wipe_p]
      exact this)
theorem wipe_get {σ : L2.St} {j : Nat} : ∀ {vs : List Nat}, j ∈ vs → j < σ.length → (L2.wipe σ vs)[j]? = some none
  | v :: vs, h, hl => by
    unfold L2.wipe
    by_cases e : v = j
    · subst e
      rw [List.getElem?_set_self (by rw [wipe_length]; exact hl)]
    · rw [List.getElem?_set_ne e]
      exact wipe_get ((List.mem_cons.mp h).resolve_left fun z => e z.symm) hl
theorem wipe_keep {σ : L2.St} {j : Nat} : ∀ {vs : List Nat}, j ∉ vs → (L2.wipe σ vs)[j]? = σ[j]?
  | [], _ => rfl
  | v :: vs, h => by
    unfold L2.wipe
    rw [List.getElem?_set_ne (fun e => h (by rw [e]; exact List.mem_cons_self))]
    exact wipe_keep fun z => h (List.mem_cons_of_mem _ z)
theorem wipe_same {σ σ2 : L2.St} {vs : List Nat} (hl : σ2.length = (L2.wipe σ vs).length) (h : ∀ i, i ∉ vs → σ2[i]? = (L2.wipe σ vs)[i]?) : L2.wipe σ2 vs = L2.wipe σ vs := by
  rw [wipe_length] at hl
  apply List.ext_getElem?
  intro i
  by_cases hi : i ∈ vs
  · by_cases q : i < σ.length
    · rw [wipe_get hi q, wipe_get hi (by omega)]
    · rw [List.getElem?_eq_none (by rw [wipe_length]; omega), List.getElem?_eq_none (by rw [wipe_length]; omega)]
  · rw [wipe_keep hi, wipe_keep hi, h i hi, wipe_keep hi]
/-- where a comprehension's list grows -/
def tmq : Nat := tmp + 1
theorem tmq_ne : tmq ≠ tmp := by decide
section
variable {K : PySem.W.Frag} {α β γ δ ρ : Type} {t : Ty α} {u : Ty β} {X : Xw} {k : Bool} {G : Ct}
theorem setW_go {W W1 : Wd} {H H1 : Hp} {D : Addr} {m : Md} (g : GoE W H W1 H1) (hD : H D = none) (st : ∀ φ, W1 D ≠ .st φ) (lk : m ≠ .lk) : GoE W H (setW W1 D m) H1 := ⟨fun b o e n r => by
    obtain ⟨e1, w1⟩ := g.k b o e n r
    exact ⟨e1, by rw [setW_ne (ne_of_none e hD)]; exact w1⟩, fun b φ h => by
    have := g.s b φ h
    have n : b ≠ D := fun z => by rw [z] at this; exact st φ this
    rw [setW_ne n]; exact this, fun b h => by
    by_cases n : b = D
    · rw [n, setW_same] at h; exact absurd h lk
    · rw [setW_ne n] at h; exact g.l b h⟩
theorem upd_goE {W W1 : Wd} {H H1 : Hp} {D : Addr} {o : HO} (g : GoE W H W1 H1) (hD : H D = none) : GoE W H W1 (upd H1 D o) := ⟨fun b u e n r => by
    obtain ⟨e1, w1⟩ := g.k b u e n r
    exact ⟨by rw [upd_ne (ne_of_none e hD)]; exact e1, w1⟩, g.s, g.l⟩
/-- a thing of one's own that grows, and stays as it is where it stands -/
theorem grown {W W1 : Wd} {H H1 : Hp} {D : Addr} {o : HO} (g : GoE W H W1 H1) (w : W D = .ow [tmq]) (h : H D = some o) : W1 D = .ow [tmq] ∧ H1 D = some o := by
  obtain ⟨a, b⟩ := g.own h w tmq_ne
  exact ⟨b, a⟩
theorem lc_core {wi : TI} {g : TG} {tt : TT} {te : TE} {vs : List Nat} {W : Wd} {H : Hp} {σ : L2.St} {Q : VK} {P : Ct → List β → Prop}
    (h : EiAt k wi G W H σ t fun G1 xs => ∃ I : Nat → List β → Prop, xs.length < sizeLine ∧ G1.frees vs ∧ I 0 [] ∧ (∀ i x ys, xs[i]? = some x → I i ys → Tg g (G1.wipe vs) t x vs fun G2 => Et x0 true tt G2 fun G3 b => (b = true → Ev x0 true te G3 u fun _ y => I (i + 1) (ys ++ [y])) ∧ (b = false → I (i + 1) ys)) ∧ ∀ ys, I xs.length ys → P G1 ys)
    (q : ∀ v W' H' G' x, P G' x → Mo k σ G W H G' W' H' → (oL K u).R [tmp] W' H' v x → Q v H') : tLc wi g tt te vs σ H Q :=
  h _ fun J W1 H1 G1 xs Gh Y ⟨I, hz, fr, i0, ht, he⟩ m wk st yd => fun D hD => by
    refine lc_it wk (fun i H2 => ∃ W2 us ys, GoE W1 H1 W2 H2 ∧ OKW W2 H2 ∧ W2 D = .ow [tmq] ∧ H2 D = some (.lst us) ∧ Paired (u.R W2 H2) us ys ∧ I i ys ∧ ys.length ≤ i) ?_ (fun i H2 _ ⟨W2, us, ys, ga, ok2, _⟩ => st W2 H2 ga.go ok2) ?_ ?_
    · obtain ⟨ga, ok1⟩ := newT m.hs.ok hD (o := .lst []) trivial
      have w1 : setW W1 D (.ow [tmp]) D = .ow [tmp] := setW_same
      exact ⟨setW (setW W1 D (.ow [tmp])) D (.ow [tmq]), [], [], setW_go ga hD (fun φ e => by rw [w1] at e; cases e) (fun e => by cases e), re_ok ok1 w1, setW_same, upd_same, .nil, i0, Nat.le_refl _⟩
    · rintro i v H2 H3 hi ⟨W2, us, ys, ga, ok2, wD, hD2, pp, hc, hl⟩ hy
      obtain ⟨x, W3, hx, g3, ok3, r⟩ := yd W2 H2 i v H3 ga.go ok2 hi hy
      have g13 := ga.trans g3
      have hs3 := (m.hs.goE g13 ok3).wipe vs fr
      refine ht i x ys hx hc W3 H3 _ v _ hs3 r fun G2 σ2 hG2 hs4 hl2 hk2 => ⟨wipe_same hl2 hk2, ?_⟩
      refine hG2 W3 H3 σ2 _ hs4 x0_ok fun b W4 H4 G4 hb m4 => ?_
      have g4 := (m4.kp rfl).1
      obtain ⟨wD3, hD3⟩ := grown g3 wD hD2
      obtain ⟨wD4, hD4⟩ := grown g4 wD3 hD3
      have pp4 := L2.Paired.mapP pp fun a c (z : u.R W2 H2 a c) => u.mvE z (g3.trans g4)
      cases b with
      | false =>
        rw [if_neg Bool.false_ne_true]
        exact ⟨W4, us, ys, g13.trans g4, m4.hs.ok, wD4, hD4, pp4, hb.2 rfl, by omega⟩
      | true =>
        rw [if_pos rfl]
        refine hb.1 rfl W4 H4 σ2 _ m4.hs x0_ok fun y W5 H5 G5 yv hyv m5 r5 => ?_
        have g5 := (m5.kp rfl).1
        obtain ⟨wD5, hD5⟩ := grown g5 wD4 hD4
        have pp5 := L2.Paired.mapP pp4 fun a c z => u.mvE z g5
        refine ⟨us, hD5, by rw [pp.length]; omega, ?_⟩
        have mv := upd_mv (H := H5) (o := .lst (us ++ [y])) wD5
        exact ⟨W5, us ++ [y], ys ++ [yv], upd_goE ((g13.trans g4).trans g5) hD, upd_ok m5.hs.ok wD5 trivial, wD5, upd_same, paired_snoc' (L2.Paired.mapP pp5 fun a c z => u.go z mv) (u.go r5 mv), hyv, by rw [List.length_append]; simp; omega⟩
    · rintro H2 ⟨W2, us, ys, ga, ok2, wD, hD2, pp, hc, hl⟩
      have ok3 := re_ok (p' := [tmp]) ok2 wD
      refine q _ (setW W2 D (.ow [tmp])) H2 G1 ys (he ys hc) (m.thenE (setW_go ga hD (fun φ e => by rw [wD] at e; cases e) fun e => by cases e) ok3) ⟨D, us, rfl, setW_same, hD2, ?_⟩
      exact L2.Paired.mapP pp fun a c z => u.go z (re_mv wD)
/-- [e for x in xs if c] -/
theorem ev_lc {wi : TI} {g : TG} {tt : TT} {te : TE} {vs : List Nat} {P : Ct → List β → Prop}
    (h : Ei X k wi G t fun G1 xs => ∃ I : Nat → List β → Prop, xs.length < sizeLine ∧ G1.frees vs ∧ I 0 [] ∧ (∀ i x ys, xs[i]? = some x → I i ys → Tg g (G1.wipe vs) t x vs fun G2 => Et x0 true tt G2 fun G3 b => (b = true → Ev x0 true te G3 u fun _ y => I (i + 1) (ys ++ [y])) ∧ (b = false → I (i + 1) ys)) ∧ ∀ ys, I xs.length ys → P G1 ys) :
    EvR X k (tLc wi g tt te vs) G (.ow (oL K u)) P := fun W H σ Q hs ex q => lc_core (h W H σ hs ex) q
/-- what is read while a dict is locked -/
theorem lock_ev {r : Rt γ} {te : TE} {P : Ct → γ → Prop} {W : Wd} {H : Hp} {σ : L2.St} {Q : VK} {a : Addr} {ws : List (Key × V)} (hs : Holds G W H σ) (rd : RdW W H a (.dK ws))
    (run : ∀ W1 H1 od (Q1 : VK), W1 a = .lk → H1 a = some (.frz od (.dK ws)) → Mv W H W1 H1 → Holds G.lk W1 H1 σ → (∀ v W' H' G' x, P (G'.op G.n) x → Mo k σ G.lk W1 H1 G' W' H' → r.R W' H' v x → Q1 v H') → te σ H1 Q1)
    (q : ∀ v W' H' G' x, P G' x → Mo k σ G W H G' W' H' → r.R W' H' v x → Q v H') : tEitherE (tLockE te) te σ H Q := by
  by_cases w : W a = .sh
  · have ha : H a = some (.dK ws) := (hs.ok.exactD rd (by rw [w]; exact fun z => by cases z) (fun _ e => by cases e)).1
    refine .inl ⟨a, .dK ws, ha, trivial, fun od => ?_⟩
    have hs1 := hs.lock w ha od
    obtain ⟨ok1, mv1⟩ := lock_at hs.ok w ha od
    have w1 : setW W a .lk a = .lk := setW_same
    have h1 : upd H a (.frz od (.dK ws)) a = some (.frz od (.dK ws)) := upd_same
    have e1 : ∀ b, b ≠ a → setW W a .lk b = W b ∧ upd H a (.frz od (.dK ws)) b = H b := fun b q => ⟨setW_ne q, upd_ne q⟩
    generalize setW W a .lk = W1 at ok1 mv1 w1 e1 hs1
    generalize upd H a (.frz od (.dK ws)) = H1 at ok1 mv1 h1 e1 hs1
    refine run W1 H1 od _ w1 h1 mv1 hs1 fun v W' H' G' x p m' rr => ?_
    obtain ⟨h2, w2⟩ := m'.go.k a _ h1 (.inr (.inl w1))
    have w2 := w2.trans w1
    obtain ⟨ok3, mv3⟩ := open_at m'.hs.ok w2 h2
    have nl : ∀ b, W' b = .lk → b ≠ a → W b = .lk := fun b s m => by
      have := m'.go.l b s
      rw [(e1 b m).1] at this
      exact this
    have ns : ∀ b φ, W b = .st φ → b ≠ a := fun b φ s e => by rw [e, w] at s; cases s
    refine ⟨h2, q v _ _ (G'.op G.n) x p ⟨⟨fun b o e n => ?_, fun b φ s => ?_, fun b s => ?_⟩, m'.hs.unlock w2 h2 fun n b m s => hs.nl n b (nl b s m), fun ke => ⟨⟨fun b o e n n2 => ?_, fun b φ s => ?_, fun b s => ?_⟩, ?_⟩⟩ ?_⟩
    · by_cases m : b = a
      · subst m
        rw [ha] at e; cases e
        exact ⟨upd_same, by rw [setW_same, w]⟩
      · obtain ⟨e3, q3⟩ := m'.go.k b o (by rw [(e1 b m).2]; exact e) (by rw [(e1 b m).1]; exact n)
        exact ⟨by rw [upd_ne m]; exact e3, by rw [setW_ne m, q3, (e1 b m).1]⟩
    · rw [setW_ne (ns b φ s)]; exact m'.go.s b φ (by rw [(e1 b (ns b φ s)).1]; exact s)
    · by_cases m : b = a
      · rw [m, setW_same] at s; cases s
      · rw [setW_ne m] at s; exact nl b s m
    · by_cases m : b = a
      · subst m
        rw [ha] at e; cases e
        exact ⟨upd_same, by rw [setW_same, w]⟩
      · obtain ⟨e3, q3⟩ := (m'.kp ke).1.k b o (by rw [(e1 b m).2]; exact e) (by rw [(e1 b m).1]; exact n) (by rw [(e1 b m).1]; exact n2)
        exact ⟨by rw [upd_ne m]; exact e3, by rw [setW_ne m, q3, (e1 b m).1]⟩
    · rw [setW_ne (ns b φ s)]; exact m'.go.s b φ (by rw [(e1 b (ns b φ s)).1]; exact s)
    · by_cases m : b = a
      · rw [m, setW_same] at s; cases s
      · rw [setW_ne m] at s; exact nl b s m
    · have := (m'.kp ke).2
      rw [this]
      rfl
    · cases r with
      | sh t => exact t.go rr mv3
      | ow O =>
        refine O.mv (p' := [tmp]) rr (fun b o q e2 e3 => ?_) mv3
        have m : b ≠ a := fun z => by rw [z, w2] at e2; cases e2
        exact ⟨by rw [setW_ne m]; exact e2, by rw [upd_ne m]; exact e3⟩
  · obtain ⟨w, od, ha⟩ : W a = .lk ∧ ∃ od, H a = some (.frz od (.dK ws)) := by
      rcases rd with ⟨q, _⟩ | ⟨q | q, od, e⟩
      · exact absurd q w
      · exact ⟨q, od, e⟩
      · obtain ⟨vs, z⟩ := hs.ok.fo a od _ q e
        cases z
    have gf : G.n = false := by
      cases e : G.n with
      | false => rfl
      | true => exact absurd w (hs.nl e a)
    have hs1 : Holds G.lk W H σ := ⟨hs.len, hs.ok, hs.sl, (fun z => nomatch z), hs.pn, hs.sm⟩
    refine .inr (run W H od Q w ha .refl hs1 fun v W' H' G' x p m' r => q v W' H' (G'.op G.n) x p ⟨m'.go, ⟨m'.hs.len, m'.hs.ok, m'.hs.sl, (fun z => by rw [show (Ct.op G' G.n).n = false from gf] at z; cases z), m'.hs.pn, m'.hs.sm⟩, fun ke => ⟨(m'.kp ke).1, by rw [(m'.kp ke).2]; rfl⟩⟩ r)
theorem ev_lcD {κ : Type} {ke : Ky κ} {tk : Ty κ} (ky : KyT ke tk) {td : TE} {g : TG} {tt : TT} {te : TE} {vs : List Nat} {P : Ct → List β → Prop} {kvs : List (κ × α)} (I : Nat → List β → Prop) (hd : Ap td G (tDk ke t) fun x => x = kvs) (hz : kvs.length < sizeLine) (fr : G.frees vs) (i0 : I 0 [])
    (ht : ∀ i x ys, (kvs.map (·.1))[i]? = some x → I i ys → Tg g (Ct.wipe G.lk vs) tk x vs fun G2 => Et x0 true tt G2 fun G3 b => (b = true → Ev x0 true te G3 u fun _ y => I (i + 1) (ys ++ [y])) ∧ (b = false → I (i + 1) ys)) (he : ∀ ys, I kvs.length ys → P G ys) :
    EvR X k (tEitherE (tLockE (tLc (iKeys td) g tt te vs)) (tLc (iKeys td) g tt te vs)) G (.ow (oL K u)) P := fun W H σ Q hs ex q => by
  obtain ⟨v, x, rfl, ⟨a, ws, rfl, rd, pp⟩, f⟩ := hd W H σ hs
  refine lock_ev (r := .ow (oL K u)) hs rd (fun W1 H1 od Q1 w1 h1 mv1 hs1 q1 => ?_) q
  exact lc_core (P := fun G' x => P (G'.op G.n) x) (keys_at ky hs1 w1 h1 pp (fun Q q => f W1 H1 Q mv1 hs1.ok q) (P := fun G1 xs => ∃ I : Nat → List β → Prop, xs.length < sizeLine ∧ G1.frees vs ∧ I 0 [] ∧ (∀ i x ys, xs[i]? = some x → I i ys → Tg g (G1.wipe vs) tk x vs fun G2 => Et x0 true tt G2 fun G3 b => (b = true → Ev x0 true te G3 u fun _ y => I (i + 1) (ys ++ [y])) ∧ (b = false → I (i + 1) ys)) ∧ ∀ ys, I xs.length ys → P (G1.op G.n) ys) ⟨I, by rw [List.length_map]; exact hz, fr, i0, ht, by rw [List.length_map]; exact he⟩) q1
/-! ### dict comprehensions -/
variable {κ : Type} [DecidableEq δ]
def mkD (ys : List (δ × β)) : List (δ × β) := ys.foldl (fun d p => putZ d p.1 p.2) []
theorem putZ_len (d : List (δ × β)) (k : δ) (x : β) : (putZ d k x).length ≤ d.length + 1 := by
  unfold putZ
  split
  · rw [List.length_map]; omega
  · rw [List.length_append]; simp
theorem hasK_mem {d : List (δ × β)} {k : δ} : hasK d k = decide (k ∈ d.map (·.1)) := by
  unfold hasK lookK
  induction d with
  | nil => rfl
  | cons p d ih =>
    by_cases h : p.1 = k
    · rw [List.find?_cons_of_pos (by exact decide_eq_true h)]
      simp [h]
    · rw [List.find?_cons_of_neg (by simpa using h), ih]
      have : k ≠ p.1 := fun e => h e.symm
      simp [this]
theorem putZ_new {d : List (δ × β)} {k : δ} {x : β} (h : k ∉ d.map (·.1)) : putZ d k x = d ++ [(k, x)] := by
  unfold putZ
  rw [hasK_mem, decide_eq_false h, if_neg Bool.false_ne_true]
end
/-! ### one's own things, looked at -/
def Sl.view : Sl → Sl
  | .ow O x => .sh O.sv x
  | s => s
def Ct.view (G : Ct) : Ct := ⟨G.n, G.s.map Sl.view, G.p⟩
/-- all of one's own is only looked at -/
def mView : Mp := ⟨fun _ => .vw, fun _ => none, fun _ _ h => (nomatch h), fun _ _ h => (nomatch h), fun _ => rfl⟩
section
variable {α : Type} {t : Ty α} {X : Xw} {k : Bool} {G : Ct}
theorem view_holds {W : Wd} {H : Hp} {σ : L2.St} (h : Holds G W H σ) : Holds G.view (enter mView W) H σ := by
  refine ⟨by rw [h.len]; show _ = (G.s.map _).length; rw [List.length_map], enter_ok h.ok, fun i s e h1 h2 => ?_, fun n b w => h.nl n b (enter_lk w), h.pn, by show (G.s.map _).length ≤ tmp; rw [List.length_map]; exact h.sm⟩
  have h1 : (G.s.map Sl.view)[i]? = some s := h1
  rw [List.getElem?_map] at h1
  obtain ⟨s0, e0, rfl⟩ := Option.map_eq_some_iff.mp h1
  have kk := h.sl i s0 e e0 h2
  cases s0 with
  | un => trivial
  | sh t x => obtain ⟨v, e, r⟩ := kk; exact ⟨v, e, t.go r enter_mv⟩
  | ow O x => obtain ⟨v, e, r⟩ := kk; exact ⟨v, e, O.fz r (fun b o q w e => ⟨enter_vw w rfl, e⟩) enter_mv⟩
theorem view_back {W W2 : Wd} {H H2 : Hp} {σ : L2.St} {G2 : Ct} (hs : Holds G W H σ) (m : Mo true σ G.view (enter mView W) H G2 W2 H2) : Mo k σ G W H G (leave mView W W2) H2 := by
  have g := (m.kp rfl).1
  have l := left hs.ok g.go m.hs.ok
  have e : GoE W H (leave mView W W2) H2 := ⟨fun b o e n _ => by
    cases w : W b with
    | ow p =>
      obtain ⟨h1, h2⟩ := l.own b p o w (fun _ z => nomatch z) e
      exact ⟨h2, h1⟩
    | st φ => exact absurd w (n φ)
    | sh => rw [← w]; exact l.go.k b o e (.inl w)
    | lk => rw [← w]; exact l.go.k b o e (.inr (.inl w))
    | fo => rw [← w]; exact l.go.k b o e (.inr (.inr w)), l.go.s, l.go.l⟩
  exact .goE hs e l.ok
theorem flI : FlatT tInt := fun _ _ _ _ _ _ h => h
theorem flS : FlatT tStr := fun _ _ _ _ _ _ h => h
theorem FlatR.back {W W2 : Wd} {H H2 : Hp} {m : Mp} {r : Rt α} {v : V} {x : α} (fl : FlatR r) (l : Left m W H W2 H2) (h : r.R W2 H2 v x) : r.R (leave m W W2) H2 v x := by
  cases r with
  | sh t => exact fl _ _ _ _ _ _ h
  | ow O => exact fl _ _ _ _ _ _ _ _ h fun b o q w e => ⟨l.tmp b q w, e⟩
/-- something flat, read of one's own things -/
theorem ev_view {r : Rt α} (fl : FlatR r) {te : TE} {P : Ct → α → Prop} (h : EvR ⟨X.E, fun _ e => X.xp G e ∧ e.fs = none⟩ true te G.view r fun _ x => P G x) : EvR X k te G r P := fun W H σ Q hs ex q =>
  h (enter mView W) H σ Q (view_holds hs) (fun e d W' H' G' ⟨p, fs⟩ g hs' r => by
    have l := left hs.ok g hs'.ok
    refine ex e d (leave mView W W') H' G p l.go ?_ ?_
    · refine ⟨hs.len, l.ok, fun i s z a b => (hs.sl i s z a b).mv (fun c o q w eo => l.own c _ o w (fun _ y => nomatch y) eo) l.go.mv, fun n b w => hs.nl n b (l.go.l b w), hs.pn, hs.sm⟩
    · unfold ErAt at r ⊢
      rw [fs] at r ⊢
      cases d with
      | none => trivial
      | some d => exact r.elim) fun v W2 H2 G2 x p m rr =>
    q v _ H2 G x p (view_back hs m) (fl.back (left hs.ok (m.kp rfl).1.go m.hs.ok) rr)
theorem et_view {tt : TT} {P : Ct → Bool → Prop} (h : Et x0 true tt G.view fun _ b => P G b) : Et X k tt G P := fun W H σ Q hs ex q =>
  h (enter mView W) H σ Q (view_holds hs) x0_ok fun b W2 H2 G2 p m => q b _ H2 G p (view_back hs m)
end
end Y
end

section
set_option maxRecDepth 100000
set_option maxHeartbeats 4000000
/-! Places: things of one's own that are written. -/
namespace Y
open PySem PySem.Spec PyProof.Rows L2
variable {K : PySem.W.Frag}
/-- what is not below q stands -/
def Out (q : List Nat) (W : Wd) (H : Hp) (W' : Wd) (H' : Hp) : Prop := ∀ b p o, W b = .ow p → ¬ q <+: p → H b = some o → W' b = .ow p ∧ H' b = some o
/-- a place that may be written: its new state is told by up -/
def Pw {α : Type} (te : TE) (G : Ct) (q : List Nat) (O : OT α) (x : α) (up : Sl → Ct) : Prop := Real q ∧ ∀ W H σ, Holds G W H σ → ∃ v, O.R q W H v x ∧ (∀ (Q : VK), Q v H → te σ H Q) ∧
  ∀ W1 H1, GoE W H W1 H1 → OKW W1 H1 → ∀ W' H' (s : Sl), OKW W' H' → Go W1 H1 W' H' → Out q W1 H1 W' H' → s.at q W' H' v → Holds (up s) W' H' σ
theorem pw_var {α : Type} {G : Ct} {i : Nat} {O : OT α} {x : α} (e : G.s[i]? = some (.ow O x)) (hl : i < tmp) : Pw (tVar i) G [i] O x (fun s => G.set i s) := ⟨⟨i, [], rfl, Nat.ne_of_lt hl⟩, fun W H σ hs => by
  obtain ⟨v, e1, r⟩ := hs.own e
  refine ⟨v, r, fun Q q => ⟨v, e1, q⟩, fun W1 H1 g ok1 W' H' s ok' g' out sa => ?_⟩
  have hs1 := hs.goE g ok1
  refine ⟨by show σ.length = (G.s.set i s).length; rw [List.length_set]; exact hs.len, ok', fun j s' z (h1 : (G.s.set i s)[j]? = some s') h2 => ?_, fun n b w => hs1.nl n b (g'.l b w), hs.pn, by show (G.s.set i s).length ≤ tmp; rw [List.length_set]; exact hs.sm⟩
  rcases set_key h1 with ⟨rfl, rfl⟩ | ⟨n1, g1⟩
  · rw [e1] at h2
    cases h2
    exact .of sa
  · exact (hs1.sl j s' z g1 h2).mv (fun b o q w eo => out b _ o w (fun ⟨r, z⟩ => n1 (List.cons.inj z).1.symm) eo) g'.mv⟩
/-! ### attributes of an instance of one's own -/
inductive FdsR (p : List Nat) (W : Wd) (H : Hp) : Nat → List (Str × V) → List (Str × Sl) → Prop where
  | nil {n : Nat} : FdsR p W H n [] []
  | cons {n : Nat} {f : Str} {v : V} {s : Sl} {vs : List (Str × V)} {ss : List (Str × Sl)} : s.at (p ++ [n]) W H v → FdsR p W H (n + 1) vs ss → FdsR p W H n ((f, v) :: vs) ((f, s) :: ss)
theorem FdsR.imp {p p' : List Nat} {W W' : Wd} {H H' : Hp} {n : Nat} {vs : List (Str × V)} {ss : List (Str × Sl)} (h : FdsR p W H n vs ss) (f : ∀ j v s, n ≤ j → s.at (p ++ [j]) W H v → (∃ i nm, ss[i]? = some (nm, s) ∧ vs[i]? = some (nm, v) ∧ j = n + i) → s.at (p' ++ [j]) W' H' v) : FdsR p' W' H' n vs ss := by
  induction h with
  | nil => exact .nil
  | cons r _ ih => exact .cons (f _ _ _ (Nat.le_refl _) r ⟨0, _, rfl, rfl, rfl⟩) (ih fun j v s hj r ⟨i, nm, e1, e2, e3⟩ => f j v s (by omega) r ⟨i + 1, nm, e1, e2, by omega⟩)
theorem Sl.at_mv {s : Sl} {p p' : List Nat} {W W' : Wd} {H H' : Hp} {v : V} (h : s.at p W H v) (k : ∀ b o q, W b = .ow (p ++ q) → H b = some o → W' b = .ow (p' ++ q) ∧ H' b = some o) (m : Mv W H W' H') : s.at p' W' H' v := by
  cases s with
  | un => trivial
  | sh t x => exact t.go h m
  | ow O x => exact O.mv h k m
theorem Sl.at_fz {s : Sl} {p : List Nat} {W W' : Wd} {H H' : Hp} {v : V} (h : s.at p W H v) (k : ∀ b o q, W b = .ow (p ++ q) → H b = some o → W' b = .sh ∧ H' b = some o) (m : Mv W H W' H') : s.view.at p W' H' v := by
  cases s with
  | un => trivial
  | sh t x => exact t.go h m
  | ow O x => exact O.fz h k m
/-- an instance that is shared: its attributes by name -/
def tIns (C : Addr) (fl : List (Str × Sl)) : Ty Unit := ⟨fun W H v _ => ∃ a dx vs, v = .ref a ∧ RdW W H a (.ins C dx vs) ∧ FdsR [] W H 0 vs (fl.map fun p => (p.1, p.2.view)), by
  rintro W W' H H' v _ ⟨a, dx, vs, e, h, r⟩ m
  refine ⟨a, dx, vs, e, m.rd _ _ h, r.imp fun j v s _ r ⟨i, nm, e1, _⟩ => ?_⟩
  rw [List.getElem?_map] at e1
  obtain ⟨⟨z1, z2⟩, _, e2⟩ := Option.map_eq_some_iff.mp e1
  cases e2
  cases z2 with
  | un => trivial
  | sh t x => exact t.go r m
  | ow O x => exact O.sv.go r m⟩
theorem fds_view {p : List Nat} {W W' : Wd} {H H' : Hp} {n : Nat} {vs : List (Str × V)} {ss : List (Str × Sl)} (h : FdsR p W H n vs ss) (k : ∀ b o q, W b = .ow (p ++ q) → H b = some o → W' b = .sh ∧ H' b = some o) (m : Mv W H W' H') : FdsR [] W' H' n vs (ss.map fun p => (p.1, p.2.view)) := by
  induction h with
  | nil => exact .nil
  | @cons n f v s vs ss r _ ih =>
    refine .cons ?_ ih
    have := Sl.at_fz r (fun b o q w e => k b o (n :: q) (by rw [w, List.append_assoc]; rfl) e) m
    cases s with
    | un => trivial
    | sh t x => exact this
    | ow O x => exact this
def oIns (C : Addr) (fl : List (Str × Sl)) : OT Unit where
  R p W H v _ := ∃ a dx vs, v = .ref a ∧ W a = .ow p ∧ H a = some (.ins C dx vs) ∧ FdsR p W H 0 vs fl
  sv := tIns C fl
  mv := by
    rintro p p' W W' H H' v _ ⟨a, dx, vs, e, w, h, r⟩ k m
    obtain ⟨w1, h1⟩ := k a _ [] (by rw [List.append_nil]; exact w) h
    refine ⟨a, dx, vs, e, by rw [List.append_nil] at w1; exact w1, h1, r.imp fun j v s _ r _ => Sl.at_mv r (fun b o q w e => ?_) m⟩
    have := k b o ([j] ++ q) (by rw [← List.append_assoc]; exact w) e
    rwa [← List.append_assoc] at this
  fz := by
    rintro p W W' H H' v _ ⟨a, dx, vs, e, w, h, r⟩ k m
    obtain ⟨w1, h1⟩ := k a _ [] (by rw [List.append_nil]; exact w) h
    exact ⟨a, dx, vs, e, .inl ⟨w1, h1⟩, fds_view r k m⟩
/-! ### lists of lists of one's own -/
def oLO (K : PySem.W.Frag) {α : Type} (O : OT α) : OT (List α) where
  R p W H v xs := ∃ a vs, v = .ref a ∧ W a = .ow p ∧ H a = some (.lst vs) ∧ vs.length = xs.length ∧ ∀ (k : Nat) u x, vs[k]? = some u → xs[k]? = some x → O.R (p ++ [k]) W H u x
  sv := tLs K O.sv
  mv := by
    rintro p p' W W' H H' v xs ⟨a, vs, e, w, h, l, r⟩ kk m
    obtain ⟨w1, h1⟩ := kk a _ [] (by rw [List.append_nil]; exact w) h
    refine ⟨a, vs, e, by rw [List.append_nil] at w1; exact w1, h1, l, fun k u x hu hx => O.mv (r k u x hu hx) (fun b o q w e => ?_) m⟩
    have := kk b o ([k] ++ q) (by rw [← List.append_assoc]; exact w) e
    rwa [← List.append_assoc] at this
  fz := by
    rintro p W W' H H' v xs ⟨a, vs, e, w, h, l, r⟩ kk m
    obtain ⟨w1, h1⟩ := kk a _ [] (by rw [List.append_nil]; exact w) h
    refine ⟨a, vs, e, ⟨w1, h1⟩, ?_⟩
    have : ∀ (ys : List V) (zs : List α) (n : Nat), ys.length = zs.length → (∀ (k : Nat) u x, ys[k]? = some u → zs[k]? = some x → O.R (p ++ [n + k]) W H u x) → Paired (O.sv.R W' H') ys zs := by
      intro ys
      induction ys with
      | nil => intro zs n hl _; cases zs with
        | nil => exact .nil
        | cons _ _ => cases hl
      | cons y ys ih => intro zs n hl hr; cases zs with
        | nil => cases hl
        | cons z zs =>
          refine .cons (O.fz (hr 0 y z rfl rfl) (fun b o q w e => kk b o ([n + 0] ++ q) (by rw [← List.append_assoc]; exact w) e) m) (ih zs (n + 1) (Nat.succ.inj hl) fun k u x hu hx => ?_)
          have := hr (k + 1) u x hu hx
          rwa [show n + (k + 1) = n + 1 + k from by omega] at this
    exact this vs xs 0 l fun k u x hu hx => by rw [Nat.zero_add]; exact r k u x hu hx
/-! ### what is done to a place -/
section
variable {α ρ : Type} {F : Fx ρ} {G : Ct} {N B C : Ct → Prop} {t : Ty α} {X : Xw}
/-- a place whose kind stays -/
def Pt {α : Type} (te : TE) (G : Ct) (q : List Nat) (O : OT α) (x : α) (up : α → Ct) : Prop := Real q ∧ ∀ W H σ, Holds G W H σ → ∃ v, O.R q W H v x ∧ (∀ (Q : VK), Q v H → te σ H Q) ∧
  ∀ W1 H1, GoE W H W1 H1 → OKW W1 H1 → ∀ W' H' y, OKW W' H' → Go W1 H1 W' H' → Out q W1 H1 W' H' → O.R q W' H' v y → Holds (up y) W' H' σ
theorem Pw.pt {te : TE} {q : List Nat} {O : OT α} {x : α} {up : Sl → Ct} (h : Pw te G q O x up) : Pt te G q O x (fun y => up (.ow O y)) := ⟨h.1, fun W H σ hs => by
  obtain ⟨v, r, f, k⟩ := h.2 W H σ hs
  exact ⟨v, r, f, fun W1 H1 g ok1 W' H' y ok' g' out r => k W1 H1 g ok1 W' H' (.ow O y) ok' g' out r⟩⟩
theorem pt_var {i : Nat} {O : OT α} {x : α} (e : G.s[i]? = some (.ow O x)) (hl : i < tmp) : Pt (tVar i) G [i] O x (fun y => G.set i (.ow O y)) := (pw_var e hl).pt
theorem out_upd {W : Wd} {H : Hp} {a : Addr} {o : HO} {q : List Nat} (w : W a = .ow q) : Out q W H W (upd H a o) := fun b p u wb n e => by
  have m : b ≠ a := fun z => n (by rw [z, w] at wb; cases wb; exact List.prefix_rfl)
  exact ⟨wb, by rw [upd_ne m]; exact e⟩
/-- a list at a place, before it is written -/
theorem Pt.list {te : TE} {q : List Nat} {xs : List α} {up : List α → Ct} (h : Pt te G q (oL K t) xs up) {W : Wd} {H : Hp} {σ : L2.St} (hs : Holds G W H σ) : ∃ a vs, (∀ (Q : VK), Q (.ref a) H → te σ H Q) ∧ W a = .ow q ∧ H a = some (.lst vs) ∧
    ∀ W1 H1, GoE W H W1 H1 → OKW W1 H1 → W1 a = .ow q ∧ H1 a = some (.lst vs) ∧ Paired (t.R W1 H1) vs xs ∧ ∀ vs' ys, Paired (t.R W1 H1) vs' ys → Go W1 H1 W1 (upd H1 a (.lst vs')) ∧ Holds (up ys) W1 (upd H1 a (.lst vs')) σ := by
  obtain ⟨⟨i, r, rfl, ni⟩, h⟩ := h
  obtain ⟨v, ⟨a, vs, rfl, wa, ha, pp⟩, f, k⟩ := h W H σ hs
  refine ⟨a, vs, f, wa, ha, fun W1 H1 g ok1 => ?_⟩
  obtain ⟨h1, w1⟩ := g.own ha wa ni
  refine ⟨w1, h1, L2.Paired.mapP pp fun _ _ r => t.mvE r g, fun vs' ys p2 => ?_⟩
  have mv := upd_mv (H := H1) (o := .lst vs') w1
  exact ⟨upd_go w1, k W1 H1 g ok1 W1 _ ys (upd_ok ok1 w1 trivial) (upd_go w1) (out_upd w1) ⟨a, vs', rfl, w1, upd_same, L2.Paired.mapP p2 fun _ _ r => t.go r mv⟩⟩
/-- xs.append(e) -/
theorem blk_append {te ta : TE} {q : List Nat} {xs : List α} {up : List α → Ct} (pt : Pt te G q (oL K t) xs up) (h : Ev F.X true ta G t fun _ x => xs.length < sizeLine ∧ N (up (xs ++ [x]))) : Blk F (tDrop (tBM K "list" rAppend te (tCons ta tNil))) G N B C := fun W0 H0 W H σ D g hs n _ _ _ ex => by
  obtain ⟨a, vs, f, wa, ha, k⟩ := pt.list hs
  refine f _ ⟨.inl ⟨rfl, _, SqL.of ha⟩, h W H σ _ hs (exo ex g) fun v W1 H1 G1 x ⟨hl, hn⟩ m r => ?_⟩
  obtain ⟨w1, h1, pp, k2⟩ := k W1 H1 (m.kp rfl).1 m.hs.ok
  obtain ⟨g2, hs2⟩ := k2 (vs ++ [v]) (xs ++ [x]) (paired_snoc' pp r)
  exact ⟨a, vs, v, rfl, rfl, h1, by rw [pp.length]; exact hl, n _ _ _ _ hn ((g.trans m.go).trans g2) hs2⟩
end
section
variable {α κ ρ : Type} {F : Fx ρ} {G : Ct} {N B C : Ct → Prop} {t : Ty α} {X : Xw} {ke : Ky κ} {tk : Ty κ} [DecidableEq κ]
/-- a dict at a place, before it is written -/
theorem Pt.dict {te : TE} {q : List Nat} {xs : List (κ × α)} {up : List (κ × α) → Ct} (h : Pt te G q (oD ke t) xs up) {W : Wd} {H : Hp} {σ : L2.St} (hs : Holds G W H σ) : ∃ a ws, (∀ (Q : VK), Q (.ref a) H → te σ H Q) ∧ W a = .ow q ∧ H a = some (.dK ws) ∧
    ∀ W1 H1, GoE W H W1 H1 → OKW W1 H1 → W1 a = .ow q ∧ H1 a = some (.dK ws) ∧ Paired (fun (p : Key × V) (q : κ × α) => p.1 = ke.k q.1 ∧ t.R W1 H1 p.2 q.2) ws xs ∧ ∀ ws' ys, Paired (fun (p : Key × V) (q : κ × α) => p.1 = ke.k q.1 ∧ t.R W1 H1 p.2 q.2) ws' ys → Go W1 H1 W1 (upd H1 a (.dK ws')) ∧ Holds (up ys) W1 (upd H1 a (.dK ws')) σ := by
  obtain ⟨⟨i, r, rfl, ni⟩, h⟩ := h
  obtain ⟨v, ⟨a, ws, rfl, wa, ha, pp⟩, f, k⟩ := h W H σ hs
  refine ⟨a, ws, f, wa, ha, fun W1 H1 g ok1 => ?_⟩
  obtain ⟨h1, w1⟩ := g.own ha wa ni
  refine ⟨w1, h1, L2.Paired.mapP pp fun _ _ r => ⟨r.1, t.mvE r.2 g⟩, fun ws' ys p2 => ?_⟩
  have mv := upd_mv (H := H1) (o := .dK ws') w1
  exact ⟨upd_go w1, k W1 H1 g ok1 W1 _ ys (upd_ok ok1 w1 trivial) (upd_go w1) (out_upd w1) ⟨a, ws', rfl, w1, upd_same, L2.Paired.mapP p2 fun _ _ r => ⟨r.1, t.go r.2 mv⟩⟩⟩
/-- d[k] = v, a place that stands by itself -/
theorem blk_dput {td ty tv : TE} {q : List Nat} {xs : List (κ × α)} {up : List (κ × α) → Ct} (ky : KyT ke tk) (pt : Pt td G q (oD ke t) xs up) (h : Ev F.X true tv G t fun G x => Ev F.X true ty G tk fun _ k => xs.length < sizeLine ∧ N (up (putZ xs k x))) : Blk F (sDPut td ty tv) G N B C := fun W0 H0 W H σ D g hs n _ _ _ ex =>
  h W H σ _ hs (exo ex g) fun v W1 H1 G1 x p m r => by
    obtain rfl : G1 = G := (m.kp rfl).2
    obtain ⟨a, ws, f, wa, ha, k⟩ := pt.dict m.hs
    refine f _ (p W1 H1 σ _ m.hs ((exo ex g).mv m.go) fun y W2 H2 G2 kk ⟨hl, hn⟩ m2 rk => ?_)
    have rk := (ky.ok _ _ _ _).mp rk
    subst rk
    obtain ⟨w2, h2, pp, k2⟩ := k W2 H2 (m2.kp rfl).1 m2.hs.ok
    obtain ⟨g2, hs2⟩ := k2 (putK ws (ke.k kk) v) (putZ xs kk x) (put_paired kk (t.mv r m2.go) pp)
    exact ⟨a, _, rfl, .inl ⟨ws, ke.k kk, h2, rfl, by rw [pp.length]; exact hl, rfl⟩, n _ _ _ _ hn (((g.trans m.go).trans m2.go).trans g2) hs2⟩
def dropZ (xs : List (κ × α)) (k : κ) : List (κ × α) := xs.filter fun p => !decide (p.1 = k)
/-- d.clear() -/
theorem blk_dclear {te : TE} {q : List Nat} {xs : List (κ × α)} {up : List (κ × α) → Ct} (pt : Pt te G q (oD ke t) xs up) (h : N (up [])) : Blk F (tDrop (tBM0 K "dict" rDClear te)) G N B C := fun W0 H0 W H σ D g hs n _ _ _ ex => by
  obtain ⟨a, ws, f, wa, ha, k⟩ := pt.dict hs
  obtain ⟨w1, h1, pp, k2⟩ := k W H .refl hs.ok
  obtain ⟨g2, hs2⟩ := k2 [] [] .nil
  exact f _ ⟨.inr (.inr (.inl ⟨rfl, .inl ⟨_, ha⟩⟩)), a, ws, rfl, rfl, ha, n _ _ _ _ h (g.trans g2) hs2⟩
end
/-! ### a slot told anew -/
section
variable {α β ρ : Type} {F : Fx ρ} {G : Ct} {N B C : Ct → Prop} {t : Ty α} {u : Ty β}
theorem blk_reO {ts : TS} {i : Nat} {O : OT α} {O' : OT β} {x : α} {y : β} (hi : G.s[i]? = some (.ow O x)) (f : ∀ p W H v, O.R p W H v x → O'.R p W H v y) (h : Blk F ts (G.set i (.ow O' y)) N B C) : Blk F ts G N B C := fun W0 H0 W H σ D g hs n bk ct rt ex => by
  obtain ⟨v, e, r⟩ := hs.own hi
  exact h W0 H0 W H σ D g (hs.tell i fun e2 h2 => by rw [e] at h2; cases h2; exact ⟨v, rfl, f [i] W H v r⟩) n bk ct rt ex
theorem Holds.forgets {W : Wd} {H : Hp} {σ : L2.St} (h : Holds G W H σ) : ∀ is, Holds (G.wipe is) W H σ
  | [] => h
  | i :: is => (Holds.forgets h is).forget i
theorem blk_wipe {a : TS} (is : List Nat) (h : Blk F a G (fun G' => N (G'.wipe is)) (fun G' => B (G'.wipe is)) (fun G' => C (G'.wipe is))) : Blk F a G N B C := fun W0 H0 W H σ D g hs n bk ct rt ex =>
  h W0 H0 W H σ D g hs (fun G' W' H' σ' q g' hs' => n _ W' H' σ' q g' (hs'.forgets is)) (fun G' W' H' σ' q g' hs' => bk _ W' H' σ' q g' (hs'.forgets is)) (fun G' W' H' σ' q g' hs' => ct _ W' H' σ' q g' (hs'.forgets is)) rt ex
end
end Y
end

section
set_option maxRecDepth 100000
set_option maxHeartbeats 4000000
/-! A def's entry and end; calls that let nothing out; what is made; writes of items, of attributes. -/
namespace Y
open PySem PySem.Spec PyProof.Rows L2
section
variable {ρ : Type}
theorem entry {W : Wd} {H : Hp} {n : Bool} {vs : List V} {as : List Sl} (k : Nat) (ok : OKW W H) (nl : n = true → ∀ b, W b ≠ .lk) (ha : SlsOk W H vs as) (sm : as.length + k ≤ tmp) : Holds ⟨n, as ++ List.replicate k .un, vs.map some⟩ W H (vs.map some ++ List.replicate k none) := by
  have hl := ha.1
  refine ⟨by simp [hl], ok, fun i s e h1 h2 => ?_, nl, fun i v h => ?_, by simp; exact sm⟩
  · by_cases hi : i < as.length
    · have h1 : (as ++ List.replicate k Sl.un)[i]? = some s := h1
      rw [List.getElem?_append_left hi] at h1
      rw [List.getElem?_append_left (by rw [List.length_map, hl]; exact hi), List.getElem?_map] at h2
      obtain ⟨v, hv, rfl⟩ := Option.map_eq_some_iff.mp h2
      exact .of (ha.2 i v s hv h1)
    · have h1 : (as ++ List.replicate k Sl.un)[i]? = some s := h1
      rw [List.getElem?_append_right (by omega), List.getElem?_replicate] at h1
      split at h1
      · cases h1; trivial
      · cases h1
  · have h : (vs.map some)[i]? = some (some v) := h
    have hi := (List.getElem?_eq_some_iff.mp h).1
    rw [List.getElem?_append_left hi]
    exact h
/-- slots told by less -/
inductive Fgt : List Sl → List Sl → Prop where
  | nil : Fgt [] []
  | un {s : Sl} {os ss : List Sl} : Fgt os ss → Fgt (.un :: os) (s :: ss)
  | same {s : Sl} {os ss : List Sl} : Fgt os ss → Fgt (s :: os) (s :: ss)
theorem Fgt.refl : ∀ ss, Fgt ss ss
  | [] => .nil
  | _ :: ss => .same (Fgt.refl ss)
theorem Fgt.len {os ss : List Sl} (h : Fgt os ss) : os.length = ss.length := by
  induction h with
  | nil => rfl
  | un _ ih => simp [ih]
  | same _ ih => simp [ih]
theorem Fgt.get {os ss : List Sl} (h : Fgt os ss) : ∀ {k : Nat} {s : Sl}, os[k]? = some s → s = .un ∨ ss[k]? = some s := by
  induction h with
  | nil => intro k s h; simp at h
  | un _ ih => intro k s h; cases k with
    | zero => cases h; exact .inl rfl
    | succ k => exact ih (k := k) h
  | same _ ih => intro k s h; cases k with
    | zero => exact .inr h
    | succ k => exact ih (k := k) h
/-- how a def may end -/
def Fin {ρ : Type _} (vs : List V) (n : Nat) (P : List Sl → ρ → Prop) (G : Ct) (x : ρ) : Prop := G.p = vs.map some ∧ ∃ os ss rest, G.s = ss ++ rest ∧ ss.length = n ∧ Fgt os ss ∧ P os x
/-- a def's body; the parameters stay where they are -/
theorem zrun {c : CT ρ} {E : XK} {vs : List V} {H : Hp} {Q : VK} {t : TS} {N : List Str} (h : spZ c vs H Q E)
    (b : ∀ as P XP, c.ct as P XP → vs.length = as.length → ∃ k, N.length = as.length + k ∧ N.length ≤ tmp ∧ Blk ⟨c.r, Fin vs as.length P, ⟨fun e d _ H => E e d H, fun G e => Fin vs as.length XP G e⟩⟩ t ⟨c.n, as ++ List.replicate k .un, vs.map some⟩
      (fun G => ∃ x, Fin vs as.length P G x ∧ ∀ W H, c.r.R W H .non x) (fun _ => False) (fun _ => False)) :
    t { nx := fun _ H' => Q .non H', rt := Q } (L2.start N vs) H := by
  obtain ⟨W, as, P, XP, ok, nl, ha, hc, q, ex⟩ := h
  obtain ⟨k, hk, hs, hb⟩ := b as P XP hc ha.1
  have e : L2.start N vs = vs.map some ++ List.replicate k none := by
    unfold L2.start
    rw [hk, ha.1, Nat.add_sub_cancel_left]
  have back : ∀ {G' : Ct} {W' H' σ'} {os ss rest : List Sl}, G'.p = vs.map some → G'.s = ss ++ rest → ss.length = as.length → Fgt os ss → Holds G' W' H' σ' → SlsOk W' H' vs os := fun {G' W' H' σ' os ss rest} ep es hl fg hs => ⟨by rw [ha.1, fg.len, hl], fun i v s h1 h2 => by
    have hi : i < ss.length := by rw [hl, ← ha.1]; exact (List.getElem?_eq_some_iff.mp h1).1
    rcases fg.get h2 with rfl | h2
    · trivial
    · have hp := hs.pn i v (by rw [ep, List.getElem?_map, h1]; rfl)
      exact (hs.sl i s _ (by rw [es, List.getElem?_append_left hi]; exact h2) hp).at⟩
  rw [e]
  refine hb W H W H _ _ .refl (entry k ok nl ha (by rw [← hk]; exact hs)) (fun G' W' H' σ' ⟨x, ⟨ep, os, ss, rest, es, hl, fg, p⟩, r⟩ g hs => q .non W' H' _ x p g hs.ok (back ep es hl fg hs) (r W' H')) (fun _ _ _ _ z => z.elim) (fun _ _ _ _ z => z.elim)
    (fun v G' W' H' σ' x ⟨ep, os, ss, rest, es, hl, fg, p⟩ g hs r => q v W' H' _ x p g hs.ok (back ep es hl fg hs) r) fun e d G' W' H' σ' ⟨ep, os, ss, rest, es, hl, fg, p⟩ g hs r => ex e d W' H' _ p g hs.ok (back ep es hl fg hs) r
theorem fin0 {ρ : Type _} {vs : List V} {n : Nat} {G : Ct} {P : List Sl → ρ → Prop} {x : ρ} (ss rest : List Sl) (h : ∀ os, P os x) (e1 : G.p = vs.map some := by rfl) (e2 : G.s = ss ++ rest := by rfl) (e3 : ss.length = n := by rfl) : Fin vs n P G x := ⟨e1, ss, ss, rest, e2, e3, .refl _, h _⟩
theorem zlen {c : CT ρ} {vs : List V} {H : Hp} {Q : VK} {E : XK} {ps : List Str} (hl : ∀ as P XP, c.ct as P XP → as.length = ps.length) (h : spZ c vs H Q E) : vs.length = ps.length := by
  obtain ⟨W, as, P, XP, _, _, ha, hc, _, _⟩ := h
  rw [ha.1]
  exact hl as P XP hc
theorem len1 {α : Type} {vs : List α} (h : vs.length = 1) : ∃ a, vs = [a] := match vs, h with | [a], _ => ⟨a, rfl⟩
theorem len2 {α : Type} {vs : List α} (h : vs.length = 2) : ∃ a b, vs = [a, b] := match vs, h with | [a, b], _ => ⟨a, b, rfl⟩
theorem len3 {α : Type} {vs : List α} (h : vs.length = 3) : ∃ a b c, vs = [a, b, c] := match vs, h with | [a, b, c], _ => ⟨a, b, c, rfl⟩
end
/-! ### calls that let nothing out -/
section
variable {ρ α β : Type} {c : CT ρ} {X : Xw} {k : Bool} {G : Ct} {t : Ty α} {u : Ty β}
def Cp0 (c : CT ρ) (G : Ct) (P : Ct → ρ → Prop) (as : List Ar) : Prop := (c.n = true → G.n = true) ∧ (∀ a ∈ as, a.plain) ∧ c.ct (as.map Ar.sl) (fun _ x => P G x) (fun _ _ => False)
def Co0 (c : CT ρ) (G : Ct) (P : Ct → ρ → Prop) (as : List Ar) : Prop := (c.n = true → G.n = true) ∧ as.length ≤ tmp ∧ (∀ a ∈ as, a.simple) ∧ (as.filterMap Ar.owS).Nodup ∧ (∀ a ∈ as, ∀ i, a.vwS = some i → i ∉ as.filterMap Ar.owS) ∧
  ∃ P', ((∀ a ∈ as, a.vwS = none) ∨ (FlatR c.r ∧ (∀ os x, P' os x → ∀ s ∈ os, s.flat))) ∧ c.ct (as.map Ar.sl) P' (fun _ _ => False) ∧ (∀ os x, P' os x → os.length = as.length → P (putA G as os) x)
theorem Cp0.sp {P : Ct → ρ → Prop} {as : List Ar} {vs : List V} {W : Wd} {H : Hp} {σ : L2.St} {Q : VK} {E : XK} (h : Cp0 c G P as) (hs : Holds G W H σ) (ha : ArgsOk σ W H vs as) (q : ∀ v W' H' x, P G x → Mo k σ G W H G W' H' → c.r.R W' H' v x → Q v H') : spZ c vs H Q E := by
  obtain ⟨hn, pl, hc⟩ := h
  exact sp_plain hs hn ha pl hc (fun v W' H' os x p g ok r => q v W' H' x p (.goE hs g ok) r) fun e d W' H' os p => p.elim
theorem ev_call0 {E : XK} {ta : TA} {P : Ct → ρ → Prop} (h : Ea X k ta G fun G as => Cp0 c G P as) : EvR X k (tCall (spZ c) [] E ta) G c.r P := fun W H σ Q hs ex q =>
  h W H σ _ hs ex fun vs W1 H1 G1 as hc m ha => by
    rw [List.append_nil]
    exact hc.sp (k := k) m.hs ha fun v W' H' x p m2 r => q v W' H' G1 x p (m.trans m2) r
theorem ev_meth0 {E : XK} {C : Addr} {m : Str} {to : TE} {ta : TA} {P : Ct → ρ → Prop} (hi : Inst C m t) (h : Ev X k to G t fun G x => Ea X k ta G fun G as => Cp0 c G P (.sh t x :: as)) : EvR X k (tMeth C m (spZ c) [] E to ta) G c.r P := fun W H σ Q hs ex q =>
  h W H σ _ hs ex fun v W1 H1 G1 x p m r => by
    obtain ⟨a, dx, fs, rfl, ha, hl⟩ := hi W1 H1 v x m.hs.ok r
    refine ⟨a, dx, fs, rfl, ha, hl, p W1 H1 σ _ m.hs (ex.mv m.go) fun vs W2 H2 G2 as hc m2 ha2 => ?_⟩
    rw [List.append_nil]
    exact hc.sp (k := k) m2.hs (.cons (t.mv r m2.go) ha2) fun v W' H' x p m3 r => q v W' H' G2 x p ((m.trans m2).trans m3) r
end
end Y
end

section
set_option maxRecDepth 100000
set_option maxHeartbeats 4000000
/-! Writes of items and of attributes; lists of new lists; what is made; a method of what hangs in an attribute. -/
namespace Y
open PySem PySem.Spec PyProof.Rows L2
section
variable {α ρ : Type} {F : Fx ρ} {G : Ct} {N B C : Ct → Prop} {t : Ty α} {X : Xw} {K : PySem.W.Frag}
end

/-! ### attributes -/
def putS (f : Str) (s : Sl) : List (Str × Sl) → List (Str × Sl)
  | [] => [(f, s)]
  | (g, x) :: r => if g = f then (g, s) :: r else (g, x) :: putS f s r
/-- where it stands, or will stand -/
def ixF (f : Str) : List (Str × Sl) → Nat
  | [] => 0
  | (g, _) :: r => if g = f then 0 else ixF f r + 1
/-- what is new gets its place at a path -/
def seatP (W : Wd) (q : List Nat) : Wd := fun b => match W b with
  | .ow (j :: r) => if j = tmp then .ow (q ++ r) else .ow (j :: r)
  | w => w
section
variable {W : Wd} {H : Hp} {q : List Nat}
end
section
variable {α ρ : Type} {F : Fx ρ} {G : Ct} {N B C : Ct → Prop} {t : Ty α} {X : Xw} {K : PySem.W.Frag} {D : Addr} {fl : List (Str × Sl)}
end

/-! ### what is made -/
def mMake : Mp where
  f p := match p with
    | [] => .hd
    | i :: r => if i = tmp then .to (0 :: r) else .hd
  g p' := match p' with
    | [] => none
    | i :: r => if i = 0 then some (tmp :: r) else none
  fg p p' h := by
    cases p with
    | nil => cases h
    | cons i r =>
      simp only at h
      split at h
      · rename_i e
        cases h
        simp [e]
      · cases h
  gf p p' h := by
    cases p' with
    | nil => cases h
    | cons i r =>
      simp only at h
      split at h
      · rename_i e
        cases h
        simp [e]
      · cases h
  nt r := by show (if tmp = 0 then _ else none) = none; rw [if_neg (by decide)]
section
variable {α ρ : Type} {G : Ct} {t : Ty α} {X : Xw} {K : PySem.W.Frag}
end
/-! ### a method of what hangs at a place -/
def mAt (q : List Nat) : Mp where
  f p := if q <+: p then .to (0 :: p.drop q.length) else .hd
  g p' := match p' with
    | [] => none
    | i :: r => if i = 0 then some (q ++ r) else none
  fg p p' h := by
    split at h
    · rename_i e
      cases h
      obtain ⟨r, rfl⟩ := e
      simp
    · cases h
  gf p p' h := by
    cases p' with
    | nil => cases h
    | cons i r =>
      simp only at h
      split at h
      · rename_i e
        cases h
        rw [if_pos ⟨r, rfl⟩, List.drop_left, e]
      · cases h
  nt r := by show (if tmp = 0 then _ else none) = none; rw [if_neg (by decide)]
section
variable {α ρ : Type} {G : Ct} {t : Ty α} {X : Xw} {K : PySem.W.Frag} {c : CT ρ}
end
end Y
end

section
set_option maxRecDepth 100000
set_option maxHeartbeats 4000000
/-! Attributes that are read; lists of new lists; a list times an int; calls of a min, a xor. -/
namespace Y
open PySem PySem.Spec PyProof.Rows L2
section
variable {α β ρ : Type} {F : Fx ρ} {G : Ct} {N B C : Ct → Prop} {t : Ty α} {X : Xw} {K : PySem.W.Frag} {k : Bool}
/-- one's own told under other paths -/
theorem remap_ok {W W' : Wd} {H : Hp} (ok : OKW W H) (h : ∀ b, W' b = W b ∨ ∃ p p', W b = .ow p ∧ W' b = .ow p') : OKW W' H := by
  have ne : ∀ {b : Addr} {m : Md}, W' b = m → (∀ q, m ≠ .ow q) → W b = m := fun {b m} e n => by
    rcases h b with e1 | ⟨p, p', e1, e2⟩
    · rw [← e1]; exact e
    · rw [e2] at e; exact absurd e.symm (n _)
  refine ⟨fun b φ e => ok.st b φ (ne e fun _ z => by cases z), fun b e => ok.al b fun z => ?_, fun b p od u w e => ?_, fun b e => ok.lk b (ne e fun _ z => by cases z), fun b od u w e => ok.fo b od u (ne w fun _ z => by cases z) e, fun b vs e => ?_⟩
  · rcases h b with e1 | ⟨p, p', e1, e2⟩
    · exact e (e1.trans z)
    · rw [e1] at z; cases z
  · rcases h b with e1 | ⟨p1, p', e1, e2⟩
    · exact ok.nf b p od u (e1.symm.trans w) e
    · exact ok.nf b p1 od u e1 e
  · have := ok.tp b vs e
    rcases h b with e1 | ⟨p, p', e1, e2⟩
    · exact e1.trans this
    · rw [e1] at this; cases this
theorem remap_mv {W W' : Wd} {H : Hp} (h : ∀ b, W' b = W b ∨ ∃ p p', W b = .ow p ∧ W' b = .ow p') : Mv W H W' H := by
  refine ⟨fun b o r => ?_, fun b vs w e => ?_, fun b φ e => ?_⟩
  · rcases h b with e1 | ⟨p, p', e1, e2⟩
    · unfold RdW; rw [e1]; exact r
    · exact absurd e1 r.no
  · rcases h b with e1 | ⟨p, p', e1, e2⟩
    · exact ⟨e1.trans w, e⟩
    · rw [e1] at w; cases w
  · rcases h b with e1 | ⟨p, p', e1, e2⟩
    · exact e1.trans e
    · rw [e1] at e; cases e
open Classical in
/-- what grew gets its place -/
noncomputable def grownW (W : Wd) (S : Addr → Prop) : Wd := fun b => if S b then (match W b with
  | .ow (_ :: r) => .ow (tmp :: r)
  | w => w) else W b
end
end Y
end

section
set_option maxRecDepth 100000
set_option maxHeartbeats 4000000
namespace L2
open PySem PySem.Spec PyProof.Rows
end L2
end

section
set_option maxRecDepth 100000
set_option maxHeartbeats 4000000
namespace KK
open PySem PySem.Spec PyProof.Rows L2 Y
/-! ### flows: their types -/
structure FlowC (K : PySem.W.Frag) (C : Addr) : Prop where
  cl : Cls K C
  nh : NoAttr K C "_heads"
  nr : NoAttr K C "_rooms"
  nl : NoAttr K C "_leaving"
abbrev flF (K : PySem.W.Frag) (hs rs : List Int) (ls : List (List Int)) : List (Str × Sl) := [("_heads", .ow (oL K tInt) hs), ("_rooms", .ow (oL K tInt) rs), ("_leaving", .ow (oLO K (oL K tInt)) ls)]
abbrev oFlow (K : PySem.W.Frag) (C : Addr) (hs rs : List Int) (ls : List (List Int)) : OT Unit := oIns C (flF K hs rs ls)
abbrev tFlow (K : PySem.W.Frag) (C : Addr) (hs rs : List Int) (ls : List (List Int)) : Y.Ty Unit := tIns C (flF K hs rs ls)
def g0 (xs : List Int) (i : Int) : Int := xs.getD i.toNat 0
def gl (ls : List (List Int)) (i : Int) : List Int := ls.getD i.toNat []
theorem ixN_in {n : Nat} {i : Int} (h0 : 0 ≤ i) (h1 : i < n) : ixN n i = some i.toNat := by
  unfold ixN
  rw [if_pos h0, if_pos h1]
section
variable {P : Program} {w : World} {K : PySem.W.Frag} {mg : Str → Option Value} {base : Heap} {C : Addr}
abbrev ctFInit (K : PySem.W.Frag) (C : Addr) : Y.CT Unit := ⟨false, .sh tNon, fun as P _ => ∃ n : Int, as = [.ow (oIns C []) (), .sh tInt n] ∧ (0 ≤ n ∧ n < 1000) ∧ ∀ s, P [.ow (oFlow K C [] [] (List.replicate n.toNat [])) (), s] ()⟩
abbrev ctLink (K : PySem.W.Frag) (C : Addr) : Y.CT Int := ⟨false, .sh tInt, fun as P _ => ∃ (hs rs : List Int) (ls : List (List Int)) (a b r : Int), as = [.ow (oFlow K C hs rs ls) (), .sh tInt a, .sh tInt b, .sh tInt r] ∧ ((0 ≤ a ∧ a < ls.length) ∧ (0 ≤ b ∧ b < ls.length) ∧ hs.length < 10000 ∧ rs.length < 10000 ∧ (∀ l ∈ ls, l.length < 10000)) ∧
  ∀ o1 o2 o3, P [.ow (oFlow K C (hs ++ [b] ++ [a]) (rs ++ [r] ++ [0]) ((ls.set a.toNat (gl ls a ++ [(hs.length : Int)])).set b.toNat (gl (ls.set a.toNat (gl ls a ++ [(hs.length : Int)])) b ++ [(hs.length : Int) + 1]))) (), o1, o2, o3] hs.length⟩
abbrev ctSent (K : PySem.W.Frag) (C : Addr) : Y.CT Int := ⟨false, .sh tInt, fun as P _ => ∃ (hs rs : List Int) (ls : List (List Int)) (a : Int), as = [.sh (tFlow K C hs rs ls) (), .sh tInt a] ∧ (0 ≤ a ∧ a + 1 < rs.length) ∧ ∀ os, P os (g0 rs (a + 1))⟩
end
end KK
end

section
set_option maxRecDepth 100000
set_option maxHeartbeats 4000000
namespace KK
open PySem PySem.Spec PyProof.Rows L2 Y
structure Net (n : Nat) (hs rs : List Int) (ls : List (List Int)) : Prop where
  ln : ls.length = n
  lr : rs.length = hs.length
  hb : ∀ a : Int, 0 ≤ a → a < hs.length → 0 ≤ g0 hs a ∧ g0 hs a < n
  ab : ∀ u : Int, 0 ≤ u → u < n → ∀ a ∈ gl ls u, 0 ≤ a ∧ a < hs.length
  sm : n ≤ 1000
  sh : hs.length ≤ 20000
  sl : ∀ u : Int, 0 ≤ u → u < n → (gl ls u).length ≤ 20000
/-- an arc with room that climbs one level -/
def Cl (hs rs lv : List Int) (u a : Int) : Prop := 0 < g0 rs a ∧ g0 lv (g0 hs a) = g0 lv u + 1
/-- what climbing tells -/
structure ClimbR (hs rs lv td : List Int) (ls : List (List Int)) (u : Int) (td' : List Int) (r : Option Int) (j : Int) : Prop where
  ge : g0 td u ≤ j
  tq : td' = td.set u.toNat j
  no : ∀ k, g0 td u ≤ k → k < j → k < (gl ls u).length ∧ ¬ Cl hs rs lv u (g0 (gl ls u) k)
  so : ∀ a, r = some a → j < (gl ls u).length ∧ a = g0 (gl ls u) j ∧ Cl hs rs lv u a
  nn : r = none → (gl ls u).length ≤ j
abbrev ctClimb (K : PySem.W.Frag) (C : Addr) : Y.CT (Option Int) := ⟨false, .sh (tOpt tInt), fun as P _ => ∃ (n : Nat) (hs rs lv td : List Int) (ls : List (List Int)) (u : Int), as = [.sh (tFlow K C hs rs ls) (), .sh (tLs K tInt) lv, .ow (oL K tInt) td, .sh tInt u] ∧
  (Net n hs rs ls ∧ lv.length = n ∧ td.length = n ∧ 0 ≤ u ∧ u < n ∧ 0 ≤ g0 td u) ∧ ∀ td' r j, ClimbR hs rs lv td ls u td' r j → P [.un, .un, .ow (oL K tInt) td', .un] r⟩
section
variable {P : Program} {w : World} {K : PySem.W.Frag} {mg : Str → Option Value} {base : Heap} {C : Addr}
end
end KK
end

section
set_option maxRecDepth 100000
set_option maxHeartbeats 4000000
/-! One's own handed back; a shared receiver with one's own as arguments; truth. -/
namespace Y
open PySem PySem.Spec PyProof.Rows L2
section
variable {α β ρ : Type} {F : Fx ρ} {G : Ct} {N B C : Ct → Prop} {t : Ty α} {X : Xw} {K : PySem.W.Frag} {k : Bool} {c : CT ρ}
/-- what hangs in a slot hangs nowhere -/
def unseat (W : Wd) (i : Nat) : Wd := fun b => match W b with
  | .ow (j :: r) => if j = i then .ow (tmp :: r) else .ow (j :: r)
  | w => w
theorem unseat_at {W : Wd} {i : Nat} {b : Addr} {r : List Nat} (h : W b = .ow (i :: r)) : unseat W i b = .ow (tmp :: r) := by unfold unseat; rw [h]; simp
theorem unseat_ne {W : Wd} {i : Nat} {b : Addr} (h : ∀ r, W b ≠ .ow (i :: r)) : unseat W i b = W b := by
  unfold unseat
  cases e : W b with
  | ow p =>
    cases p with
    | nil => rfl
    | cons j r =>
      by_cases n : j = i
      · subst n; exact absurd e (h r)
      · simp [n]
  | _ => rfl
theorem unseat_re (W : Wd) (i : Nat) (b : Addr) : unseat W i b = W b ∨ ∃ p p', W b = .ow p ∧ unseat W i b = .ow p' := by
  by_cases h : ∃ r, W b = .ow (i :: r)
  · obtain ⟨r, e⟩ := h
    exact .inr ⟨_, _, e, unseat_at e⟩
  · exact .inl (unseat_ne fun r e => h ⟨r, e⟩)
/-- a thing of one's own is handed back -/
theorem ev_give {i : Nat} {O : OT α} {x : α} {P : Ct → α → Prop} (hi : G.s[i]? = some (.ow O x)) (p : P (G.set i .un) x) : EvR X false (tVar i) G (.ow O) P := fun W H σ Q hs ex q => by
  obtain ⟨v, e1, r⟩ := hs.own hi
  have ni := hs.lt hi
  have mv : Mv W H (unseat W i) H := remap_mv (unseat_re W i)
  have go : Go W H (unseat W i) H := by
    refine ⟨fun b o h w => ⟨h, unseat_ne fun r e => ?_⟩, fun b φ h => ?_, fun b h => ?_⟩
    · rcases w with w | w | w <;> (rw [w] at e; cases e)
    · rw [unseat_ne fun r e => by rw [h] at e; cases e]; exact h
    · rcases unseat_re W i b with e | ⟨p, p', e, e2⟩
      · exact e.symm.trans h
      · rw [e2] at h; cases h
  refine ⟨v, e1, q v (unseat W i) H (G.set i .un) x p ⟨go, ?_, fun z => nomatch z⟩ (O.mv (p' := [tmp]) r (fun b o q w e => ⟨unseat_at w, e⟩) mv)⟩
  refine ⟨by show σ.length = (G.s.set i .un).length; rw [List.length_set]; exact hs.len, remap_ok hs.ok (unseat_re W i), fun j s e (h1 : (G.s.set i .un)[j]? = some s) h2 => ?_, fun n b w => hs.nl n b (go.l b w), hs.pn, by show (G.s.set i .un).length ≤ tmp; rw [List.length_set]; exact hs.sm⟩
  rcases set_key h1 with ⟨rfl, rfl⟩ | ⟨n1, g1⟩
  · trivial
  · refine (hs.sl j s e g1 h2).mv (fun b o q w e => ⟨?_, e⟩) mv
    rw [unseat_ne fun r z => by rw [w] at z; exact n1 (List.cons.inj (Md.ow.inj z)).1]
    exact w
/-- truth -/
def TrT (K : PySem.W.Frag) (t : Ty α) (f : α → Bool) : Prop := ∀ W H v x, OKW W H → t.R W H v x → TruV K v H (f x)
theorem et_truth {f : α → Bool} {te : TE} {P : Ct → Bool → Prop} (tr : TrT K t f) (h : Ev X k te G t fun G x => P G (f x)) : Et X k (fun σ H Q => te σ H fun x H' => ∃ k, TruV K x H' k ∧ Q k H') G P := fun W H σ Q hs ex q =>
  h W H σ _ hs ex fun v W' H' G' x p m r => ⟨f x, tr W' H' v x m.hs.ok r, q _ W' H' G' p m⟩
theorem all1 {A : Type _} {p : A → Prop} {a : A} (h : p a) : ∀ x ∈ [a], p x := fun x hx => by rw [List.mem_singleton] at hx; rw [hx]; exact h
theorem allc {A : Type _} {p : A → Prop} {a : A} {l : List A} (h : p a) (hl : ∀ x ∈ l, p x) : ∀ x ∈ a :: l, p x := fun x hx => by
  rcases List.mem_cons.mp hx with rfl | hx
  · exact h
  · exact hl x hx
end
end Y
namespace Y
open PySem PySem.Spec PyProof.Rows L2
section
variable {α : Type} {t : Ty α} {K : PySem.W.Frag}
theorem trL : TrT K (tLs K t) fun xs => !xs.isEmpty := by
  rintro W H v x ok ⟨a, vs, rfl, sq, p⟩
  have e : (!x.isEmpty) = (!vs.isEmpty) := by cases p <;> rfl
  show TruV K (.ref a) H (!x.isEmpty)
  rw [e]
  exact .inl ⟨vs, SqL.of sq.2, rfl⟩
end
end Y
namespace Y
open PySem PySem.Spec PyProof.Rows L2
section
variable {α : Type} {t : Ty α} {K : PySem.W.Frag}
theorem ro_notO (nn : ∀ W H v x, t.R W H v x → v ≠ .non) : RO (fun x y H Q => y = .non ∧ Q (.bl (!decide (x = .non))) H) (tOpt t) tNon (.sh tBl) (fun x _ P => P x.isSome) := by
  rintro W H v w x y Q P ok r rfl c q
  refine ⟨rfl, q _ W H _ c .refl ok ?_⟩
  cases x with
  | none =>
    have r : v = .non := r
    subst r
    rfl
  | some x =>
    have := nn W H v x r
    show V.bl (!decide (v = .non)) = .bl true
    rw [decide_eq_false this]
    rfl
theorem ro_isO (nn : ∀ W H v x, t.R W H v x → v ≠ .non) : RO (fun x y H Q => y = .non ∧ Q (.bl (decide (x = .non))) H) (tOpt t) tNon (.sh tBl) (fun x _ P => P (!x.isSome)) := by
  rintro W H v w x y Q P ok r rfl c q
  refine ⟨rfl, q _ W H _ c .refl ok ?_⟩
  cases x with
  | none =>
    have r : v = .non := r
    subst r
    rfl
  | some x =>
    have := nn W H v x r
    show V.bl (decide (v = .non)) = .bl false
    rw [decide_eq_false this]
end
end Y
namespace Y
open PySem PySem.Spec PyProof.Rows L2
section
variable {α ρ : Type} {F : Fx ρ} {G : Ct} {N B C : Ct → Prop} {t : Ty α} {K : PySem.W.Frag}
end
end Y
end

section
set_option maxRecDepth 100000
set_option maxHeartbeats 4000000
namespace KK
open PySem PySem.Spec PyProof.Rows L2 Y
/-- arcs stand in pairs -/
structure Prs (n : Nat) (hs : List Int) (ls : List (List Int)) : Prop where
  xb : ∀ a : Int, 0 ≤ a → a < hs.length → 0 ≤ Builtin.bitXor a 1 ∧ Builtin.bitXor a 1 < hs.length
  tl : ∀ u : Int, 0 ≤ u → u < n → ∀ a ∈ gl ls u, g0 hs (Builtin.bitXor a 1) = u
  mm : ∀ a : Int, 0 ≤ a → a < hs.length → a ∈ gl ls (g0 hs (Builtin.bitXor a 1))
  nd : ∀ u : Int, 0 ≤ u → u < n → (gl ls u).Nodup
def len (ls : List (List Int)) (u : Int) : Int := (gl ls u).length
def arc (ls : List (List Int)) (u k : Int) : Int := g0 (gl ls u) k
/-- what has been tried leads nowhere -/
structure Dead (n : Nat) (hs rs lv : List Int) (ls : List (List Int)) (t : Int) (td : List Int) : Prop where
  ge : ∀ u : Int, 0 ≤ u → u < n → 0 ≤ g0 td u
  no : ∀ u : Int, 0 ≤ u → u < n → ∀ k, 0 ≤ k → k < g0 td u → k < len ls u ∧ (Cl hs rs lv u (arc ls u k) → g0 hs (arc ls u k) ≠ t ∧ len ls (g0 hs (arc ls u k)) ≤ g0 td (g0 hs (arc ls u k)))
/-- the arcs from the source to a node, each the one that is tried -/
inductive PathTo (n : Nat) (hs rs lv : List Int) (ls : List (List Int)) (td : List Int) (s : Int) : List Int → Int → Prop where
  | nil : PathTo n hs rs lv ls td s [] s
  | snoc {p : List Int} {u : Int} : PathTo n hs rs lv ls td s p u → 0 ≤ u → u < n → 0 ≤ g0 td u → g0 td u < len ls u → Cl hs rs lv u (arc ls u (g0 td u)) → PathTo n hs rs lv ls td s (p ++ [arc ls u (g0 td u)]) (g0 hs (arc ls u (g0 td u)))
section
variable {n : Nat} {hs rs lv td td' : List Int} {ls : List (List Int)} {s t : Int}
end
/-! what is left to be tried -/
def rest (n : Nat) (ls : List (List Int)) (td : List Int) : Nat := ((List.range n).map fun (u : Nat) => (len ls (u : Int) - g0 td (u : Int)).toNat).sum
/-- a path, or that there is none -/
structure PathR (n : Nat) (hs rs lv : List Int) (ls : List (List Int)) (s t : Int) (td' r : List Int) : Prop where
  tl : td'.length = n
  dead : Dead n hs rs lv ls t td'
  alt : (r = [] ∧ len ls s ≤ g0 td' s) ∨ (r ≠ [] ∧ PathTo n hs rs lv ls td' s r t)
abbrev ctPath (K : PySem.W.Frag) (C : Addr) : Y.CT (List Int) := ⟨false, .ow (oL K tInt), fun as P _ => ∃ (n : Nat) (hs rs lv td : List Int) (ls : List (List Int)) (s t : Int), as = [.sh (tFlow K C hs rs ls) (), .sh (tLs K tInt) lv, .ow (oL K tInt) td, .sh tInt s, .sh tInt t] ∧
  (Net n hs rs ls ∧ Prs n hs ls ∧ lv.length = n ∧ td.length = n ∧ (0 ≤ s ∧ s < n) ∧ (0 ≤ t ∧ t < n) ∧ s ≠ t ∧ g0 lv s = 0 ∧ (∀ u : Int, 0 ≤ u → u < n → g0 lv u ≤ n) ∧ Dead n hs rs lv ls t td) ∧ ∀ td' r, PathR n hs rs lv ls s t td' r → P [.un, .un, .ow (oL K tInt) td', .un, .un] r⟩

section
variable {n : Nat} {hs rs lv td : List Int} {ls : List (List Int)} {t : Int}
end
section
variable {P : Program} {w : World} {K : PySem.W.Frag} {mg : Str → Option Value} {base : Heap} {C : Addr}
end
end KK
end

section
set_option maxRecDepth 100000
set_option maxHeartbeats 4000000
namespace KK
open PySem PySem.Spec PyProof.Rows L2 Y
/-- levels -/
structure Lev (n : Nat) (hs rs : List Int) (ls : List (List Int)) (ss lv : List Int) : Prop where
  ln : lv.length = n
  ge : ∀ u : Int, 0 ≤ u → u < n → -1 ≤ g0 lv u
  st : ∀ s ∈ ss, g0 lv s = 0
  z : ∀ u : Int, 0 ≤ u → u < n → g0 lv u = 0 → u ∈ ss
  cl : ∀ u : Int, 0 ≤ u → u < n → 0 ≤ g0 lv u → ∀ a ∈ gl ls u, 0 < g0 rs a → 0 ≤ g0 lv (g0 hs a)
  pr : ∀ v : Int, 0 ≤ v → v < n → 0 < g0 lv v → ∃ u : Int, 0 ≤ u ∧ u < n ∧ ∃ a ∈ gl ls u, 0 < g0 rs a ∧ g0 hs a = v ∧ g0 lv v = g0 lv u + 1
  le : ∀ u : Int, 0 ≤ u → u < n → g0 lv u ≤ n
abbrev ctLevels (K : PySem.W.Frag) (C : Addr) : Y.CT (List Int) := ⟨false, .ow (oL K tInt), fun as P _ => ∃ (n : Nat) (hs rs : List Int) (ls : List (List Int)) (st : List Int), as = [.sh (tFlow K C hs rs ls) (), .sh (tLs K tInt) st] ∧
  (Net n hs rs ls ∧ ∀ s ∈ st, 0 ≤ s ∧ s < n) ∧ ∀ lv, Lev n hs rs ls st lv → P [.un, .un] lv⟩
def unl (n : Nat) (lv : List Int) : Nat := ((List.range n).map fun (u : Nat) => if g0 lv (u : Int) < 0 then 1 else 0).sum
/-- between two levels -/
structure OutL (n : Nat) (hs rs : List Int) (ls : List (List Int)) (ss lv : List Int) (d : Int) (bo : List Int) : Prop where
  ln : lv.length = n
  ge : ∀ u : Int, 0 ≤ u → u < n → -1 ≤ g0 lv u
  d0 : 0 ≤ d
  sr : ∀ s ∈ ss, 0 ≤ s ∧ s < n
  st : ∀ s ∈ ss, g0 lv s = 0
  z : ∀ u : Int, 0 ≤ u → u < n → g0 lv u = 0 → u ∈ ss
  le : ∀ u : Int, 0 ≤ u → u < n → g0 lv u ≤ d
  bd : ∀ u : Int, 0 ≤ u → u < n → g0 lv u = d → u ∈ bo
  br : ∀ u ∈ bo, 0 ≤ u ∧ u < n ∧ g0 lv u = d
  cl : ∀ u : Int, 0 ≤ u → u < n → 0 ≤ g0 lv u → g0 lv u < d → ∀ a ∈ gl ls u, 0 < g0 rs a → 0 ≤ g0 lv (g0 hs a)
  pr : ∀ v : Int, 0 ≤ v → v < n → 0 < g0 lv v → ∃ u : Int, 0 ≤ u ∧ u < n ∧ ∃ a ∈ gl ls u, 0 < g0 rs a ∧ g0 hs a = v ∧ g0 lv v = g0 lv u + 1
  nn : bo ≠ [] → d + unl n lv ≤ n
  lm : ∀ u : Int, 0 ≤ u → u < n → g0 lv u ≤ n
/-- within a level: lv0 is what it was at its start -/
structure Bfs (n : Nat) (hs rs : List Int) (ls : List (List Int)) (d : Int) (bo lv0 lv fd : List Int) (done : Int → Int → Prop) : Prop where
  ln : lv.length = n
  old : ∀ v : Int, 0 ≤ v → v < n → 0 ≤ g0 lv0 v → g0 lv v = g0 lv0 v
  new : ∀ v : Int, 0 ≤ v → v < n → g0 lv0 v < 0 → (g0 lv v = -1 ∧ v ∉ fd) ∨ (g0 lv v = d + 1 ∧ v ∈ fd)
  fr : ∀ v ∈ fd, 0 ≤ v ∧ v < n ∧ g0 lv v = d + 1 ∧ g0 lv0 v < 0 ∧ ∃ u ∈ bo, ∃ a ∈ gl ls u, 0 < g0 rs a ∧ g0 hs a = v
  dn : ∀ u a, done u a → 0 < g0 rs a → 0 ≤ g0 lv (g0 hs a)
  un : unl n lv + fd.length ≤ unl n lv0
section
variable {n : Nat} {hs rs st lv lv0 fd bd : List Int} {ls : List (List Int)} {d : Int} {done done' : Int → Int → Prop}
end

theorem ev_neg {X : Xw} {k : Bool} {G : Ct} {te : TE} {P : Ct → Int → Prop} (h : Ev X k te G tInt fun G x => P G (-x)) : Ev X k (tUn (rU fun i => .int (-i)) te) G tInt P := fun W H σ Q hs ex q => h W H σ _ hs ex fun v W' H' G' x p m r => ⟨x, r, q _ W' H' G' _ p m rfl⟩
section
variable {P : Program} {w : World} {K : PySem.W.Frag} {mg : Str → Option Value} {base : Heap} {C : Addr}
end
end KK
end

section
set_option maxRecDepth 100000
set_option maxHeartbeats 4000000
namespace KK
open PySem PySem.Spec PyProof.Rows L2 Y
abbrev xo (a : Int) : Int := Builtin.bitXor a 1
/-- what leaves a node -/
def rsum (rs l : List Int) : Int := (l.map (g0 rs)).sum
def Rm (rs : List Int) (ls : List (List Int)) (v : Int) : Int := rsum rs (gl ls v)
def bump (rs : List Int) (a d : Int) : List Int := rs.set a.toNat (g0 rs a + d)
section
variable {n : Nat} {hs rs rs1 lv td r : List Int} {ls : List (List Int)} {s t : Int}
/-- the node behind the first i arcs -/
def nd (hs : List Int) (s : Int) (r : List Int) (i : Nat) : Int := match i with
  | 0 => s
  | i + 1 => g0 hs (g0 r (i : Int))
/-- the i-th arc of a path -/
structure ArcI (n : Nat) (hs rs lv : List Int) (s : Int) (r : List Int) (i : Nat) (x : Int) : Prop where
  x0 : 0 ≤ x
  x1 : x < hs.length
  tl : g0 hs (xo x) = nd hs s r i
  lt : g0 lv (g0 hs (xo x)) = i
  lh : g0 lv (g0 hs x) = i + 1
  rm : 0 < g0 rs x
/-- while a path is filled -/
structure AugI (n : Nat) (hs rs1 : List Int) (ls : List (List Int)) (s : Int) (r : List Int) (amt : Int) (i : Nat) (rs2 : List Int) : Prop where
  ln : rs2.length = rs1.length
  nn : ∀ a : Int, 0 ≤ a → a < hs.length → 0 ≤ g0 rs2 a
  ps : ∀ a : Int, 0 ≤ a → a < hs.length → g0 rs2 a + g0 rs2 (xo a) = g0 rs1 a + g0 rs1 (xo a)
  un : ∀ a : Int, 0 ≤ a → a < hs.length → a ∉ r.take i → xo a ∉ r.take i → g0 rs2 a = g0 rs1 a
  le : ∀ a : Int, 0 ≤ a → a < hs.length → (∀ x ∈ r.take i, a ≠ xo x) → g0 rs2 a ≤ g0 rs1 a
  rv : ∀ v : Int, 0 ≤ v → v < n → Rm rs2 ls v = Rm rs1 ls v - (if v = s then amt else 0) + (if v = nd hs s r i then amt else 0)
  lo : ∀ a : Int, 0 ≤ a → a < hs.length → g0 rs1 a - amt ≤ g0 rs2 a
end
end KK
end

section
set_option maxRecDepth 100000
set_option maxHeartbeats 4000000
namespace KK
open PySem PySem.Spec PyProof.Rows L2 Y
section
variable {n : Nat} {hs rs rs1 lv td r : List Int} {ls : List (List Int)} {s t : Int}
inductive Alive (n : Nat) (hs rs lv : List Int) (ls : List (List Int)) (t : Int) : Int → Prop where
  | t : Alive n hs rs lv ls t t
  | st {u a : Int} : 0 ≤ u → u < n → a ∈ gl ls u → Cl hs rs lv u a → Alive n hs rs lv ls t (g0 hs a) → Alive n hs rs lv ls t u
/-- what a filling leaves -/
structure Aug (n : Nat) (hs rs : List Int) (ls : List (List Int)) (s t : Int) (rs1 : List Int) (tot : Int) : Prop where
  ln : rs1.length = rs.length
  nn : ∀ a : Int, 0 ≤ a → a < hs.length → 0 ≤ g0 rs1 a
  ps : ∀ a : Int, 0 ≤ a → a < hs.length → g0 rs1 a + g0 rs1 (xo a) = g0 rs a + g0 rs (xo a)
  rv : ∀ v : Int, 0 ≤ v → v < n → Rm rs1 ls v = Rm rs ls v - (if v = s then tot else 0) + (if v = t then tot else 0)
  t0 : 0 ≤ tot
  lo : ∀ a : Int, 0 ≤ a → a < hs.length → g0 rs a - tot ≤ g0 rs1 a
end
abbrev ctFS (K : PySem.W.Frag) (C : Addr) : Y.CT Int := ⟨false, .sh tInt, fun as P _ => ∃ (n : Nat) (hs rs lv : List Int) (ls : List (List Int)) (s t : Int), as = [.ow (oFlow K C hs rs ls) (), .sh (tLs K tInt) lv, .sh tInt s, .sh tInt t] ∧
  (Net n hs rs ls ∧ Prs n hs ls ∧ (∀ a : Int, 0 ≤ a → a < hs.length → 0 ≤ g0 rs a) ∧ Lev n hs rs ls [s] lv ∧ (0 ≤ s ∧ s < n) ∧ (0 ≤ t ∧ t < n) ∧ s ≠ t ∧ 0 ≤ g0 lv t) ∧ ∀ rs1 tot, Aug n hs rs ls s t rs1 tot → 1 ≤ tot → P [.ow (oFlow K C hs rs1 ls) (), .un, .un, .un] tot⟩
section
variable {P : Program} {w : World} {K : PySem.W.Frag} {mg : Str → Option Value} {base : Heap} {C : Addr}
end
end KK
end

section
set_option maxRecDepth 100000
set_option maxHeartbeats 4000000
namespace KK
open PySem PySem.Spec PyProof.Rows L2 Y
abbrev ctFill (K : PySem.W.Frag) (C : Addr) : Y.CT Int := ⟨false, .sh tInt, fun as P _ => ∃ (n : Nat) (hs rs : List Int) (ls : List (List Int)) (s t : Int), as = [.ow (oFlow K C hs rs ls) (), .sh tInt s, .sh tInt t] ∧
  (Net n hs rs ls ∧ Prs n hs ls ∧ (∀ a : Int, 0 ≤ a → a < hs.length → 0 ≤ g0 rs a) ∧ (0 ≤ s ∧ s < n) ∧ (0 ≤ t ∧ t < n) ∧ s ≠ t) ∧ ∀ rs1 tot lv, Aug n hs rs ls s t rs1 tot → Lev n hs rs1 ls [s] lv → g0 lv t < 0 → P [.ow (oFlow K C hs rs1 ls) (), .un, .un] tot⟩
abbrev ctReach (K : PySem.W.Frag) (C : Addr) : Y.CT (List Bool) := ⟨false, .sh (tLs K tBl), fun as P _ => ∃ (n : Nat) (hs rs : List Int) (ls : List (List Int)) (st : List Int), as = [.sh (tFlow K C hs rs ls) (), .sh (tLs K tInt) st] ∧
  (Net n hs rs ls ∧ ∀ s ∈ st, 0 ≤ s ∧ s < n) ∧ ∀ lv, Lev n hs rs ls st lv → ∀ os, P os (lv.map fun x => decide (0 ≤ x))⟩
section
variable {P : Program} {w : World} {K : PySem.W.Frag} {mg : Str → Option Value} {base : Heap} {C : Addr}
end
end KK
end

section
set_option maxRecDepth 100000
set_option maxHeartbeats 4000000
namespace KK
open PySem PySem.Spec PyProof.Rows L2 Y
/-! ### networks, link by link -/
abbrev Lk := Int × Int × Int
/-- the arcs that leave a node -/
def lkArcs (v : Int) (p : Lk × Nat) : List Int := (if p.1.1 = v then [2 * (p.2 : Int)] else []) ++ (if p.1.2.1 = v then [2 * (p.2 : Int) + 1] else [])
def arcsOf (L : List Lk) (v : Int) : List Int := L.zipIdx.flatMap (lkArcs v)
structure Built (n : Nat) (L : List Lk) (hs rs : List Int) (ls : List (List Int)) : Prop where
  hs : hs = L.flatMap fun p => [p.2.1, p.1]
  rs : rs = L.flatMap fun p => [p.2.2, 0]
  ln : ls.length = n
  gs : ∀ v : Int, 0 ≤ v → v < n → gl ls v = arcsOf L v
  ok : ∀ p ∈ L, (0 ≤ p.1 ∧ p.1 < n) ∧ (0 ≤ p.2.1 ∧ p.2.1 < n)
section
variable {n : Nat} {L : List Lk} {hs rs : List Int} {ls : List (List Int)}
end
end KK
end

section
set_option maxRecDepth 100000
set_option maxHeartbeats 4000000
/-! enumerate of a dict (locked) -/
namespace PySem
open Sem (wp)
open AutoSeq1 (wpAny_loadPart')
section
variable {prog : Program} {w : World} {A : Around} {E : Value → Shared → Prop} {s : Shared}
end
section
variable {prog : Program} {w : World} {A : Around} {E : Value → Shared → Prop} {s : Shared}
end
end PySem
namespace Own
open PySem PySem.Spec PyProof.Rows L2
/-- the keys of the locked dict at d, each in a new pair -/
def IteD (d : Addr) (o : Obj) (kvs : List (Key × V)) : It :=
  ⟨fun i H => H d = some (.frz o (.dK kvs)) ∧ i < kvs.length, fun i H v H' => ∃ T k u, v = .ref T ∧ H T = none ∧ H' = upd H T (.tup [.int (i : Nat), kV k]) ∧ kvs[i]? = some (k, u), fun i H => H d = some (.frz o (.dK kvs)) ∧ kvs.length = i⟩
def iEnumD (ta : TA) : TI := fun σ H R => ta σ H fun vs H1 => ∃ d o kvs, vs = [.ref d] ∧ H1 d = some (.frz o (.dK kvs)) ∧ R (IteD d o kvs) H1
end Own
end

section
set_option maxRecDepth 100000
set_option maxHeartbeats 4000000
/-! enumerate of a dict -/
namespace Y
open PySem PySem.Spec PyProof.Rows L2
section
variable {α β γ δ : Type} {t : Ty α} {u : Ty β} {X : Xw} {k : Bool} {G : Ct} {K : PySem.W.Frag}
end
end Y
namespace Y
open PySem PySem.Spec PyProof.Rows L2
end Y
namespace Y
open PySem PySem.Spec PyProof.Rows L2
section
variable {α ρ : Type} {F : Fx ρ} {G : Ct} {N B C : Ct → Prop} {t : Ty α} {K : PySem.W.Frag} {D : Addr}
end
end Y
end

section
set_option maxRecDepth 100000
set_option maxHeartbeats 4000000
namespace KK
open PySem PySem.Spec PyProof.Rows L2 Y
abbrev Lit := Str × Bool
abbrev tLit (K : PySem.W.Frag) : Y.Ty Lit := tT2 K tStr tBl
structure SidesC (K : PySem.W.Frag) (C : Addr) : Prop where
  cl : Cls K C
  nn : NoAttr K C "_numbers"
  ns : NoAttr K C "_source"
  nk : NoAttr K C "_sink"
  nf : NoAttr K C "_flow"
  na : NoAttr K C "_arcs"
  nt : NoAttr K C "total"
def opp (l : Lit) : Lit := (l.1, !l.2)
def numsOf (ns : List Str) : List (Str × Int) := ns.zipIdx.map fun p => (p.1, (p.2 : Int))
def ix (ns : List Str) (x : Str) : Int := (ns.idxOf x : Nat)
def node (ns : List Str) (l : Lit) : Int := 2 * ix ns l.1 + (if l.2 then 1 else 0)
theorem look_cons {κ α : Type} [DecidableEq κ] (k x : κ) (v : α) (d : List (κ × α)) : lookK ((k, v) :: d) x = if k = x then some v else lookK d x := by
  unfold lookK
  rw [List.find?_cons]
  by_cases e : k = x
  · rw [if_pos e, show decide ((k, v).1 = x) = true from decide_eq_true e]; rfl
  · rw [if_neg e, show decide ((k, v).1 = x) = false from decide_eq_false e]
abbrev ctOpp (K : PySem.W.Frag) : Y.CT Lit := ⟨false, .sh (tLit K), fun as P _ => ∃ l, as = [.sh (tLit K) l] ∧ ∀ os, P os (opp l)⟩
abbrev ctNode (K : PySem.W.Frag) (CS : Addr) : Y.CT Int := ⟨false, .sh tInt, fun as P _ => ∃ (fl : List (Str × Sl)) (ns : List Str) (l : Lit), as = [.sh (tIns CS fl) (), .sh (tLit K) l] ∧ (fl[0]? = some (("_numbers" : Str), Sl.sh (tDk kS tInt) (numsOf ns)) ∧ (fl.map (·.1)).idxOf ("_numbers" : Str) = 0 ∧ l.1 ∈ ns) ∧ ∀ os, P os (node ns l)⟩
section
variable {P : Program} {w : World} {K : PySem.W.Frag} {mg : Str → Option Value} {base : Heap} {C CS : Addr}
end
end KK
end

section
set_option maxRecDepth 100000
set_option maxHeartbeats 4000000
namespace KK
open PySem PySem.Spec PyProof.Rows L2 Y
def gD (d : List (Str × Int)) (x : Str) : Int := (lookK d x).getD 0
abbrev Row := Lit × Lit
abbrev tRow (K : PySem.W.Frag) : Y.Ty Row := tT2 K (tLit K) (tLit K)
def nameLk (ns : List Str) (left right : List (Str × Int)) (x : Str) : List Lk := [(2 * (ns.length : Int), node ns (x, false), gD left x), (node ns (x, true), 2 * (ns.length : Int) + 1, gD right x)]
def rowLk (ns : List Str) (wd : Int) (p : Row) : List Lk := [(node ns (opp p.1), node ns p.2, wd), (node ns (opp p.2), node ns p.1, wd)]
def wideOf (ns : List Str) (left : List (Str × Int)) : Int := 1 + (ns.map (gD left)).sum
def links (ns : List Str) (left right : List (Str × Int)) (rows : List Row) : List Lk := ns.flatMap (nameLk ns left right) ++ rows.flatMap (rowLk ns (wideOf ns left))
def arcL (N m : Nat) : List (Int × Int) := (List.range m).map fun (j : Nat) => (4 * (N : Int) + 4 * (j : Int), 4 * (N : Int) + 4 * (j : Int) + 2)
section
variable (K : PySem.W.Frag) (C : Addr)
abbrev fl1 (ns : List Str) : List (Str × Sl) := [("_numbers", .sh (tDk kS tInt) (numsOf ns))]
abbrev fl2 (ns : List Str) : List (Str × Sl) := [("_numbers", .sh (tDk kS tInt) (numsOf ns)), ("_source", .sh tInt (2 * (ns.length : Int)))]
abbrev fl3 (ns : List Str) : List (Str × Sl) := [("_numbers", .sh (tDk kS tInt) (numsOf ns)), ("_source", .sh tInt (2 * (ns.length : Int))), ("_sink", .sh tInt (2 * (ns.length : Int) + 1))]
abbrev fl4 (ns : List Str) (hs rs : List Int) (ls : List (List Int)) : List (Str × Sl) := [("_numbers", .sh (tDk kS tInt) (numsOf ns)), ("_source", .sh tInt (2 * (ns.length : Int))), ("_sink", .sh tInt (2 * (ns.length : Int) + 1)), ("_flow", .ow (oFlow K C hs rs ls) ())]
abbrev fl5 (ns : List Str) (hs rs : List Int) (ls : List (List Int)) (arcs : List (Int × Int)) : List (Str × Sl) := [("_numbers", .sh (tDk kS tInt) (numsOf ns)), ("_source", .sh tInt (2 * (ns.length : Int))), ("_sink", .sh tInt (2 * (ns.length : Int) + 1)), ("_flow", .ow (oFlow K C hs rs ls) ()), ("_arcs", .ow (oL K (tT2 K tInt tInt)) arcs)]
abbrev fl6 (ns : List Str) (hs rs : List Int) (ls : List (List Int)) (arcs : List (Int × Int)) (tot : Int) : List (Str × Sl) := [("_numbers", .sh (tDk kS tInt) (numsOf ns)), ("_source", .sh tInt (2 * (ns.length : Int))), ("_sink", .sh tInt (2 * (ns.length : Int) + 1)), ("_flow", .ow (oFlow K C hs rs ls) ()), ("_arcs", .ow (oL K (tT2 K tInt tInt)) arcs), ("total", .sh tInt tot)]
end
/-- what the two sides are -/
structure SidesR (ns : List Str) (left right : List (Str × Int)) (rows : List Row) (hs rs0 rs : List Int) (ls : List (List Int)) (tot : Int) (lv : List Int) : Prop where
  bt : Built (2 * ns.length + 2) (links ns left right rows) hs rs0 ls
  ag : Aug (2 * ns.length + 2) hs rs0 ls (2 * (ns.length : Int)) (2 * (ns.length : Int) + 1) rs tot
  lev : Lev (2 * ns.length + 2) hs rs ls [2 * (ns.length : Int)] lv
  no : g0 lv (2 * (ns.length : Int) + 1) < 0
abbrev ctSides (K : PySem.W.Frag) (CS C : Addr) : Y.CT Unit := ⟨true, .sh tNon, fun as P _ => ∃ (rows : List Row) (left right : List (Str × Int)), as = [.ow (oIns CS []) (), .sh (tLs K (tRow K)) rows, .sh (tDk kS tInt) left, .sh (tDk kS tInt) right] ∧
  ((left.map (·.1)).Nodup ∧ left.length ≤ 40 ∧ rows.length ≤ 400 ∧ (∀ p ∈ rows, p.1.1 ∈ left.map (·.1) ∧ p.2.1 ∈ left.map (·.1)) ∧ (∀ x ∈ left.map (·.1), ∃ v, lookK right x = some v ∧ 0 ≤ v) ∧ (∀ x ∈ left.map (·.1), 0 ≤ gD left x)) ∧
  ∀ hs rs0 rs ls tot lv, SidesR (left.map (·.1)) left right rows hs rs0 rs ls tot lv → ∀ o1 o2 o3, P [.ow (oIns CS (fl6 K C (left.map (·.1)) hs rs ls (arcL left.length rows.length) tot)) (), o1, o2, o3] ()⟩
section
variable {P : Program} {w : World} {K : PySem.W.Frag} {mg : Str → Option Value} {base : Heap} {C CS : Addr}
end
end KK
end

section
set_option maxRecDepth 100000
set_option maxHeartbeats 4000000
namespace KK
open PySem PySem.Spec PyProof.Rows L2 Y
theorem fits40 {n : Nat} (h : n ≤ 1000) : n < sizeLine := Nat.lt_of_le_of_lt h (by decide)
theorem gD_of {d : List (Str × Int)} {x : Str} (h : x ∈ d.map (·.1)) : lookK d x = some (gD d x) := by
  unfold gD
  induction d with
  | nil => simp at h
  | cons p d ih =>
    obtain ⟨a, v⟩ := p
    rw [look_cons]
    by_cases e : a = x
    · rw [if_pos e]; rfl
    · rw [if_neg e]
      refine ih ?_
      rcases List.mem_cons.mp h with z | z
      · exact absurd z.symm e
      · exact z
section
variable {P : Program} {w : World} {K : PySem.W.Frag} {mg : Str → Option Value} {base : Heap} {C CS : Addr}
end
end KK
end

section
set_option maxRecDepth 100000
set_option maxHeartbeats 4000000
namespace KK
open PySem PySem.Spec PyProof.Rows L2 Y
abbrev tSides (K : PySem.W.Frag) (CS C : Addr) (ns : List Str) (hs rs : List Int) (ls : List (List Int)) (arcs : List (Int × Int)) (tot : Int) : Y.Ty Unit := tIns CS (fl6 K C ns hs rs ls arcs tot)
def gB (re : List Bool) (i : Int) : Bool := re.getD i.toNat false
def valOf (ns : List Str) (re : List Bool) (x : Str) : Int := (if gB re (node ns (x, false)) then 0 else 1) + (if gB re (node ns (x, true)) then 1 else 0)
def readOf (ns : List Str) (re : List Bool) : List (Str × Int) := ns.map fun x => (x, valOf ns re x)
abbrev ctRead (K : PySem.W.Frag) (CS C : Addr) : Y.CT (List (Str × Int)) := ⟨false, .ow (oD kS tInt), fun as P _ => ∃ (ns : List Str) (hs rs : List Int) (ls : List (List Int)) (arcs : List (Int × Int)) (tot : Int) (re : List Bool), as = [.sh (tSides K CS C ns hs rs ls arcs tot) (), .sh (tLs K tBl) re] ∧
  (ns.Nodup ∧ ns.length ≤ 40 ∧ re.length = 2 * ns.length + 2) ∧ ∀ os, P os (readOf ns re)⟩
abbrev ctAnswer (K : PySem.W.Frag) (CS C : Addr) : Y.CT (List (Str × Int)) := ⟨false, .ow (oD kS tInt), fun as P _ => ∃ (ns : List Str) (hs rs : List Int) (ls : List (List Int)) (arcs : List (Int × Int)) (tot : Int), as = [.sh (tSides K CS C ns hs rs ls arcs tot) ()] ∧
  (ns.Nodup ∧ ns.length ≤ 40 ∧ Net (2 * ns.length + 2) hs rs ls) ∧ ∀ lv, Lev (2 * ns.length + 2) hs rs ls [2 * (ns.length : Int)] lv → ∀ os, P os (readOf ns (lv.map fun x => decide (0 ≤ x)))⟩
abbrev ctRowFlows (K : PySem.W.Frag) (CS C : Addr) : Y.CT (List Int) := ⟨false, .ow (oL K tInt), fun as P _ => ∃ (ns : List Str) (hs rs : List Int) (ls : List (List Int)) (arcs : List (Int × Int)) (tot : Int), as = [.sh (tSides K CS C ns hs rs ls arcs tot) ()] ∧
  (arcs.length ≤ 1000 ∧ ∀ p ∈ arcs, (0 ≤ p.1 ∧ p.1 + 1 < rs.length) ∧ (0 ≤ p.2 ∧ p.2 + 1 < rs.length)) ∧ ∀ os, P os (arcs.map fun p => g0 rs (p.1 + 1) + g0 rs (p.2 + 1))⟩
section
variable {P : Program} {w : World} {K : PySem.W.Frag} {mg : Str → Option Value} {base : Heap} {C CS : Addr}
variable {ns : List Str} {hs rs : List Int} {ls : List (List Int)} {arcs : List (Int × Int)} {tot : Int}
end
end KK
end

section
set_option maxRecDepth 100000
set_option maxHeartbeats 4000000
namespace KK
open PySem PySem.Spec PyProof.Rows L2 Y
/-! ### sums -/
theorem sum_add {α : Type} (f g : α → Int) : ∀ l : List α, (l.map fun x => f x + g x).sum = (l.map f).sum + (l.map g).sum
  | [] => rfl
  | a :: l => by simp only [List.map_cons, List.sum_cons, sum_add f g l]; omega
theorem sum_zero {α : Type} {f : α → Int} : ∀ {l : List α}, (∀ x ∈ l, f x = 0) → (l.map f).sum = 0
  | [], _ => rfl
  | a :: l, h => by
    simp only [List.map_cons, List.sum_cons, h a List.mem_cons_self, sum_zero (l := l) fun x hx => h x (List.mem_cons_of_mem _ hx)]
    rfl
theorem sum_congr {α : Type} {f g : α → Int} : ∀ {l : List α}, (∀ x ∈ l, f x = g x) → (l.map f).sum = (l.map g).sum
  | [], _ => rfl
  | a :: l, h => by simp only [List.map_cons, List.sum_cons, h a List.mem_cons_self, sum_congr (l := l) fun x hx => h x (List.mem_cons_of_mem _ hx)]
theorem sum_le' {α : Type} {f g : α → Int} : ∀ {l : List α}, (∀ x ∈ l, f x ≤ g x) → (l.map f).sum ≤ (l.map g).sum
  | [], _ => Int.le_refl _
  | a :: l, h => by
    have := h a List.mem_cons_self
    have := sum_le' (l := l) fun x hx => h x (List.mem_cons_of_mem _ hx)
    simp only [List.map_cons, List.sum_cons]
    omega
/-! ### flows on links -/
/-- what flows on a link -/
def fw (rs : List Int) (k : Nat) : Int := g0 rs (2 * (k : Int) + 1)
structure FlowR (n : Nat) (L : List Lk) (rs : List Int) (s t : Int) (tot : Int) : Prop where
  lo : ∀ (k : Nat) p, L[k]? = some p → 0 ≤ fw rs k ∧ fw rs k ≤ tot ∧ g0 rs (2 * (k : Int)) = p.2.2 - fw rs k ∧ 0 ≤ g0 rs (2 * (k : Int))
  cv : ∀ v : Int, 0 ≤ v → v < n → (L.zipIdx.map fun q => (if q.1.2.1 = v then fw rs q.2 else 0) - (if q.1.1 = v then fw rs q.2 else 0)).sum = (if v = t then tot else 0) - (if v = s then tot else 0)
end KK
end

section
set_option maxRecDepth 100000
set_option maxHeartbeats 4000000
namespace KK
open PySem PySem.Spec PyProof.Rows L2 Y
/-- what is asked of the sides' arguments -/
structure SidesP (ns : List Str) (left right : List (Str × Int)) (rows : List Row) : Prop where
  nd : ns.Nodup
  l0 : ∀ x ∈ ns, 0 ≤ gD left x
  r0 : ∀ x ∈ ns, 0 ≤ gD right x
  rw : ∀ p ∈ rows, p.1.1 ∈ ns ∧ p.2.1 ∈ ns
def inS (lv : List Int) (v : Int) : Bool := decide (0 ≤ g0 lv v)
section
variable {ns : List Str} {left right : List (Str × Int)} {rows : List Row} {hs rs0 rs lv : List Int} {ls : List (List Int)} {tot : Int}
end
end KK
end

section
set_option maxRecDepth 100000
set_option maxHeartbeats 4000000
namespace KK
open PySem PySem.Spec PyProof.Rows L2 Y
def tieRow (e : Str × Str) : Row := ((e.1, true), (e.2, true))
def rowF (N : Nat) (rs : List Int) (j : Nat) : Int := fw rs (2 * j + 2 * N) + fw rs (2 * j + 1 + 2 * N)
def flowsOf (N : Nat) (rs : List Int) (us : List (Str × Str)) : List Int := us.zipIdx.map fun p => rowF N rs p.2
/-- prices of the ties -/
structure TieFl (ns : List Str) (pr : Str → Int) (us : List (Str × Str)) (tot : Int) (ys : List Int) : Prop where
  ln : ys.length = us.length
  nn : ∀ y ∈ ys, 0 ≤ y
  tt : ys.sum = tot
  lo : ∀ x ∈ ns, ((us.zip ys).map fun p => (if p.1.1 = x then p.2 else 0) + (if p.1.2 = x then p.2 else 0)).sum ≤ 2 * pr x
/-- an answer -/
structure AnsR (ns : List Str) (pr : Str → Int) (us : List (Str × Str)) (tot : Int) (xv : Str → Int) : Prop where
  r : ∀ x ∈ ns, 0 ≤ xv x ∧ xv x ≤ 2
  t : ∀ e ∈ us, 2 ≤ xv e.1 + xv e.2
  c : (ns.map fun x => pr x * xv x).sum = tot
section
variable {ns : List Str} {pr : List (Str × Int)} {us : List (Str × Str)} {hs rs0 rs lv : List Int} {ls : List (List Int)} {tot : Int}
end
end KK
end

section
set_option maxRecDepth 100000
set_option maxHeartbeats 4000000
namespace KK
open PySem PySem.Spec PyProof.Rows L2
/-! ### the law's stream and draw -/
def spStream (K : PySem.W.Frag) : Sp := fun vs H Q _ => ∃ (a : Addr) (ns : List Int) (j : Int), vs = [.ref a, .int j] ∧ SqL K H a (ns.map V.int) ∧ ns.length ≤ 1000 ∧ 0 ≤ j ∧ j ≤ 100 ∧ ∀ p c, H p = none → Q (.ref p) (upd H p (.lst [.int c, .int (1 + 101 * j)]))
def spDraw : Sp := fun vs H Q _ => ∃ (a : Addr) (n m : Int), vs = [.ref a, .int n] ∧ StrAt H a m ∧ m ≤ 1000000 ∧ 0 < n ∧ n < 2 ^ 200 ∧ ∀ r H', 0 ≤ r → r < n → But a H H' → StrAt H' a (m + 1) → Q (.int r) H'
theorem fm0 {i j : Int} (h : 0 < j) : 0 ≤ i.fmod j ∧ i.fmod j < j := by
  rw [Int.fmod_eq_emod_of_nonneg i (Int.le_of_lt h)]
  exact ⟨Int.emod_nonneg i (by omega), Int.emod_lt_of_pos i h⟩
theorem mulOk {i j : Int} (h : 0 < j) (h2 : j ≤ 2 ^ 64) : -(2 ^ 64) < i.fmod j ∧ i.fmod j < 2 ^ 64 := by
  have := fm0 (i := i) h
  omega
theorem log200 {n : Int} (h0 : 0 < n) (h : n < 2 ^ 200) : n.natAbs.log2 < 9000 := by
  have h1 : n.natAbs < 2 ^ 200 := by omega
  exact Nat.lt_trans (PySem.Flt.log2_lt_of (by decide) h1) (by decide)
section
variable {P : Program} {w : World} {K : PySem.W.Frag} {mg : Str → Option Value} {base : Heap}
abbrev NStream : List Str := ["_law_script", "_law_k", "_law_cell"]
theorem scStream : FnScope NStream ["_law_script", "_law_k"] (defScope s_law_stream) := ⟨rfl, rfl, rfl, by decide +kernel, rfl, by decide +kernel, by decide +kernel⟩
theorem c_stream (T : Blt mg) (F : Has K mg "_law_stream" s_law_stream) : C8.Cal P w K mg base 1 "_law_stream" (spStream K) [] := by
  refine calF F (fun f fd F => F.binds (ps := ["_law_script", "_law_k"]) fun _ _ _ _ _ _ us hl => match us, hl with | [_, _], _ => rfl) scStream (fun vs H Q E h => ?_) (fun f cdv A outer s H vs Q E hr h => ?_)
  · obtain ⟨a, ns, j, rfl, _⟩ := h
    rfl
  · obtain ⟨a, ns, j, rfl, hs, hn, h0, h1, k⟩ := h
    refine ⟨_, pss_cons (ps_set (i := 2) scStream.nd rfl (Or.inl rfl) pe_int)
      (pss_cons (ps_if (pt_cmpR op_lt (pv 1) (pe_callB call_len (by rfl) T.b_len PySem.boot_len (pa_cons (pv 0) pa_nil)) (nomark _)) (pss_one (ps_set (i := 2) scStream.nd rfl (Or.inl rfl) (pe_ix ix_list (pv 0) (pv 1) (fun _ _ => rfl)))) pss_nil)
      (pss_one (ps_ret (pe_lst (pa_cons (pv 2) (pa_cons (pe_op op_add pe_int (pe_op op_mul pe_int (pv 1))) pa_nil)))))), ?_⟩
    refine ⟨_, rfl, _, rfl, _, _, rfl, .inl ⟨_, hs, rfl⟩, _, _, rfl, rfl, _, rfl, ?_⟩
    refine ite2 (fun hlt => ?_) (fun hlt => ?_)
    · have hj : j < ((ns.map V.int).length : Int) := of_decide_eq_true hlt
      rw [List.length_map] at hj
      have hx : (ns.map V.int)[j.toNat]? = some (V.int (ns[j.toNat]'(by omega))) := by
        rw [List.getElem?_map, List.getElem?_eq_getElem (by omega)]
        rfl
      refine ⟨_, rfl, _, rfl, a, _, _, _, rfl, rfl, hs, at_of (j := j.toNat) (by omega) hx, ?_⟩
      exact ⟨_, rfl, _, rfl, _, _, rfl, rfl, .inl ⟨by decide, by decide⟩, _, _, rfl, rfl, (show 2 ≤ sizeLine from fits (by decide)), fun p hp => k p _ hp⟩
    · exact ⟨_, rfl, _, rfl, _, _, rfl, rfl, .inl ⟨by decide, by decide⟩, _, _, rfl, rfl, (show 2 ≤ sizeLine from fits (by decide)), fun p hp => k p _ hp⟩
abbrev NDraw : List Str := ["_law_stream_here", "_law_many", "_law_found", "_law_mixed"]
theorem scDraw : FnScope NDraw ["_law_stream_here", "_law_many"] (defScope s_law_draw) := ⟨rfl, rfl, rfl, by decide +kernel, rfl, by decide +kernel, by decide +kernel⟩
end
end KK
end

section
set_option maxRecDepth 100000
set_option maxHeartbeats 4000000
namespace KK
open PySem PySem.Spec PyProof.Rows L2
/-! ### names -/
def CsOk (l : List Nat) : Prop := ∀ c ∈ l, 97 ≤ c ∧ c ≤ 122
structure NameOk (x : Str) : Prop where
  lo : 1 ≤ x.cps.toList.length
  hi : x.cps.toList.length ≤ 8
  cs : CsOk x.cps.toList
theorem at_ofN {α : Type} {xs : List α} {z : Int} {j : Nat} {v : α} (e : z = (j : Int)) (h : xs[j]? = some v) : atI xs z = some v := by
  rw [e]
  exact atI_nat h
theorem cps_app (x y : Str) : (x ++ y).cps.toList = x.cps.toList ++ y.cps.toList := by
  have e : (x ++ y).cps = x.cps ++ y.cps := rfl
  rw [e, Array.toList_append]
theorem len_cps (x : Str) : x.length = x.cps.toList.length := by
  show x.cps.size = _
  rw [Array.length_toList]
theorem inV_strs (x : Str) (ys : List Str) : inV (.str x) (ys.map V.str) = decide (x ∈ ys) := by
  induction ys with
  | nil => rfl
  | cons y ys ih =>
    have e : inV (.str x) ((y :: ys).map V.str) = (eqV (.str y) (.str x) || inV (.str x) (ys.map V.str)) := rfl
    rw [e, ih]
    have e2 : eqV (.str y) (.str x) = decide (x = y) := by
      show (y == x) = decide (x = y)
      by_cases h : x = y
      · subst h; simp
      · rw [decide_eq_false h]
        exact beq_eq_false_iff_ne.mpr fun q => h q.symm
    rw [e2]
    by_cases h : x = y
    · subst h; simp
    · simp [h]
theorem flat_strs (ys : List Str) : (ys.map V.str).all flatV = true := by
  rw [List.all_eq_true]
  intro v hv
  obtain ⟨y, _, rfl⟩ := List.mem_map.mp hv
  rfl
/-- no more different things than places -/
theorem pigeon {α : Type} [DecidableEq α] : ∀ {xs ys : List α}, xs.Nodup → (∀ x ∈ xs, x ∈ ys) → xs.length ≤ ys.length
  | [], _, _, _ => Nat.zero_le _
  | x :: xs, ys, hn, hs => by
    have hx : x ∈ ys := hs x List.mem_cons_self
    have h1 := List.nodup_cons.mp hn
    have ih := pigeon (xs := xs) (ys := ys.erase x) h1.2 fun z hz => (List.mem_erase_of_ne (fun q => h1.1 (by rw [← q]; exact hz))).mpr (hs z (List.mem_cons_of_mem _ hz))
    rw [List.length_erase_of_mem hx] at ih
    have : 0 < ys.length := List.length_pos_of_mem hx
    rw [List.length_cons]
    omega
abbrev qzv (i : Nat) : Nat := if i = 0 then 113 else if i = 1 then 122 else 118
def two (i j : Nat) : Str := (⟨#[qzv i]⟩ : Str) ++ ⟨#[97 + j]⟩
def allTwo : List Str := ((List.range 3).flatMap fun i => (List.range 26).map fun j => two i j)
theorem abc_all : ∀ j < 26, (PySem.Str.ofString "abcdefghijklmnopqrstuvwxyz").cps.toList[j]? = some (97 + j) := by decide +kernel
def spName (K : PySem.W.Frag) : Sp := fun vs H Q _ => ∃ (a u : Addr) (m : Int) (ys : List Str), vs = [.ref a, .ref u] ∧ StrAt H a m ∧ m ≤ 100000 ∧ u ≠ a ∧ (SqL K H u (ys.map V.str) ∨ SqT K H u (ys.map V.str)) ∧ ys.length ≤ 60 ∧
  ∀ x H', NameOk x → x ∉ ys → But a H H' → StrAt H' a (m + 9) → Q (.str x) H'
section
variable {P : Program} {w : World} {K : PySem.W.Frag} {mg : Str → Option Value} {base : Heap}
end
end KK
end

section
set_option maxRecDepth 100000
set_option maxHeartbeats 4000000
namespace KK
open PySem PySem.Spec PyProof.Rows L2
/-! ### amounts, pairs, parts -/
def spAmount : Sp := fun vs H Q _ => ∃ (a : Addr) (n m : Int), vs = [.ref a, .int n] ∧ StrAt H a m ∧ m ≤ 100000 ∧ ∀ r H', 1 ≤ r → r ≤ 10 ^ 30 → But a H H' → StrAt H' a (m + 2) → Q (.int r) H'
def spPair : Sp := fun vs H Q _ => ∃ (a : Addr) (x y : Str) (m : Int), vs = [.ref a, .str x, .str y] ∧ StrAt H a m ∧ m ≤ 100000 ∧
  ∀ t (p : Str × Str) H', (p = (x, y) ∨ p = (y, x)) → H t = none → But a H H' → StrAt H' a (m + 1) → H' t = some (.tup [.str p.1, .str p.2]) → Q (.ref t) H'
/-- an unordered pair -/
def ordP (p : Str × Str) : Str × Str := if Own.ltS p.2 p.1 = true then (p.2, p.1) else p
theorem ordP_swap (x y : Str) : ordP (y, x) = ordP (x, y) := by
  unfold ordP
  show (if Own.ltS x y = true then (x, y) else (y, x)) = if Own.ltS y x = true then (y, x) else (x, y)
  cases h1 : Own.ltS x y with
  | true => rw [if_pos rfl, Own.ltS_asym h1, if_neg Bool.false_ne_true]
  | false =>
    rw [if_neg Bool.false_ne_true]
    cases h2 : Own.ltS y x with
    | true => rw [if_pos rfl]
    | false =>
      rw [if_neg Bool.false_ne_true, Own.ltS_tri h1 h2]
/-- the tuple that a value stands for -/
def IsTie (H : Hp) (x : V) (p : Str × Str) : Prop := ∃ t, x = .ref t ∧ H t = some (.tup [.str p.1, .str p.2])
theorem IsTie.same {H H' : Hp} {x : V} {p : Str × Str} (h : IsTie H x p) (b : Same H H') : IsTie H' x p := by
  obtain ⟨t, rfl, ht⟩ := h
  exact ⟨t, rfl, b _ _ ht⟩
/-- ties between the names -/
structure TieOk (ns : List Str) (p : Str × Str) : Prop where
  a : p.1 ∈ ns
  b : p.2 ∈ ns
  ne : p.1 ≠ p.2
/-- the values xs are the ties ts -/
def Ties (H : Hp) (xs : List V) (ts : List (Str × Str)) : Prop := Paired (IsTie H) xs ts
structure NsOk (ns : List Str) : Prop where
  lo : 1 ≤ ns.length
  hi : ns.length ≤ 40
  nd : ns.Nodup
  ok : ∀ x ∈ ns, NameOk x
structure TsOk (ns : List Str) (ts : List (Str × Str)) : Prop where
  ok : ∀ p ∈ ts, TieOk ns p
  nd : (ts.map ordP).Nodup
  hi : ts.length ≤ 400
def PrOk (ps : List Int) : Prop := ∀ p ∈ ps, 1 ≤ p ∧ p ≤ 10 ^ 30
def prK (ns : List Str) (ps : List Int) : List (Key × V) := (ns.zip ps).map fun e => (Sum.inr e.1, V.int e.2)
/-- prices of ns, in some order -/
def IsPr (H : Hp) (d : Addr) (ns : List Str) (ps : List Int) : Prop := ∃ kvs, H d = some (.dK kvs) ∧ kvs.Perm (prK ns ps)
structure PartsAt (H : Hp) (r pl tl d : Addr) (ns : List Str) (ps : List Int) (xs : List V) (ts : List (Str × Str)) : Prop where
  hr : H r = some (.lst [.ref pl, .ref tl, .ref d])
  hp : H pl = some (.tup (ns.map V.str))
  ht : H tl = some (.lst xs)
  hd : IsPr H d ns ps
  ti : Ties H xs ts
  nr : r ≠ tl
  pl : ps.length = ns.length
  no : NsOk ns
  to : TsOk ns ts
  po : PrOk ps
theorem paired_mono {α β : Type} {R S : α → β → Prop} : ∀ {xs : List α} {ys : List β}, Paired R xs ys → (∀ x y, R x y → S x y) → Paired S xs ys
  | _, _, .nil, _ => .nil
  | _, _, .cons r t, f => .cons (f _ _ r) (paired_mono t f)
theorem paired_app {α β : Type} {R : α → β → Prop} : ∀ {xs : List α} {ys : List β} {xs' : List α} {ys' : List β}, Paired R xs ys → Paired R xs' ys' → Paired R (xs ++ xs') (ys ++ ys')
  | _, _, _, _, .nil, h => h
  | _, _, _, _, .cons r t, h => .cons r (paired_app t h)
theorem paired_len {α β : Type} {R : α → β → Prop} {xs : List α} {ys : List β} (h : Paired R xs ys) : xs.length = ys.length := Paired.length h
theorem ordP_ne {ns : List Str} {i j i' j' : Nat} (hn : ns.Nodup) {x y x' y' : Str} (h1 : ns[i]? = some x) (h2 : ns[j]? = some y) (h3 : ns[i']? = some x') (h4 : ns[j']? = some y') (hlt : j < i) (hlt' : j' < i') (hne : ¬ (i = i' ∧ j = j')) :
    ordP (x, y) ≠ ordP (x', y') := by
  intro e
  have key : (x = x' ∧ y = y') ∨ (x = y' ∧ y = x') := by
    unfold ordP at e
    revert e
    show (if Own.ltS y x = true then (y, x) else (x, y)) = (if Own.ltS y' x' = true then (y', x') else (x', y')) → _
    split <;> split <;> intro e <;> (injection e with e1 e2) <;> first | exact .inl ⟨e1, e2⟩ | exact .inl ⟨e2, e1⟩ | exact .inr ⟨e1, e2⟩ | exact .inr ⟨e2, e1⟩
  rcases key with ⟨rfl, rfl⟩ | ⟨rfl, rfl⟩
  · exact hne ⟨nd_ix hn h1 h3, nd_ix hn h2 h4⟩
  · have a := nd_ix hn h1 h4
    have b := nd_ix hn h2 h3
    omega
/-- ties made so far, in the turns ahead of (i, j) -/
structure Made (ns : List Str) (i j : Nat) (ts : List (Str × Str)) : Prop where
  nd : (ts.map ordP).Nodup
  at_ : ∀ p ∈ ts, ∃ i' j' x y, j' < i' ∧ (i' < i ∨ (i' = i ∧ j' < j)) ∧ ns[i']? = some x ∧ ns[j']? = some y ∧ (p = (x, y) ∨ p = (y, x))
  len : ts.length ≤ i * i + j
section
variable {P : Program} {w : World} {K : PySem.W.Frag} {mg : Str → Option Value} {base : Heap}
end
end KK
end

section
set_option maxRecDepth 100000
set_option maxHeartbeats 4000000
namespace KK
open PySem PySem.Spec PyProof.Rows L2
theorem But.free {a p : Addr} {H H' : Hp} (b : But a H H') (s : ∃ o, H' a = some o) (hp : H' p = none) : H p = none := by
  by_cases e : p = a
  · subst e
    obtain ⟨o, h⟩ := s
    rw [h] at hp
    cases hp
  · cases e2 : H p with
    | none => rfl
    | some o => rw [b _ _ e2 e] at hp; cases hp
theorem Ties.same {H H' : Hp} {xs : List V} {ts : List (Str × Str)} (h : Ties H xs ts) (b : Same H H') : Ties H' xs ts := paired_mono h fun _ _ z => z.same b
theorem Ties.upd {H : Hp} {xs : List V} {ts : List (Str × Str)} {p : Addr} {o : HO} (h : Ties H xs ts) (hp : ∀ t l, H t = some (.tup l) → t ≠ p) : Ties (upd H p o) xs ts :=
  paired_mono h fun _ _ z => by
    obtain ⟨t, rfl, ht⟩ := z
    exact ⟨t, rfl, by rw [upd_ne (hp _ _ ht)]; exact ht⟩
theorem prK_len (ns : List Str) (ps : List Int) (h : ps.length = ns.length) : (prK ns ps).length = ns.length := by
  unfold prK
  rw [List.length_map, List.length_zip, h, Nat.min_self]
theorem prK_nodup : ∀ {ns : List Str} {as : List Int}, ns.Nodup → ((prK ns as).map (·.1)).Nodup
  | [], _, _ => List.nodup_nil
  | n :: ns, [], _ => List.nodup_nil
  | n :: ns, a :: as, h => by
    have h1 := List.nodup_cons.mp h
    have ih := prK_nodup (as := as) h1.2
    unfold prK at ih ⊢
    rw [List.zip_cons_cons, List.map_cons, List.map_cons]
    refine List.nodup_cons.mpr ⟨fun hm => ?_, ih⟩
    obtain ⟨q, hq, e⟩ := List.mem_map.mp hm
    obtain ⟨z, hz, rfl⟩ := List.mem_map.mp hq
    have e2 : z.1 = n := Sum.inr.inj e
    exact h1.1 (by rw [← e2]; exact (List.of_mem_zip hz).1)
theorem valV_perm {ks ls : List (Key × V)} (p : ks.Perm ls) (nd : (ls.map (·.1)).Nodup) (k : Key) : valV ks k = valV ls k := by
  have nk : (ks.map (·.1)).Nodup := (p.map _).nodup_iff.mpr nd
  have one : ∀ {zs : List (Key × V)}, (zs.map (·.1)).Nodup → ∀ z ∈ zs, valV zs z.1 = some z.2 := by
    intro zs
    induction zs with
    | nil => intro _ z h; cases h
    | cons y ys ih =>
      intro h z hz
      rw [List.map_cons, List.nodup_cons] at h
      unfold valV
      rcases List.mem_cons.mp hz with rfl | hz
      · rw [List.find?_cons_of_pos (by exact decide_eq_true rfl)]
        rfl
      · rw [List.find?_cons_of_neg (by
          rw [decide_eq_true_eq]
          intro q
          exact h.1 (by rw [q]; exact List.mem_map.mpr ⟨z, hz, rfl⟩))]
        exact ih h.2 z hz
  cases e : valV ks k with
  | some v =>
    unfold valV at e
    obtain ⟨z, h1, h2⟩ := Option.map_eq_some_iff.mp e
    have h3 := of_decide_eq_true (List.find?_some (p := fun kv : Key × V => decide (kv.1 = k)) h1)
    have h4 := one nd z (p.mem_iff.mp (List.mem_of_find?_eq_some h1))
    rw [h3, h2] at h4
    exact h4.symm
  | none =>
    cases e2 : valV ls k with
    | none => rfl
    | some v =>
      exfalso
      unfold valV at e2
      obtain ⟨z, h1, h2⟩ := Option.map_eq_some_iff.mp e2
      have h3 := of_decide_eq_true (List.find?_some (p := fun kv : Key × V => decide (kv.1 = k)) h1)
      have h4 := one nk z (p.mem_iff.mpr (List.mem_of_find?_eq_some h1))
      rw [h3, e] at h4
      cases h4
theorem prK_none {ns : List Str} {ps : List Int} {x : Str} (h : x ∉ ns) : valV (prK ns ps) (Sum.inr x : Key) = none := by
  cases e : valV (prK ns ps) (Sum.inr x : Key) with
  | none => rfl
  | some v =>
    unfold valV at e
    cases e2 : (prK ns ps).find? (fun kv => decide (kv.1 = (Sum.inr x : Key))) with
    | none => rw [e2] at e; cases e
    | some p =>
      have hm := List.mem_of_find?_eq_some e2
      have hp := of_decide_eq_true (List.find?_some (p := fun kv : Key × V => decide (kv.1 = (Sum.inr x : Key))) e2)
      unfold prK at hm
      obtain ⟨q, hq, rfl⟩ := List.mem_map.mp hm
      have h3 : q.1 = x := Sum.inr.inj hp
      exact absurd (h3 ▸ (List.of_mem_zip hq).1) h
theorem prK_put {ns : List Str} {ps : List Int} {x : Str} {p : Int} (hl : ps.length = ns.length) (h : x ∉ ns) : putK (prK ns ps) (Sum.inr x : Key) (V.int p) = prK (ns ++ [x]) (ps ++ [p]) := by
  rw [putK_new _ (prK_none h)]
  unfold prK
  rw [List.zip_append (by rw [hl]), List.map_append]
  rfl
theorem take_more {α : Type} : ∀ {l : List α} {i : Nat} {x : α}, l[i]? = some x → l.take (i + 1) = l.take i ++ [x]
  | [], i, x, h => by simp at h
  | a :: l, 0, x, h => by
    have e : a = x := Option.some.inj h
    subst e
    rfl
  | a :: l, i + 1, x, h => by
    have ih := take_more (l := l) (i := i) (x := x) h
    show a :: l.take (i + 1) = a :: l.take i ++ [x]
    rw [ih]
    rfl
theorem not_taken {l : List Str} {i : Nat} {x : Str} (hn : l.Nodup) (h : l[i]? = some x) : x ∉ l.take i := fun hm => by
  obtain ⟨j, hj⟩ := List.getElem?_of_mem hm
  have hlt : j < i := by
    obtain ⟨h1, _⟩ := List.getElem?_eq_some_iff.mp hj
    rw [List.length_take] at h1
    omega
  rw [List.getElem?_take_of_lt hlt] at hj
  have := nd_ix hn h hj
  omega
def spParts (K : PySem.W.Frag) : Sp := fun vs H Q _ => ∃ (a : Addr) (lo hi m : Int), vs = [.ref a, .int lo, .int hi] ∧ StrAt H a m ∧ m ≤ 1000 ∧ 1 ≤ lo ∧ lo ≤ hi ∧ hi ≤ 19 ∧
  ∀ r pl tl d ns ps xs ts H', H r = none → H pl = none → H tl = none → H d = none → But a H H' → StrAt H' a (m + 4000) → PartsAt H' r pl tl d ns ps xs ts → lo ≤ (ns.length : Int) → (ns.length : Int) ≤ hi → Q (.ref r) H'
section
variable {P : Program} {w : World} {K : PySem.W.Frag} {mg : Str → Option Value} {base : Heap}
end
end KK
end

section
set_option maxRecDepth 100000
set_option maxHeartbeats 4000000
namespace Own
open PySem PySem.Spec PyProof.Rows L2
/-- a list or a tuple, whichever it is -/
def iLT (K : PySem.W.Frag) (te : TE) : TI := fun σ H R => iList K te σ H R ∨ iTup K te σ H R
theorem pi_lt {X : Cx} {tg e : Expr} {te : TE} (he : PE X e te) : PI X tg e (iLT X.K te) := by
  refine ⟨fun pins s σ H R I h => ?_⟩
  rcases h with h | h
  · exact (pi_list (tg := tg) he).run pins s σ H R I h
  · exact (pi_tup (tg := tg) he).run pins s σ H R I h
section
variable {P : Program} {w : World} {K : PySem.W.Frag} {mg : Str → Option Value} {base : Heap} {k : Nat} {x : Str} {sp1 sp2 : Sp} {dvs : List V}
/-- a promise that asks for more -/
theorem cal_of (c : C8.Cal P w K mg base k x sp1 dvs) (h : ∀ vs H Q E, sp2 vs H Q E → sp1 vs H Q E) : C8.Cal P w K mg base k x sp2 dvs := by
  obtain ⟨f, fd, ps, ds, F, hm, kp, b, d⟩ := c.ex
  exact ⟨f, fd, ps, ds, F.imp h, hm, kp, b, d⟩
end
section
variable {X : Cx} {C : Addr} {bmB : List Value} {B newId initId : String}
/-- E(), an own error class with no __init__ -/
theorem pmk_own0 {x : Str} {p pos : Pos} (F : ExcBaseFacts B newId initId bmB) (q : PySem.W.excIn X.K C bmB newId = true) (gC : X.mg x = some (.ref C)) (kC : PySem.W.keepIn X.K (.ref C) = true) (r : Raises X (.ref C)) (hg : Gl X x := by rfl)
    (hdb : (x == ("__debug__" : Str)) = false := by decide +kernel) : PMk X (.Call (.Name x p) [] [] pos) (fun _ H Q => Q (.ref C) none H) := by
  intro pins s σ H Q I h
  refine wpAny_Call_Name_kw (ld_glob I hg gC ?_ hdb)
  refine PySem.W.callWith_K0 I.kIn kC ?_
  obtain ⟨bm, N, nm, qn, bs, hdct, sn, sub, ab, col, dd, k0, k1, k2, k3, k5, mN, hC, hN, hni, T⟩ := exc_obj I.kIn q
  refine wpAny_call_exc_subT F T hC hN hni (fun h' e hm => ?_) (by show 0 ≤ sizeLine; exact Nat.zero_le _)
  exact mk_of I hm r h (I.hok.gone hm.new)
/-- raise E() -/
def tRaise0 (C : Addr) (W : WX) : TS := fun _ σ H => W (.ref C) none σ H
theorem ps_raise0 {x : Str} {W : WX} {p pos pos2 : Pos} (hc : X.calm = true) (q : PySem.W.excIn X.K C He.veBase "ValueError.__new__" = true) (gC : X.mg x = some (.ref C)) (kC : PySem.W.keepIn X.K (.ref C) = true) (exC : PySem.W.subIn X.K (.ref C) (.type "BaseException") = some true) (tyC : PySem.W.typeIn X.K (.ref C) = some (.type "type"))
    (tk : Takes X W) (hg : Gl X x := by rfl) (hdb : (x == ("__debug__" : Str)) = false := by decide +kernel) : PS X (.Raise (some (.Call (.Name x p) [] [] pos)) none pos2) (tRaise0 C W) :=
  ps_raise hc tk (pmk_own0 PySem.F.excBase_ValueError q gC kC (raises_own exC tyC) hg hdb)
/-- a def that may raise, by its name -/
structure CalX (P : Program) (w : World) (K : PySem.W.Frag) (mg : Str → Option Value) (base : Heap) (k : Nat) (x : Str) (sp : Sp) : Prop where
  ex : ∃ (f : Addr) (fd : FuncData) (ps : List Str), FnOk P w K mg base (L2.CX P w) k f fd ps sp ∧ mg x = some (.ref f) ∧ PySem.W.keepIn K (.ref f) = true ∧ L2.Binds K fd ps []
theorem pe_cxS {k j : Nat} {x : Str} {sp : Sp} {W : WX} {e : Expr} {es : List Expr} {t : TA} {p pos : Pos} (c : CalX X.prog X.w X.K X.mg X.base k x sp) (hr : Room j X.A) (hk : k ≤ j) (tk : Takes X W) (hg : Gl X x) (ha : PA X (e :: es) t)
    (hdb : (x == ("__debug__" : Str)) = false := by decide) (he : starEach (e :: es) X.env = (false, eval e X.env) :: starEach es X.env := by rfl) (hpl : (backTo pos (starEach es X.env)).any (·.1) = false := by rfl) :
    PE X (.Call (.Name x p) (e :: es) [] pos) (tCallS sp (WE W) t) := by
  obtain ⟨f, fd, ps, F, hm, kp, b⟩ := c.ex
  exact pe_callS F (hr.mono hk) hg hm kp b (fun σ => passAt tk σ) ha hdb he hpl
end
/-! ### dicts told apart: values flat, or the same object -/
def sameB : V → Bool
  | .ref _ => true
  | v => flatB v
theorem eqAt_sameB {A : Around} {s : Shared} {v : V} {u u' : Value} (r : RelV v u) (r' : RelV v u') (f : sameB v = true) : SeqAt.EqAt A s u u' true := by
  cases v with
  | ref a =>
    cases (show u = Value.ref a from r)
    cases (show u' = Value.ref a from r')
    exact SeqAt.EqAt.same _
  | _ => exact eqAt_same r r' f
theorem hits_sameB {A : Around} {s : Shared} {kvs : List (Key × V)} {vb : List (Key × Value)} (rb : KV kvs vb) {ks : List (Key × V)} {va : List (Key × Value)} (ra : KV ks va) :
    (∀ p ∈ ks, valV kvs p.1 = some p.2 ∧ sameB p.2 = true) → PySem.W.KeqHits A s vb va true := by
  unfold KV at ra
  induction ra with
  | nil => exact fun _ => .nil
  | @cons p q ps qs h t ih =>
    intro hp
    obtain ⟨h1, h2⟩ := h
    obtain ⟨e, f⟩ := hp p List.mem_cons_self
    have rr : RelO (some p.2) (valueAt vb p.1) := by
      rw [← e]
      exact rb.val p.1
    obtain ⟨y, hy, ry⟩ := rr.some_of
    obtain ⟨k, v⟩ := q
    have h1' : p.1 = k := h1
    rw [h1'] at hy
    have fin : PySem.W.KeqHits A s vb ((k, v) :: qs) (true && true) := .hit hy (eqAt_sameB h2 ry f) (ih fun p' hm => hp p' (List.mem_cons_of_mem _ hm))
    exact fin
def rNeDR : R2 := fun x y H Q => ∃ a b ks ls, x = .ref a ∧ y = .ref b ∧ H a = some (.dK ks) ∧ H b = some (.dK ls) ∧ ks.length = ls.length ∧ (∀ p ∈ ks, valV ls p.1 = some p.2 ∧ sameB p.2 = true) ∧ Q (.bl false) H
/-- x != y, of what is the same or equal -/
def rNeSame (K : PySem.W.Frag) : R2 := fun x y H Q => rNe x y H Q ∨ rNeD K x y H Q ∨ rNeDR x y H Q
end Own
end

section
set_option maxRecDepth 100000
set_option maxHeartbeats 4000000
namespace KK
open PySem PySem.Spec PyProof.Rows L2
/-! ### the checks of values -/
def spIsInt (K : PySem.W.Frag) : Sp := fun vs H Q _ => ∃ (x : V) (t : String) (b1 b2 : Bool), vs = [x] ∧ TyX K H x (.type t) ∧ kitB t "int" = some b1 ∧ kitB t "bool" = some b2 ∧ Q (.bl (b1 && !b2)) H
def spBetween (K : PySem.W.Frag) : Sp := fun vs H Q _ => ∃ (x : V) (lo hi : Int) (t : String) (b1 b2 : Bool), vs = [x, .int lo, .int hi] ∧ TyX K H x (.type t) ∧ kitB t "int" = some b1 ∧ kitB t "bool" = some b2 ∧
  ((b1 && !b2) = true → ∃ i, x = .int i ∧ Q (.bl (decide (lo ≤ i ∧ i ≤ hi))) H) ∧ ((b1 && !b2) = false → Q (.bl false) H)
def nameB (x : Str) : Bool := (decide (1 ≤ x.cps.toList.length) && decide (x.cps.toList.length ≤ 8)) && x.cps.toList.all fun c => decide (97 ≤ c) && decide (c ≤ 122)
theorem nameB_ok {x : Str} (h : NameOk x) : nameB x = true := by
  unfold nameB
  rw [decide_eq_true h.lo, decide_eq_true h.hi, Bool.and_self, Bool.true_and, List.all_eq_true]
  intro c hc
  rw [decide_eq_true (h.cs c hc).1, decide_eq_true (h.cs c hc).2, Bool.and_self]
def spIsName (K : PySem.W.Frag) : Sp := fun vs H Q _ => ∃ (x : V) (t : String) (b : Bool), vs = [x] ∧ TyX K H x (.type t) ∧ kitB t "str" = some b ∧
  (b = true → ∃ s : Str, x = .str s ∧ s.length ≤ 100000 ∧ ∀ H', Same H H' → Q (.bl (nameB s)) H') ∧ (b = false → Q (.bl false) H)
def spAmong (K : PySem.W.Frag) : Sp := fun vs H Q _ => ∃ (x : V) (a : Addr) (t : String) (b : Bool), vs = [x, .ref a] ∧ TyX K H x (.type t) ∧ kitB t "str" = some b ∧ (b = false → Q (.bl false) H) ∧
  (b = true → ∃ s : Str, x = .str s ∧ ((∃ ns : List Str, (SqL K H a (ns.map V.str) ∨ SqT K H a (ns.map V.str)) ∧ Q (.bl (decide (s ∈ ns))) H) ∨ (∃ kvs : List (Key × V), Rd H a (.dK kvs) ∧ Q (.bl (valV kvs (Sum.inr s : Key)).isSome) H)))
def spJust (K : PySem.W.Frag) : Sp := fun vs H Q _ => ∃ (d k : Addr) (kvs : List (Key × V)) (ns : List Str), vs = [.ref d, .ref k] ∧ H d = some (.dK kvs) ∧ SqT K H k (ns.map V.str) ∧ kvs.length = ns.length ∧ ns.length ≤ 1000 ∧ (∀ x ∈ ns, (valV kvs (Sum.inr x : Key)).isSome = true) ∧
  ∀ H', Same H H' → Q (.bl true) H'
def spJustG (K : PySem.W.Frag) : Sp := fun vs H Q _ => ∃ (x : V) (k : Addr) (ns : List Str) (t : String) (b : Bool), vs = [x, .ref k] ∧ TyX K H x (.type t) ∧ kitB t "dict" = some b ∧ (SqL K H k (ns.map V.str) ∨ SqT K H k (ns.map V.str)) ∧ ns.length ≤ 1000 ∧
  (b = false → Q (.bl false) H) ∧ (b = true → ∃ d kvs, x = .ref d ∧ H d = some (.dK kvs) ∧ ∀ H', Same H H' → Q (.bl (decide (kvs.length = ns.length) && ns.all fun x => (valV kvs (Sum.inr x : Key)).isSome)) H')
def inOrd (p : Str × Str) : Str × Str := if Own.ltS p.2 p.1 = true then (p.2, p.1) else p
def spOrder : Sp := fun vs H Q _ => ∃ (a b : Str), vs = [.str a, .str b] ∧ ∀ p, H p = none → Q (.ref p) (upd H p (.tup [.str (ordP (a, b)).1, .str (ordP (a, b)).2]))
theorem one_lt (c d : Nat) : decide (([c] : List Nat) < [d]) = decide (c < d) := by
  by_cases h : c < d
  · rw [decide_eq_true h, decide_eq_true]
    exact List.Lex.rel h
  · rw [decide_eq_false h, decide_eq_false]
    intro z
    cases z with
    | rel q => exact h q
    | cons q => cases q
theorem a_cps : (PySem.Str.ofString "a").cps.toList = [97] := by decide +kernel
theorem z_cps : (PySem.Str.ofString "z").cps.toList = [122] := by decide +kernel
theorem one_cps (c : Nat) : (⟨#[c]⟩ : Str).cps.toList = [c] := rfl
section
variable {P : Program} {w : World} {K : PySem.W.Frag} {mg : Str → Option Value} {base : Heap}
abbrev Nisinteger : List Str := ["value"]
theorem scisinteger : FnScope Nisinteger ["value"] (defScope s_is_integer) := ⟨rfl, rfl, rfl, by decide +kernel, rfl, by decide +kernel, by decide +kernel⟩
theorem c_isint (T : Blt mg) (F : Has K mg "is_integer" s_is_integer) : C8.Cal P w K mg base 1 "is_integer" (spIsInt K) [] := by
  refine calF F (fun f fd F => F.binds (ps := ["value"]) fun _ _ _ _ _ _ us hl => match us, hl with | [_], _ => rfl) scisinteger (fun vs H Q E h => ?_) (fun f cdv A outer s H vs Q E hr h => ?_)
  · obtain ⟨x, t, b1, b2, rfl, _⟩ := h
    rfl
  · obtain ⟨x, t, b1, b2, rfl, ht, h1, h2, q⟩ := h
    refine ⟨_, (pss_one (ps_ret (pe_and (pe_callB call_isi (by rfl) T.b_isinstance (by decide +kernel) (pa_cons (pv 0) (pa_cons (pe_bltn (v := .ty "int") (by rfl) T.b_int (by decide +kernel) rfl) pa_nil))) (pe_one (pe_not (pe_callB call_isi (by rfl) T.b_isinstance (by decide +kernel) (pa_cons (pv 0) (pa_cons (pe_bltn (v := .ty "bool") (by rfl) T.b_bool (by decide +kernel) rfl) pa_nil)))))))), ?_⟩
    refine ⟨_, rfl, _, _, _, _, _, rfl, .ty "int", ht, kit_ty h1, _, rfl, ?_⟩
    cases b1 with
    | false =>
      refine iteF ?_
      exact q
    | true =>
      refine iteT ?_
      exact ⟨_, rfl, _, _, _, _, _, rfl, .ty "bool", ht, kit_ty h2, _, rfl, q⟩
abbrev Nisbetween : List Str := ["value", "low", "high"]
theorem scisbetween : FnScope Nisbetween ["value", "low", "high"] (defScope s_is_between) := ⟨rfl, rfl, rfl, by decide +kernel, rfl, by decide +kernel, by decide +kernel⟩
theorem c_between (T : Blt mg) (F : Has K mg "is_between" s_is_between) (CISINT : C8.Cal P w K mg base 1 "is_integer" (spIsInt K) []) : C8.Cal P w K mg base 2 "is_between" (spBetween K) [] := by
  refine calF F (fun f fd F => F.binds (ps := ["value", "low", "high"]) fun _ _ _ _ _ _ us hl => match us, hl with | [_, _, _], _ => rfl) scisbetween (fun vs H Q E h => ?_) (fun f cdv A outer s H vs Q E hr h => ?_)
  · obtain ⟨x, lo, hi, t, b1, b2, rfl, _⟩ := h
    rfl
  · obtain ⟨x, lo, hi, t, b1, b2, rfl, ht, h1, h2, q1, q2⟩ := h
    refine ⟨_, (pss_one (ps_ret (pe_and (C8.pe_c CISINT hr (by decide) rfl (pa_cons (pv 0) pa_nil)) (pe_one (pe_chain op_le op_le (pv 1) (pv 0) (pv 2)))))), ?_⟩
    refine ⟨_, rfl, x, t, b1, b2, rfl, ht, h1, h2, _, rfl, ?_⟩
    cases hb : (b1 && !b2) with
    | false =>
      refine iteF ?_
      exact q2 hb
    | true =>
      refine iteT ?_
      obtain ⟨i, rfl, q⟩ := q1 hb
      refine ⟨_, rfl, _, rfl, _, _, rfl, rfl, _, rfl, ?_⟩
      by_cases c1 : lo ≤ i
      · rw [decide_eq_true c1]
        refine iteT ?_
        refine ⟨_, rfl, _, _, rfl, rfl, ?_⟩
        have e : decide (lo ≤ i ∧ i ≤ hi) = decide (i ≤ hi) := by
          by_cases c2 : i ≤ hi
          · rw [decide_eq_true c2, decide_eq_true ⟨c1, c2⟩]
          · rw [decide_eq_false c2, decide_eq_false fun z => c2 z.2]
        rw [e] at q
        exact q
      · rw [decide_eq_false c1]
        refine iteF ?_
        rw [decide_eq_false fun z => c1 z.1] at q
        exact q
abbrev Nisname : List Str := ["value", "sign"]
theorem scisname : FnScope Nisname ["value"] (defScope s_is_name) := ⟨rfl, rfl, rfl, by decide +kernel, rfl, by decide +kernel, by decide +kernel⟩
theorem c_isname (T : Blt mg) (G_LONGEST_NAME : ∃ t, mg "LONGEST_NAME" = some (.int 8 t)) (F : Has K mg "is_name" s_is_name) : C8.Cal P w K mg base 1 "is_name" (spIsName K) [] := by
  refine calF F (fun f fd F => F.binds (ps := ["value"]) fun _ _ _ _ _ _ us hl => match us, hl with | [_], _ => rfl) scisname (fun vs H Q E h => ?_) (fun f cdv A outer s H vs Q E hr h => ?_)
  · obtain ⟨x, t, b, rfl, _⟩ := h
    rfl
  · obtain ⟨x, t, b, rfl, ht, h1, q1, q2⟩ := h
    obtain ⟨tk, hG⟩ := G_LONGEST_NAME
    have G_LONGEST_NAME : True ∧ _ := ⟨trivial, hG⟩
    refine ⟨_, (pss_cons (ps_if (PW.pt (pw_or (pt_not (pt_val (pe_callB call_isi (by rfl) T.b_isinstance (by decide +kernel) (pa_cons (pv 0) (pa_cons (pe_bltn (v := .ty "str") (by rfl) T.b_str (by decide +kernel) rfl) pa_nil))))) (pw_or1 (pt_not (pt_chain op_le op_le pe_int (pe_callB call_len_str (by rfl) T.b_len PySem.boot_len (pa_cons (pv 0) pa_nil)) (pe_glob (v := .int 8) rfl G_LONGEST_NAME.2 ⟨_, rfl⟩)))))) (pss_one (ps_ret pe_bl)) pss_nil)
      (pss_one (ps_ret (pe_callB (cr_all rfl) (by rfl) T.b_all (by decide +kernel) (pa_cons (pe_lc (own := [("sign", 1)]) (g := gName 1) (tt := tYes) rfl scisname.nd (pi_str (pv 0)) (blkOk_by (own := [("sign", 1)]) (N := Nisname) (sc := defScope s_is_name) (by decide +kernel)) (fun _ _ _ _ _ => (pg_name (i := 1) scisname.nd rfl (Or.inl rfl))) (fun _ _ _ _ _ => pts_nil) (fun _ _ _ _ _ => (pe_chain op_le_str op_le_str pe_str (pv 1) pe_str))) pa_nil))))), ?_⟩
    refine ⟨_, rfl, _, _, _, _, _, rfl, .ty "str", ht, kit_ty h1, _, rfl, ?_⟩
    cases b with
    | false =>
      refine iteT ?_
      exact q2 rfl
    | true =>
      refine iteF ?_
      obtain ⟨x, rfl, hx, q⟩ := q1 rfl
      have e1 : ((x.length : Nat) : Int) = (x.cps.toList.length : Int) := by rw [len_cps]
      refine ⟨_, rfl, _, rfl, fits hx, _, _, rfl, rfl, _, rfl, ?_⟩
      have hret : (decide (1 ≤ x.cps.toList.length) && decide (x.cps.toList.length ≤ 8)) = false → Q (.bl false) H := fun hf => by
        have := q H (Same.refl H)
        unfold nameB at this
        rw [hf, Bool.false_and] at this
        exact this
      by_cases c1 : (1 : Int) ≤ x.length
      · rw [decide_eq_true c1]
        refine iteT ?_
        refine ⟨_, _, rfl, rfl, _, rfl, ?_⟩
        by_cases c2 : (x.length : Int) ≤ 8
        · rw [decide_eq_true c2]
          refine iteF ?_
          refine ⟨_, rfl, _, rfl, fun D hD => lc_it (σ := [some (.str x), none]) (vs := [1]) walk_str (fun i H2 => Same H H2 ∧ H2 D = some (.lst (((x.cps.toList.take i).map fun c => decide (97 ≤ c) && decide (c ≤ 122)).map V.bl)))
            ⟨Same.new hD, upd_same⟩ (fun _ _ _ _ => True.intro) ?_ ?_⟩
          · rintro i v H2 H3 hi ⟨s2, h2⟩ ⟨rfl, c, ec, rfl⟩
            have ec' : x.cps.toList[i]? = some c := by rw [Array.getElem?_toList]; exact ec
            refine ⟨rfl, ?_⟩
            refine iteT (B := False) ?_
            have fin : ∀ b : Bool, b = (decide (97 ≤ c) && decide (c ≤ 122)) → ∃ acc, H3 D = some (.lst acc) ∧ acc.length < sizeLine ∧ Same H (upd H3 D (.lst (acc ++ [V.bl b]))) ∧ (upd H3 D (.lst (acc ++ [V.bl b]))) D = some (.lst (((x.cps.toList.take (i + 1)).map fun c => decide (97 ≤ c) && decide (c ≤ 122)).map V.bl)) := fun b hb => by
              refine ⟨_, h2, fitsL (by rw [List.length_map, List.length_map, List.length_take]; omega), fun b' o e => by rw [upd_ne (ne_of_none e hD)]; exact s2 _ _ e, ?_⟩
              rw [upd_same, take_more ec', List.map_append, List.map_append, hb]
              rfl
            refine ⟨_, rfl, _, _, rfl, rfl, _, rfl, ?_⟩
            rw [a_cps, one_cps, one_lt]
            by_cases c3 : c < 97
            · rw [decide_eq_true c3]
              refine iteF ?_
              refine fin false ?_
              rw [decide_eq_false (by omega : ¬ 97 ≤ c), Bool.false_and]
            · rw [decide_eq_false c3]
              refine iteT ?_
              refine ⟨_, _, rfl, rfl, ?_⟩
              rw [z_cps, one_cps, one_lt]
              refine fin _ ?_
              rw [decide_eq_true (by omega : 97 ≤ c), Bool.true_and]
              by_cases c4 : 122 < c
              · rw [decide_eq_true c4, decide_eq_false (by omega : ¬ c ≤ 122)]
                rfl
              · rw [decide_eq_false c4, decide_eq_true (by omega : c ≤ 122)]
                rfl
          · rintro H2 ⟨s2, h2⟩
            rw [List.take_of_length_le (by rw [Array.length_toList]; exact Nat.le_refl _)] at h2
            refine ⟨D, _, rfl, SqL.of h2, ?_⟩
            have := q H2 s2
            unfold nameB at this
            rw [decide_eq_true (by omega : 1 ≤ x.cps.toList.length), decide_eq_true (by omega : x.cps.toList.length ≤ 8), Bool.and_self, Bool.true_and] at this
            rw [List.all_map]
            exact this
        · rw [decide_eq_false c2]
          refine iteT ?_
          exact hret (by rw [decide_eq_false (by omega : ¬ x.cps.toList.length ≤ 8), Bool.and_false])
      · rw [decide_eq_false c1]
        refine iteF ?_
        exact ⟨_, rfl, iteT (hret (by rw [decide_eq_false (by omega : ¬ 1 ≤ x.cps.toList.length), Bool.false_and]))⟩
abbrev Nisamong : List Str := ["value", "names"]
theorem scisamong : FnScope Nisamong ["value", "names"] (defScope s_is_among) := ⟨rfl, rfl, rfl, by decide +kernel, rfl, by decide +kernel, by decide +kernel⟩
theorem c_among (T : Blt mg) (F : Has K mg "is_among" s_is_among) : C8.Cal P w K mg base 1 "is_among" (spAmong K) [] := by
  refine calF F (fun f fd F => F.binds (ps := ["value", "names"]) fun _ _ _ _ _ _ us hl => match us, hl with | [_, _], _ => rfl) scisamong (fun vs H Q E h => ?_) (fun f cdv A outer s H vs Q E hr h => ?_)
  · obtain ⟨x, a, t, b, rfl, _⟩ := h
    rfl
  · obtain ⟨x, a, t, b, rfl, ht, h1, q2, q1⟩ := h
    have hu := hu_of hr
    refine ⟨_, (pss_one (ps_ret (pe_and (pe_callB call_isi (by rfl) T.b_isinstance (by decide +kernel) (pa_cons (pv 0) (pa_cons (pe_bltn (v := .ty "str") (by rfl) T.b_str (by decide +kernel) rfl) pa_nil))) (pe_one (pe_cmpR (Own.op_inAny hu) (pv 0) (pv 1) (by rfl)))))), ?_⟩
    refine ⟨_, rfl, _, _, _, _, _, rfl, .ty "str", ht, kit_ty h1, _, rfl, ?_⟩
    cases b with
    | false =>
      refine iteF ?_
      exact q2 rfl
    | true =>
      refine iteT ?_
      obtain ⟨s, rfl, q⟩ := q1 rfl
      refine ⟨_, rfl, _, rfl, ?_⟩
      rcases q with ⟨ns, hs, q⟩ | ⟨kvs, hd, q⟩
      · refine .inl ⟨a, _, rfl, hs, rfl, flat_strs ns, ?_⟩
        show Q (.bl (inV (.str s) (ns.map V.str))) H
        rw [inV_strs]
        exact q
      · exact .inr ⟨a, _, rfl, .inl ⟨kvs, Sum.inr s, hd, rfl, rfl⟩, q⟩
abbrev Nhasjust : List Str := ["value", "keys", "key"]
theorem schasjust : FnScope Nhasjust ["value", "keys"] (defScope s_has_just) := ⟨rfl, rfl, rfl, by decide +kernel, rfl, by decide +kernel, by decide +kernel⟩
theorem c_justG (T : Blt mg) (F : Has K mg "has_just" s_has_just) : C8.Cal P w K mg base 1 "has_just" (spJustG K) [] := by
  refine calF F (fun f fd F => F.binds (ps := ["value", "keys"]) fun _ _ _ _ _ _ us hl => match us, hl with | [_, _], _ => rfl) schasjust (fun vs H Q E h => ?_) (fun f cdv A outer s H vs Q E hr h => ?_)
  · obtain ⟨x, k, ns, t, b, rfl, _⟩ := h
    rfl
  · obtain ⟨x, k, ns, t, b, rfl, ht, hb, hk, hl2, q0, q1⟩ := h
    have hu := hu_of hr
    refine ⟨_, (pss_one (ps_ret (pe_and (pe_callB call_isi (by rfl) T.b_isinstance (by decide +kernel) (pa_cons (pv 0) (pa_cons (pe_bltn (v := .ty "dict") (by rfl) T.b_dict (by decide +kernel) rfl) pa_nil))) (pe_and (pe_cmpR op_eq (pe_callB call_lenD (by rfl) T.b_len PySem.boot_len (pa_cons (pv 0) pa_nil)) (pe_callB call_len (by rfl) T.b_len PySem.boot_len (pa_cons (pv 1) pa_nil)) (nomark _)) (pe_one (pe_callB (cr_all rfl) (by rfl) T.b_all (by decide +kernel) (pa_cons (pe_lc (own := [("key", 2)]) (g := gName 2) (tt := tYes) rfl schasjust.nd (Own.pi_lt (pv 1)) (blkOk_by (own := [("key", 2)]) (N := Nhasjust) (sc := defScope s_has_just) (by decide +kernel)) (fun _ _ _ _ _ => (pg_name (i := 2) schasjust.nd rfl (Or.inl rfl))) (fun _ _ _ _ _ => pts_nil) (fun _ _ _ _ _ => (pe_cmp (pc_din hu (pv 2) (pv 0)) rfl))) pa_nil))))))), ?_⟩
    refine ⟨_, rfl, _, _, _, _, _, rfl, .ty "dict", ht, kit_ty hb, _, rfl, ?_⟩
    cases b with
    | false =>
      refine iteF ?_
      exact q0 rfl
    | true =>
      obtain ⟨d, kvs, rfl, hd, q⟩ := q1 rfl
      refine iteT ?_
      have hlen : LenV K (.ref k) H ns.length := by
        rcases hk with hk | hk
        · exact .inl ⟨_, hk, by rw [List.length_map]⟩
        · exact .inr ⟨_, hk, by rw [List.length_map]⟩
      refine ⟨_, rfl, d, kvs, rfl, hd, _, rfl, _, _, rfl, hlen, rfl, ?_⟩
      have e : decide (V.int (kvs.length : Int) = V.int (ns.length : Int)) = decide (kvs.length = ns.length) := by
        by_cases h : kvs.length = ns.length
        · rw [decide_eq_true h, h, decide_eq_true rfl]
        · rw [decide_eq_false h, decide_eq_false fun z => h (by have := V.int.inj z; omega)]
      rw [e]
      by_cases hl : kvs.length = ns.length
      · rw [decide_eq_true hl]
        refine ⟨_, rfl, iteT ?_⟩
        have turn : ∀ D, H D = none → ∀ i v H2, i < ns.length → (Same H H2 ∧ H2 D = some (.lst (((ns.take i).map fun x => (valV kvs (Sum.inr x : Key)).isSome).map V.bl))) → (ns.map V.str)[i]? = some v →
            ∃ acc, H2 D = some (.lst acc) ∧ acc.length < sizeLine ∧ ∃ o, DGet H2 d v o ∧ (Same H (upd H2 D (.lst (acc ++ [V.bl o.isSome]))) ∧ (upd H2 D (.lst (acc ++ [V.bl o.isSome]))) D = some (.lst (((ns.take (i + 1)).map fun x => (valV kvs (Sum.inr x : Key)).isSome).map V.bl))) := fun D hD i v H2 hi ⟨s2, h2⟩ hv => by
          rw [List.getElem?_map] at hv
          obtain ⟨x, hx, rfl⟩ := Option.map_eq_some_iff.mp hv
          refine ⟨_, h2, fitsL (by rw [List.length_map, List.length_map, List.length_take]; omega), _, DGet.k (k := Sum.inr x) (s2 _ _ hd), fun b' o e => by rw [upd_ne (ne_of_none e hD)]; exact s2 _ _ e, ?_⟩
          rw [upd_same, take_more hx, List.map_append, List.map_append]
          rfl
        have fin : ∀ D H2, Same H H2 → H2 D = some (.lst (((ns.take ns.length).map fun x => (valV kvs (Sum.inr x : Key)).isSome).map V.bl)) → ∃ (a : Addr) (xs : List Bool), ([V.ref D] : List V) = [.ref a] ∧ SqL K H2 a (xs.map V.bl) ∧ Q (.bl (xs.all id)) H2 := fun D H2 s2 h2 => by
          rw [List.take_of_length_le (Nat.le_refl _)] at h2
          refine ⟨D, _, rfl, SqL.of h2, ?_⟩
          have := q H2 s2
          rw [decide_eq_true hl, Bool.true_and] at this
          rw [List.all_map]
          exact this
        rcases hk with hk | hk
        · refine .inl ⟨_, rfl, k, rfl, ⟨_, hk⟩, fun D hD => lc_list (K := K) (a := k) (xs := ns.map V.str) (σ := [some (.ref d), some (.ref k), none]) (vs := [2]) (fun i H2 => Same H H2 ∧ H2 D = some (.lst (((ns.take i).map fun x => (valV kvs (Sum.inr x : Key)).isSome).map V.bl)))
            ⟨Same.new hD, upd_same⟩ (fun i H2 _ p => p.1.seq hk) ?_ ?_⟩
          · rintro i v H2 hi p2
            have hin : i < ns.length := by have := (List.getElem?_eq_some_iff.mp hi).1; rw [List.length_map] at this; exact this
            obtain ⟨acc, h1, h2, o, h3, h4⟩ := turn D hD i v H2 hin p2 hi
            refine ⟨rfl, ?_⟩
            refine iteT (B := False) ?_
            exact ⟨_, rfl, _, rfl, d, o, rfl, h3, acc, h1, h2, h4⟩
          · rintro H2 ⟨s2, h2⟩
            rw [List.length_map] at h2
            exact fin D H2 s2 h2
        · refine .inr ⟨_, rfl, k, rfl, ⟨_, hk⟩, fun D hD => lc_tup (K := K) (a := k) (xs := ns.map V.str) (σ := [some (.ref d), some (.ref k), none]) (vs := [2]) (fun i H2 => Same H H2 ∧ H2 D = some (.lst (((ns.take i).map fun x => (valV kvs (Sum.inr x : Key)).isSome).map V.bl)))
            ⟨Same.new hD, upd_same⟩ (fun i H2 _ p => Same.seqT p.1 hk) ?_ ?_⟩
          · rintro i v H2 hi p2
            have hin : i < ns.length := by have := (List.getElem?_eq_some_iff.mp hi).1; rw [List.length_map] at this; exact this
            obtain ⟨acc, h1, h2, o, h3, h4⟩ := turn D hD i v H2 hin p2 hi
            refine ⟨rfl, ?_⟩
            refine iteT (B := False) ?_
            exact ⟨_, rfl, _, rfl, d, o, rfl, h3, acc, h1, h2, h4⟩
          · rintro H2 ⟨s2, h2⟩
            rw [List.length_map] at h2
            exact fin D H2 s2 h2
      · rw [decide_eq_false hl]
        have := q H (Same.refl H)
        rw [decide_eq_false hl, Bool.false_and] at this
        exact ⟨_, rfl, iteF this⟩
theorem c_just (T : Blt mg) (F : Has K mg "has_just" s_has_just) : C8.Cal P w K mg base 1 "has_just" (spJust K) [] :=
  Own.cal_of (c_justG T F) fun vs H Q E h => by
    obtain ⟨d, k, kvs, ns, rfl, hd, hk, hl, hl2, hall, q⟩ := h
    refine ⟨.ref d, k, ns, "dict", true, rfl, .base (.dK hd), by decide +kernel, .inr hk, hl2, fun z => (by cases z), fun _ => ⟨d, kvs, rfl, hd, fun H' s => ?_⟩⟩
    rw [decide_eq_true hl, Bool.true_and, List.all_eq_true.mpr hall]
    exact q H' s
abbrev Ninorder : List Str := ["a", "b"]
theorem scinorder : FnScope Ninorder ["a", "b"] (defScope s_in_order) := ⟨rfl, rfl, rfl, by decide +kernel, rfl, by decide +kernel, by decide +kernel⟩
theorem c_order (T : Blt mg) (F : Has K mg "in_order" s_in_order) : C8.Cal P w K mg base 1 "in_order" spOrder [] := by
  refine calF F (fun f fd F => F.binds (ps := ["a", "b"]) fun _ _ _ _ _ _ us hl => match us, hl with | [_, _], _ => rfl) scinorder (fun vs H Q E h => ?_) (fun f cdv A outer s H vs Q E hr h => ?_)
  · obtain ⟨a, b, rfl, _⟩ := h
    rfl
  · obtain ⟨a, b, rfl, q⟩ := h
    refine ⟨_, (pss_one (ps_ret (pe_ifExp (pt_cmpR op_le_str (pv 0) (pv 1) (nomark _)) (pe_tup (pa_cons (pv 0) (pa_cons (pv 1) pa_nil))) (pe_tup (pa_cons (pv 1) (pa_cons (pv 0) pa_nil)))))), ?_⟩
    refine ⟨_, rfl, _, rfl, _, _, rfl, rfl, _, rfl, ?_⟩
    unfold ordP Own.ltS at q
    by_cases c : b.cps.toList < a.cps.toList
    · rw [decide_eq_true c]
      refine iteF ?_
      refine ⟨_, rfl, _, rfl, (show 2 ≤ sizeLine from fits (by decide)), fun p hp => ?_⟩
      have := q p hp
      rw [if_pos (decide_eq_true c)] at this
      exact this
    · rw [decide_eq_false c]
      refine iteT ?_
      refine ⟨_, rfl, _, rfl, (show 2 ≤ sizeLine from fits (by decide)), fun p hp => ?_⟩
      have := q p hp
      rw [if_neg (by rw [decide_eq_false c]; decide)] at this
      exact this
end
end KK
end

section
set_option maxRecDepth 100000
set_option maxHeartbeats 4000000
namespace KK
open PySem PySem.Spec PyProof.Rows L2
def seenK (ns : List Str) : List (Key × V) := ns.map fun x => ((Sum.inr x : Key), V.bl true)
theorem valV_map {α κ : Type} [DecidableEq κ] {f : α → V} {g : α → κ} : ∀ {l : List α} {k : κ}, (∀ x ∈ l, g x ≠ k) → valV (l.map fun x => (g x, f x)) k = none
  | [], k, _ => rfl
  | a :: l, k, h => by
    have ih := valV_map (f := f) (g := g) (l := l) (k := k) fun x hx => h x (List.mem_cons_of_mem _ hx)
    unfold valV at ih ⊢
    rw [List.map_cons, List.find?_cons_of_neg (by
      show ¬ decide (g a = k) = true
      rw [decide_eq_true_eq]
      exact h a List.mem_cons_self)]
    exact ih
theorem paired_get {α β : Type} {R : α → β → Prop} : ∀ {xs : List α} {ys : List β} {i : Nat} {x : α}, Paired R xs ys → xs[i]? = some x → ∃ y, ys[i]? = some y ∧ R x y
  | _, _, 0, x, .cons r _, h => ⟨_, rfl, by have e := Option.some.inj h; rw [← e]; exact r⟩
  | _, _, i + 1, x, .cons _ t, h => paired_get (i := i) t h
  | _, _, i, x, .nil, h => by simp at h
theorem not_taken' {α : Type} {l : List α} {i : Nat} {x : α} (hn : l.Nodup) (h : l[i]? = some x) : x ∉ l.take i := fun hm => by
  obtain ⟨j, hj⟩ := List.getElem?_of_mem hm
  have hlt : j < i := by
    obtain ⟨h1, _⟩ := List.getElem?_eq_some_iff.mp hj
    rw [List.length_take] at h1
    omega
  rw [List.getElem?_take_of_lt hlt] at hj
  have := nd_ix hn h hj
  omega
theorem seenK_none {ns : List Str} {x : Str} (h : x ∉ ns) : valV (seenK ns) (Sum.inr x : Key) = none := valV_map fun y hy e => h (by have := Sum.inr.inj e; rw [← this]; exact hy)
theorem seenK_put {ns : List Str} {x : Str} (h : x ∉ ns) : putK (seenK ns) (Sum.inr x : Key) (V.bl true) = seenK (ns ++ [x]) := by
  rw [putK_new _ (seenK_none h)]
  unfold seenK
  rw [List.map_append]
  rfl
def spNamesF (K : PySem.W.Frag) : Sp := fun vs H Q _ => ∃ (a : Addr) (ns : List Str), vs = [.ref a] ∧ H a = some (.tup (ns.map V.str)) ∧ NsOk ns ∧ ∀ H', Same H H' → Q .non H'
def spPriceF (K : PySem.W.Frag) : Sp := fun vs H Q _ => ∃ (d a : Addr) (ns : List Str) (ps : List Int), vs = [.ref d, .ref a, .int 1] ∧ IsPr H d ns ps ∧ H a = some (.tup (ns.map V.str)) ∧ NsOk ns ∧ PrOk ps ∧ ps.length = ns.length ∧ ∀ H', Same H H' → Q .non H'
def spIsTie (K : PySem.W.Frag) : Sp := fun vs H Q _ => ∃ (t a : Addr) (ns : List Str) (p : Str × Str), vs = [.ref t, .ref a] ∧ H t = some (.tup [.str p.1, .str p.2]) ∧ H a = some (.tup (ns.map V.str)) ∧ TieOk ns p ∧ (∀ x ∈ ns, x.length ≤ 8) ∧ ∀ H', Same H H' → Q (.bl true) H'
def spTieF (K : PySem.W.Frag) : Sp := fun vs H Q _ => ∃ (l a : Addr) (ns : List Str) (xs : List V) (ts : List (Str × Str)), vs = [.ref l, .ref a] ∧ H l = some (.lst xs) ∧ Ties H xs ts ∧ H a = some (.tup (ns.map V.str)) ∧ NsOk ns ∧ TsOk ns ts ∧ ∀ H', Same H H' → Q .non H'
theorem prK_some {ns : List Str} {ps : List Int} (hn : ns.Nodup) (hl : ps.length = ns.length) {i : Nat} {x : Str} (h : ns[i]? = some x) : ∃ p, ps[i]? = some p ∧ valV (prK ns ps) (Sum.inr x : Key) = some (.int p) := by
  induction ns generalizing ps i with
  | nil => simp at h
  | cons n ns ih =>
    cases ps with
    | nil => simp at hl
    | cons p ps =>
      have hn' := List.nodup_cons.mp hn
      cases i with
      | zero =>
        have e : n = x := Option.some.inj h
        subst e
        refine ⟨p, rfl, ?_⟩
        unfold valV prK
        rw [List.zip_cons_cons, List.map_cons, List.find?_cons_of_pos (by exact decide_eq_true rfl)]
        rfl
      | succ i =>
        have h' : ns[i]? = some x := h
        obtain ⟨q, h1, h2⟩ := ih (ps := ps) (i := i) hn'.2 (by simpa using hl) h'
        refine ⟨q, h1, ?_⟩
        unfold valV prK at h2 ⊢
        rw [List.zip_cons_cons, List.map_cons, List.find?_cons_of_neg]
        · exact h2
        · show ¬ decide ((Sum.inr n : Key) = Sum.inr x) = true
          rw [decide_eq_true_eq]
          intro e
          have := Sum.inr.inj e
          subst this
          exact hn'.1 (List.mem_of_getElem? h')
section
variable {P : Program} {w : World} {K : PySem.W.Frag} {mg : Str → Option Value} {base : Heap}
abbrev Nnamesfault : List Str := ["names", "seen", "index", "name"]
theorem scnamesfault : FnScope Nnamesfault ["names"] (defScope s_names_fault) := ⟨rfl, rfl, rfl, by decide +kernel, rfl, by decide +kernel, by decide +kernel⟩
theorem c_namesf (T : Blt mg) (G_MOST_PLACES : ∃ t, mg "MOST_PLACES" = some (.int 40 t)) (F : Has K mg "names_fault" s_names_fault) (CISNAME : C8.Cal P w K mg base 1 "is_name" (spIsName K) []) : C8.Cal P w K mg base 2 "names_fault" (spNamesF K) [] := by
  refine calF F (fun f fd F => F.binds (ps := ["names"]) fun _ _ _ _ _ _ us hl => match us, hl with | [_], _ => rfl) scnamesfault (fun vs H Q E h => ?_) (fun f cdv A outer s H vs Q E hr h => ?_)
  · obtain ⟨a, ns, rfl, _⟩ := h
    rfl
  · obtain ⟨a, ns, rfl, ha, no, q⟩ := h
    have hu := hu_of hr
    obtain ⟨tk, hG⟩ := G_MOST_PLACES
    have G_MOST_PLACES : True ∧ _ := ⟨trivial, hG⟩
    have n1 := no.lo
    have n2 := no.hi
    refine ⟨_, (pss_cons (ps_if (PW.pt (pw_or (pt_not (pt_val (pe_callB call_isi (by rfl) T.b_isinstance (by decide +kernel) (pa_cons (pv 0) (pa_cons (pe_bltn (v := .ty "tuple") (by rfl) T.b_tuple (by decide +kernel) rfl) pa_nil))))) (pw_or1 (pt_not (pt_chain op_le op_le pe_int (pe_callB call_len (by rfl) T.b_len PySem.boot_len (pa_cons (pv 0) pa_nil)) (pe_glob (v := .int 40) rfl G_MOST_PLACES.2 ⟨_, rfl⟩)))))) (pss_one (ps_ret (pe_un un_neg pe_int))) pss_nil)
      (pss_cons (ps_set (i := 1) scnamesfault.nd rfl (Or.inl rfl) pe_dnewK)
      (pss_cons (ps_for PassesOwn.never rfl (Own.pi_enumT (by rfl) T.b_enumerate (pa_cons (pv 0) pa_nil)) (pg_tup rfl (pgs_cons (pg_name (i := 2) scnamesfault.nd rfl (Or.inl rfl)) (pgs_cons (pg_name (i := 3) scnamesfault.nd rfl (Or.inl rfl)) pgs_nil)))
        (pss_cons (ps_if (PW.pt (pw_or (pt_not (pt_val (C8.pe_c CISNAME hr (by decide) rfl (pa_cons (pv 3) pa_nil)))) (pw_or1 (pt_cmp (pc_din hu (pv 3) (pv 1)))))) (pss_one (ps_ret (pv 2))) pss_nil)
      (pss_one (ps_dput hu (pv 1) (pv 3) pe_bl rfl))))
      (pss_one (ps_ret pe_non))))), ?_⟩
    refine ⟨_, rfl, _, _, _, _, _, rfl, .ty "tuple", .base (.tup ha), kit_ty (b := "tuple") (r := true) (by decide +kernel), _, rfl, iteF ?_⟩
    refine ⟨_, rfl, _, _, rfl, .inr ⟨_, SqT.of ha, rfl⟩, _, _, rfl, rfl, _, rfl, ?_⟩
    rw [List.length_map, decide_eq_true (by omega : (1 : Int) ≤ ns.length)]
    refine iteT ?_
    refine ⟨_, _, rfl, rfl, _, rfl, ?_⟩
    rw [decide_eq_true (by omega : (ns.length : Int) ≤ 40)]
    refine iteF ?_
    intro d hd
    have nad : a ≠ d := ne_of_none ha hd
    refine ⟨_, rfl, a, _, rfl, SqT.of (by rw [upd_ne nad]; exact ha), for_it Own.walk_enumT (fun i σ H2 => ∃ (v2 v3 : Option V), σ = [some (.ref a), some (.ref d), v2, v3] ∧ Same H H2 ∧ H2 d = some (.dK (seenK (ns.take i))))
      ⟨_, _, rfl, Same.new hd, upd_same⟩ (fun i σ H2 _ ⟨_, _, _, s2, _⟩ => Same.seqT s2 (SqT.of ha)) ?_ ?_⟩
    · rintro i v σ H2 H3 hi ⟨v2, v3, rfl, s2, h2⟩ ⟨p, x, y, rfl, hp, rfl, hx, hy⟩
      cases hx
      replace hy : (ns.map V.str)[i]? = some y := hy
      rw [List.getElem?_map] at hy
      obtain ⟨y, hyy, rfl⟩ := Option.map_eq_some_iff.mp hy
      clear hy
      have hy := hyy
      have npd : d ≠ p := ne_of_none h2 hp
      refine ⟨p, _, rfl, SqT.of upd_same, rfl, _, _, rfl, _, _, rfl, rfl, ?_⟩
      refine ⟨_, rfl, _, "str", true, rfl, .base (.str y), by decide +kernel, fun _ => ⟨y, rfl, ?_, fun H4 s4 => ?_⟩, fun z => by cases z⟩
      · have := (no.ok y (List.mem_of_getElem? hy)).hi
        rw [len_cps]
        omega
      · have s5 : Same H H4 := (s2.trans (Same.new hp)).trans s4
        have e1 := (Same.new (o := .tup [.int (i : Nat), .str y]) hp |>.trans s4) _ _ h2
        have hny := not_taken no.nd hy
        rw [nameB_ok (no.ok y (List.mem_of_getElem? hy))]
        refine ⟨_, rfl, iteF ?_⟩
        refine ⟨_, rfl, _, rfl, d, _, rfl, DGet.k (k := Sum.inr y) e1, ?_⟩
        rw [seenK_none hny]
        refine ⟨_, rfl, iteF ?_⟩
        refine ⟨_, rfl, _, rfl, d, _, rfl, DPut.k (k := Sum.inr y) e1 (fitsL (by unfold seenK; rw [List.length_map, List.length_take]; omega)), ?_⟩
        refine ⟨_, _, rfl, fun b o e => by rw [upd_ne (ne_of_none e hd)]; exact s5 _ _ e, ?_⟩
        rw [upd_same, take_more hy, seenK_put hny]
    · rintro σ H2 ⟨v2, v3, rfl, s2, h2⟩
      exact q H2 s2
abbrev Npricefault : List Str := ["prices", "names", "least", "name"]
theorem scpricefault : FnScope Npricefault ["prices", "names", "least"] (defScope s_price_fault) := ⟨rfl, rfl, rfl, by decide +kernel, rfl, by decide +kernel, by decide +kernel⟩
theorem c_pricef (T : Blt mg) (G_GREATEST_PRICE : ∃ t, mg "GREATEST_PRICE" = some (.int (10 ^ 30) t)) (F : Has K mg "price_fault" s_price_fault) (CHASJUST : C8.Cal P w K mg base 1 "has_just" (spJust K) []) (CISBET : C8.Cal P w K mg base 2 "is_between" (spBetween K) []) : C8.Cal P w K mg base 3 "price_fault" (spPriceF K) [] := by
  refine calF F (fun f fd F => F.binds (ps := ["prices", "names", "least"]) fun _ _ _ _ _ _ us hl => match us, hl with | [_, _, _], _ => rfl) scpricefault (fun vs H Q E h => ?_) (fun f cdv A outer s H vs Q E hr h => ?_)
  · obtain ⟨d, a, ns, ps, rfl, _⟩ := h
    rfl
  · obtain ⟨d, a, ns, ps, rfl, ⟨kvs, hd, pk⟩, ha, no, po, hl, q⟩ := h
    have vp : ∀ k, valV kvs k = valV (prK ns ps) k := valV_perm pk (prK_nodup no.nd)
    have hu := hu_of hr
    obtain ⟨tk, hG⟩ := G_GREATEST_PRICE
    have G_GREATEST_PRICE : True ∧ _ := ⟨trivial, hG⟩
    have n2 := no.hi
    refine ⟨_, (pss_cons (ps_if (pt_not (pt_val (C8.pe_c CHASJUST hr (by decide) rfl (pa_cons (pv 0) (pa_cons (pv 1) pa_nil))))) (pss_one (ps_ret pe_str)) pss_nil)
      (pss_cons (ps_for PassesOwn.never rfl (pi_list (pe_callB Own.cr_sortS (by rfl) T.b_sorted (by decide +kernel) (pa_cons (pv 1) pa_nil))) (pg_name (i := 3) scpricefault.nd rfl (Or.inl rfl))
        (pss_one (ps_if (pt_not (pt_val (C8.pe_c CISBET hr (by decide) rfl (pa_cons (pe_dget hu (pv 0) (pv 3) (fun _ _ => rfl)) (pa_cons (pv 2) (pa_cons (pe_glob (v := .int (10 ^ 30)) rfl G_GREATEST_PRICE.2 ⟨_, rfl⟩) pa_nil)))))) (pss_one (ps_ret (pv 3))) pss_nil)))
      (pss_one (ps_ret pe_non)))), ?_⟩
    have hall : ∀ x ∈ ns, ∃ p, p ∈ ps ∧ valV kvs (Sum.inr x : Key) = some (.int p) := fun x hx => by
      obtain ⟨i, hi⟩ := List.getElem?_of_mem hx
      obtain ⟨p, h1, h2⟩ := prK_some no.nd hl hi
      exact ⟨p, List.mem_of_getElem? h1, by rw [vp]; exact h2⟩
    refine ⟨_, rfl, _, rfl, d, a, _, ns, rfl, hd, SqT.of ha, pk.length_eq.trans (prK_len _ _ hl), by omega, fun x hx => ?_, fun H1 s1 => ?_⟩
    · obtain ⟨p, _, h2⟩ := hall x hx
      rw [h2]
      rfl
    · refine ⟨_, rfl, iteF ?_⟩
      refine ⟨_, rfl, a, ns, rfl, .inr (Same.seqT s1 (SqT.of ha)), fun ys p hp _ hfr => ?_⟩
      have npd : d ≠ p := ne_of_none (s1 _ _ hd) hfr
      refine ⟨p, rfl, ⟨_, SqL.of upd_same⟩, for_list (K := K) (a := p) (xs := ys.map V.str) (fun i σ H2 => ∃ v3, σ = [some (.ref d), some (.ref a), some (.int 1), v3] ∧ Same H H2 ∧ H2 p = some (.lst (ys.map V.str)))
        ⟨_, rfl, s1.trans (Same.new hfr), upd_same⟩ (fun i σ H2 _ ⟨_, _, _, h⟩ => SqL.of h) ?_ ?_⟩
      · rintro i v σ H2 hi ⟨v3, rfl, s2, h2⟩
        rw [List.getElem?_map] at hi
        obtain ⟨x, hx, rfl⟩ := Option.map_eq_some_iff.mp hi
        obtain ⟨r, hr1, hr2⟩ := hall x (hp.mem_iff.mp (List.mem_of_getElem? hx))
        have p1 := po r hr1
        have hg : DGet H2 d (.str x) (some (.int r)) := by rw [← hr2]; exact DGet.k (k := Sum.inr x) (s2 _ _ hd)
        refine ⟨_, rfl, _, rfl, d, _, rfl, hg, _, rfl, .int r, 1, 10 ^ 30, "int", true, false, rfl, .base (.int r), by decide +kernel, by decide +kernel, fun _ => ⟨r, rfl, ?_⟩, fun z => by cases z⟩
        rw [decide_eq_true (show 1 ≤ r ∧ r ≤ 10 ^ 30 from p1)]
        refine ⟨_, rfl, iteF ?_⟩
        exact ⟨_, rfl, s2, h2⟩
      · rintro σ H2 ⟨v3, rfl, s2, h2⟩
        exact q H2 s2
abbrev Nistie : List Str := ["value", "places", "a", "b"]
theorem scistie : FnScope Nistie ["value", "places"] (defScope s_is_tie) := ⟨rfl, rfl, rfl, by decide +kernel, rfl, by decide +kernel, by decide +kernel⟩
theorem c_istie (T : Blt mg) (F : Has K mg "_is_tie" s_is_tie) (CAMONG : C8.Cal P w K mg base 1 "is_among" (spAmong K) []) : C8.Cal P w K mg base 2 "_is_tie" (spIsTie K) [] := by
  refine calF F (fun f fd F => F.binds (ps := ["value", "places"]) fun _ _ _ _ _ _ us hl => match us, hl with | [_, _], _ => rfl) scistie (fun vs H Q E h => ?_) (fun f cdv A outer s H vs Q E hr h => ?_)
  · obtain ⟨t, a, ns, p, rfl, _⟩ := h
    rfl
  · obtain ⟨t, a, ns, p, rfl, ht, ha, to, hx, q⟩ := h
    have hu := hu_of hr
    refine ⟨_, (pss_cons (ps_if (PW.pt (pw_or (pt_not (pt_val (pe_callB call_isi (by rfl) T.b_isinstance (by decide +kernel) (pa_cons (pv 0) (pa_cons (pe_bltn (v := .ty "tuple") (by rfl) T.b_tuple (by decide +kernel) rfl) pa_nil))))) (pw_or1 (pt_cmpR op_ne (pe_callB call_len (by rfl) T.b_len PySem.boot_len (pa_cons (pv 0) pa_nil)) pe_int (nomark _))))) (pss_one (ps_ret pe_bl)) pss_nil)
      (pss_cons (ps_asg (pv 0) (pg_tup rfl (pgs_cons (pg_name (i := 2) scistie.nd rfl (Or.inl rfl)) (pgs_cons (pg_name (i := 3) scistie.nd rfl (Or.inl rfl)) pgs_nil))))
      (pss_one (ps_ret (pe_and (C8.pe_c CAMONG hr (by decide) rfl (pa_cons (pv 2) (pa_cons (pv 1) pa_nil))) (pe_and (C8.pe_c CAMONG hr (by decide) rfl (pa_cons (pv 3) (pa_cons (pv 1) pa_nil))) (pe_one (pe_cmpR op_ne (pv 2) (pv 3) (nomark _))))))))), ?_⟩
    refine ⟨_, rfl, _, _, _, _, _, rfl, .ty "tuple", .base (.tup ht), kit_ty (b := "tuple") (r := true) (by decide +kernel), _, rfl, iteF ?_⟩
    refine ⟨_, rfl, _, _, rfl, .inr ⟨_, SqT.of ht, rfl⟩, ?_⟩
    refine ⟨rfl, _, rfl, iteF ?_⟩
    refine ⟨_, rfl, t, _, rfl, SqT.of ht, rfl, _, _, rfl, _, _, rfl, rfl, ?_⟩
    refine ⟨_, rfl, _, rfl, .str p.1, a, "str", true, rfl, .base (.str _), by decide +kernel, fun z => (by cases z), fun _ => ⟨p.1, rfl, .inl ⟨ns, .inr (SqT.of ha), ?_⟩⟩⟩
    rw [decide_eq_true to.a]
    refine ⟨_, rfl, iteT ?_⟩
    refine ⟨_, rfl, _, rfl, .str p.2, a, "str", true, rfl, .base (.str _), by decide +kernel, fun z => (by cases z), fun _ => ⟨p.2, rfl, .inl ⟨ns, .inr (SqT.of ha), ?_⟩⟩⟩
    rw [decide_eq_true to.b]
    refine ⟨_, rfl, iteT ?_⟩
    refine ⟨_, rfl, _, rfl, rfl, ?_⟩
    have e : decide (V.str p.1 = V.str p.2) = false := decide_eq_false fun z => to.ne (V.str.inj z)
    rw [e]
    exact q H (Same.refl H)
def pairKey (p : Str × Str) : List Key := [Sum.inr p.1, Sum.inr p.2]
def seenT (ps : List (Str × Str)) : List (List Key × V) := ps.map fun p => (pairKey p, V.bl true)
theorem pairKey_inj {p q : Str × Str} (h : pairKey p = pairKey q) : p = q := by
  unfold pairKey at h
  injection h with h1 h2
  injection h2 with h3 _
  have e1 := Sum.inr.inj h1
  have e2 := Sum.inr.inj h3
  exact Prod.ext e1 e2
theorem seenT_none {ps : List (Str × Str)} {p : Str × Str} (h : p ∉ ps) : valV (seenT ps) (pairKey p) = none := valV_map fun q hq e => h (by rw [← pairKey_inj e]; exact hq)
theorem seenT_put {ps : List (Str × Str)} {p : Str × Str} (h : p ∉ ps) : putK (seenT ps) (pairKey p) (V.bl true) = seenT (ps ++ [p]) := by
  rw [putK_new _ (seenT_none h)]
  unfold seenT
  rw [List.map_append]
  rfl
abbrev Ntiefault : List Str := ["ties", "places", "seen", "index", "tie", "pair"]
theorem sctiefault : FnScope Ntiefault ["ties", "places"] (defScope s_tie_fault) := ⟨rfl, rfl, rfl, by decide +kernel, rfl, by decide +kernel, by decide +kernel⟩
theorem c_tief (T : Blt mg) (G_MOST_TIES : ∃ t, mg "MOST_TIES" = some (.int 400 t)) (F : Has K mg "_tie_fault" s_tie_fault) (CISTIE : C8.Cal P w K mg base 2 "_is_tie" (spIsTie K) []) (CINORDER : C8.Cal P w K mg base 1 "in_order" spOrder []) : C8.Cal P w K mg base 3 "_tie_fault" (spTieF K) [] := by
  refine calF F (fun f fd F => F.binds (ps := ["ties", "places"]) fun _ _ _ _ _ _ us hl => match us, hl with | [_, _], _ => rfl) sctiefault (fun vs H Q E h => ?_) (fun f cdv A outer s H vs Q E hr h => ?_)
  · obtain ⟨l, a, ns, xs, ts, rfl, _⟩ := h
    rfl
  · obtain ⟨l, a, ns, xs, ts, rfl, hl, ti, ha, no, to, q⟩ := h
    have hu := hu_of hr
    obtain ⟨tk, hG⟩ := G_MOST_TIES
    have G_MOST_TIES : True ∧ _ := ⟨trivial, hG⟩
    have hlen := paired_len ti
    have hti := to.hi
    refine ⟨_, (pss_cons (ps_if (PW.pt (pw_or (pt_not (pt_val (pe_callB call_isi (by rfl) T.b_isinstance (by decide +kernel) (pa_cons (pv 0) (pa_cons (pe_bltn (v := .ty "list") (by rfl) T.b_list (by decide +kernel) rfl) pa_nil))))) (pw_or1 (pt_cmpR op_gt (pe_callB call_len (by rfl) T.b_len PySem.boot_len (pa_cons (pv 0) pa_nil)) (pe_glob (v := .int 400) rfl G_MOST_TIES.2 ⟨_, rfl⟩) (nomark _))))) (pss_one (ps_ret (pe_un un_neg pe_int))) pss_nil)
      (pss_cons (ps_set (i := 2) sctiefault.nd rfl (Or.inl rfl) pe_dnewT)
      (pss_cons (ps_for PassesOwn.never rfl (pi_enum (by rfl) T.b_enumerate (pa_cons (pv 0) pa_nil)) (pg_tup rfl (pgs_cons (pg_name (i := 3) sctiefault.nd rfl (Or.inl rfl)) (pgs_cons (pg_name (i := 4) sctiefault.nd rfl (Or.inl rfl)) pgs_nil)))
        (pss_cons (ps_if (pt_not (pt_val (C8.pe_c CISTIE hr (by decide) rfl (pa_cons (pv 4) (pa_cons (pv 1) pa_nil))))) (pss_one (ps_ret (pv 3))) pss_nil)
      (pss_cons (ps_set (i := 5) sctiefault.nd rfl (Or.inl rfl) (C8.pe_c CINORDER hr (by decide) rfl (pa_cons (pe_ix ix_tup (pv 4) pe_int (fun _ _ => rfl)) (pa_cons (pe_ix ix_tup (pv 4) pe_int (fun _ _ => rfl)) pa_nil))))
      (pss_cons (ps_if (pt_cmp (pc_din hu (pv 5) (pv 2))) (pss_one (ps_ret (pv 3))) pss_nil)
      (pss_one (ps_dput hu (pv 2) (pv 5) pe_bl rfl))))))
      (pss_one (ps_ret pe_non))))), ?_⟩
    refine ⟨_, rfl, _, _, _, _, _, rfl, .ty "list", .base (.lst hl), kit_ty (b := "list") (r := true) (by decide +kernel), _, rfl, iteF ?_⟩
    refine ⟨_, rfl, _, _, rfl, .inl ⟨_, SqL.of hl, rfl⟩, _, _, rfl, rfl, _, rfl, ?_⟩
    rw [decide_eq_false (by omega : ¬ (400 : Int) < xs.length)]
    refine iteF ?_
    intro d hd
    have nld : l ≠ d := ne_of_none hl hd
    refine ⟨_, rfl, l, _, rfl, SqL.of (by rw [upd_ne nld]; exact hl), for_it walk_enum (fun i σ H2 => ∃ (v3 v4 v5 : Option V), σ = [some (.ref l), some (.ref a), some (.ref d), v3, v4, v5] ∧ Same H H2 ∧ H2 d = some (.dT (seenT ((ts.map ordP).take i))))
      ⟨_, _, _, rfl, Same.new hd, upd_same⟩ (fun i σ H2 _ ⟨_, _, _, _, s2, _⟩ => SqL.of (s2 _ _ hl)) ?_ ?_⟩
    · rintro i v σ H2 H3 hi ⟨v3, v4, v5, rfl, s2, h2⟩ ⟨z, x, y, rfl, hz, rfl, hx, hy⟩
      cases hx
      obtain ⟨p, hp, t, rfl, ht⟩ := paired_get ti hy
      have to1 := to.ok p (List.mem_of_getElem? hp)
      have ndz : d ≠ z := ne_of_none h2 hz
      have s3 : Same H (upd H2 z (.tup [.int (i : Nat), .ref t])) := s2.trans (Same.new hz)
      refine ⟨z, _, rfl, SqT.of upd_same, rfl, _, _, rfl, _, _, rfl, rfl, ?_⟩
      refine ⟨_, rfl, _, rfl, t, a, ns, p, rfl, s3 _ _ ht, s3 _ _ ha, to1, fun x hx => by rw [len_cps]; exact (no.ok x hx).hi, fun H4 s4 => ?_⟩
      refine ⟨_, rfl, iteF ?_⟩
      have s5 := s3.trans s4
      have e4 : H4 t = some (.tup [.str p.1, .str p.2]) := s5 _ _ ht
      refine ⟨_, rfl, t, _, 0, _, rfl, rfl, SqT.of e4, rfl, ?_⟩
      refine ⟨_, rfl, t, _, 1, _, rfl, rfl, SqT.of e4, rfl, ?_⟩
      refine ⟨_, _, rfl, fun u hu4 => ?_⟩
      have s6 : Same H4 (upd H4 u (.tup [.str (ordP p).1, .str (ordP p).2])) := Same.new hu4
      have e5 := s6 _ _ (s4 _ _ (Same.new (o := .tup [.int (i : Nat), .ref t]) hz _ _ h2))
      have hop : (ts.map ordP)[i]? = some (ordP p) := by rw [List.getElem?_map, hp] <;> rfl
      have hny := not_taken' to.nd hop
      refine ⟨_, rfl, _, rfl, d, _, rfl, DGet.t (k := pairKey (ordP p)) e5 upd_same, ?_⟩
      rw [seenT_none hny]
      refine ⟨_, rfl, iteF ?_⟩
      refine ⟨_, rfl, _, rfl, d, _, rfl, DPut.t (k := pairKey (ordP p)) e5 upd_same (fitsL (by unfold seenT; rw [List.length_map, List.length_take, List.length_map]; omega)), ?_⟩
      refine ⟨_, _, _, rfl, fun b o e => by rw [upd_ne (ne_of_none e hd)]; exact (s5.trans s6) _ _ e, ?_⟩
      rw [upd_same, take_more hop, seenT_put hny]
    · rintro σ H2 ⟨v3, v4, v5, rfl, s2, h2⟩
      exact q H2 s2
end
end KK
end

section
set_option maxRecDepth 100000
set_option maxHeartbeats 4000000
namespace KK
open PySem PySem.Spec PyProof.Rows L2
/-- a web in the heap -/
structure WebAt (H : Hp) (C o dx dp tl : Addr) (xs : List V) (ms : List Str) (qs : List Int) (us : List (Str × Str)) : Prop where
  ho : H o = some (.ins C dx [("_prices", .ref dp), ("_ties", .ref tl)])
  hp : H dp = some (.dK (prK ms qs))
  ht : H tl = some (.lst xs)
  ti : Ties H xs us
/-- the web tells these parts -/
structure WebOk (ns : List Str) (ps : List Int) (ts : List (Str × Str)) (ms : List Str) (qs : List Int) (us : List (Str × Str)) : Prop where
  pm : ms.Perm ns
  pq : ∀ x ∈ ns, valV (prK ms qs) (Sum.inr x : Key) = valV (prK ns ps) (Sum.inr x : Key)
  ql : qs.length = ms.length
  am : Own.AscS ms
  pu : us.Perm (ts.map ordP)
  au : Own.AscP us
theorem WebAt.same {H H' : Hp} {C o dx dp tl : Addr} {xs : List V} {ms : List Str} {qs : List Int} {us : List (Str × Str)} (h : WebAt H C o dx dp tl xs ms qs us) (s : Same H H') : WebAt H' C o dx dp tl xs ms qs us :=
  ⟨s _ _ h.ho, s _ _ h.hp, s _ _ h.ht, h.ti.same s⟩
/-- what the class has -/
structure WebC (K : PySem.W.Frag) (mg : Str → Option Value) (C : Addr) : Prop where
  cl : Cls K C
  np : NoAttr K C "_prices"
  nt : NoAttr K C "_ties"
  mw : mg "Web" = some (.ref C)
theorem makF {P : Program} {w : World} {K : PySem.W.Frag} {mg : Str → Option Value} {base : Heap} {x qual : Str} {C : Addr} {st : Stmt} {N ps : List Str} {k : Nat} {sp : Sp} (hm : mg x = some (.ref C)) (F : ∃ f fd, Fun K "__init__" qual st f fd ∧ Mk K C f) (b : ∀ f fd, Fun K "__init__" qual st f fd → Binds K fd ps []) (S : FnScope N ps (defScope st)) (len : ∀ vs H Q E, sp vs H Q E → vs.length = ps.length)
    (hbody : ∀ (f : Addr) (cdv : Value) (A : Around) (outer : List Env) (s : Shared) (H : Hp) (vs : List V) (Q : VK) (E : XK), Room k (A.deeper (envOfC qual (defScope st) s.heap.objs.size f cdv)) → sp vs H Q E →
      ∃ t, PSs (cxOf CX0 P w K mg base N qual (defScope st) f cdv A outer s H E).nox (defBody st) t ∧ t { nx := fun _ H' => Q .non H', rt := Q } (start N vs) H) : C8.Mak P w K mg base (k + 1) x C sp [] := by
  obtain ⟨f, fd, F, M⟩ := F
  exact ⟨f, fd, ps, [], M, F.ok S len (hbody f), hm, b f fd F, .nil⟩
def spInit (K : PySem.W.Frag) (C : Addr) : Sp := fun vs H Q _ => ∃ (o dx pl tl d : Addr) (ns : List Str) (ps : List Int) (xs : List V) (ts : List (Str × Str)), vs = [.ref o, .ref pl, .ref tl, .ref d] ∧ H o = some (.ins C dx []) ∧
  H pl = some (.tup (ns.map V.str)) ∧ H tl = some (.lst xs) ∧ IsPr H d ns ps ∧ Ties H xs ts ∧ ps.length = ns.length ∧ NsOk ns ∧ TsOk ns ts ∧ PrOk ps ∧
  ∀ dp tl' ys ms qs us H', But o H H' → H dp = none → H tl' = none → WebAt H' C o dx dp tl' ys ms qs us → WebOk ns ps ts ms qs us → Q .non H'
/-- a dict comprehension over it -/
theorem dc_it {J : It} {n : Nat} {G : Hp → Prop} {Y : Nat → Hp → V → Hp → Prop} (w : Walk J n G Y) {g : TG} {tt : TT} {tk tv : TE} {vs : List Nat} {σ : L2.St} {H1 : Hp} {D : Addr} {Qd : Hp → Prop} (Pv : Nat → Hp → Prop) (h0 : Pv 0 (upd H1 D (.dK []))) (hG : ∀ i H, i ≤ n → Pv i H → G H)
    (hs : ∀ i x H H', i < n → Pv i H → Y i H x H' → g x (wipe σ vs) H' fun σ2 H2 => wipe σ2 vs = wipe σ vs ∧ tt σ2 H2 fun b H3 =>
      if b = true then tk σ2 H3 fun y H4 => tv σ2 H4 fun z H5 => ∃ kvs k, y = kV k ∧ H5 D = some (.dK kvs) ∧ kvs.length < sizeLine ∧ Pv (i + 1) (upd H5 D (.dK (putK kvs k z))) else Pv (i + 1) H3) (hd : ∀ H, Pv n H → Qd H) :
    ∃ W : Nat → Nat → Hp → Prop, (∃ m, W 0 m (upd H1 D (.dK []))) ∧ ∀ i m H, W i m H →
      (J.stop i H ∧ Qd H) ∨ (J.go i H ∧ ∃ Nx : Hp → Prop, (∀ H', Nx H' → ∃ m', m' < m ∧ W (i + 1) m' H') ∧ ∀ x H', J.yld i H x H' → g x (wipe σ vs) H' fun σ2 H2 => wipe σ2 vs = wipe σ vs ∧ tt σ2 H2 fun b H3 =>
        if b = true then tk σ2 H3 fun y H4 => tv σ2 H4 fun z H5 => ∃ kvs k, y = kV k ∧ H5 D = some (.dK kvs) ∧ kvs.length < sizeLine ∧ Nx (upd H5 D (.dK (putK kvs k z))) else Nx H3) := by
  refine ⟨fun i m H => m = n - i ∧ i ≤ n ∧ Pv i H, ⟨n, by simp, Nat.zero_le _, h0⟩, ?_⟩
  rintro i m H ⟨rfl, hi, p⟩
  have q := hG i H hi p
  by_cases hlt : i < n
  · refine .inr ⟨w.goes i H hlt q, Pv (i + 1), fun H' p' => ⟨n - (i + 1), by omega, rfl, hlt, p'⟩, fun x H' y => hs i x H H' hlt p (w.yields i H x H' hlt q y)⟩
  · have e : i = n := by omega
    subst e
    exact .inl ⟨w.stops H q, hd H p⟩
theorem strs_at {ns : List Str} {i : Nat} {v : V} (h : (ns.map V.str)[i]? = some v) : ∃ x, ns[i]? = some x ∧ v = .str x := by
  rw [List.getElem?_map] at h
  obtain ⟨x, hx, e⟩ := Option.map_eq_some_iff.mp h
  exact ⟨x, hx, e.symm⟩
theorem valV_fun {f : Str → V} : ∀ {ms : List Str} {x : Str}, x ∈ ms → valV (ms.map fun x => ((Sum.inr x : Key), f x)) (Sum.inr x : Key) = some (f x)
  | [], x, h => by simp at h
  | m :: ms, x, h => by
    by_cases e : m = x
    · subst e
      unfold valV
      rw [List.map_cons, List.find?_cons_of_pos (by exact decide_eq_true rfl)]
      rfl
    · have ih := valV_fun (f := f) (ms := ms) (x := x) ((List.mem_cons.mp h).resolve_left fun z => e z.symm)
      unfold valV at ih ⊢
      rw [List.map_cons, List.find?_cons_of_neg (by
        show ¬ decide ((Sum.inr m : Key) = Sum.inr x) = true
        rw [decide_eq_true_eq]
        exact fun z => e (Sum.inr.inj z))]
      exact ih
theorem ties_tieV {H : Hp} : ∀ {ys : List V} {ts : List (Str × Str)}, Ties H ys ts → ys.map (Own.tieV H) = ts
  | _, _, .nil => rfl
  | _, _, .cons r t => by
    obtain ⟨a, rfl, h⟩ := r
    rw [List.map_cons, Own.tieV_of h, ties_tieV t]
theorem ties_of {H : Hp} : ∀ {ys : List V}, (∀ x ∈ ys, ∃ t a b, x = V.ref t ∧ H t = some (.tup [.str a, .str b])) → Ties H ys (ys.map (Own.tieV H))
  | [], _ => .nil
  | y :: ys, h => by
    obtain ⟨t, a, b, rfl, e⟩ := h y List.mem_cons_self
    refine .cons ⟨t, rfl, ?_⟩ (ties_of fun x hx => h x (List.mem_cons_of_mem _ hx))
    rw [Own.tieV_of e]
    exact e
def prF (ns : List Str) (ps : List Int) (x : Str) : Int := match valV (prK ns ps) (Sum.inr x : Key) with
  | some (.int r) => r
  | _ => 0
theorem prK_fun (f : Str → Int) : ∀ (ms : List Str), prK ms (ms.map f) = ms.map fun x => ((Sum.inr x : Key), V.int (f x))
  | [] => rfl
  | m :: ms => by
    have ih := prK_fun f ms
    unfold prK at ih ⊢
    rw [List.map_cons, List.zip_cons_cons, List.map_cons, ih, List.map_cons]
theorem prF_some {ns : List Str} {ps : List Int} (hn : ns.Nodup) (hl : ps.length = ns.length) {x : Str} (h : x ∈ ns) : valV (prK ns ps) (Sum.inr x : Key) = some (.int (prF ns ps x)) := by
  obtain ⟨i, hi⟩ := List.getElem?_of_mem h
  obtain ⟨r, h1, h2⟩ := prK_some hn hl hi
  unfold prF
  rw [h2]
section
variable {P : Program} {w : World} {K : PySem.W.Frag} {mg : Str → Option Value} {base : Heap}
abbrev NWebinit : List Str := ["self", "places", "ties", "prices", "wrong", "place", "a", "b"]
theorem scWebinit : FnScope NWebinit ["self", "places", "ties", "prices"] (defScope s_Web_init) := ⟨rfl, rfl, rfl, by decide +kernel, rfl, by decide +kernel, by decide +kernel⟩
theorem c_init (T : Blt mg) {C : Addr} (W : WebC K mg C) (F : ∃ f fd, Fun K "__init__" "Web.__init__" s_Web_init f fd ∧ Mk K C f) (CNAMESF : C8.Cal P w K mg base 2 "names_fault" (spNamesF K) []) (CTIEF : C8.Cal P w K mg base 3 "_tie_fault" (spTieF K) []) (CPRICEF : C8.Cal P w K mg base 3 "price_fault" (spPriceF K) [])
    (CINORDER : C8.Cal P w K mg base 1 "in_order" spOrder []) : C8.Mak P w K mg base 4 "Web" C (spInit K C) [] := by
  refine makF W.mw F (fun f fd F => F.binds (ps := ["self", "places", "ties", "prices"]) fun _ _ _ _ _ _ us hl => match us, hl with | [_, _, _, _], _ => rfl) scWebinit (fun vs H Q E h => ?_) (fun f cdv A outer s H vs Q E hr h => ?_)
  · obtain ⟨o, dx, pl, tl, d, ns, ps, xs, ts, rfl, _⟩ := h
    rfl
  · obtain ⟨o, dx, pl, tl, d, ns, ps, xs, ts, rfl, ho, hp, ht, ⟨kvs, hd, pk⟩, ti, hl, no, to, po, q⟩ := h
    have vp : ∀ k, valV kvs k = valV (prK ns ps) k := valV_perm pk (prK_nodup no.nd)
    have hu := hu_of hr
    refine ⟨_, (pss_cons (ps_set (i := 4) scWebinit.nd rfl (Or.inl rfl) (C8.pe_c CNAMESF hr (by decide) rfl (pa_cons (pv 1) pa_nil)))
      (pss_cons (ps_if (pt_cmpR op_notN (pv 4) pe_non (nomark _)) (pss_one ps_never) pss_nil)
      (pss_cons (ps_set (i := 4) scWebinit.nd rfl (Or.inl rfl) (C8.pe_c CTIEF hr (by decide) rfl (pa_cons (pv 2) (pa_cons (pv 1) pa_nil))))
      (pss_cons (ps_if (pt_cmpR op_notN (pv 4) pe_non (nomark _)) (pss_one ps_never) pss_nil)
      (pss_cons (ps_set (i := 4) scWebinit.nd rfl (Or.inl rfl) (C8.pe_c CPRICEF hr (by decide) rfl (pa_cons (pv 3) (pa_cons (pv 1) (pa_cons pe_int pa_nil)))))
      (pss_cons (ps_if (pt_cmpR op_notN (pv 4) pe_non (nomark _)) (pss_one ps_never) pss_nil)
      (pss_cons (ps_fld (pv 0) (pe_dc (own := [("place", 5)]) rfl scWebinit.nd (pi_list (pe_callB Own.cr_sortS (by rfl) T.b_sorted (by decide +kernel) (pa_cons (pv 1) pa_nil))) (blkOk_by (own := [("place", 5)]) (N := NWebinit) (sc := defScope s_Web_init) (by decide +kernel)) (fun _ _ _ _ _ => (pg_name (i := 5) scWebinit.nd rfl (Or.inl rfl))) (fun _ _ _ _ _ => pts_nil) (fun _ _ _ _ _ => (pv 5)) (fun _ _ _ _ _ => (pe_dget hu (pv 3) (pv 5) (fun _ _ => rfl)))) rfl)
      (pss_one (ps_fld (pv 0) (pe_callB Own.cr_sortT (by rfl) T.b_sorted (by decide +kernel) (pa_cons (pe_lc (own := [("a", 6), ("b", 7)]) (g := gTup K 2 (gCons (gName 6) (gCons (gName 7) gNil))) (tt := tYes) rfl scWebinit.nd (pi_list (pv 2)) (blkOk_by (own := [("a", 6), ("b", 7)]) (N := NWebinit) (sc := defScope s_Web_init) (by decide +kernel)) (fun _ _ _ _ _ => (pg_tup rfl (pgs_cons (pg_name (i := 6) scWebinit.nd rfl (Or.inl rfl)) (pgs_cons (pg_name (i := 7) scWebinit.nd rfl (Or.inl rfl)) pgs_nil)))) (fun _ _ _ _ _ => pts_nil) (fun _ _ _ _ _ => (C8.pe_c CINORDER hr (by decide) rfl (pa_cons (pv 6) (pa_cons (pv 7) pa_nil))))) pa_nil)) rfl))))))))), ?_⟩
    have n2 := no.hi
    have lxs := paired_len ti
    have lts := to.hi
    refine ⟨_, rfl, pl, ns, rfl, hp, no, fun H1 s1 => ?_⟩
    refine ⟨_, rfl, rfl, _, rfl, iteF ?_⟩
    refine ⟨_, rfl, _, rfl, tl, pl, ns, xs, ts, rfl, s1 _ _ ht, ti.same s1, s1 _ _ hp, no, to, fun H2 s2 => ?_⟩
    have s12 := s1.trans s2
    refine ⟨_, rfl, rfl, _, rfl, iteF ?_⟩
    refine ⟨_, rfl, _, rfl, d, pl, ns, ps, rfl, ⟨_, s12 _ _ hd, pk⟩, s12 _ _ hp, no, po, hl, fun H3 s3 => ?_⟩
    have s13 := s12.trans s3
    refine ⟨_, rfl, rfl, _, rfl, iteF ?_⟩
    refine ⟨_, rfl, pl, ns, rfl, .inr (SqT.of (s13 _ _ hp)), fun ms p hpm ham hfr => ?_⟩
    have s14 : Same H (upd H3 p (.lst (ms.map V.str))) := s13.trans (Same.new hfr)
    have lms : ms.length = ns.length := hpm.length_eq
    have mnd : ms.Nodup := hpm.nodup_iff.mpr no.nd
    refine ⟨p, rfl, ⟨_, SqL.of upd_same⟩, fun dp hdp => dc_it (walk_list (K := K) (a := p) (xs := ms.map V.str)) (fun i H4 => Same H H4 ∧ H4 p = some (.lst (ms.map V.str)) ∧ H4 dp = some (.dK (prK (ms.take i) ((ms.take i).map (prF ns ps)))))
      ⟨s14.trans (Same.new hdp), by rw [upd_ne (ne_of_none upd_same hdp)]; exact upd_same, upd_same⟩ (fun i H4 _ h => SqL.of h.2.1) ?_ ?_⟩
    · rintro i v H4 H5 hi ⟨s4, h4, h5⟩ ⟨rfl, hx⟩
      obtain ⟨x, hxx, rfl⟩ := strs_at hx
      clear hx
      have hx := hxx
      have hxn : x ∈ ns := hpm.mem_iff.mp (List.mem_of_getElem? hx)
      have hg : DGet H5 d (.str x) (some (.int (prF ns ps x))) := by
        rw [← prF_some no.nd hl hxn, ← vp]
        exact DGet.k (k := Sum.inr x) (s4 _ _ hd)
      refine ⟨rfl, ?_⟩
      refine iteT (B := False) ?_
      have npdp : p ≠ dp := ne_of_none upd_same hdp
      refine ⟨_, rfl, _, rfl, _, rfl, d, _, rfl, hg, _, Sum.inr x, rfl, h5, fitsL (by rw [prK_len _ _ (by rw [List.length_map]), List.length_take]; omega), fun b u e => by rw [upd_ne (ne_of_none e (s14.free hdp))]; exact s4 _ _ e, by rw [upd_ne npdp]; exact h4, ?_⟩
      rw [upd_same, prK_put (by rw [List.length_map]) (not_taken mnd hx), take_more hx, List.map_append]
      rfl
    · rintro H4 ⟨s4, h4, h5⟩
      rw [List.length_map, List.take_of_length_le (Nat.le_refl _)] at h5
      refine ⟨_, rfl, o, C, dx, [], rfl, s4 _ _ ho, W.cl, W.np, (by decide : 0 < 1000), ?_⟩
      have fdp : H dp = none := s14.free hdp
      have nod : o ≠ dp := ne_of_none ho fdp
      have bG : But o H (upd H4 o (.ins C dx (putF "_prices" (.ref dp) []))) := (But.of s4).trans But.upd
      generalize hGG : upd H4 o (.ins C dx (putF "_prices" (.ref dp) [])) = G at bG
      have go : G o = some (.ins C dx [("_prices", .ref dp)]) := by rw [← hGG, upd_same] <;> rfl
      have gd : G dp = some (.dK (prK ms (ms.map (prF ns ps)))) := by rw [← hGG, upd_ne nod.symm]; exact h5
      have ntl : tl ≠ o := ne_of ht ho (by intro z; cases z)
      have gt : G tl = some (.lst xs) := bG _ _ ht ntl
      have gti : Ties G xs ts := paired_mono ti fun x y h => by
        obtain ⟨t, rfl, h⟩ := h
        exact ⟨t, rfl, bG _ _ h (ne_of h ho (by intro z; cases z))⟩
      refine ⟨_, rfl, tl, rfl, ⟨_, SqL.of gt⟩, fun D hD => lc_it (walk_list (K := K) (a := tl) (xs := xs)) (fun i H5 => ∃ ys, Same G H5 ∧ H5 D = some (.lst ys) ∧ Ties H5 ys ((ts.map ordP).take i))
        ⟨[], Same.new hD, upd_same, .nil⟩ (fun i H5 _ ⟨_, h, _⟩ => SqL.of (h _ _ gt)) ?_ ?_⟩
      · rintro i v H5 H6 hi ⟨ys, s5, h6, t6⟩ ⟨rfl, hx⟩
        obtain ⟨pp, hpp, t, rfl, htt⟩ := paired_get gti hx
        refine ⟨t, _, rfl, SqT.of (s5 _ _ htt), rfl, _, _, rfl, _, _, rfl, rfl, rfl, ?_⟩
        refine iteT (B := False) ?_
        refine ⟨_, rfl, _, rfl, _, _, rfl, fun u hu5 => ?_⟩
        have nDu : D ≠ u := ne_of_none h6 hu5
        have s6 := s5.trans (Same.new (o := .tup [.str (ordP pp).1, .str (ordP pp).2]) hu5)
        refine ⟨ys, by rw [upd_ne nDu]; exact h6, fitsL (by rw [paired_len t6, List.length_take]; omega), _, fun b z e => by rw [upd_ne (ne_of_none e hD)]; exact s6 _ _ e, upd_same, ?_⟩
        have hop : (ts.map ordP)[i]? = some (ordP pp) := by rw [List.getElem?_map, hpp] <;> rfl
        rw [take_more hop]
        have t7 := t6.same (Same.new (o := .tup [.str (ordP pp).1, .str (ordP pp).2]) hu5)
        have t8 : Ties _ (ys ++ [V.ref u]) _ := paired_app t7 (.cons ⟨u, rfl, upd_same⟩ .nil)
        exact t8.upd fun z l e => ne_of e (by rw [upd_ne nDu]; exact h6) (by intro z; cases z)
      · rintro H5 ⟨ys, s5, h6, t6⟩
        rw [List.take_of_length_le (by rw [List.length_map]; omega)] at t6
        have hall : ∀ x ∈ ys, ∃ t a b, x = V.ref t ∧ H5 t = some (.tup [.str a, .str b]) := fun x hx => by
          obtain ⟨i, hi⟩ := List.getElem?_of_mem hx
          obtain ⟨pp, _, t, e, h⟩ := paired_get t6 hi
          exact ⟨t, _, _, e, h⟩
        refine ⟨D, ys, rfl, .inl (SqL.of h6), hall, fun zs p2 hzp hza hp2 => ?_⟩
        have s7 : Same G (upd H5 p2 (.lst zs)) := s5.trans (Same.new hp2)
        refine ⟨_, rfl, o, C, dx, [("_prices", .ref dp)], rfl, s7 _ _ go, W.cl, W.nt, (by decide : 1 < 1000), ?_⟩
        have fp2 : H p2 = none := bG.free ⟨_, go⟩ (s5.free hp2)
        have nop : o ≠ p2 := ne_of_none ho fp2
        refine q dp p2 zs ms (ms.map (prF ns ps)) (zs.map (Own.tieV H5)) _ ((bG.trans (.of s7)).trans But.upd) fdp fp2 ⟨upd_same, ?_, ?_, ?_⟩ ⟨hpm, fun x hx => ?_, by rw [List.length_map], ham, ?_, hza⟩
        · rw [upd_ne nod.symm]
          exact s7 _ _ gd
        · rw [upd_ne nop.symm, upd_same]
        · have t8 := (ties_of fun x hx => hall x (hzp.mem_iff.mp hx)).same (Same.new (o := .lst zs) hp2)
          exact t8.upd fun z l e => ne_of e (s7 _ _ go) (by intro z; cases z)
        · rw [prF_some no.nd hl hx, prK_fun, valV_fun (hpm.mem_iff.mpr hx)]
        · rw [← ties_tieV t6]
          exact hzp.map _
end
end KK
end

section
set_option maxRecDepth 100000
set_option maxHeartbeats 4000000
namespace KK
open PySem PySem.Spec PyProof.Rows L2
def nearS (us : List (Str × Str)) (x : Str) : List Str := (us.filter fun p => decide (p.2 = x)).map (·.1) ++ (us.filter fun p => decide (p.1 = x)).map (·.2)
def spPlaces (C : Addr) : Sp := fun vs H Q _ => ∃ o dx dp tl xs ms qs us, vs = [.ref o] ∧ WebAt H C o dx dp tl xs ms qs us ∧ qs.length = ms.length ∧ ∀ p, H p = none → Q (.ref p) (upd H p (.lst (ms.map V.str)))
def spTies (C : Addr) : Sp := fun vs H Q _ => ∃ o dx dp tl xs ms qs us, vs = [.ref o] ∧ WebAt H C o dx dp tl xs ms qs us ∧ ∀ p, H p = none → Q (.ref p) (upd H p (.lst xs))
def spLen (C : Addr) : Sp := fun vs H Q _ => ∃ o dx dp tl xs ms qs us, vs = [.ref o] ∧ WebAt H C o dx dp tl xs ms qs us ∧ qs.length = ms.length ∧ Q (.int ms.length) H
def spHas (K : PySem.W.Frag) (C : Addr) : Sp := fun vs H Q _ => ∃ o dx dp tl xs ms qs us x t b, vs = [.ref o, x] ∧ WebAt H C o dx dp tl xs ms qs us ∧ TyX K H x (.type t) ∧ kitB t "str" = some b ∧ (b = false → Q (.bl false) H) ∧
  (b = true → ∃ s, x = .str s ∧ Q (.bl (valV (prK ms qs) (Sum.inr s : Key)).isSome) H)
def spNeed (C : Addr) : Sp := fun vs H Q _ => ∃ o dx dp tl xs ms qs us x r, vs = [.ref o, .str x] ∧ WebAt H C o dx dp tl xs ms qs us ∧ valV (prK ms qs) (Sum.inr x : Key) = some (.int r) ∧ Q .non H
def spPrice (C : Addr) : Sp := fun vs H Q _ => ∃ o dx dp tl xs ms qs us x r, vs = [.ref o, .str x] ∧ WebAt H C o dx dp tl xs ms qs us ∧ valV (prK ms qs) (Sum.inr x : Key) = some (.int r) ∧ Q (.int r) H
def spNear (C : Addr) : Sp := fun vs H Q _ => ∃ o dx dp tl xs ms qs us x r, vs = [.ref o, .str x] ∧ WebAt H C o dx dp tl xs ms qs us ∧ valV (prK ms qs) (Sum.inr x : Key) = some (.int r) ∧ us.length ≤ 400 ∧
  ∀ p H', Same H H' → H p = none → H' p = some (.lst ((nearS us x).map V.str)) → Q (.ref p) H'
def spDeg (C : Addr) : Sp := fun vs H Q _ => ∃ o dx dp tl xs ms qs us x r, vs = [.ref o, .str x] ∧ WebAt H C o dx dp tl xs ms qs us ∧ valV (prK ms qs) (Sum.inr x : Key) = some (.int r) ∧ us.length ≤ 400 ∧
  ∀ H', Same H H' → Q (.int (nearS us x).length) H'
theorem prK_keys : ∀ {ms : List Str} {qs : List Int}, qs.length = ms.length → (prK ms qs).map (fun kv => kV kv.1) = ms.map V.str
  | [], _, _ => rfl
  | m :: ms, [], h => by simp at h
  | m :: ms, q :: qs, h => by
    have ih := prK_keys (ms := ms) (qs := qs) (by simpa using h)
    unfold prK at ih ⊢
    rw [List.zip_cons_cons, List.map_cons, List.map_cons, ih]
    rfl
section
variable {P : Program} {w : World} {K : PySem.W.Frag} {mg : Str → Option Value} {base : Heap} {C : Addr}
abbrev NWebplaces : List Str := ["self"]
theorem scWebplaces : FnScope NWebplaces ["self"] (defScope s_Web_places) := ⟨rfl, rfl, rfl, by decide +kernel, rfl, by decide +kernel, by decide +kernel⟩
theorem c_places (T : Blt mg) (W : WebC K mg C) (F : HasM K C "places" "Web.places" s_Web_places) : C8.Met P w K mg base 1 C "places" (spPlaces C) [] := by
  have Cl := W.cl
  refine metF Cl F (fun f fd F => F.binds (ps := ["self"]) fun _ _ _ _ _ _ us hl => match us, hl with | [_], _ => rfl) scWebplaces (fun vs H Q E h => ?_) (fun f cdv A outer s H vs Q E hr h => ?_)
  · obtain ⟨o, dx, dp, tl, xs, ms, qs, us, rfl, _⟩ := h
    rfl
  · obtain ⟨o, dx, dp, tl, xs, ms, qs, us, rfl, wa, hl, q⟩ := h
    refine ⟨_, (pss_one (ps_ret (pe_callTy (call_list_dK rfl) (by rfl) T.b_list (by decide +kernel) (pa_cons (pe_fld (pv 0) rfl) pa_nil)))), ?_⟩
    refine ⟨_, rfl, o, C, dx, _, _, rfl, wa.ho, Cl, W.np, rfl, dp, _, rfl, wa.hp, fun p hp => ?_⟩
    rw [prK_keys hl]
    exact q p hp
abbrev NWebties : List Str := ["self"]
theorem scWebties : FnScope NWebties ["self"] (defScope s_Web_ties) := ⟨rfl, rfl, rfl, by decide +kernel, rfl, by decide +kernel, by decide +kernel⟩
theorem c_ties (T : Blt mg) (W : WebC K mg C) (F : HasM K C "ties" "Web.ties" s_Web_ties) : C8.Met P w K mg base 1 C "ties" (spTies C) [] := by
  have Cl := W.cl
  refine metF Cl F (fun f fd F => F.binds (ps := ["self"]) fun _ _ _ _ _ _ us hl => match us, hl with | [_], _ => rfl) scWebties (fun vs H Q E h => ?_) (fun f cdv A outer s H vs Q E hr h => ?_)
  · obtain ⟨o, dx, dp, tl, xs, ms, qs, us, rfl, _⟩ := h
    rfl
  · obtain ⟨o, dx, dp, tl, xs, ms, qs, us, rfl, wa, q⟩ := h
    refine ⟨_, (pss_one (ps_ret (pe_callTy call_list_of (by rfl) T.b_list (by decide +kernel) (pa_cons (pe_fld (pv 0) rfl) pa_nil)))), ?_⟩
    refine ⟨_, rfl, o, C, dx, _, _, rfl, wa.ho, Cl, W.nt, rfl, tl, _, rfl, .inl (SqL.of wa.ht), fun p hp => ?_⟩
    exact q p hp
abbrev NWeblen : List Str := ["self"]
abbrev NWebcontains : List Str := ["self", "x"]
abbrev NWebneed : List Str := ["self", "place"]
theorem scWebneed : FnScope NWebneed ["self", "place"] (defScope s_Web_need) := ⟨rfl, rfl, rfl, by decide +kernel, rfl, by decide +kernel, by decide +kernel⟩
theorem c_need (T : Blt mg) (W : WebC K mg C) (F : HasM K C "_need" "Web._need" s_Web_need) (CAMONG : C8.Cal P w K mg base 1 "is_among" (spAmong K) []) : C8.Met P w K mg base 2 C "_need" (spNeed C) [] := by
  have Cl := W.cl
  refine metF Cl F (fun f fd F => F.binds (ps := ["self", "place"]) fun _ _ _ _ _ _ us hl => match us, hl with | [_, _], _ => rfl) scWebneed (fun vs H Q E h => ?_) (fun f cdv A outer s H vs Q E hr h => ?_)
  · obtain ⟨o, dx, dp, tl, xs, ms, qs, us, x, r, rfl, _⟩ := h
    rfl
  · obtain ⟨o, dx, dp, tl, xs, ms, qs, us, x, r, rfl, wa, hx, q⟩ := h
    refine ⟨_, (pss_one (ps_if (pt_not (pt_val (C8.pe_c CAMONG hr (by decide) rfl (pa_cons (pv 1) (pa_cons (pe_fld (pv 0) rfl) pa_nil))))) (pss_one ps_never) pss_nil)), ?_⟩
    refine ⟨_, rfl, _, rfl, o, C, dx, _, _, rfl, wa.ho, Cl, W.np, rfl, .str x, dp, "str", true, rfl, .base (.str x), by decide +kernel, fun z => (by cases z), fun _ => ⟨x, rfl, .inr ⟨_, .of wa.hp, ?_⟩⟩⟩
    rw [hx]
    exact ⟨_, rfl, iteF q⟩
abbrev NWebprice : List Str := ["self", "place"]
abbrev NWebnear : List Str := ["self", "place", "a", "b"]
end
end KK
end

section
set_option maxRecDepth 100000
set_option maxHeartbeats 4000000
/-! Typed readings: a value in the heap stands for a value of Lean; a reading is asked in a context of typed slots. -/
namespace Z
open PySem PySem.Spec PyProof.Rows L2
/-- what may become of an address: shared (never written), locked (a dict that is walked), a stream, one's own (written here), another's -/
inductive Md where
  | sh | lk | st | ow | fo
  deriving DecidableEq
abbrev Wd := Addr → Md
/-- to be read -/
def RdW (W : Wd) (H : Hp) (b : Addr) (o : HO) : Prop := (W b = .sh ∧ H b = some o) ∨ ((W b = .lk ∨ W b = .fo) ∧ ∃ od, H b = some (.frz od o))
theorem RdW.rd {W : Wd} {H : Hp} {b : Addr} {o : HO} (h : RdW W H b o) : Rd H b o := by
  rcases h with ⟨_, h⟩ | ⟨_, od, h⟩
  · exact .inl h
  · exact .inr ⟨od, h⟩
/-- what was to be read is to be read, lists stand, streams are streams -/
structure Mv (W : Wd) (H : Hp) (W' : Wd) (H' : Hp) : Prop where
  rd : ∀ b o, RdW W H b o → RdW W' H' b o
  ls : ∀ b vs, W b = .sh → H b = some (.lst vs) → W' b = .sh ∧ H' b = some (.lst vs)
  st : ∀ b, W b = .st → W' b = .st
structure Ty (α : Type) where
  R : Wd → Hp → V → α → Prop
  go : ∀ {W W' : Wd} {H H' : Hp} {v : V} {x : α}, R W H v x → Mv W H W' H' → R W' H' v x
/-- all but one's own stands (streams stay streams) -/
structure Go (W : Wd) (H : Hp) (W' : Wd) (H' : Hp) : Prop where
  k : ∀ b o, H b = some o → (W b = .sh ∨ W b = .lk ∨ W b = .fo) → H' b = some o ∧ W' b = W b
  s : ∀ b, W b = .st → W' b = .st
  l : ∀ b, W' b = .lk → W b = .lk
/-- all stands (streams stay streams) -/
structure GoE (W : Wd) (H : Hp) (W' : Wd) (H' : Hp) : Prop where
  k : ∀ b o, H b = some o → W b ≠ .st → H' b = some o ∧ W' b = W b
  s : ∀ b, W b = .st → W' b = .st
  l : ∀ b, W' b = .lk → W b = .lk
structure OKW (W : Wd) (H : Hp) : Prop where
  st : ∀ b, W b = .st → ∃ c k : Int, H b = some (.lst [.int c, .int k]) ∧ 0 ≤ k
  al : ∀ b, W b ≠ .sh → ∃ o, H b = some o
  nf : ∀ b od u, W b = .ow → H b ≠ some (.frz od u)
  lk : ∀ b, W b = .lk → ∃ od, (∃ ws, H b = some (.frz od (.dK ws))) ∨ ∃ ws, H b = some (.frz od (.dT ws))
  fo : ∀ b od u, W b = .fo → H b = some (.frz od u) → ∃ vs, u = .lst vs
  tp : ∀ b vs, H b = some (.tup vs) → W b = .sh
section
variable {W W1 W2 : Wd} {H H1 H2 : Hp}
theorem Go.mv (a : Go W H W1 H1) : Mv W H W1 H1 := ⟨fun b o h => by
  rcases h with ⟨w, h⟩ | ⟨w, od, h⟩
  · obtain ⟨h1, e1⟩ := a.k b _ h (.inl w)
    exact .inl ⟨e1.trans w, h1⟩
  · obtain ⟨h1, e1⟩ := a.k b _ h (.inr w)
    exact .inr ⟨by rw [e1]; exact w, od, h1⟩, fun b vs w h => by
    obtain ⟨h1, e1⟩ := a.k b _ h (.inl w)
    exact ⟨e1.trans w, h1⟩, a.s⟩
/-- a new object -/
theorem OKW.fresh (ok : OKW W H) {p : Addr} (hp : H p = none) : W p = .sh := by
  cases e : W p with
  | sh => rfl
  | lk => obtain ⟨o, h⟩ := ok.al p (by rw [e]; decide); rw [hp] at h; cases h
  | st => obtain ⟨o, h⟩ := ok.al p (by rw [e]; decide); rw [hp] at h; cases h
  | ow => obtain ⟨o, h⟩ := ok.al p (by rw [e]; decide); rw [hp] at h; cases h
  | fo => obtain ⟨o, h⟩ := ok.al p (by rw [e]; decide); rw [hp] at h; cases h
def NoFrz : HO → Prop
  | .frz _ _ => False
  | _ => True
def NoTup : HO → Prop
  | .frz _ _ => False
  | .tup _ => False
  | _ => True
/-- neither a list nor a dict: it stands there itself -/
theorem OKW.exact (ok : OKW W H) {a : Addr} {o : HO} (h : RdW W H a o) (nl : ∀ vs, o ≠ .lst vs) (nd : ∀ ws, o ≠ .dK ws) (nt : ∀ ws, o ≠ .dT ws) : H a = some o := by
  rcases h with ⟨w, h⟩ | ⟨w | w, od, h⟩
  · exact h
  · obtain ⟨od2, ⟨ws, e⟩ | ⟨ws, e⟩⟩ := ok.lk a w
    · rw [h] at e
      cases e
      exact absurd rfl (nd ws)
    · rw [h] at e
      cases e
      exact absurd rfl (nt ws)
  · obtain ⟨vs, e⟩ := ok.fo a od o w h
    exact absurd e (nl vs)
/-- a dict that is not locked -/
theorem OKW.exactD (ok : OKW W H) {a : Addr} {o : HO} (h : RdW W H a o) (n : W a ≠ .lk) (nl : ∀ vs, o ≠ .lst vs) : H a = some o ∧ W a = .sh := by
  rcases h with ⟨w, h⟩ | ⟨w | w, od, h⟩
  · exact ⟨h, w⟩
  · exact absurd w n
  · obtain ⟨vs, e⟩ := ok.fo a od o w h
    exact absurd e (nl vs)
end
/-! ### types -/
def tInt : Ty Int := ⟨fun _ _ v i => v = .int i, fun h _ => h⟩
def tStr : Ty Str := ⟨fun _ _ v i => v = .str i, fun h _ => h⟩
def tBl : Ty Bool := ⟨fun _ _ v i => v = .bl i, fun h _ => h⟩
def tNon : Ty Unit := ⟨fun _ _ v _ => v = .non, fun h _ => h⟩
def tStm : Ty Unit := ⟨fun W _ v _ => ∃ a, v = .ref a ∧ W a = .st, fun ⟨a, e, h⟩ m => ⟨a, e, m.st a h⟩⟩
/-- any value, as it is -/
def tVal : Ty V := ⟨fun _ _ v x => v = x, fun h _ => h⟩
def tOpt {α : Type} (t : Ty α) : Ty (Option α) := ⟨fun W H v x => match x with
  | none => v = .non
  | some y => t.R W H v y, fun {W W' H H' v x} h m => by
  cases x with
  | none => exact h
  | some y => exact t.go h m⟩
def tOr {α β : Type} (t : Ty α) (u : Ty β) : Ty (α ⊕ β) := ⟨fun W H v x => match x with
  | .inl y => t.R W H v y
  | .inr y => u.R W H v y, fun {W W' H H' v x} h m => by
  cases x with
  | inl y => exact t.go h m
  | inr y => exact u.go h m⟩
/-- a list of one's own making -/
def SqW (_ : PySem.W.Frag) (W : Wd) (H : Hp) (a : Addr) (vs : List V) : Prop := W a = .sh ∧ H a = some (.lst vs)
/-- any list that may be read -/
def SqR (K : PySem.W.Frag) (W : Wd) (H : Hp) (a : Addr) (vs : List V) : Prop := RdW W H a (.lst vs) ∨
    ∃ (o : Obj) (its : Array Value) (n : Nat), K.lookup a = some o ∧ o.cls = .type "list" ∧ o.dict = none ∧ o.data = .seq its n ∧ its.size ≤ sizeLine ∧ Vals vs its.toList
def SqTW (_ : PySem.W.Frag) (W : Wd) (H : Hp) (a : Addr) (vs : List V) : Prop := RdW W H a (.tup vs)
section
variable {K : PySem.W.Frag} {W W' : Wd} {H H' : Hp} {a : Addr} {vs : List V}
theorem SqR.l (h : SqR K W H a vs) : SqL K H a vs := by
  rcases h with h | h
  · exact .inl h.rd
  · exact .inr h
theorem SqW.mv (h : SqW K W H a vs) (m : Mv W H W' H') : SqW K W' H' a vs := m.ls a vs h.1 h.2
theorem SqR.mv (h : SqR K W H a vs) (m : Mv W H W' H') : SqR K W' H' a vs := by
  rcases h with h | h
  · exact .inl (m.rd a _ h)
  · exact .inr h
theorem SqTW.mv (h : SqTW K W H a vs) (m : Mv W H W' H') : SqTW K W' H' a vs := m.rd a _ h
theorem SqTW.at (h : SqTW K W H a vs) (ok : OKW W H) : H a = some (.tup vs) := ok.exact h (fun _ e => by cases e) (fun _ e => by cases e) (fun _ e => by cases e)
end
section
variable (K : PySem.W.Frag)
def tLs {α : Type} (t : Ty α) : Ty (List α) := ⟨fun W H v xs => ∃ a vs, v = .ref a ∧ SqW K W H a vs ∧ Paired (t.R W H) vs xs, by
  rintro W W' H H' v xs ⟨a, vs, e, h, p⟩ m
  exact ⟨a, vs, e, h.mv m, L2.Paired.mapP p fun u x r => t.go r m⟩⟩
/-- the script: ints that are read -/
def tScr : Ty (List Int) := ⟨fun W H v xs => ∃ a, v = .ref a ∧ SqR K W H a (xs.map V.int), by
  rintro W W' H H' v xs ⟨a, e, h⟩ m
  exact ⟨a, e, h.mv m⟩⟩
/-- a tuple of things of one kind -/
def tTu {α : Type} (t : Ty α) : Ty (List α) := ⟨fun W H v xs => ∃ a vs, v = .ref a ∧ SqTW K W H a vs ∧ Paired (t.R W H) vs xs, by
  rintro W W' H H' v xs ⟨a, vs, e, h, p⟩ m
  exact ⟨a, vs, e, h.mv m, L2.Paired.mapP p fun u x r => t.go r m⟩⟩
def tT2 {α β : Type} (t : Ty α) (u : Ty β) : Ty (α × β) := ⟨fun W H v x => ∃ a p q, v = .ref a ∧ SqTW K W H a [p, q] ∧ t.R W H p x.1 ∧ u.R W H q x.2, by
  rintro W W' H H' v xs ⟨a, p, q, e, h, r1, r2⟩ m
  exact ⟨a, p, q, e, h.mv m, t.go r1 m, u.go r2 m⟩⟩
def tT3 {α β γ : Type} (t : Ty α) (u : Ty β) (z : Ty γ) : Ty (α × β × γ) := ⟨fun W H v x => ∃ a p q r, v = .ref a ∧ SqTW K W H a [p, q, r] ∧ t.R W H p x.1 ∧ u.R W H q x.2.1 ∧ z.R W H r x.2.2, by
  rintro W W' H H' v xs ⟨a, p, q, r, e, h, r1, r2, r3⟩ m
  exact ⟨a, p, q, r, e, h.mv m, t.go r1 m, u.go r2 m, z.go r3 m⟩⟩
/-- a list of three things -/
def tL3 {α β γ : Type} (t : Ty α) (u : Ty β) (z : Ty γ) : Ty (α × β × γ) := ⟨fun W H v x => ∃ a p q r, v = .ref a ∧ SqW K W H a [p, q, r] ∧ t.R W H p x.1 ∧ u.R W H q x.2.1 ∧ z.R W H r x.2.2, by
  rintro W W' H H' v xs ⟨a, p, q, r, e, h, r1, r2, r3⟩ m
  exact ⟨a, p, q, r, e, h.mv m, t.go r1 m, u.go r2 m, z.go r3 m⟩⟩
def tL2 {α β : Type} (t : Ty α) (u : Ty β) : Ty (α × β) := ⟨fun W H v x => ∃ a p q, v = .ref a ∧ SqW K W H a [p, q] ∧ t.R W H p x.1 ∧ u.R W H q x.2, by
  rintro W W' H H' v xs ⟨a, p, q, e, h, r1, r2⟩ m
  exact ⟨a, p, q, e, h.mv m, t.go r1 m, u.go r2 m⟩⟩
end
/-- a kind of keys -/
structure Ky (κ : Type) where
  k : κ → Key
  inj : ∀ a b, k a = k b → a = b
def kS : Ky Str := ⟨Sum.inr, fun _ _ h => Sum.inr.inj h⟩
def kI : Ky Int := ⟨Sum.inl, fun _ _ h => Sum.inl.inj h⟩
/-- a dict, its pairs in order -/
def tDk {κ α : Type} (ke : Ky κ) (t : Ty α) : Ty (List (κ × α)) := ⟨fun W H v kvs => ∃ a ws, v = .ref a ∧ RdW W H a (.dK ws) ∧ Paired (fun (p : Key × V) (q : κ × α) => p.1 = ke.k q.1 ∧ t.R W H p.2 q.2) ws kvs, by
  rintro W W' H H' v xs ⟨a, vs, e, h, p⟩ m
  exact ⟨a, vs, e, m.rd _ _ h, L2.Paired.mapP p fun u x r => ⟨r.1, t.go r.2 m⟩⟩⟩
/-! ### contexts -/
inductive Sl : Type 1 where
  | un
  | sh {α : Type} (t : Ty α) (x : α)
  | ol {α : Type} (t : Ty α) (xs : List α)
  | od {κ α : Type} (ke : Ky κ) (t : Ty α) (kvs : List (κ × α))
def Sl.own : Sl → Bool
  | .ol _ _ => true
  | .od _ _ _ => true
  | _ => false
def SlOk (W : Wd) (H : Hp) (s : Sl) (e : Option V) : Prop := match s with
  | .un => True
  | .sh t x => ∃ v, e = some v ∧ t.R W H v x
  | .ol t xs => ∃ a vs, e = some (.ref a) ∧ W a = .ow ∧ H a = some (.lst vs) ∧ Paired (t.R W H) vs xs
  | .od ke t kvs => ∃ a ws, e = some (.ref a) ∧ W a = .ow ∧ H a = some (.dK ws) ∧ Paired (fun (p : Key × V) q => p.1 = ke.k q.1 ∧ t.R W H p.2 q.2) ws kvs
/-- n: no dict is locked -/
structure Ct where
  n : Bool
  s : List Sl
def Ct.set (G : Ct) (i : Nat) (s : Sl) : Ct := ⟨G.n, G.s.set i s⟩
structure Holds (G : Ct) (W : Wd) (H : Hp) (σ : L2.St) : Prop where
  len : σ.length = G.s.length
  ok : OKW W H
  sl : ∀ (i : Nat) s e, G.s[i]? = some s → σ[i]? = some e → SlOk W H s e
  dj : ∀ (i j : Nat) s s' a, G.s[i]? = some s → G.s[j]? = some s' → s.own = true → s'.own = true → σ[i]? = some (some (V.ref a)) → σ[j]? = some (some (V.ref a)) → i = j
  nl : G.n = true → ∀ b, W b ≠ .lk
section
variable {W W1 : Wd} {H H1 : Hp} {G : Ct} {σ : L2.St}
end
/-! ### errors -/
/-- an error: its class, its fields -/
structure Er where
  C : Addr
  fs : Option (List (Str × Sl))
inductive FldsOk (W : Wd) (H : Hp) : List (Str × V) → List (Str × Sl) → Prop where
  | nil : FldsOk W H [] []
  | cons {f : Str} {v : V} {α : Type} {t : Ty α} {x : α} {vs : List (Str × V)} {ss : List (Str × Sl)} : t.R W H v x → FldsOk W H vs ss → FldsOk W H ((f, v) :: vs) ((f, .sh t x) :: ss)
def ErAt (W : Wd) (H : Hp) (e : Er) (d : Option Addr) : Prop := match e.fs, d with
  | none, none => True
  | some fs, some d => ∃ ws, H d = some (.xd ws) ∧ W d = .sh ∧ FldsOk W H ws fs
  | _, _ => False
/-- what is wanted of an exception; which may come -/
structure Xw where
  E : XK
  xp : Er → Prop
def Xw.ok (X : Xw) (W : Wd) (H : Hp) : Prop := ∀ e d W' H', X.xp e → GoE W H W' H' → OKW W' H' → ErAt W' H' e d → X.E (.ref e.C) d H'
/-! ### expressions -/
def Ev (X : Xw) (te : TE) (G : Ct) {α : Type} (t : Ty α) (P : α → Prop) : Prop :=
  ∀ W H σ (Q : VK), Holds G W H σ → X.ok W H → (∀ v W' H' x, P x → GoE W H W' H' → OKW W' H' → t.R W' H' v x → Q v H') → te σ H Q
def Et (X : Xw) (tt : TT) (G : Ct) (P : Bool → Prop) : Prop :=
  ∀ W H σ (Q : Bool → Hp → Prop), Holds G W H σ → X.ok W H → (∀ b W' H', P b → GoE W H W' H' → OKW W' H' → Q b H') → tt σ H Q
/-- arguments -/
inductive ArgsOk (W : Wd) (H : Hp) : List V → List Sl → Prop where
  | nil : ArgsOk W H [] []
  | cons {v : V} {α : Type} {t : Ty α} {x : α} {vs : List V} {as : List Sl} : t.R W H v x → ArgsOk W H vs as → ArgsOk W H (v :: vs) (.sh t x :: as)
def Ea (X : Xw) (ta : TA) (G : Ct) (P : List Sl → Prop) : Prop :=
  ∀ W H σ (Q : List V → Hp → Prop), Holds G W H σ → X.ok W H → (∀ vs W' H' as, P as → GoE W H W' H' → OKW W' H' → ArgsOk W' H' vs as → Q vs H') → ta σ H Q
section
variable {X : Xw} {G : Ct} {α β γ : Type} {t : Ty α} {u : Ty β} {z : Ty γ} {P : α → Prop}
/-- an operation of two typed values -/
def RO (r : R2) (t : Ty α) (u : Ty β) (z : Ty γ) (C : α → β → (γ → Prop) → Prop) : Prop :=
  ∀ W H v w x y (Q : VK) (P : γ → Prop), OKW W H → t.R W H v x → u.R W H w y → C x y P → (∀ a W' H' c, P c → GoE W H W' H' → OKW W' H' → z.R W' H' a c → Q a H') → r v w H Q
/-- values of scalars -/
structure Sc (t : Ty α) where
  f : α → V
  ok : ∀ W H v x, t.R W H v x ↔ v = f x
  eq : ∀ x y, f x = f y ↔ x = y
  fl : ∀ x, flatV (f x) = true
def scI : Sc tInt := ⟨V.int, fun _ _ _ _ => Iff.rfl, fun _ _ => ⟨fun h => V.int.inj h, fun h => by rw [h]⟩, fun _ => rfl⟩
def scS : Sc tStr := ⟨V.str, fun _ _ _ _ => Iff.rfl, fun _ _ => ⟨fun h => V.str.inj h, fun h => by rw [h]⟩, fun _ => rfl⟩
def scB : Sc tBl := ⟨V.bl, fun _ _ _ _ => Iff.rfl, fun _ _ => ⟨fun h => V.bl.inj h, fun h => by rw [h]⟩, fun _ => rfl⟩
/-! tests -/
/-! arguments, displays -/
theorem ArgsOk.go {W W1 : Wd} {H H1 : Hp} {vs : List V} {as : List Sl} (h : ArgsOk W H vs as) (m : Mv W H W1 H1) : ArgsOk W1 H1 vs as := by
  induction h with
  | nil => exact .nil
  | cons r _ ih => exact .cons (Ty.go _ r m) ih
end
end Z
end

section
set_option maxRecDepth 100000
set_option maxHeartbeats 4000000
/-! Statements, calls, loops, comprehensions over typed slots. -/
namespace Z
open PySem PySem.Spec PyProof.Rows L2
/-- a def's wishes: what is wanted of what it hands back, of what it raises -/
structure Fx (ρ : Type) where
  tr : Ty ρ
  rt : ρ → Prop
  X : Xw
def Blk {ρ : Type} (F : Fx ρ) (ts : TS) (G : Ct) (N B C : Ct → Prop) : Prop :=
  ∀ W0 H0 W H σ (D : Ends), Go W0 H0 W H → Holds G W H σ →
    (∀ G' W' H' σ', N G' → Go W0 H0 W' H' → Holds G' W' H' σ' → D.nx σ' H') →
    (∀ G' W' H' σ', B G' → Go W0 H0 W' H' → Holds G' W' H' σ' → D.bk σ' H') →
    (∀ G' W' H' σ', C G' → Go W0 H0 W' H' → Holds G' W' H' σ' → D.ct σ' H') →
    (∀ v W' H' x, F.rt x → Go W0 H0 W' H' → OKW W' H' → F.tr.R W' H' v x → D.rt v H') →
    (∀ e d W' H', F.X.xp e → Go W0 H0 W' H' → OKW W' H' → ErAt W' H' e d → F.X.E (.ref e.C) d H') → ts D σ H
section
variable {ρ : Type} {F : Fx ρ} {G : Ct} {N B C : Ct → Prop} {α β γ : Type} {t : Ty α} {u : Ty β}
/-! ### targets -/
def Tg (g : TG) (G : Ct) (t : Ty α) (x : α) (vs : List Nat) (N : Ct → Prop) : Prop :=
  ∀ W H σ v (Q : L2.St → Hp → Prop), Holds G W H σ → t.R W H v x → (∀ G' σ', N G' → Holds G' W H σ' → σ'.length = σ.length → (∀ i, i ∉ vs → σ'[i]? = σ[i]?) → Q σ' H) → g v σ H Q
/-! ### one's own lists and dicts -/
def setW (W : Wd) (a : Addr) (m : Md) : Wd := fun b => if b = a then m else W b
theorem setW_same {W : Wd} {a : Addr} {m : Md} : setW W a m a = m := if_pos rfl
theorem setW_ne {W : Wd} {a b : Addr} {m : Md} (h : b ≠ a) : setW W a m b = W b := if_neg h
inductive AllSh (t : Ty α) : List Sl → List α → Prop where
  | nil : AllSh t [] []
  | cons {x : α} {as : List Sl} {xs : List α} : AllSh t as xs → AllSh t (.sh t x :: as) (x :: xs)
/-! ### loops -/
/-- what is walked: its items -/
def Ei (X : Xw) (wi : TI) (G : Ct) (t : Ty α) (P : List α → Prop) : Prop :=
  ∀ W H σ (R : It → Hp → Prop), Holds G W H σ → X.ok W H → (∀ J W1 H1 xs (Gh : Hp → Prop) (Y : Nat → Hp → V → Hp → Prop), P xs → GoE W H W1 H1 → OKW W1 H1 → Walk J xs.length Gh Y → (∀ W2 H2, Go W1 H1 W2 H2 → OKW W2 H2 → Gh H2) →
    (∀ W2 H2 i v H3, Go W1 H1 W2 H2 → OKW W2 H2 → i < xs.length → Y i H2 v H3 → ∃ x W3, xs[i]? = some x ∧ GoE W2 H2 W3 H3 ∧ OKW W3 H3 ∧ t.R W3 H3 v x) → R J H1) → wi σ H R
end
end Z
end

section
set_option maxRecDepth 100000
set_option maxHeartbeats 4000000
/-! Typed promises: what a def does with typed arguments. -/
namespace Z
open PySem PySem.Spec PyProof.Rows L2
structure CT (ρ : Type) where
  n : Bool
  tr : Ty ρ
  ct : List Sl → (ρ → Prop) → (Er → Prop) → Prop
/-- behind a call: the caller's own is the caller's own again -/
def hide (W : Wd) : Wd := fun b => if W b = .ow then .fo else W b
def unhide (W Wc : Wd) : Wd := fun b => if W b = .ow then .ow else Wc b
section
variable {W Wc : Wd} {H H' : Hp}
end
/-- the promise of a def, by typed arguments -/
def spZ {ρ : Type} (c : CT ρ) : Sp := fun vs H Q E => ∃ W as P XP, OKW W H ∧ (∀ b, W b ≠ .ow) ∧ (c.n = true → ∀ b, W b ≠ .lk) ∧ ArgsOk W H vs as ∧ c.ct as P XP ∧
  (∀ v W' H' x, P x → Go W H W' H' → OKW W' H' → c.tr.R W' H' v x → Q v H') ∧ (∀ e d W' H', XP e → Go W H W' H' → OKW W' H' → ErAt W' H' e d → E (.ref e.C) d H')
section
variable {ρ α β : Type} {X : Xw} {G : Ct} {c : CT ρ} {P : ρ → Prop}
/-- an instance of the class at C -/
def Inst (C : Addr) (m : Str) (t : Ty α) : Prop := ∀ W H v x, OKW W H → t.R W H v x → ∃ a dx fs, v = .ref a ∧ H a = some (.ins C dx fs) ∧ fs.lookup m = none
end
end Z
end

section
set_option maxRecDepth 100000
set_option maxHeartbeats 4000000
/-! Displays, items, built-in calls, dicts, comprehensions, what is walked. -/
namespace Z
open PySem PySem.Spec PyProof.Rows L2
section
variable {α β γ : Type} {R : α → β → Prop}
theorem paired_eq {f : β → α} : ∀ {xs : List α} {ys : List β}, Paired (fun x y => x = f y) xs ys → xs = ys.map f
  | _, _, .nil => rfl
  | _, _, .cons r p => by rw [List.map_cons, ← paired_eq p, r]
end
variable {K : PySem.W.Frag}
section
variable {X : Xw} {G : Ct} {α β γ δ : Type} {t : Ty α} {u : Ty β} {z : Ty γ}
/-! ### displays -/
/-! ### items -/
/-! ### built-in calls of one thing -/
def RC1 (r : List V → Hp → VK → Prop) (t : Ty α) (u : Ty β) (n : Bool) (C : α → (β → Prop) → Prop) : Prop :=
  ∀ W H v x (Q : VK) (P : β → Prop), OKW W H → (n = true → ∀ b, W b ≠ .lk) → t.R W H v x → C x P → (∀ a W' H' c, P c → GoE W H W' H' → OKW W' H' → u.R W' H' a c → Q a H') → r [v] H Q
abbrev rLenA (K : PySem.W.Frag) : List V → Hp → VK → Prop := fun xs H Q => ∃ x n, xs = [x] ∧ LenV K x H n ∧ Q (.int n) H
theorem paired_f {W : Wd} {H : Hp} (s : Sc t) {vs : List V} {xs : List α} (p : Paired (t.R W H) vs xs) : vs = xs.map s.f := paired_eq (L2.Paired.mapP p fun u x r => (s.ok W H u x).mp r)
abbrev rListA (K : PySem.W.Frag) : List V → Hp → VK → Prop := fun xs H Q => ∃ p ys, xs = [.ref p] ∧ (SqL K H p ys ∨ SqT K H p ys) ∧ ∀ l, H l = none → Q (.ref l) (upd H l (.lst ys))
/-- the type of a dict's keys, as values -/
structure KyT {κ : Type} (ke : Ky κ) (tk : Ty κ) : Prop where
  ok : ∀ W H v k, tk.R W H v k ↔ v = kV (ke.k k)
abbrev rTupA (K : PySem.W.Frag) : List V → Hp → VK → Prop := fun xs H Q => ∃ p ys, xs = [.ref p] ∧ ((SqL K H p ys ∧ ∀ l, H l = none → Q (.ref l) (upd H l (.tup ys))) ∨ (SqT K H p ys ∧ Q (.ref p) H))
/-! ### in, not in -/
end
/-! ### dicts -/
section
variable {X : Xw} {G : Ct} {κ α β : Type} [DecidableEq κ] {ke : Ky κ} {tk : Ty κ} {t : Ty α}
def lookK (kvs : List (κ × α)) (k : κ) : Option α := (kvs.find? fun p => decide (p.1 = k)).map (·.2)
def hasK (kvs : List (κ × α)) (k : κ) : Bool := (lookK kvs k).isSome
def putZ (kvs : List (κ × α)) (k : κ) (x : α) : List (κ × α) := if hasK kvs k then kvs.map fun p => if p.1 = k then (p.1, x) else p else kvs ++ [(k, x)]
end
end Z
end

section
set_option maxRecDepth 100000
set_option maxHeartbeats 4000000
/-! What is walked; loops over dicts; comprehensions. -/
namespace Z
open PySem PySem.Spec PyProof.Rows L2
/-- within a comprehension nothing may be raised -/
def x0 : Xw := ⟨fun _ _ _ => False, fun _ => False⟩
variable {K : PySem.W.Frag}
section
variable {α β γ ρ : Type} {t : Ty α} {u : Ty β} {X : Xw} {G : Ct}
/-- what is walked, from here -/
def EiAt (wi : TI) (W : Wd) (H : Hp) (σ : L2.St) (t : Ty α) (P : List α → Prop) : Prop :=
  ∀ (R : It → Hp → Prop), (∀ J W1 H1 xs (Gh : Hp → Prop) (Y : Nat → Hp → V → Hp → Prop), P xs → GoE W H W1 H1 → OKW W1 H1 → Walk J xs.length Gh Y → (∀ W2 H2, Go W1 H1 W2 H2 → OKW W2 H2 → Gh H2) →
    (∀ W2 H2 i v H3, Go W1 H1 W2 H2 → OKW W2 H2 → i < xs.length → Y i H2 v H3 → ∃ x W3, xs[i]? = some x ∧ GoE W2 H2 W3 H3 ∧ OKW W3 H3 ∧ t.R W3 H3 v x) → R J H1) → wi σ H R
def chars (z : Str) : List Str := z.cps.toList.map fun c => ⟨#[c]⟩
def rangeZ (i j : Int) : List Int := (List.range (j - i).toNat).map fun (k : Nat) => i + (k : Int)
def enumZ (xs : List α) : List (Int × α) := xs.zipIdx.map fun p => ((p.2 : Int), p.1)
/-! ### a path to a thing: it may be read again where all stands -/
def Ap (te : TE) (G : Ct) (t : Ty α) (P : α → Prop) : Prop := ∀ W H σ, Holds G W H σ → ∃ v x, P x ∧ t.R W H v x ∧ ∀ W' H' (Q : VK), Mv W H W' H' → OKW W' H' → Q v H' → te σ H' Q
/-! ### a dict is locked, and opened again -/
end
/-! ### loops -/
section
variable {ρ α β : Type} {F : Fx ρ} {G : Ct} {N B C : Ct → Prop} {t : Ty α} {u : Ty β}
/-- one reading or another -/
def tEither (a b : TS) : TS := fun D σ H => a D σ H ∨ b D σ H
def tEitherE (a b : TE) : TE := fun σ H Q => a σ H Q ∨ b σ H Q
/-! ### comprehensions -/
def Ct.wipe (G : Ct) : List Nat → Ct
  | [] => G
  | i :: is => (Ct.wipe G is).set i .un
/-- what a comprehension may give: R x l tells what one item may give (nothing, or one thing) -/
inductive Chop (R : α → List β → Prop) : List α → List β → Prop where
  | nil : Chop R [] []
  | cons {x : α} {xs : List α} {l ys : List β} : R x l → Chop R xs ys → Chop R (x :: xs) (l ++ ys)
end
end Z
end

section
set_option maxRecDepth 100000
set_option maxHeartbeats 4000000
namespace Z
open PySem PySem.Spec PyProof.Rows L2
variable {K : PySem.W.Frag}
section
variable {α β γ ρ : Type} {t : Ty α} {u : Ty β} {X : Xw} {G : Ct} {F : Fx ρ} {N B C : Ct → Prop}
/-! ### dict comprehensions -/
variable {κ δ : Type} [DecidableEq δ]
def mkD (ys : List (δ × β)) : List (δ × β) := ys.foldl (fun d p => putZ d p.1 p.2) []
end
/-! ### one's own things, looked at -/
def Sl.view (K : PySem.W.Frag) : Sl → Sl
  | .ol t xs => .sh (tLs K t) xs
  | .od ke t kvs => .sh (tDk ke t) kvs
  | s => s
def Ct.view (K : PySem.W.Frag) (G : Ct) : Ct := ⟨G.n, G.s.map (Sl.view K)⟩
/-- nothing of the heap is asked -/
def Flat {α : Type} (t : Ty α) : Prop := ∀ W H W' H' v x, t.R W H v x → t.R W' H' v x
def show' (W : Wd) : Wd := fun b => if W b = .ow then .sh else W b
section
variable {α β γ ρ : Type} {t : Ty α} {u : Ty β} {X : Xw} {G : Ct}
/-! ### slices -/
def Eo (X : Xw) (to : TO) (G : Ct) (P : Option Int → Prop) : Prop := ∀ W H σ (Q : Option Int → Hp → Prop), Holds G W H σ → X.ok W H → (∀ i W' H', P i → GoE W H W' H' → OKW W' H' → Q i H') → to σ H Q
def SLI (r : V → Option Int → Option Int → Hp → VK → Prop) (t : Ty α) (u : Ty β) (C : α → Option Int → Option Int → (β → Prop) → Prop) : Prop :=
  ∀ W H v x lo hi (Q : VK) (P : β → Prop), OKW W H → t.R W H v x → C x lo hi P → (∀ a W' H' c, P c → GoE W H W' H' → OKW W' H' → u.R W' H' a c → Q a H') → r v lo hi H Q
def cutZ (xs : List α) (lo hi : Option Int) : List α := (xs.drop (HT.sIx xs.length 0 lo)).take (HT.sIx xs.length xs.length hi - HT.sIx xs.length 0 lo)
/-! ### texts -/
/-! ### an attribute of an instance -/
def FldOf (K : PySem.W.Frag) (f : Str) (T : Ty α) (u : Ty β) (get : α → β) : Prop := ∀ W H v x, T.R W H v x → ∃ a C dx fs w, v = .ref a ∧ RdW W H a (.ins C dx fs) ∧ Cls K C ∧ NoAttr K C f ∧ fs.lookup f = some w ∧ u.R W H w (get x)
/-! ### sorted -/
end
end Z
end

section
set_option maxRecDepth 100000
set_option maxHeartbeats 4000000
namespace Z
open PySem PySem.Spec PyProof.Rows L2
variable {K : PySem.W.Frag}
section
variable {α β γ ρ : Type} {t : Ty α} {u : Ty β} {X : Xw} {G : Ct} {F : Fx ρ} {N B C : Ct → Prop}
/-! ### raise -/
end
end Z
end

section
set_option maxRecDepth 100000
set_option maxHeartbeats 4000000
namespace KK
open PySem PySem.Spec PyProof.Rows L2 Z
def spDrawG : Sp := fun vs H Q _ => ∃ (a : Addr) (n c k : Int), vs = [.ref a, .int n] ∧ H a = some (.lst [.int c, .int k]) ∧ 0 ≤ k ∧ 0 < n ∧ n < 2 ^ 200 ∧ ∀ r c' k', 0 ≤ r → r < n → 0 ≤ k' → Q (.int r) (upd H a (.lst [.int c', .int k']))
section
variable {P : Program} {w : World} {K : PySem.W.Frag} {mg : Str → Option Value} {base : Heap}
theorem c_drawG (T : Blt mg) (F : Has K mg "_law_draw" s_law_draw) : C8.Cal P w K mg base 1 "_law_draw" spDrawG [] := by
  refine calF F (fun f fd F => F.binds (ps := ["_law_stream_here", "_law_many"]) fun _ _ _ _ _ _ us hl => match us, hl with | [_, _], _ => rfl) scDraw (fun vs H Q E h => ?_) (fun f cdv A outer s H vs Q E hr h => ?_)
  · obtain ⟨a, n, c, k, rfl, _⟩ := h
    rfl
  · obtain ⟨a, n, c, k, rfl, hA, hk0, hn, hn2, q⟩ := h
    refine ⟨_, (pss_cons (ps_if (pt_cmpR op_ge (pe_ix ix_list (pv 0) pe_int (fun _ _ => rfl)) (pe_op op_pow pe_int pe_int) (nomark _)) (pss_cons (ps_set (i := 2) scDraw.nd rfl (Or.inl rfl) (pe_op op_modN (pe_callTy call_int1 (by rfl) T.b_int (by decide +kernel) (pa_cons (pe_ix ix_list (pv 0) pe_int (fun _ _ => rfl)) pa_nil)) (pv 1)))
      (pss_cons (ps_asg (pe_op op_fdivW (pe_callTy call_int1 (by rfl) T.b_int (by decide +kernel) (pa_cons (pe_ix ix_list (pv 0) pe_int (fun _ _ => rfl)) pa_nil)) (pv 1)) (pg_sub (pv 0) pe_int set_list))
      (pss_one (ps_ret (pv 2))))) pss_nil)
      (pss_cons (ps_set (i := 3) scDraw.nd rfl (Or.inl rfl) (pe_op op_modN (pe_op op_add (pe_op op_add (pe_op op_mul (pe_op op_modN (pe_callTy call_int1 (by rfl) T.b_int (by decide +kernel) (pa_cons (pe_ix ix_list (pv 0) pe_int (fun _ _ => rfl)) pa_nil)) pe_int) pe_int) (pe_op op_mul (pe_ix ix_list (pv 0) pe_int (fun _ _ => rfl)) pe_int)) pe_int) pe_int))
      (pss_cons (ps_set (i := 3) scDraw.nd rfl (Or.inl rfl) (pe_op op_modN (pe_op op_mul (pv 3) (pe_op op_add (pe_op op_fdivW (pv 3) pe_int) pe_int)) pe_int))
      (pss_cons (ps_set (i := 3) scDraw.nd rfl (Or.inl rfl) (pe_op op_modN (pe_op op_mul (pv 3) (pe_op op_add (pe_op op_fdivW (pv 3) pe_int) pe_int)) pe_int))
      (pss_cons (ps_asg (pe_op op_add (pe_ix ix_list (pv 0) pe_int (fun _ _ => rfl)) pe_int) (pg_sub (pv 0) pe_int set_list))
      (pss_one (ps_ret (pe_op op_modN (pe_op op_fdivW (pv 3) pe_int) (pv 1))))))))), ?_⟩
    have hL : SqL K H a [.int c, .int k] := SqL.of hA
    have i0 : atI ([.int c, .int k] : List V) 0 = some (.int c) := atI_nat (j := 0) rfl
    have i1 : atI ([.int c, .int k] : List V) 1 = some (.int k) := atI_nat (j := 1) rfl
    refine ⟨_, rfl, a, _, _, _, rfl, rfl, hL, i0, _, _, rfl, rfl, ⟨by decide, by decide, by decide⟩, _, _, rfl, rfl, _, rfl, ?_⟩
    refine ite2 (fun hlt => ?_) (fun hlt => ?_)
    · refine ⟨_, rfl, a, _, _, _, rfl, rfl, hL, i0, .inl ⟨_, rfl, ?_⟩⟩
      refine ⟨_, rfl, _, _, rfl, rfl, (show n ≠ 0 by omega), ?_⟩
      refine ⟨_, rfl, a, _, _, _, rfl, rfl, hL, i0, .inl ⟨_, rfl, _, rfl, _, _, rfl, rfl, ⟨hn, ?_⟩, ?_⟩⟩
      · exact log200 hn hn2
      · refine ⟨_, rfl, a, _, _, 0, rfl, rfl, hA, rfl, ?_⟩
        exact ⟨_, rfl, q _ _ _ (fm0 hn).1 (fm0 hn).2 hk0⟩
    · have d1 : CDivW 0 1009 := ⟨by decide, by decide +kernel⟩
      have d2 : CDivW 0 2003 := ⟨by decide, by decide +kernel⟩
      have d3 : CDivW 0 16 := ⟨by decide, by decide +kernel⟩
      have n1 : (2147483647 : Int) ≠ 0 := by decide
      have n2 : (2147483399 : Int) ≠ 0 := by decide
      have m1 : ∀ i : Int, -(2 ^ 64) < i.fmod 2147483647 ∧ i.fmod 2147483647 < 2 ^ 64 := fun i => mulOk (by decide) (by decide)
      have m2 : ∀ i : Int, -(2 ^ 64) < i.fmod 2147483399 ∧ i.fmod 2147483399 < 2 ^ 64 := fun i => mulOk (by decide) (by decide)
      refine ⟨_, rfl, a, _, _, _, rfl, rfl, hL, i0, .inl ⟨_, rfl, _, _, rfl, rfl, n1, _, _, rfl, rfl, .inl (m1 _), ?_⟩⟩
      refine ⟨_, rfl, a, _, _, _, rfl, rfl, hL, i1, _, _, rfl, rfl, .inr ⟨by decide, by decide⟩, _, _, rfl, rfl, _, _, rfl, rfl, _, _, rfl, rfl, n1, ?_⟩
      refine ⟨_, rfl, _, rfl, _, _, rfl, rfl, d1, _, _, rfl, rfl, _, _, rfl, rfl, .inl (m1 _), _, _, rfl, rfl, n1, ?_⟩
      refine ⟨_, rfl, _, rfl, _, _, rfl, rfl, d2, _, _, rfl, rfl, _, _, rfl, rfl, .inl (m1 _), _, _, rfl, rfl, n2, ?_⟩
      refine ⟨_, rfl, a, _, _, _, rfl, rfl, hL, i1, _, _, rfl, rfl, _, rfl, a, _, _, 1, rfl, rfl, hA, rfl, ?_⟩
      refine ⟨_, rfl, _, _, rfl, rfl, d3, _, rfl, _, _, rfl, rfl, (show n ≠ 0 by omega), ?_⟩
      exact q _ _ _ (fm0 hn).1 (fm0 hn).2 (by omega)
/-! ### typed -/
abbrev ctDraw : CT Int := ⟨false, tInt, fun as P _ => ∃ n, as = [.sh tStm (), .sh tInt n] ∧ (0 < n ∧ n < 2 ^ 200) ∧ ∀ r, (0 ≤ r ∧ r < n) → P r⟩
theorem st_write {W : Wd} {H : Hp} {a : Addr} {c k : Int} (ok : OKW W H) (w : W a = .st) (hk : 0 ≤ k) : Go W H W (upd H a (.lst [.int c, .int k])) ∧ OKW W (upd H a (.lst [.int c, .int k])) := by
  have ne : ∀ b, W b ≠ .st → b ≠ a := fun b h e => h (by rw [e]; exact w)
  refine ⟨⟨fun b o h q => ⟨by rw [upd_ne (ne b (by rcases q with q | q | q <;> rw [q] <;> decide))]; exact h, rfl⟩, fun _ h => h, fun _ h => h⟩, ⟨fun b h => ?_, fun b h => ?_, fun b od u w2 e => ?_, fun b h => ?_, fun b od u w2 e => ?_, fun b vs e => by
    have n : b ≠ a := fun z => by rw [z, upd_same] at e; cases e
    rw [upd_ne n] at e; exact ok.tp b vs e⟩⟩
  · by_cases n : b = a
    · exact ⟨c, k, by rw [n, upd_same], hk⟩
    · rw [upd_ne n]; exact ok.st b h
  · by_cases n : b = a
    · exact ⟨_, by rw [n, upd_same]⟩
    · rw [upd_ne n]; exact ok.al b h
  · rw [upd_ne (ne b (by rw [w2]; decide))] at e; exact ok.nf b od u w2 e
  · rw [upd_ne (ne b (by rw [h]; decide))]; exact ok.lk b h
  · rw [upd_ne (ne b (by rw [w2]; decide))] at e; exact ok.fo b od u w2 e
theorem z_draw (T : Blt mg) (F : Has K mg "_law_draw" s_law_draw) : C8.Cal P w K mg base 1 "_law_draw" (spZ ctDraw) [] := by
  refine Own.cal_of (c_drawG T F) ?_
  rintro vs H Q E ⟨W, as, P, XP, ok, _, _, ha, ⟨n, rfl, ⟨h1, h2⟩, hp⟩, q, _⟩
  cases ha with
  | cons r1 ha => cases ha with
    | cons r2 ha =>
      cases ha
      obtain ⟨a, rfl, w⟩ := r1
      cases r2
      obtain ⟨c, k, e, hk⟩ := ok.st a w
      refine ⟨a, n, c, k, rfl, e, hk, h1, h2, fun r c' k' h3 h4 h5 => ?_⟩
      obtain ⟨g, ok2⟩ := st_write (c := c') (k := k') ok w h5
      exact q (.int r) W _ r (hp r ⟨h3, h4⟩) g ok2 rfl
abbrev ctStream (K : PySem.W.Frag) : CT Unit := ⟨false, tStm, fun as P _ => ∃ xs j, as = [.sh (tScr K) xs, .sh tInt j] ∧ (xs.length ≤ 1000 ∧ 0 ≤ j ∧ j ≤ 100) ∧ P ()⟩
theorem z_stream (T : Blt mg) (F : Has K mg "_law_stream" s_law_stream) : C8.Cal P w K mg base 1 "_law_stream" (spZ (ctStream K)) [] := by
  refine Own.cal_of (c_stream T F) ?_
  rintro vs H Q E ⟨W, as, P, XP, ok, _, _, ha, ⟨xs, j, rfl, ⟨h1, h2, h3⟩, hp⟩, q, _⟩
  cases ha with
  | cons r1 ha => cases ha with
    | cons r2 ha =>
      cases ha
      obtain ⟨a, rfl, sq⟩ := r1
      cases r2
      refine ⟨a, xs, j, rfl, sq.l, h1, h2, h3, fun p c hn => ?_⟩
      have fr := ok.fresh hn
      have ne : ∀ b o, H b = some o → b ≠ p := fun b o e => ne_of_none e hn
      refine q (.ref p) (setW W p .st) _ () hp ⟨fun b o e w => ⟨by rw [upd_ne (ne b o e)]; exact e, setW_ne (ne b o e)⟩, fun b w => ?_, fun b w => ?_⟩ ⟨fun b h => ?_, fun b h => ?_, fun b od u w e => ?_, fun b h => ?_, fun b od u w e => ?_, fun b vs e => by
        have n : b ≠ p := fun z => by rw [z, upd_same] at e; cases e
        rw [upd_ne n] at e; rw [setW_ne n]; exact ok.tp b vs e⟩ ⟨p, rfl, setW_same⟩
      · by_cases n : b = p
        · rw [n, setW_same]
        · rw [setW_ne n]; exact w
      · by_cases n : b = p
        · rw [n, setW_same] at w; cases w
        · rw [setW_ne n] at w; exact w
      · by_cases n : b = p
        · exact ⟨c, _, by rw [n, upd_same], by omega⟩
        · rw [setW_ne n] at h; rw [upd_ne n]; exact ok.st b h
      · by_cases n : b = p
        · exact ⟨_, by rw [n, upd_same]⟩
        · rw [setW_ne n] at h; rw [upd_ne n]; exact ok.al b h
      · by_cases n : b = p
        · rw [n, setW_same] at w; cases w
        · rw [setW_ne n] at w; rw [upd_ne n] at e; exact ok.nf b od u w e
      · by_cases n : b = p
        · rw [n, setW_same] at h; cases h
        · rw [setW_ne n] at h; rw [upd_ne n]; exact ok.lk b h
      · by_cases n : b = p
        · rw [n, setW_same] at w; cases w
        · rw [setW_ne n] at w; rw [upd_ne n] at e; exact ok.fo b od u w e
end
end KK
end

section
set_option maxRecDepth 100000
set_option maxHeartbeats 4000000
/-! tuple(d), d a dict: its keys -/
namespace PySem
open Sem (wp)
section
variable {prog : Program} {w : World} {A : Around} {E : Value → Shared → Prop} {s : Shared} {T : String} {r d : Addr} {n : Nat} {P : Nat → Value → Prop} {OK : Heap → Prop}
theorem own_collect {Q : List Value → Shared → Prop} (K : PySem.W.KdlSrc prog w T r d n P OK) (hh : A.handled = none) (hok : OK s.heap) (hn : n ≤ sizeLine)
    (hQ : ∀ (h' : Heap) (tk : Nat) (acc : Array Value), (∀ b o, s.heap.get? b = some o → h'.get? b = some o) → ItemsOf P acc n → Q acc.toList { s with heap := h', toks := tk }) :
    wpAny (model prog w) A (collect (.ref r)) Q E s := by
  unfold collect
  refine wpAny_bind (wpAny_runValue (codeAny_builtin F.entry_proto_collect ?_))
  rw [Around.under_plainId F.plain_proto_collect _]
  show wpAny _ A.in1 (newList [] >>= fun l => again (.builtin "list.__iadd__" ⟨[l, .ref r], []⟩)) _ _ s
  refine wpAny_bind (wpAny_newObj_type ?_)
  refine wpAny_pure ⟨plainId_quiet F.plain_list_iadd _, codeAny_builtin F.entry_list_iadd ?_⟩
  rw [Around.under_plainId F.plain_list_iadd _]
  show wpAny _ A.in1 (Builtin.List.listExtendWith (.ref s.heap.objs.size) (.ref r) (.ref s.heap.objs.size)) _ _ _
  have hS : (s.heap.push { cls := .type "list", data := .seq ([] : List Value).toArray }).get? s.heap.objs.size = some { cls := .type "list", data := .seq #[] 0 } := Heap.get?_push_size _ rfl
  have lt := K.there _ hok
  refine wpAny_mono (PySem.W.kdl_extend (A := A) (R := fun rr s' => rr = .ok (.ret (.ref s.heap.objs.size)) ∧ ∃ (h' : Heap) (tk : Nat) (acc : Array Value) (c' : Nat), s' = { s with heap := h', toks := tk } ∧
      (∀ b o, s.heap.get? b = some o → h'.get? b = some o) ∧ h'.get? s.heap.objs.size = some { cls := .type "list", dict := none, data := .seq acc c', slots := #[] } ∧ ItemsOf P acc n)
    (s := { s with heap := s.heap.push { cls := .type "list", data := .seq ([] : List Value).toArray } }) K hh (K.keep _ _ hok fun b _ o e => Heap.get?_push_of_some _ e) s.heap.objs.size (Nat.ne_of_gt lt.1) (Nat.ne_of_gt lt.2) (.ref s.heap.objs.size) 0 hS
    (fun h' tk acc c' hk e hi => ⟨rfl, h', tk, acc, c', rfl, fun b o q => hk b o (Nat.ne_of_lt (Heap.lt_size q)) (Heap.get?_push_of_some _ q), e, hi⟩) hn) (fun fin s' h => ?_) (fun e s' h => ?_)
  · cases fin with
    | done f =>
      obtain ⟨e, h', tk, acc, c', rfl, hk, hS', hi⟩ := h
      cases e
      show wpAny _ A (load s.heap.objs.size >>= _) _ _ _
      exact wpAny_bind (wpAny_load hS' (wpAny_pure (hQ h' tk acc hk hi)))
    | again c' =>
      refine ⟨h.1, codeAny_mono h.2 fun rr s'' hr' => ?_⟩
      obtain ⟨rfl, h', tk, acc, c', rfl, hk, hS', hi⟩ := hr'
      show wpAny _ A (load s.heap.objs.size >>= _) _ _ _
      exact wpAny_bind (wpAny_load hS' (wpAny_pure (hQ h' tk acc hk hi)))
  · exact absurd h.1 (by simp)
theorem own_tuple_new {Q₁ : Value → Shared → Prop} (K : PySem.W.KdlSrc prog w "dict" r d n P OK) (hh : A.handled = none) (hok : OK s.heap) (hn : n ≤ sizeLine)
    (h : ∀ (h' : Heap) (tk : Nat) (acc : Array Value), (∀ b o, s.heap.get? b = some o → h'.get? b = some o) → ItemsOf P acc n → Q₁ (.ref h'.objs.size) { s with heap := h'.push { cls := .type "tuple", data := .seq acc }, toks := tk }) :
    codeAny (model prog w) A (.call (.builtin "tuple.__new__") ⟨[.type "tuple", .ref r], []⟩) (wants Q₁ E) s := by
  refine codeAny_of_tree ?_
  show wpAny _ A.in1 (do checkBuiltinCall "tuple.__new__" ⟨[.type "tuple", .ref r], []⟩; again (.builtin "tuple.__new__" ⟨[.type "tuple", .ref r], []⟩)) _ _ s
  refine wpAny_bind (wpAny_of_eq (F.newCall_tuple_1 _) (wpAny_pure ⟨plainId_quiet F.plain_tuple_new _, codeAny_builtin F.entry_tuple_new ?_⟩))
  rw [Around.under_plainId F.plain_tuple_new _]
  have hsub := sub_tuple_self
  have hinit := init_tuple_lookup
  have hmh := madeHere_tuple
  have hTI : s.TypeIs (.ref r) "dict" := K.type s hok
  have hh1 : A.in1.handled = none := hh
  wp_walk using wpAny_typeOf hTI, own_collect (A := A.in1) K hh1 hok hn
  intro h' tk acc hk hacc
  show wpAny _ _ (Builtin.Tuple.tupleExact acc.toList.toArray >>= fun v => ret v) _ _ _
  unfold Builtin.Tuple.tupleExact
  refine wpAny_bind (wpAny_newObj_type ?_ (by show acc.toList.toArray.size ≤ sizeLine; simp only [Array.toArray_toList]; rw [hacc.1]; exact hn))
  refine wpAny_pure ?_
  have e : acc.toList.toArray = acc := by simp
  rw [e]
  exact h h' tk acc hk hacc
theorem own_tuple_call {Q : Value → Shared → Prop} (K : PySem.W.KdlSrc prog w "dict" r d n P OK) (hh : A.handled = none) (hok : OK s.heap) (hn : n ≤ sizeLine)
    (hQ : ∀ (h' : Heap) (tk : Nat) (acc : Array Value), (∀ b o, s.heap.get? b = some o → h'.get? b = some o) → ItemsOf P acc n → Q (.ref h'.objs.size) { s with heap := h'.push { cls := .type "tuple", data := .seq acc }, toks := tk }) :
    wpAny (model prog w) A (call (.type "tuple") [.ref r]) Q E s := by
  refine callType_codes (Q₁ := fun obj s₁ => s₁.TypeIs obj "tuple" ∧ Q obj s₁) F.called_tuple (F.typeCall_tuple_1 _) F.entry_object_init
    (own_tuple_new (A := A.in1) K hh hok hn fun h' tk acc hk hacc => ⟨⟨_, Heap.get?_push_size _ rfl, rfl⟩, hQ h' tk acc hk hacc⟩) fun obj s₁ h₁ => ?_
  exact ⟨h₁.1, F.args_object_init_2 obj _, object_init_meets F.called_tuple.init.lookup F.called_tuple.made (by decide) prog w A.in1 _ s₁ ⟨h₁.1, rfl, h₁.2⟩⟩
end
end PySem
namespace Own
open PySem PySem.Spec PyProof.Rows L2
theorem call_tuple_dK {X : Cx} (hc : X.calm = true) : CallR X (.type "tuple") (fun xs H Q => ∃ p kvs, xs = [.ref p] ∧ H p = some (.dK kvs) ∧ ∀ q, H q = none → Q (.ref q) (upd H q (.tup (kvs.map fun kv => kV kv.1)))) := by
  intro pins s σ H xs us Q I r h
  obtain ⟨p, kvs, e, hk, q⟩ := h
  subst e
  obtain ⟨u, eu, rx⟩ := vals1 r
  subst eu
  obtain rfl : u = Value.ref p := rx
  obtain ⟨z, lo, vs, rk, hd⟩ := (show ObjOk X.prog X.w H s.heap p (.dK kvs) from I.hok p _ hk)
  obtain ⟨ep, hat⟩ := hd.dictAt
  have hl : kvs.length = vs.length := Paired.length rk
  have hz : vs.length ≤ sizeLine := by
    rw [← hl]
    exact z
  refine own_tuple_call (PySem.W.kdl_dict (knd := mixKind X.prog X.w) (kvs := vs) (ep := ep) lo) (I.ok.hd hc) hat hz fun h' tk acc hkeep hacc => ?_
  have I1 : Inv X pins σ H { s with heap := h', toks := tk } := I.kept (t' := tk) hkeep
  have el : acc.toList.length = acc.size := by simp
  have rv : Vals (kvs.map fun kv => kV kv.1) acc.toList := vals_of_at (by rw [List.length_map, el, hacc.1, hl]) fun j x v h1 h2 => by
    obtain ⟨k, y, hky, hi⟩ := hacc.2 j v (by rw [← Array.getElem?_toList]; exact h2)
    have e1 : (kvs.map (·.1))[j]? = some k := by
      rw [KV.keys rk, List.getElem?_map, hky]
      rfl
    have e3 : (kvs.map fun kv => kV kv.1) = (kvs.map (·.1)).map kV := by
      rw [List.map_map]
      rfl
    rw [e3, List.getElem?_map, e1] at h1
    cases h1
    exact keyIs_rel hi
  have ob : ObjOk X.prog X.w (upd H h'.objs.size (.tup (kvs.map fun kv => kV kv.1))) (h'.push { cls := .type "tuple", data := .seq acc }) h'.objs.size (.tup (kvs.map fun kv => kV kv.1)) := by
    refine ⟨by rw [List.length_map]; exact z, acc.toList, rv, ?_⟩
    rw [Array.toArray_toList]
    exact IsTup.new _ _
  exact ⟨.ref h'.objs.size, _, I1.laid (t' := tk) (fun b o e => Heap.get?_push_of_some _ e) (Nat.le_refl _) ob, rfl, q _ (I1.hok.fresh (Nat.le_refl _))⟩
end Own
end

section
set_option maxRecDepth 100000
set_option maxHeartbeats 4000000
namespace KK
open PySem PySem.Spec PyProof.Rows L2
/-- a web made of a dict of prices and a list of ties -/
def spWebOf (C : Addr) : Sp := fun vs H Q _ => ∃ (d tl : Addr) (ns : List Str) (ps : List Int) (xs : List V) (ts : List (Str × Str)), vs = [.ref d, .ref tl] ∧ H d = some (.dK (prK ns ps)) ∧ H tl = some (.lst xs) ∧ Ties H xs ts ∧ ps.length = ns.length ∧ NsOk ns ∧ TsOk ns ts ∧ PrOk ps ∧
  ∀ o dx dp tl2 ys ms qs us H', Same H H' → H o = none → H dp = none → H tl2 = none → WebAt H' C o dx dp tl2 ys ms qs us → WebOk ns ps ts ms qs us → Q (.ref o) H'
theorem sNewW {H H' : Hp} {p : Addr} {o : HO} (s : Same H H') (h : H' p = none) : Same H (L2.upd H' p o) := fun b z e => by
  rw [upd_ne (ne_of_none e (s.free h))]
  exact s _ _ e
theorem prK_keysW : ∀ {ms : List Str} {qs : List Int}, qs.length = ms.length → (prK ms qs).map (fun kv => kV kv.1) = ms.map V.str
  | [], _, _ => rfl
  | m :: ms, [], h => by simp at h
  | m :: ms, q :: qs, h => by
    have ih := prK_keysW (ms := ms) (qs := qs) (by simpa using h)
    unfold prK at ih ⊢
    rw [List.zip_cons_cons, List.map_cons, List.map_cons, ih]
    rfl
section
variable {P : Program} {w : World} {K : PySem.W.Frag} {mg : Str → Option Value} {base : Heap} {C : Addr}
abbrev Nwebof : List Str := ["prices", "ties"]
theorem scwebof : FnScope Nwebof ["prices", "ties"] (defScope s_web_of) := ⟨rfl, rfl, rfl, by decide +kernel, rfl, by decide +kernel, by decide +kernel⟩
theorem c_webof (T : Blt mg) (F : Has K mg "_web_of" s_web_of) (CMAKE : C8.Mak P w K mg base 4 "Web" C (spInit K C) []) : C8.Cal P w K mg base 6 "_web_of" (spWebOf C) [] := by
  refine calF F (fun f fd F => F.binds (ps := ["prices", "ties"]) fun _ _ _ _ _ _ us hl => match us, hl with | [_, _], _ => rfl) scwebof (fun vs H Q E h => ?_) (fun f cdv A outer s H vs Q E hr h => ?_)
  · obtain ⟨d, tl, ns, ps, xs, ts, rfl, _⟩ := h
    rfl
  · obtain ⟨d, tl, ns, ps, xs, ts, rfl, hd, ht, ti, hl, no, to, po, q⟩ := h
    refine ⟨_, (pss_one (ps_ret (C8.pe_mk CMAKE hr (by decide) rfl (pa_cons (pe_callTy (Own.call_tuple_dK rfl) (by rfl) T.b_tuple (by decide +kernel) (pa_cons (pv 0) pa_nil)) (pa_cons (pv 1) (pa_cons (pv 0) pa_nil)))))), ?_⟩
    refine ⟨_, rfl, d, _, rfl, hd, fun pl hpl => ?_⟩
    have S1 := sNewW (Same.refl H) (o := .tup ((prK ns ps).map fun kv => kV kv.1)) hpl
    have e1 : upd H pl (.tup ((prK ns ps).map fun kv => kV kv.1)) pl = some (.tup (ns.map V.str)) := by rw [upd_same, prK_keysW hl]
    generalize upd H pl (.tup ((prK ns ps).map fun kv => kV kv.1)) = H1 at S1 e1
    refine ⟨_, rfl, _, rfl, fun o dx ho hdx hne => ?_⟩
    have s2 : Same H1 (upd (upd H1 dx (.own o)) o (.ins C dx [])) := sNewW (sNewW (Same.refl H1) hdx) (by rw [upd_ne hne.symm]; exact ho)
    have eo : upd (upd H1 dx (.own o)) o (.ins C dx []) o = some (.ins C dx []) := upd_same
    generalize upd (upd H1 dx (.own o)) o (.ins C dx []) = H2 at s2 eo
    have S2 := S1.trans s2
    refine ⟨o, dx, pl, tl, d, ns, ps, xs, ts, rfl, eo, s2 _ _ e1, S2 _ _ ht, ⟨_, S2 _ _ hd, .refl _⟩, ti.same S2, hl, no, to, po, fun dp tl2 ys ms qs us H3 b3 fdp ftl wa wo => ⟨rfl, ?_⟩⟩
    have S3 : Same H H3 := fun b z e => b3 _ _ (S2 _ _ e) (ne_of_none (S1 _ _ e) ho)
    exact q o dx dp tl2 ys ms qs us H3 S3 (S1.free ho) (S2.free fdp) (S2.free ftl) wa wo
end
end KK
end

section
set_option maxRecDepth 100000
set_option maxHeartbeats 4000000
namespace KK
open PySem PySem.Spec PyProof.Rows L2
def bes1 (x : Str) (p : Str × Str) : List Str := (if p.1 = x then [p.2] else []) ++ (if p.2 = x then [p.1] else [])
def bes (ts : List (Str × Str)) (x : Str) : List Str := ts.flatMap (bes1 x)
theorem ordP_cases (p : Str × Str) : ordP p = p ∨ ordP p = (p.2, p.1) := by
  unfold ordP
  split
  · exact .inr rfl
  · exact .inl rfl
def upP (p : Str × Str) : Str × Str := if Own.ltS p.1 p.2 = true then p else (p.2, p.1)
end KK
end

section
set_option maxRecDepth 100000
set_option maxHeartbeats 4000000
namespace KK
open PySem PySem.Spec PyProof.Rows L2
def spUp : Sp := fun vs H Q _ => ∃ (t : Addr) (p : Str × Str), vs = [.ref t] ∧ H t = some (.tup [.str p.1, .str p.2]) ∧ ∀ u, H u = none → Q (.ref u) (upd H u (.tup [.str (upP p).1, .str (upP p).2]))
def spCopy : Sp := fun vs H Q _ => ∃ (d : Addr) (ns : List Str) (ps : List Int), vs = [.ref d] ∧ H d = some (.dK (prK ns ps)) ∧ ns.Nodup ∧ ns.length ≤ 40 ∧ ps.length = ns.length ∧
  ∀ c H', Same H H' → H c = none → H' c = some (.dK (prK ns ps)) → Q (.ref c) H'
def beK (ns : List Str) (as : List Addr) : List (Key × V) := (ns.zip as).map fun e => (Sum.inr e.1, V.ref e.2)
/-- the dict of the neighbours' lists -/
structure BesAt (H : Hp) (d : Addr) (ns : List Str) (as : List Addr) (f : Str → List Str) : Prop where
  hd : H d = some (.dK (beK ns as))
  len : as.length = ns.length
  nd : as.Nodup
  ls : ∀ (i : Nat) (x : Str) (a : Addr), ns[i]? = some x → as[i]? = some a → H a = some (.lst ((f x).map V.str))
def spBeside : Sp := fun vs H Q _ => ∃ (pl tl : Addr) (ns : List Str) (xs : List V) (ts : List (Str × Str)), vs = [.ref pl, .ref tl] ∧ H pl = some (.tup (ns.map V.str)) ∧ H tl = some (.lst xs) ∧ Ties H xs ts ∧ NsOk ns ∧ TsOk ns ts ∧
  ∀ d as H', Same H H' → BesAt H' d ns as (bes ts) → Q (.ref d) H'
section
variable {P : Program} {w : World} {K : PySem.W.Frag} {mg : Str → Option Value} {base : Heap}
abbrev NLisinteger : List Str := ["_law_value"]
end
end KK
end

section
set_option maxRecDepth 100000
set_option maxHeartbeats 4000000
namespace KK
open PySem PySem.Spec PyProof.Rows L2
abbrev tieD (p : Str × Str) : PyData := .tuple [.str p.1, .str p.2]
end KK
end

section
set_option maxRecDepth 100000
set_option maxHeartbeats 4000000
/-! {**a, k: v}, {**a, **b} -/
namespace OwnM
open PySem
open Sem (wp)
section
variable {prog : Program} {w : World} {K : Type} [DecidableEq K] {knd : KeyKind prog w K} {A : Around} {E : Value → Shared → Prop} {s : Shared}
theorem put_pairs {d : Addr} {kvs : List (K × Value)} {k : K} {key v : Value} {Q : Unit → Shared → Prop} (hkey : knd.is k key = true) (hm : s.heap.DictOf knd d kvs)
    (hQ : ∀ h', h'.DictOf knd d (stored kvs k v) → Heap.SameBut d s.heap h' → Q () { s with heap := h' }) (hsz : kvs.length ≤ sizeLine) :
    wpAny (model prog w) A (dictPut d (knd.hash k) key v) Q E s := by
  obtain ⟨o, es, ep, ho, hc, hd, hk, hp, hn⟩ := hm
  have zes : es.size ≤ sizeLine := by
    have e1 := hp.length
    have e2 : es.toList.length = es.size := by simp
    omega
  unfold dictPut
  refine wpAny_bind (wpAny_dictFind_of hkey ho hd hk ?_)
  have ix : (es.findIdx? fun e => knd.is k e.key) = kvs.findIdx? fun kv => decide (kv.1 = k) := by
    rw [← hp.findIdx k]
    obtain ⟨l⟩ := es
    simp
  cases hi : es.findIdx? fun e => knd.is k e.key with
  | some i =>
    refine wpAny_updateDict ho hd (hQ _ ⟨_, _, ep, Heap.get?_update_self _ ho (Obj.isFreed_of_dict (Obj.data_mapDict hd _)), hc.mapDict _, Obj.data_mapDict hd _, hk.modify _ _, ?_, ?_⟩ (Heap.SameBut.update ..))
    · rw [stored, if_pos (any_of_findIdx_some (ix ▸ hi))]
      have hl : (es.toList.findIdx? fun e => knd.is k e.key) = some i := by
        rw [← hi]
        obtain ⟨l⟩ := es
        simp
      have md := hp.modify hn hl v
      obtain ⟨l⟩ := es
      simpa using md
    · rw [stored, if_pos (any_of_findIdx_some (ix ▸ hi)), keys_map_store]
      exact hn
  | none =>
    have no : k ∉ kvs.map (·.1) := not_mem_of_findIdx_none (ix ▸ hi)
    have na : ¬ (kvs.any fun kv => decide (kv.1 = k)) = true := by
      rw [List.any_eq_true]
      rintro ⟨kv, h1, h2⟩
      exact no (List.mem_map.mpr ⟨kv, h1, of_decide_eq_true h2⟩)
    refine wpAny_updateDictKeys (hz := zes) ho hd (hQ _ ⟨_, _, ep + 1, Heap.get?_update_self _ ho (Obj.isFreed_of_dict (Obj.data_mapDictKeys hd _)), hc.mapDictKeys _, Obj.data_mapDictKeys hd _, hk.push hkey _, ?_, ?_⟩ (Heap.SameBut.update ..))
    · rw [stored, if_neg na]
      have ap := hp.append hkey (knd.hash k) v
      obtain ⟨l⟩ := es
      simpa using ap
    · rw [stored, if_neg na, List.map_append, List.nodup_append]
      refine ⟨hn, by simp, fun a ha b hb e => no ?_⟩
      have : b = k := by simpa using hb
      rw [← this, ← e]
      exact ha
theorem merge_map {d o : Addr} {kvs more : List (K × Value)} {Q : Unit → Shared → Prop} (hdo : d ≠ o) (hoS : (o == sysModules) = false) (hd : s.heap.DictOf knd d kvs) (ho : s.heap.DictOf knd o more)
    (nk : ∀ (k : K) (a : Addr), knd.is k (.ref a) = false) (hsz : kvs.length + more.length ≤ sizeLine)
    (hQ : ∀ h', h'.DictOf knd d (merged kvs more) → h'.DictOf knd o more → Heap.SameBut d s.heap h' → Q () { s with heap := h' }) :
    wpAny (model prog w) A (mergeMapping d (.ref o) false) Q E s := by
  obtain ⟨od, esd, epd, hod, hcd, hdd, hkd, hpd, hnd⟩ := id hd
  obtain ⟨oo, eso, epo, hoo, hco, hdo', hko, hpo, hno⟩ := id ho
  unfold mergeMapping
  refine wpAny_bind (wpAny_isInstance (T := "dict") ho.typeIs PySem.F.sub_dict_dict ?_)
  rw [if_pos rfl]
  refine wpAny_bind (wpAny_specialOf ho.typeIs PySem.F.slot_dict_iter.lookup ?_)
  refine wpAny_bind (wpAny_pure ?_)
  have e1 : ((some (Value.builtin "dict.__iter__") : Option Value) == some (.builtin "dict.__iter__")) = true := beq_self_eq_true _
  rw [e1]
  dsimp only
  rw [if_neg (by rw [hoS]; exact Bool.false_ne_true)]
  have lm : more.length = eso.size := by rw [← hpo.length]; simp
  have loop : wpAny (model prog w) A (do
      let es ← dictEntries o
      let epoch ← dictEpoch o
      forIn (List.range es.size) PUnit.unit fun i (_ : PUnit) => (do
        let l ← dictEntries o
        match l[i]? with
          | some e => do
            holding [e.key, e.val] (dictPut d e.hash e.key e.val)
            let ep ← dictEpoch o
            if (ep != epoch) = true then do
                (unsupported "dict.changed-during-merge" : Sem PUnit)
                pure (ForInStep.yield PUnit.unit)
              else pure (ForInStep.yield PUnit.unit)
          | _ => do
            (unsupported "dict.changed-during-merge" : Sem PUnit)
            pure (ForInStep.yield PUnit.unit) : Sem (ForInStep PUnit))
      pure ()) Q E s := by
    refine wpAny_bind (wpAny_dictEntries hoo hdo' ?_)
    refine wpAny_bind (wpAny_dictEpoch hoo hdo' ?_)
    refine wpAny_bind ?_
    refine wpAny_forIn_list _
      (fun rest _ s' => ∃ h' i, s' = { s with heap := h' } ∧ rest = List.range' i (eso.size - i) ∧ i ≤ eso.size ∧ h'.DictOf knd d (merged kvs (more.take i)) ∧ h'.get? o = some oo ∧ Heap.SameBut d s.heap h')
      _ ?_ ?_ _ _ ⟨s.heap, 0, rfl, by rw [List.range_eq_range', Nat.sub_zero], Nat.zero_le _, by simpa [merged] using hd, hoo, Heap.SameBut.refl _ _⟩
    · rintro x rest b s' ⟨h', i, rfl, hr, hi, hd', hoo', hs'⟩
      have hlt : i < eso.size := by
        rcases Nat.lt_or_ge i eso.size with h | h
        · exact h
        · rw [Nat.sub_eq_zero_of_le h] at hr
          simp at hr
      obtain ⟨rfl, hrest⟩ : x = i ∧ rest = List.range' (i + 1) (eso.size - (i + 1)) := by
        have ez : eso.size - i = (eso.size - (i + 1)) + 1 := by omega
        rw [ez, List.range'_succ] at hr
        injection hr with h1 h2
        exact ⟨h1, h2⟩
      refine wpAny_bind (wpAny_dictEntries hoo' hdo' ?_)
      rw [Array.getElem?_eq_getElem hlt]
      obtain ⟨kv, hkv⟩ : ∃ kv, more[x]? = some kv := ⟨more[x]'(by rw [lm]; exact hlt), List.getElem?_eq_getElem _⟩
      obtain ⟨k, v⟩ := kv
      obtain ⟨hkey, hval⟩ := hpo.get? (e := eso[x]) (by simp [hlt]) hkv
      obtain ⟨k', hkey', hhash⟩ := hko eso[x] (Array.getElem_mem hlt)
      obtain rfl : k' = k := knd.inj _ _ _ hkey' hkey
      dsimp only
      rw [hhash, hval]
      have zm : (merged kvs (more.take x)).length ≤ sizeLine := by
        have a1 := merged_length_le kvs (more.take x)
        have a2 : (more.take x).length ≤ more.length := by
          rw [List.length_take]
          omega
        omega
      refine wpAny_bind (wpAny_holding (put_pairs hkey hd' (fun h2 hd2 hs2 => ?_) zm))
      have ho2 : h2.get? o = some oo := (hs2.2 o (Ne.symm hdo)).trans hoo'
      refine wpAny_bind (wpAny_dictEpoch ho2 hdo' ?_)
      rw [if_neg (by simp)]
      exact wpAny_pure ⟨h2, x + 1, rfl, hrest, hlt, by rw [merged_take_succ kvs more x (k', v) hkv]; exact hd2, ho2, hs'.trans hs2⟩
    · rintro b s' ⟨h', i, rfl, hr, hi, hd', hoo', hs'⟩
      have hin : i = eso.size := by
        rcases Nat.lt_or_ge i eso.size with h | h
        · have ez : eso.size - i = (eso.size - (i + 1)) + 1 := by omega
          rw [ez, List.range'_succ] at hr
          exact nomatch hr
        · exact Nat.le_antisymm hi h
      refine wpAny_pure (hQ h' ?_ ⟨oo, eso, epo, hoo', hco, hdo', hko, hpo, hno⟩ hs')
      rw [hin, ← lm, List.take_length] at hd'
      exact hd'
  refine wpAny_bind (wpAny_dictEntries hod hdd ?_)
  simp only [Bool.false_eq_true, if_false]
  split
  · refine wpAny_bind (wpAny_dictEntries hoo hdo' ?_)
    have nr : ∀ e ∈ eso.toList, ∀ a, e.key ≠ .ref a := fun e he a q => by
      obtain ⟨k', h1, _⟩ := hko e (by simpa using he)
      rw [q, nk] at h1
      cases h1
    have noop : ∀ (f : DictEntry → PUnit → Sem (ForInStep PUnit)), (∀ e, (∀ a, e.key ≠ .ref a) → f e PUnit.unit = pure (ForInStep.yield PUnit.unit)) → ∀ l : List DictEntry, (∀ e ∈ l, ∀ a, e.key ≠ .ref a) → forIn l PUnit.unit f = pure PUnit.unit := by
      intro f hf l
      induction l with
      | nil => intro _; rfl
      | cons e l ih =>
        intro h
        rw [List.forIn_cons, hf e (h e List.mem_cons_self), pure_bind]
        exact ih fun z hz => h z (List.mem_cons_of_mem _ hz)
    rw [← Array.forIn_toList, noop _ (fun e he => ?_) _ nr]
    · exact wpAny_bind (wpAny_pure loop)
    · split
      · rename_i a ha
        exact absurd ha (he a)
      · rfl
  · exact loop
end
end OwnM
end

section
set_option maxRecDepth 100000
set_option maxHeartbeats 4000000
namespace OwnM
open PySem PySem.Spec PyProof.Rows L2
theorem mix_noref {P : Program} {w : World} (k : Key) (a : Addr) : (mixKind P w).is k (.ref a) = false := by
  cases k <;> rfl
section
variable {X : Cx} {pins : List (Addr × Obj)} {σ : L2.St} {H : Hp} {s : Shared}
theorem dict_merge {A : Around} {E : Value → Shared → Prop} {Q : Unit → Shared → Prop} {p a : Addr} {ks ls : List (Key × V)} (I : Inv X pins σ H s) (hp : H p = some (.dK ks)) (ha : H a = some (.dK ls)) (n : p ≠ a) (hl : (mergeK ks ls).length ≤ sizeLine) (hz : ks.length + ls.length ≤ sizeLine)
    (h : ∀ s', Inv X pins σ (upd H p (.dK (mergeK ks ls))) s' → Q () s') : wpAny (model X.prog X.w) A (mergeMapping p (.ref a) false) Q E s := by
  obtain ⟨_, hd, vs, rel, dd⟩ := dk_of I.hok hp
  obtain ⟨_, hd2, vs2, rel2, dd2⟩ := dk_of I.hok ha
  refine merge_map (knd := mixKind X.prog X.w) n hd2 dd dd2 mix_noref (by rw [← rel.length, ← rel2.length]; exact hz) fun h' m1 m2 hs => h _ ?_
  have he : ∃ q, h'.get? p = some q := let ⟨q, _, _, hq, _⟩ := m1; ⟨q, hq⟩
  exact d_write I (by rw [hp]; exact True.intro) hs he (dk_new hl hd (KV.merge rel2 rel) m1)
/-- {**x, **y} -/
def tStar2 (t1 t2 : TE) : TE := fun σ H Q => ∀ p, H p = none → t1 σ (upd H p (.dK [])) fun x H1 => ∃ a ks, x = .ref a ∧ H1 a = some (.dK ks) ∧ a ≠ p ∧ H1 p = some (.dK []) ∧ (mergeK [] ks).length ≤ 1000 ∧ ks.length ≤ 1000 ∧
  t2 σ (upd H1 p (.dK (mergeK [] ks))) fun y H2 => ∃ b ls, y = .ref b ∧ H2 b = some (.dK ls) ∧ b ≠ p ∧ H2 p = some (.dK (mergeK [] ks)) ∧ ls.length ≤ 1000 ∧ Q (.ref p) (upd H2 p (.dK (mergeK (mergeK [] ks) ls)))
/-- {**x, k: v}: the pair in a dict of its own, at r, then merged -/
def tStar1 (t1 tk tv : TE) : TE := fun σ H Q => ∀ p, H p = none → t1 σ (upd H p (.dK [])) fun x H1 => ∃ a ks, x = .ref a ∧ H1 a = some (.dK ks) ∧ a ≠ p ∧ H1 p = some (.dK []) ∧ (mergeK [] ks).length ≤ 1000 ∧ ks.length ≤ 1000 ∧
  ∀ r, upd H1 p (.dK (mergeK [] ks)) r = none → tk σ (upd (upd H1 p (.dK (mergeK [] ks))) r (.dK [])) fun y H2 => tv σ H2 fun z H3 => ∃ k, y = kV k ∧ H3 r = some (.dK []) ∧ r ≠ p ∧ H3 p = some (.dK (mergeK [] ks)) ∧
    Q (.ref p) (upd (upd H3 r (.dK (mergeK [] [(k, z)]))) p (.dK (mergeK (mergeK [] ks) (mergeK [] [(k, z)]))))
theorem pe_star1 {e1 k v : Expr} {t1 tk tv : TE} {pos : Pos} (h1 : PE X e1 t1) (hk : PE X k tk) (hv : PE X v tv) : PE X (.Dict [none, some k] [e1, v] pos) (tStar1 t1 tk tv) := by
  refine ⟨fun pins s σ H Q I h => ?_⟩
  rw [arm_eval_Dict]
  refine wpAny_bind (wpAny_standAt ?_)
  have hh := h s.heap.objs.size (I.hok.fresh (Nat.le_refl _))
  have I1 := I.laid (a := s.heap.objs.size) (o := .dK []) (h' := s.heap.push { cls := .type "dict", data := .dict #[] }) (t' := s.toks) (fun _ _ q => Heap.get?_push_of_some _ q) (Nat.le_refl _) (dk_empty s.heap I.big)
  have eT : ((evalEachOpt [none, some k] X.env).zip ((evalEach [e1, v] X.env).map fun v => do let x ← v; standAt pos; pure x)) = [(none, do let x ← eval e1 X.env; standAt pos; pure x), (some (eval k X.env), do let x ← eval v X.env; standAt pos; pure x)] := rfl
  rw [eT]
  have kS : (1000 : Nat) ≤ sizeLine := by decide
  unfold dictDisplay
  dsimp only
  refine wpAny_bind ?_
  rw [List.forIn_cons]
  refine wpAny_bind ?_
  dsimp only
  refine wpAny_bind ?_
  rw [if_pos (show (([] : List (Sem Value × Sem Value)).isEmpty) = true from rfl)]
  refine wpAny_pure ?_
  dsimp only
  refine wpAny_bind (wpAny_alloc ?_)
  refine wpAny_bind (wpAny_holding (wpAny_bind (thn (h1.run pins _ σ _ _ I1 hh) fun u s1 hx => ?_)))
  obtain ⟨x, H1, J1, rx, a, ks, ex, ha, na, hp, z1, z2, q1⟩ := hx
  subst ex
  obtain rfl : u = Value.ref a := rx
  refine wpAny_bind (wpAny_standAt (wpAny_pure ?_))
  refine wpAny_bind (wpAny_onRaise (wpAny_tryCatch (wpAny_onRaise (wpAny_holding (dict_merge J1 hp ha na.symm (Nat.le_trans z1 (by decide)) (by rw [List.length_nil, Nat.zero_add]; exact Nat.le_trans z2 kS) fun s2 J2 => ?_)))))
  refine wpAny_pure ?_
  dsimp only
  rw [List.forIn_cons]
  refine wpAny_bind ?_
  dsimp only
  split
  · rename_i hb
    simp at hb
  refine wpAny_pure ?_
  dsimp only
  rw [List.forIn_nil]
  refine wpAny_pure ?_
  dsimp only
  refine wpAny_bind ?_
  split
  · rename_i hb
    simp at hb
  refine wpAny_bind (wpAny_holding (wpAny_subDict (knd := mixKind X.prog X.w) (pairs := [(eval k X.env, do let x ← eval v X.env; standAt pos; pure x)]) (by show 1 ≤ 15; decide) ?_))
  have hr := q1 s2.heap.objs.size (J2.hok.fresh (Nat.le_refl _))
  have J3 := J2.laid (a := s2.heap.objs.size) (o := .dK []) (h' := s2.heap.push { cls := .type "dict", data := .dict #[] }) (t' := s2.toks) (fun _ _ q => Heap.get?_push_of_some _ q) (Nat.le_refl _) (dk_empty s2.heap J2.big)
  refine evalPairs_cons (thn (hk.run pins _ σ _ _ J3 hr) fun uk s3 hx => ?_)
  obtain ⟨y, H2, J4, ry, q2⟩ := hx
  refine wpAny_bind (thn (hv.run pins _ σ _ _ J4 q2) fun uv s4 hx => ?_)
  obtain ⟨z, H3, J5, rz, kk, ek, hr3, nr, hp3, q3⟩ := hx
  subst ek
  refine wpAny_bind (wpAny_standAt (wpAny_pure (evalPairs_nil ?_)))
  obtain ⟨_, hd, vs, rel, dd⟩ := dk_of J5.hok hr3
  cases rel
  have rv2 : VV (([(kk, z)] : List (Key × V)).map fun kv => (kV kv.1, kv.2)) [(uk, uv)] := .cons ⟨ry, rz⟩ .nil
  obtain ⟨rs, c, rk⟩ := carries_of (P := X.prog) (w := X.w) rv2
  refine ⟨rs, c, dd, fun h' dd' hs => ?_⟩
  have zz : (mergeK [] [(kk, z)]).length ≤ 1 := length_mergeK [(kk, z)] []
  have he : ∃ q, h'.get? s2.heap.objs.size = some q := let ⟨q, _, _, hq, _⟩ := dd'; ⟨q, hq⟩
  have J6 : Inv X pins σ (upd H3 s2.heap.objs.size (.dK (mergeK [] [(kk, z)]))) { heap := h', gens := s4.gens, drawn := s4.drawn, toks := s4.toks + [(uk, uv)].length, os := s4.os } := d_write J5 (by rw [hr3]; exact True.intro) hs he (dk_new (Nat.le_trans zz (by decide)) hd (rk.merge .nil) dd')
  have z5 : (mergeK (mergeK [] ks) (mergeK [] [(kk, z)])).length ≤ 1001 := by
    have := length_mergeK (mergeK [] [(kk, z)]) (mergeK [] ks)
    omega
  refine wpAny_bind (wpAny_onRaise (wpAny_holding (dict_merge J6 (by rw [upd_ne nr.symm]; exact hp3) upd_same nr.symm (Nat.le_trans z5 (by decide)) (Nat.le_trans (Nat.add_le_add z1 zz) (by decide)) fun s5 J7 => ?_)))
  refine wpAny_pure ?_
  dsimp only
  exact wpAny_pure ⟨.ref s.heap.objs.size, _, J7, rfl, q3⟩
end
end OwnM
end

section
set_option maxRecDepth 100000
set_option maxHeartbeats 4000000
namespace KK
open PySem PySem.Spec PyProof.Rows L2
theorem mergeK_nd : ∀ {acc kvs : List (Key × V)}, ((acc ++ kvs).map (·.1)).Nodup → mergeK acc kvs = acc ++ kvs
  | acc, [], _ => by rw [List.append_nil]; rfl
  | acc, (k, v) :: r, h => by
    have hk : valV acc k = none := by
      cases e : valV acc k with
      | none => rfl
      | some w =>
        exfalso
        unfold valV at e
        obtain ⟨p, hp, _⟩ := Option.map_eq_some_iff.mp e
        have e1 := of_decide_eq_true (List.find?_some (p := fun kv : Key × V => decide (kv.1 = k)) hp)
        have hm := List.mem_of_find?_eq_some hp
        rw [List.map_append, List.map_cons, List.nodup_append] at h
        exact h.2.2 p.1 (List.mem_map.mpr ⟨p, hm, rfl⟩) k List.mem_cons_self e1
    show mergeK (putK acc k v) r = _
    rw [putK_new _ hk, mergeK_nd (by rw [List.append_assoc]; exact h), List.append_assoc]
    rfl
theorem mergeK_prK {ns : List Str} {as : List Int} (h : ns.Nodup) : mergeK [] (prK ns as) = prK ns as := by
  have := mergeK_nd (acc := []) (kvs := prK ns as) (by rw [List.nil_append]; exact prK_nodup h)
  rw [List.nil_append] at this
  exact this
theorem prK_set {ns : List Str} {as : List Int} {i : Nat} {x : Str} {z : Int} (hn : ns.Nodup) (hl : as.length = ns.length) (h : ns[i]? = some x) : putK (prK ns as) (Sum.inr x : Key) (.int z) = prK ns (as.set i z) := by
  obtain ⟨p, h1, h2⟩ := prK_some hn hl h
  unfold putK
  rw [if_pos (by rw [valV_any, h2] <;> rfl)]
  unfold prK
  apply List.ext_getElem?
  intro j
  rw [List.getElem?_map, List.getElem?_map, List.getElem?_map]
  by_cases hj : j < ns.length
  · have e1 : (ns.zip as)[j]? = some (ns[j], as[j]'(by omega)) := by
      rw [List.getElem?_zip_eq_some]
      exact ⟨List.getElem?_eq_getElem hj, List.getElem?_eq_getElem (by omega)⟩
    by_cases e : j = i
    · subst e
      have ex : ns[j] = x := by
        rw [List.getElem?_eq_getElem hj] at h
        exact Option.some.inj h
      have e2 : (ns.zip (as.set j z))[j]? = some (ns[j], z) := by
        rw [List.getElem?_zip_eq_some]
        exact ⟨List.getElem?_eq_getElem hj, by rw [List.getElem?_set_self (by omega)]⟩
      rw [e1, e2]
      show some (if (Sum.inr ns[j] : Key) = Sum.inr x then _ else _) = _
      rw [if_pos (by rw [ex])]
      rfl
    · have ne : ns[j] ≠ x := fun q => e (nd_ix hn (by rw [List.getElem?_eq_getElem hj, q]) h)
      have e2 : (ns.zip (as.set i z))[j]? = some (ns[j], as[j]'(by omega)) := by
        rw [List.getElem?_zip_eq_some]
        exact ⟨List.getElem?_eq_getElem hj, by rw [List.getElem?_set_ne (fun q => e q.symm), List.getElem?_eq_getElem (by omega)]⟩
      rw [e1, e2]
      show some (if (Sum.inr ns[j] : Key) = Sum.inr x then _ else _) = _
      rw [if_neg (fun q => ne (Sum.inr.inj q))]
      rfl
  · have e1 : (ns.zip as)[j]? = none := by rw [List.getElem?_eq_none]; rw [List.length_zip]; omega
    have e2 : (ns.zip (as.set i z))[j]? = none := by rw [List.getElem?_eq_none]; rw [List.length_zip]; omega
    rw [e1, e2]
    rfl
theorem ordP_idem (p : Str × Str) : ordP (ordP p) = ordP p := by
  unfold ordP
  cases h : Own.ltS p.2 p.1 with
  | true =>
    rw [if_pos rfl]
    show (if Own.ltS p.1 p.2 = true then _ else _) = _
    rw [Own.ltS_asym h, if_neg Bool.false_ne_true]
  | false =>
    rw [if_neg Bool.false_ne_true, h, if_neg Bool.false_ne_true]
/-- a web whose parts are sound -/
structure WebS (H : Hp) (C o dx dp tl : Addr) (xs : List V) (ms : List Str) (qs : List Int) (us : List (Str × Str)) : Prop where
  wa : WebAt H C o dx dp tl xs ms qs us
  ql : qs.length = ms.length
  no : NsOk ms
  to : TsOk ms us
  po : PrOk qs
def spIsPrice (K : PySem.W.Frag) : Sp := fun vs H Q _ => ∃ (p : Int), vs = [.int p] ∧ 1 ≤ p ∧ p ≤ 10 ^ 30 ∧ Q (.bl true) H
def spWithPrice (C : Addr) : Sp := fun vs H Q _ => ∃ o dx dp tl xs ms qs us x i p, vs = [.ref o, .str x, .int p] ∧ WebS H C o dx dp tl xs ms qs us ∧ ms[i]? = some x ∧ 1 ≤ p ∧ p ≤ 10 ^ 30 ∧
  ∀ o2 dx2 dp2 tl2 ys ms2 qs2 us2 H', Same H H' → H o2 = none → H dp2 = none → H tl2 = none → WebAt H' C o2 dx2 dp2 tl2 ys ms2 qs2 us2 → WebOk ms (qs.set i p) us ms2 qs2 us2 → Q (.ref o2) H'
section
variable {P : Program} {w : World} {K : PySem.W.Frag} {mg : Str → Option Value} {base : Heap} {C : Addr}
abbrev Nisprice : List Str := ["value"]
theorem scisprice : FnScope Nisprice ["value"] (defScope s_is_price) := ⟨rfl, rfl, rfl, by decide +kernel, rfl, by decide +kernel, by decide +kernel⟩
theorem c_isprice (T : Blt mg) (G_GREATEST_PRICE : ∃ t, mg "GREATEST_PRICE" = some (.int (10 ^ 30) t)) (F : Has K mg "is_price" s_is_price) (CISBET : C8.Cal P w K mg base 2 "is_between" (spBetween K) []) : C8.Cal P w K mg base 3 "is_price" (spIsPrice K) [] := by
  refine calF F (fun f fd F => F.binds (ps := ["value"]) fun _ _ _ _ _ _ us hl => match us, hl with | [_], _ => rfl) scisprice (fun vs H Q E h => ?_) (fun f cdv A outer s H vs Q E hr h => ?_)
  · obtain ⟨p, rfl, _⟩ := h
    rfl
  · obtain ⟨p, rfl, p0, p1, q⟩ := h
    obtain ⟨tk, hG⟩ := G_GREATEST_PRICE
    have G_GREATEST_PRICE : True ∧ _ := ⟨trivial, hG⟩
    refine ⟨_, (pss_one (ps_ret (C8.pe_c CISBET hr (by decide) rfl (pa_cons (pv 0) (pa_cons pe_int (pa_cons (pe_glob (v := .int (10 ^ 30)) rfl G_GREATEST_PRICE.2 ⟨_, rfl⟩) pa_nil)))))), ?_⟩
    refine ⟨_, rfl, .int p, 1, 10 ^ 30, "int", true, false, rfl, .base (.int p), by decide +kernel, by decide +kernel, fun _ => ⟨p, rfl, ?_⟩, fun z => by cases z⟩
    rw [decide_eq_true (show 1 ≤ p ∧ p ≤ 10 ^ 30 from ⟨p0, p1⟩)]
    exact q
abbrev NWebwithprice : List Str := ["self", "place", "price"]
theorem scWebwithprice : FnScope NWebwithprice ["self", "place", "price"] (defScope s_Web_with_price) := ⟨rfl, rfl, rfl, by decide +kernel, rfl, by decide +kernel, by decide +kernel⟩
theorem c_withprice (T : Blt mg) (W : WebC K mg C) (F : HasM K C "with_price" "Web.with_price" s_Web_with_price) (CNEED : C8.Met P w K mg base 2 C "_need" (spNeed C) []) (CISPRICE : C8.Cal P w K mg base 3 "is_price" (spIsPrice K) []) (CWEBOF : C8.Cal P w K mg base 6 "_web_of" (spWebOf C) []) : C8.Met P w K mg base 7 C "with_price" (spWithPrice C) [] := by
  have Cl := W.cl
  refine metF Cl F (fun f fd F => F.binds (ps := ["self", "place", "price"]) fun _ _ _ _ _ _ us hl => match us, hl with | [_, _, _], _ => rfl) scWebwithprice (fun vs H Q E h => ?_) (fun f cdv A outer s H vs Q E hr h => ?_)
  · obtain ⟨o, dx, dp, tl, xs, ms, qs, us, x, i, p, rfl, _⟩ := h
    rfl
  · obtain ⟨o, dx, dp, tl, xs, ms, qs, us, x, i, p, rfl, ws, hx, p0, p1, q⟩ := h
    refine ⟨_, (pss_cons (ps_expr (C8.pe_mt CNEED hr (by decide) (pv 0) (pa_cons (pv 1) pa_nil)))
      (pss_cons (ps_if (pt_not (pt_val (C8.pe_c CISPRICE hr (by decide) rfl (pa_cons (pv 2) pa_nil)))) (pss_one ps_never) pss_nil)
      (pss_one (ps_ret (C8.pe_c CWEBOF hr (by decide) rfl (pa_cons (OwnM.pe_star1 (pe_fld (pv 0) rfl) (pv 1) (pv 2)) (pa_cons (pe_fld (pv 0) rfl) pa_nil))))))), ?_⟩
    have wa := ws.wa
    obtain ⟨q0, hq0, hv⟩ := prK_some ws.no.nd ws.ql hx
    refine ⟨_, rfl, o, dx, _, rfl, wa.ho, rfl, _, rfl, o, dx, dp, tl, xs, ms, qs, us, x, q0, rfl, wa, hv, ?_⟩
    refine ⟨_, rfl, p, rfl, p0, p1, _, rfl, iteF ?_⟩
    refine fun r0 hr0 => ?_
    have S0 : Same H (upd H r0 (.dK [])) := Same.new hr0
    refine ⟨_, rfl, o, C, dx, _, _, rfl, S0 _ _ wa.ho, Cl, W.np, rfl, dp, _, rfl, S0 _ _ wa.hp, ne_of_none wa.hp hr0, upd_same, ?_, ?_, fun r1 hr1 => ?_⟩
    · rw [mergeK_prK ws.no.nd, prK_len _ _ ws.ql]
      have := ws.no.hi
      omega
    · rw [prK_len _ _ ws.ql]
      have := ws.no.hi
      omega
    rw [mergeK_prK ws.no.nd] at hr1 ⊢
    have n10 : r1 ≠ r0 := fun z => by
      rw [z, upd_same] at hr1
      cases hr1
    have fr1 : H r1 = none := by
      rw [upd_ne n10, upd_ne n10] at hr1
      exact hr1
    have S3 : Same H (upd (upd (upd (upd (upd H r0 (.dK [])) r0 (.dK (prK ms qs))) r1 (.dK [])) r1 (.dK (mergeK [] [((Sum.inr x : Key), V.int p)]))) r0 (.dK (mergeK (prK ms qs) (mergeK [] [((Sum.inr x : Key), V.int p)])))) := fun b z e => by
      have nb0 := ne_of_none e hr0
      have nb1 := ne_of_none e fr1
      rw [upd_ne nb0, upd_ne nb1, upd_ne nb1, upd_ne nb0, upd_ne nb0]
      exact e
    have e3 : (upd (upd (upd (upd (upd H r0 (.dK [])) r0 (.dK (prK ms qs))) r1 (.dK [])) r1 (.dK (mergeK [] [((Sum.inr x : Key), V.int p)]))) r0 (.dK (mergeK (prK ms qs) (mergeK [] [((Sum.inr x : Key), V.int p)])))) r0 = some (.dK (prK ms (qs.set i p))) := by
      rw [upd_same, ← prK_set ws.no.nd ws.ql hx]
      rfl
    refine ⟨_, rfl, _, rfl, Sum.inr x, rfl, upd_same, n10, by rw [upd_ne n10.symm, upd_same], ?_⟩
    generalize upd (upd (upd (upd (upd H r0 (.dK [])) r0 (.dK (prK ms qs))) r1 (.dK [])) r1 (.dK (mergeK [] [((Sum.inr x : Key), V.int p)]))) r0 (.dK (mergeK (prK ms qs) (mergeK [] [((Sum.inr x : Key), V.int p)]))) = G at S3 e3
    refine ⟨_, rfl, o, C, dx, _, _, rfl, S3 _ _ wa.ho, Cl, W.nt, rfl, r0, tl, ms, qs.set i p, xs, us, rfl, e3, S3 _ _ wa.ht, wa.ti.same S3, by rw [List.length_set]; exact ws.ql, ws.no, ws.to, fun z hz => ?_, fun o2 dx2 dp2 tl2 ys ms2 qs2 us2 H' sH fo fd ft wa2 wo2 => ?_⟩
    · rcases List.mem_or_eq_of_mem_set hz with hz | rfl
      · exact ws.po z hz
      · exact ⟨p0, p1⟩
    · exact q o2 dx2 dp2 tl2 ys ms2 qs2 us2 H' (S3.trans sH) (S3.free fo) (S3.free fd) (S3.free ft) wa2 wo2
def spWithTie (C : Addr) : Sp := fun vs H Q _ => ∃ o dx dp tl xs ms qs us x y, vs = [.ref o, .str x, .str y] ∧ WebS H C o dx dp tl xs ms qs us ∧ x ∈ ms ∧ y ∈ ms ∧ x ≠ y ∧ ordP (x, y) ∉ us ∧ us.length < 400 ∧ (∀ p ∈ us, ordP p = p) ∧
  ∀ o2 dx2 dp2 tl2 ys ms2 qs2 us2 H', Same H H' → H o2 = none → H dp2 = none → H tl2 = none → WebAt H' C o2 dx2 dp2 tl2 ys ms2 qs2 us2 → WebOk ms qs (us ++ [ordP (x, y)]) ms2 qs2 us2 → Q (.ref o2) H'
end
end KK
end

section
set_option maxRecDepth 100000
set_option maxHeartbeats 4000000
namespace KK
open PySem PySem.Spec PyProof.Rows L2
theorem tsOk_filter {ms : List Str} {us : List (Str × Str)} (h : TsOk ms us) (f : Str × Str → Bool) : TsOk ms (us.filter f) :=
  ⟨fun p hp => h.ok p (List.mem_filter.mp hp).1, h.nd.sublist (List.Sublist.map _ List.filter_sublist), Nat.le_trans (List.length_filter_le _ _) h.hi⟩
def spCut (C : Addr) : Sp := fun vs H Q _ => ∃ o dx dp tl xs ms qs us x y, vs = [.ref o, .str x, .str y] ∧ WebS H C o dx dp tl xs ms qs us ∧ x ∈ ms ∧ y ∈ ms ∧ ordP (x, y) ∈ us ∧
  ∀ o2 dx2 dp2 tl2 ys ms2 qs2 us2 H', Same H H' → H o2 = none → H dp2 = none → H tl2 = none → WebAt H' C o2 dx2 dp2 tl2 ys ms2 qs2 us2 → WebOk ms qs (us.filter fun p => !decide (p = ordP (x, y))) ms2 qs2 us2 → Q (.ref o2) H'
section
variable {P : Program} {w : World} {K : PySem.W.Frag} {mg : Str → Option Value} {base : Heap} {C : Addr}
end
end KK
end

section
set_option maxRecDepth 100000
set_option maxHeartbeats 4000000
/-! x == y, both dicts from texts to ints: both answers -/
namespace Own
open PySem PySem.Spec PyProof.Rows L2
def dZ (zs : List (Str × Int)) : List (Key × V) := zs.map fun e => (Sum.inr e.1, V.int e.2)
def lookZ (zs : List (Str × Int)) (x : Str) : Option Int := (zs.find? fun e => decide (e.1 = x)).map (·.2)
def eqZ (zs ws : List (Str × Int)) : Bool := (zs.length == ws.length) && zs.all fun e => decide (lookZ ws e.1 = some e.2)
section
variable {X : Cx}
def rEqZ : R2 := fun x y H Q => ∃ a b zs ws, x = .ref a ∧ y = .ref b ∧ H a = some (.dK (dZ zs)) ∧ H b = some (.dK (dZ ws)) ∧ Q (.bl (eqZ zs ws)) H
end
end Own
end

section
set_option maxRecDepth 100000
set_option maxHeartbeats 4000000
namespace KK
open PySem PySem.Spec PyProof.Rows L2
/-- two webs compared -/
def webEq (ms : List Str) (qs : List Int) (us : List (Str × Str)) (ms2 : List Str) (qs2 : List Int) (us2 : List (Str × Str)) : Bool := Own.eqZ (ms.zip qs) (ms2.zip qs2) && decide (us = us2)
def spEq (C : Addr) : Sp := fun vs H Q _ => ∃ o dx dp tl xs ms qs us o2 dx2 dp2 tl2 xs2 ms2 qs2 us2, vs = [.ref o, .ref o2] ∧ WebAt H C o dx dp tl xs ms qs us ∧ WebAt H C o2 dx2 dp2 tl2 xs2 ms2 qs2 us2 ∧
  (∀ p ∈ us, NameOk p.1 ∧ NameOk p.2) ∧ (∀ p ∈ us2, NameOk p.1 ∧ NameOk p.2) ∧ Q (.bl (webEq ms qs us ms2 qs2 us2)) H
section
variable {P : Program} {w : World} {K : PySem.W.Frag} {mg : Str → Option Value} {base : Heap} {C : Addr}
abbrev NWebeq : List Str := ["self", "other"]
end
end KK
end

section
set_option maxRecDepth 100000
set_option maxHeartbeats 4000000
namespace KK
open PySem PySem.Spec PyProof.Rows L2
/-- sound parts -/
structure Pts (ns : List Str) (ps : List Int) (ts : List (Str × Str)) : Prop where
  pl : ps.length = ns.length
  no : NsOk ns
  to : TsOk ns ts
  po : PrOk ps
theorem map_prF {ns : List Str} {ps : List Int} (hn : ns.Nodup) (hl : ps.length = ns.length) : ns.map (prF ns ps) = ps := by
  apply List.ext_getElem?
  intro i
  rw [List.getElem?_map]
  by_cases h : i < ns.length
  · obtain ⟨r, h1, h2⟩ := prK_some hn hl (List.getElem?_eq_getElem h)
    have e : prF ns ps ns[i] = r := by unfold prF; rw [h2]
    rw [List.getElem?_eq_getElem h, h1]
    show some (prF ns ps ns[i]) = some r
    rw [e]
  · rw [List.getElem?_eq_none (by omega), List.getElem?_eq_none (by omega)]
    rfl
theorem ordP_ord (p : Str × Str) : ordP (ordP p) = ordP p := ordP_idem p
theorem ordP_in {ns : List Str} {p : Str × Str} (h : TieOk ns p) : TieOk ns (ordP p) := by
  unfold ordP
  split
  · exact ⟨h.b, h.a, fun z => h.ne z.symm⟩
  · exact h
theorem WebOk.pts {ns ms : List Str} {ps qs : List Int} {ts us : List (Str × Str)} (h : WebOk ns ps ts ms qs us) (p : Pts ns ps ts) : Pts ms qs us ∧ ∀ q ∈ us, ordP q = q := by
  have lm : ms.length = ns.length := h.pm.length_eq
  have nd : ms.Nodup := h.pm.nodup_iff.mpr p.no.nd
  have lu : us.length = ts.length := by rw [h.pu.length_eq, List.length_map]
  have fix : ∀ q ∈ us, ordP q = q := fun q hq => by
    obtain ⟨t, _, rfl⟩ := List.mem_map.mp (h.pu.mem_iff.mp hq)
    exact ordP_ord t
  refine ⟨⟨h.ql, ⟨by rw [lm]; exact p.no.lo, by rw [lm]; exact p.no.hi, nd, fun x hx => p.no.ok x (h.pm.mem_iff.mp hx)⟩, ⟨fun q hq => ?_, ?_, by rw [lu]; exact p.to.hi⟩, fun z hz => ?_⟩, fix⟩
  · obtain ⟨t, ht, rfl⟩ := List.mem_map.mp (h.pu.mem_iff.mp hq)
    have t1 := ordP_in (p.to.ok t ht)
    exact ⟨h.pm.mem_iff.mpr t1.a, h.pm.mem_iff.mpr t1.b, t1.ne⟩
  · have e : us.map ordP = us := by
      conv => rhs; rw [← List.map_id us]
      exact List.map_congr_left fix
    rw [e]
    exact h.pu.nodup_iff.mpr p.to.nd
  · obtain ⟨i, hi⟩ := List.getElem?_of_mem hz
    have hlt : i < ms.length := by
      obtain ⟨h1, _⟩ := List.getElem?_eq_some_iff.mp hi
      rw [h.ql] at h1
      exact h1
    obtain ⟨r, h1, h2⟩ := prK_some nd h.ql (List.getElem?_eq_getElem hlt)
    rw [hi] at h1
    cases h1
    have hxn : ms[i] ∈ ns := h.pm.mem_iff.mp (List.getElem_mem _)
    rw [h.pq _ hxn] at h2
    obtain ⟨j, hj⟩ := List.getElem?_of_mem hxn
    obtain ⟨r', h3, h4⟩ := prK_some p.no.nd p.pl hj
    rw [h4] at h2
    cases h2
    exact p.po _ (List.mem_of_getElem? h3)
/-- the same parts, whatever their order -/
structure Sames (ns : List Str) (ps : List Int) (ts : List (Str × Str)) (ns2 : List Str) (ps2 : List Int) (ts2 : List (Str × Str)) : Prop where
  pn : ns.Perm ns2
  pp : ∀ x ∈ ns, prF ns ps x = prF ns2 ps2 x
  pt : (ts.map ordP).Perm (ts2.map ordP)
end KK
end

section
set_option maxRecDepth 100000
set_option maxHeartbeats 4000000
namespace KK
open PySem PySem.Spec PyProof.Rows L2 Z
structure WebZ where
  ms : List Str
  qs : List Int
  us : List (Str × Str)
  deriving DecidableEq
structure WfZ (w : WebZ) : Prop where
  p : Pts w.ms w.qs w.us
  am : Own.AscS w.ms
  au : Own.AscP w.us
  fx : ∀ e ∈ w.us, ordP e = e
theorem same_ok {W : Wd} {H H' : Hp} (ok : OKW W H) (s : Same H H') : OKW W H' := by
  have fr : ∀ b, W b ≠ .sh → ∃ o, H b = some o ∧ H' b = some o := fun b h => by
    obtain ⟨o, e⟩ := ok.al b h
    exact ⟨o, e, s _ _ e⟩
  refine ⟨fun b h => ?_, fun b h => ?_, fun b od u w e => ?_, fun b h => ?_, fun b od u w e => ?_, fun b vs e => ?_⟩
  · obtain ⟨c, k, e, z⟩ := ok.st b h
    exact ⟨c, k, s _ _ e, z⟩
  · obtain ⟨o, _, e⟩ := fr b h
    exact ⟨o, e⟩
  · obtain ⟨o, e0, e1⟩ := fr b (by rw [w]; decide)
    rw [e1] at e; cases e
    exact ok.nf b od u w e0
  · obtain ⟨od, ⟨ws, e⟩ | ⟨ws, e⟩⟩ := ok.lk b h
    · exact ⟨od, .inl ⟨ws, s _ _ e⟩⟩
    · exact ⟨od, .inr ⟨ws, s _ _ e⟩⟩
  · obtain ⟨o, e0, e1⟩ := fr b (by rw [w]; decide)
    rw [e1] at e; cases e
    exact ok.fo b od u w e0
  · cases e0 : H b with
    | none => exact ok.fresh e0
    | some o =>
      have := s _ _ e0
      rw [this] at e; cases e
      exact ok.tp b vs e0
theorem same_go {W : Wd} {H H' : Hp} (s : Same H H') : Go W H W H' := ⟨fun b o h _ => ⟨s _ _ h, rfl⟩, fun _ h => h, fun _ h => h⟩
theorem ties_of_pair {K : PySem.W.Frag} {W : Wd} {H : Hp} (ok : OKW W H) : ∀ {xs : List V} {us : List (Str × Str)}, Paired ((tT2 K tStr tStr).R W H) xs us → Ties H xs us
  | _, _, .nil => .nil
  | _, _, .cons r p => by
    obtain ⟨a, p1, p2, rfl, sq, rfl, rfl⟩ := r
    exact .cons ⟨a, rfl, sq.at ok⟩ (ties_of_pair ok p)
theorem pair_of_ties {K : PySem.W.Frag} {W : Wd} {H : Hp} (ok : OKW W H) : ∀ {xs : List V} {us : List (Str × Str)}, Ties H xs us → Paired ((tT2 K tStr tStr).R W H) xs us
  | _, _, .nil => .nil
  | _, _, .cons r p => by
    obtain ⟨a, rfl, e⟩ := r
    exact .cons ⟨a, _, _, rfl, .inl ⟨ok.tp a _ e, e⟩, rfl, rfl⟩ (pair_of_ties ok p)
section
variable (K : PySem.W.Frag) (C : Addr)
def tWeb : Z.Ty WebZ := ⟨fun W H v w => WfZ w ∧ ∃ o dx dp tl xs, v = .ref o ∧ RdW W H o (.ins C dx [("_prices", .ref dp), ("_ties", .ref tl)]) ∧ RdW W H dp (.dK (prK w.ms w.qs)) ∧ (W tl = .sh ∧ H tl = some (.lst xs)) ∧ Paired ((tT2 K tStr tStr).R W H) xs w.us, by
  rintro W W' H H' v w ⟨wf, o, dx, dp, tl, xs, e, h1, h2, h3, p⟩ m
  exact ⟨wf, o, dx, dp, tl, xs, e, m.rd _ _ h1, m.rd _ _ h2, m.ls _ _ h3.1 h3.2, L2.Paired.mapP p fun u x r => Z.Ty.go _ r m⟩⟩
end
variable {K : PySem.W.Frag} {C : Addr}
theorem web_at {W : Wd} {H : Hp} {v : V} {w : WebZ} (ok : OKW W H) (nl : ∀ b, W b ≠ .lk) (h : (tWeb K C).R W H v w) : WfZ w ∧ ∃ o dx dp tl xs, v = .ref o ∧ WebAt H C o dx dp tl xs w.ms w.qs w.us := by
  obtain ⟨wf, o, dx, dp, tl, xs, e, h1, h2, h3, p⟩ := h
  exact ⟨wf, o, dx, dp, tl, xs, e, ok.exact h1 (fun _ e => by cases e) (fun _ e => by cases e) (fun _ e => by cases e), (ok.exactD h2 (nl dp) (fun _ e => by cases e)).1, h3.2, ties_of_pair ok p⟩
theorem web_new {W : Wd} {H H' : Hp} (ok : OKW W H) (s : Same H H') {o dx dp tl : Addr} {xs : List V} {ms : List Str} {qs : List Int} {us : List (Str × Str)} (fo : H o = none) (fd : H dp = none) (ft : H tl = none) (wa : WebAt H' C o dx dp tl xs ms qs us) (wf : WfZ ⟨ms, qs, us⟩) :
    (tWeb K C).R W H' (.ref o) ⟨ms, qs, us⟩ :=
  ⟨wf, o, dx, dp, tl, xs, rfl, .inl ⟨ok.fresh fo, wa.ho⟩, .inl ⟨ok.fresh fd, wa.hp⟩, ⟨ok.fresh ft, wa.ht⟩, pair_of_ties (same_ok ok s) wa.ti⟩
theorem wf_of {ns ms : List Str} {ps qs : List Int} {ts us : List (Str × Str)} (h : WebOk ns ps ts ms qs us) (p : Pts ns ps ts) : WfZ ⟨ms, qs, us⟩ := ⟨(h.pts p).1, h.am, h.au, (h.pts p).2⟩
end KK
end

section
set_option maxRecDepth 100000
set_option maxHeartbeats 4000000
namespace KK
open PySem PySem.Spec PyProof.Rows L2 Z
abbrev ctPair (K : PySem.W.Frag) : CT (Str × Str) := ⟨false, tT2 K tStr tStr, fun as P _ => ∃ a b, as = [.sh tStm (), .sh tStr a, .sh tStr b] ∧ ∀ p, (p = (a, b) ∨ p = (b, a)) → P p⟩
abbrev ctAmount : CT Int := ⟨false, tInt, fun as P _ => ∃ n, as = [.sh tStm (), .sh tInt n] ∧ ∀ r, (1 ≤ r ∧ r ≤ 10 ^ 30) → P r⟩
section
variable {P : Program} {w : World} {K : PySem.W.Frag} {mg : Str → Option Value} {base : Heap}
end
end KK
end

section
set_option maxRecDepth 100000
set_option maxHeartbeats 4000000
namespace KK
open PySem PySem.Spec PyProof.Rows L2 Z
abbrev ctName (T : Ty (List Str)) : CT Str := ⟨false, tStr, fun as P _ => ∃ ys, as = [.sh tStm (), .sh T ys] ∧ ys.length ≤ 60 ∧ ∀ x, (NameOk x ∧ x ∉ ys) → P x⟩
section
variable {P : Program} {w : World} {K : PySem.W.Frag} {mg : Str → Option Value} {base : Heap}
end
end KK
end

section
set_option maxRecDepth 100000
set_option maxHeartbeats 4000000
namespace KK
open PySem PySem.Spec PyProof.Rows L2 Z
abbrev tParts (K : PySem.W.Frag) : Z.Ty (List Str × List (Str × Str) × List (Str × Int)) := tL3 K (tTu K tStr) (tLs K (tT2 K tStr tStr)) (tDk kS tInt)
/-- sound parts of a web -/
structure PtsZ (p : List Str × List (Str × Str) × List (Str × Int)) : Prop where
  no : NsOk p.1
  to : TsOk p.1 p.2.1
  ks : (p.2.2.map (·.1)).Perm p.1
  po : ∀ e ∈ p.2.2, 1 ≤ e.2 ∧ e.2 ≤ 10 ^ 30
theorem PtsZ.kn {p : List Str × List (Str × Str) × List (Str × Int)} (h : PtsZ p) : (p.2.2.map (·.1)).Nodup := h.ks.nodup_iff.mpr h.no.nd
abbrev ctParts (K : PySem.W.Frag) : CT (List Str × List (Str × Str) × List (Str × Int)) := ⟨true, tParts K, fun as P _ => ∃ lo hi, as = [.sh tStm (), .sh tInt lo, .sh tInt hi] ∧ (1 ≤ lo ∧ lo ≤ hi ∧ hi ≤ 19) ∧ ∀ r, (PtsZ r ∧ lo ≤ (r.1.length : Int) ∧ (r.1.length : Int) ≤ hi) → P r⟩
section
variable {P : Program} {w : World} {K : PySem.W.Frag} {mg : Str → Option Value} {base : Heap}
end
end KK
end

section
set_option maxRecDepth 100000
set_option maxHeartbeats 4000000
namespace KK
open PySem PySem.Spec PyProof.Rows L2
def spWebIs (C : Addr) : Sp := fun vs H Q _ => ∃ (o dx dp tl : Addr) (ys : List V) (ms : List Str) (qs : List Int) (us : List (Str × Str)) (r pl tl0 d0 : Addr) (ns : List Str) (ps : List Int) (xs : List V) (ts : List (Str × Str)),
  vs = [.ref o, .ref r] ∧ WebAt H C o dx dp tl ys ms qs us ∧ PartsAt H r pl tl0 d0 ns ps xs ts ∧ WebOk ns ps ts ms qs us ∧ ∀ H', Same H H' → Q (.bl true) H'
section
variable {P : Program} {w : World} {K : PySem.W.Frag} {mg : Str → Option Value} {base : Heap} {C : Addr}
end
end KK
end

section
set_option maxRecDepth 100000
set_option maxHeartbeats 4000000
namespace KK
open PySem PySem.Spec PyProof.Rows L2
def spLawWeb (C : Addr) : Sp := fun vs H Q _ => ∃ r pl tl d ns ps xs ts, vs = [.ref r] ∧ PartsAt H r pl tl d ns ps xs ts ∧
  ∀ o dx dp tl2 ys ms qs us H', Same H H' → H o = none → H dp = none → H tl2 = none → WebAt H' C o dx dp tl2 ys ms qs us → WebOk ns ps ts ms qs us → Q (.ref o) H'
section
variable {P : Program} {w : World} {K : PySem.W.Frag} {mg : Str → Option Value} {base : Heap} {C : Addr}
end
end KK
end

section
set_option maxRecDepth 100000
set_option maxHeartbeats 4000000
namespace Z
open PySem PySem.Spec PyProof.Rows L2
variable {K : PySem.W.Frag}
section
variable {α β γ ρ : Type} {t : Ty α} {u : Ty β} {X : Xw} {G : Ct} {F : Fx ρ} {N B C : Ct → Prop}
/-- a list whose first item is a text -/
def tHd : Ty Str := ⟨fun W H v s => ∃ a vs, v = .ref a ∧ W a = .sh ∧ H a = some (.lst (.str s :: vs)), by
  rintro W W' H H' v s ⟨a, vs, e, w, h⟩ m
  obtain ⟨w2, h2⟩ := m.ls a _ w h
  exact ⟨a, vs, e, w2, h2⟩⟩
end
end Z
end

section
set_option maxRecDepth 100000
set_option maxHeartbeats 4000000
/-! try with several clauses 'except x as n', all of one name n -/
namespace Own
open PySem PySem.Spec PyProof.Rows L2
abbrev Hnd : Type := Value × (Addr → Value → Option Addr → TS)
/-- behind a clause its name is gone -/
def ends (i : Nat) (D : Ends) : Ends where
  nx := fun τ J => D.nx (τ.set i none) J
  rt := D.rt
  bk := fun τ J => D.bk (τ.set i none) J
  ct := fun τ J => D.ct (τ.set i none) J
def wEach (K : PySem.W.Frag) (Wo : WX) (D : Ends) (i : Nat) : List Hnd → WX
  | [] => Wo
  | z :: r => fun q d τ J => ∃ b, PySem.W.exmOne K q z.1 = some b ∧ (b = true → ∀ e, J e = none → z.2 e q d (ends i D) (τ.set i (some (.ref e))) J) ∧ (b = false → wEach K Wo D i r q d τ J)
inductive Each (X : Cx) (n : Str) : List ExceptHandler → List Hnd → Prop
  | nil : Each X n [] []
  | cons {y : Str} {cl : Value} {tz : Addr → Value → Option Addr → TS} {f : Stmt} {fs : List Stmt} {p1 p2 : Pos} {ks : List ExceptHandler} {r : List Hnd} :
      Names X y cl → (∀ (e : Addr) (o : Obj) (q : Value) (d : Option Addr) (pn : List (Addr × Obj)), Zc q d o → (∃ vs, o.data = .fields vs) → PSs (X.suite e ((e, o) :: pn)) (f :: fs) (tz e q d)) →
      Each X n ks r → Each X n (.ExceptHandler (some (.Name y p1)) (some n) (f :: fs) p2 :: ks) ((cl, tz) :: r)
/-- the exception e has come down into the frame -/
structure Down (X : Cx) (pins : List (Addr × Obj)) (τ : L2.St) (J : Hp) (e : Addr) (q : Value) (d : Option Addr) (G : Heap) (s0 u : Shared) : Prop where
  inv : Inv X pins τ J s0
  nb : ∀ b o, s0.heap.get? b = some o → b ∉ frs X.stack → G.get? b = some o
  up : s0.heap.UpToSlots u.heap
  fl : HandSPX.FlyingZ G (X.env :: X.outer) e (Zc q d) u.heap
  na : J e = none
  os : u.os = s0.os
  ag : AllBare u.gens
section
variable {X : Cx} {pins : List (Addr × Obj)} {τ : L2.St} {J : Hp} {e : Addr} {q : Value} {d : Option Addr} {G : Heap} {s0 u : Shared} {n : Str} {i : Nat} {D : Ends} {Wo : WX}
theorem Down.now (g : Down X pins τ J e q d G s0 u) : Inv X pins τ J u := g.inv.landed g.nb g.fl.1 g.up g.os g.ag
theorem Down.off (g : Down X pins τ J e q d G s0 u) : e ∉ frs (X.env :: X.outer) := fun hm => by
  obtain ⟨o1, vs1, g1, _, g3⟩ := g.fl.there
  obtain ⟨_, o2, g4, nf⟩ := g.fl.2.2.1.mem hm
  rw [g1] at g4
  cases g4
  exact nf _ g3
theorem Down.sees (g : Down X pins τ J e q d G s0 u) (hf : X.env.frame = some X.env.locals) : ∃ o, u.heap.get? e = some o ∧ Zc q d o ∧ (∃ vs, o.data = .fields vs) ∧ Inv (X.suite e ((e, o) :: (X.pn ++ pins))) [] τ J u := by
  obtain ⟨o1, vs1, g1, g2, g3⟩ := g.fl.there
  have off := g.off
  refine ⟨o1, g1, g2, ⟨vs1, g3⟩, g.now.suite g1 g3 g.na (fun z => off ?_) fun hm => off ?_⟩
  · exact List.mem_filterMap.mpr ⟨X.env, List.mem_cons_self, by rw [hf, z]⟩
  · obtain ⟨v, m1, m2⟩ := List.mem_filterMap.mp hm
    exact List.mem_filterMap.mpr ⟨v, List.mem_cons_of_mem _ m1, m2⟩
theorem Down.to {h : Heap} (g : Down X pins τ J e q d G s0 u) (f : HandSPX.FlyingZ G (X.env :: X.outer) e (Zc q d) h) (up : u.heap.UpToSlots h) : Down X pins τ J e q d G s0 { u with heap := h } :=
  ⟨g.inv, g.nb, g.up.trans up, f, g.na, g.os, g.ag⟩
end
end Own
end

section
set_option maxRecDepth 100000
set_option maxHeartbeats 4000000
/-! what is raised and caught; one of two types -/
namespace Z
open PySem PySem.Spec PyProof.Rows L2
/-! ### a + b by the class's own __add__, in a try's body -/
def tAddS (C : Addr) (sp : Sp) (E : L2.St → XK) (ta tb : TE) : TE := fun σ H Q => ta σ H fun x H1 => tb σ H1 fun y H2 => Own.rOpO C sp (E σ) x y H2 Q
structure MetX (P : Program) (w : World) (K : PySem.W.Frag) (mg : Str → Option Value) (base : Heap) (k : Nat) (C : Addr) (m : Str) (sp : Sp) : Prop where
  ex : ∃ (f : Addr) (fd : FuncData) (ps : List Str), Cls K C ∧ Meth K C m f ∧ FnOk P w K mg base (L2.CX P w) k f fd ps sp ∧ Binds K fd ps []
section
variable {X : Cx} {W : WX} {k j : Nat} {C : Addr} {sp : Sp} {a b : Expr} {ta tb : TE} {pos : Pos}
end
/-! ### an exception in hand -/
theorem FldsOk.mv {W W' : Wd} {H H' : Hp} (m : Mv W H W' H') : ∀ {vs : List (Str × V)} {ss : List (Str × Sl)}, FldsOk W H vs ss → FldsOk W' H' vs ss
  | _, _, .nil => .nil
  | _, _, .cons r p => .cons (Z.Ty.go _ r m) (p.mv m)
def ErIn (W : Wd) (H : Hp) (e : Er) (d : Option Addr) : Prop := ∀ fs, e.fs = some fs → ∃ dd ws, d = some dd ∧ RdW W H dd (.xd ws) ∧ FldsOk W H ws fs
def tErr (a : Addr) (e : Er) (d : Option Addr) : Z.Ty Unit := ⟨fun W H v _ => v = .ref a ∧ ErIn W H e d, by
  rintro W W' H H' v _ ⟨e1, h⟩ m
  refine ⟨e1, fun fs e2 => ?_⟩
  obtain ⟨dd, ws, h1, h2, h3⟩ := h fs e2
  exact ⟨dd, ws, h1, m.rd _ _ h2, h3.mv m⟩⟩
section
variable {α β ρ : Type} {t : Z.Ty α} {u : Z.Ty β} {X : Xw} {G : Ct} {F : Fx ρ} {N B C : Ct → Prop}
/-! ### the clauses -/
def Catch (F : Fx ρ) (G : Ct) (N B C : Ct → Prop) (K : PySem.W.Frag) (Wo : WX) (i : Nat) (r : List Own.Hnd) (e : Er) : Prop :=
  ∀ W0 H0 W H σ (D : Ends) d, Go W0 H0 W H → Holds G W H σ →
    (∀ G' W' H' σ', N G' → Go W0 H0 W' H' → Holds G' W' H' σ' → D.nx σ' H') →
    (∀ G' W' H' σ', B G' → Go W0 H0 W' H' → Holds G' W' H' σ' → D.bk σ' H') →
    (∀ G' W' H' σ', C G' → Go W0 H0 W' H' → Holds G' W' H' σ' → D.ct σ' H') →
    (∀ v W' H' x, F.rt x → Go W0 H0 W' H' → OKW W' H' → F.tr.R W' H' v x → D.rt v H') →
    (∀ e d W' H', F.X.xp e → Go W0 H0 W' H' → OKW W' H' → ErAt W' H' e d → F.X.E (.ref e.C) d H') → ErAt W H e d → Own.wEach K Wo D i r (.ref e.C) d σ H
variable {K : PySem.W.Frag} {Wo : WX} {i : Nat} {z : Own.Hnd} {r : List Own.Hnd} {e : Er}
/-! ### one of two -/
def tSum (t : Z.Ty α) (u : Z.Ty β) : Z.Ty (α ⊕ β) := ⟨fun W H v x => match x with
  | .inl a => t.R W H v a
  | .inr b => u.R W H v b, by
  rintro W W' H H' v (a | b) h m
  · exact t.go h m
  · exact u.go h m⟩
end
end Z
end

section
set_option maxRecDepth 100000
set_option maxHeartbeats 4000000
namespace Z
open PySem PySem.Spec PyProof.Rows L2
end Z
namespace KK
open PySem PySem.Spec PyProof.Rows L2 Z
section
variable {P : Program} {w : World} {K : PySem.W.Frag} {mg : Str → Option Value} {base : Heap} {C : Addr}
theorem met_of {P : Program} {w : World} {K : PySem.W.Frag} {mg : Str → Option Value} {base : Heap} {k : Nat} {C : Addr} {m : Str} {sp1 sp2 : Sp} {dvs : List V} (c : C8.Met P w K mg base k C m sp1 dvs) (h : ∀ vs H Q E, sp2 vs H Q E → sp1 vs H Q E) : C8.Met P w K mg base k C m sp2 dvs := by
  obtain ⟨f, fd, ps, ds, c1, c2, c3, c4, c5⟩ := c.ex
  exact ⟨f, fd, ps, ds, c1, c2, c3.imp h, c4, c5⟩
theorem prF_at {ns : List Str} {ps : List Int} (h : PrOk ps) (hn : ns.Nodup) (hl : ps.length = ns.length) {x : Str} (hx : x ∈ ns) : 1 ≤ prF ns ps x ∧ prF ns ps x ≤ 10 ^ 30 := by
  obtain ⟨i, hi⟩ := List.getElem?_of_mem hx
  obtain ⟨r, h1, h2⟩ := prK_some hn hl hi
  have e : prF ns ps x = r := by unfold prF; rw [h2]
  rw [e]
  exact h _ (List.mem_of_getElem? h1)
/-- the prices in the order of the names -/
def prP (p : List Str × List (Str × Str) × List (Str × Int)) : List Int := p.1.map (prF (p.2.2.map (·.1)) (p.2.2.map (·.2)))
/-- a web of parts -/
abbrev ctWebL (K : PySem.W.Frag) (C : Addr) : CT WebZ := ⟨true, tWeb K C, fun as P _ => ∃ p, as = [.sh (tParts K) p] ∧ PtsZ p ∧ ∀ r, (WfZ r ∧ WebOk p.1 (prP p) p.2.1 r.ms r.qs r.us) → P r⟩
theorem PtsZ.pts {p : List Str × List (Str × Str) × List (Str × Int)} (h : PtsZ p) : Pts p.1 (prP p) p.2.1 :=
  ⟨List.length_map .., h.no, h.to, fun z hz => by
    obtain ⟨x, hx, rfl⟩ := List.mem_map.mp hz
    refine prF_at (fun z hz => ?_) h.kn (by rw [List.length_map, List.length_map]) (h.ks.mem_iff.mpr hx)
    obtain ⟨e, he, rfl⟩ := List.mem_map.mp hz
    exact h.po e he⟩
theorem PtsZ.pk {p : List Str × List (Str × Str) × List (Str × Int)} (h : PtsZ p) : (prK (p.2.2.map (·.1)) (p.2.2.map (·.2))).Perm (prK p.1 (prP p)) := by
  have e := map_prF (ps := p.2.2.map (·.2)) h.kn (by rw [List.length_map, List.length_map])
  conv => lhs; rw [← e]
  unfold prP
  rw [prK_fun, prK_fun]
  exact h.ks.map _
end
abbrev ctCopy : CT (List (Str × Int)) := ⟨true, tDk kS tInt, fun as P _ => ∃ d, as = [.sh (tDk kS tInt) d] ∧ ((d.map (·.1)).Nodup ∧ d.length ≤ 40) ∧ P d⟩
section
variable {P : Program} {w : World} {K : PySem.W.Frag} {mg : Str → Option Value} {base : Heap}
abbrev ctWebIs (K : PySem.W.Frag) (C : Addr) : CT Bool := ⟨true, tBl, fun as P _ => ∃ z p, as = [.sh (tWeb K C) z, .sh (tParts K) p] ∧ (PtsZ p ∧ WebOk p.1 (prP p) p.2.1 z.ms z.qs z.us) ∧ P true⟩
end
end KK
end

section
set_option maxRecDepth 100000
set_option maxHeartbeats 4000000
namespace KK
open PySem PySem.Spec PyProof.Rows L2
/-- a method with keyword-only defaults -/
def HasMD (K : PySem.W.Frag) (C : Addr) (m qual : Str) (st : Stmt) (kws : List (Str × V)) : Prop := ∃ f fd, FunD K m qual (defArgs st) (defBody st) (defScope st) [] kws f fd ∧ Meth K C m f
def spWithPlace (C : Addr) : Sp := fun vs H Q _ => ∃ o dx dp tl xs ms qs us x p, vs = [.ref o, .str x, .int p] ∧ WebS H C o dx dp tl xs ms qs us ∧ NameOk x ∧ x ∉ ms ∧ ms.length < 40 ∧ 1 ≤ p ∧ p ≤ 10 ^ 30 ∧
  ∀ o2 dx2 dp2 tl2 ys ms2 qs2 us2 H', Same H H' → H o2 = none → H dp2 = none → H tl2 = none → WebAt H' C o2 dx2 dp2 tl2 ys ms2 qs2 us2 → WebOk (ms ++ [x]) (qs ++ [p]) us ms2 qs2 us2 → Q (.ref o2) H'
section
variable {P : Program} {w : World} {K : PySem.W.Frag} {mg : Str → Option Value} {base : Heap} {C : Addr}
end
end KK
end

section
set_option maxRecDepth 100000
set_option maxHeartbeats 4000000
namespace KK
open PySem PySem.Spec PyProof.Rows L2
def within (ns : List Str) (p : Str × Str) : Bool := decide (p.1 ∈ ns) && decide (p.2 ∈ ns)
theorem within_val {ns : List Str} {f : Str → Int} (a : Str) : (valV (prK ns (ns.map f)) (Sum.inr a : Key)).isSome = decide (a ∈ ns) := by
  by_cases h : a ∈ ns
  · rw [prK_fun, valV_fun (f := fun x => V.int (f x)) h, decide_eq_true h]
    rfl
  · rw [prK_none h, decide_eq_false h]
    rfl
theorem take_filter {α : Type} {f : α → Bool} {us : List α} {i : Nat} {p : α} (h : us[i]? = some p) : (us.take (i + 1)).filter f = (us.take i).filter f ++ (if f p = true then [p] else []) := by
  rw [List.take_succ, h, List.filter_append]
  show _ ++ List.filter f [p] = _
  rw [List.filter_cons, List.filter_nil]
/-- names in the order in which they come first -/
def firsts (ns : List Str) : List Str := ns.foldl (fun d x => if x ∈ d then d else d ++ [x]) []
theorem firsts_snoc (ns : List Str) (x : Str) : firsts (ns ++ [x]) = if x ∈ firsts ns then firsts ns else firsts ns ++ [x] := by
  unfold firsts
  rw [List.foldl_append]
  rfl
theorem firsts_mem (x : Str) (ns : List Str) : x ∈ firsts ns ↔ x ∈ ns := by
  have key : ∀ (l d : List Str), x ∈ l.foldl (fun d x => if x ∈ d then d else d ++ [x]) d ↔ x ∈ d ∨ x ∈ l := by
    intro l
    induction l with
    | nil => intro d; simp
    | cons y l ih =>
      intro d
      rw [List.foldl_cons, ih]
      split
      · rename_i h
        constructor
        · rintro (h1 | h1)
          · exact .inl h1
          · exact .inr (List.mem_cons_of_mem _ h1)
        · rintro (h1 | h1)
          · exact .inl h1
          · rcases List.mem_cons.mp h1 with rfl | h1
            · exact .inl h
            · exact .inr h1
      · rw [List.mem_append, List.mem_singleton, List.mem_cons]
        constructor
        · rintro ((h1 | h1) | h1)
          · exact .inl h1
          · exact .inr (.inl h1)
          · exact .inr (.inr h1)
        · rintro (h1 | h1 | h1)
          · exact .inl (.inl h1)
          · exact .inl (.inr h1)
          · exact .inr h1
  have := key ns []
  unfold firsts
  simpa using this
theorem firsts_nd (ns : List Str) : (firsts ns).Nodup := by
  have key : ∀ (l d : List Str), d.Nodup → (l.foldl (fun d x => if x ∈ d then d else d ++ [x]) d).Nodup := by
    intro l
    induction l with
    | nil => intro d h; exact h
    | cons y l ih =>
      intro d h
      rw [List.foldl_cons]
      refine ih _ ?_
      split
      · exact h
      · rename_i hn
        exact List.nodup_append.mpr ⟨h, List.nodup_cons.mpr ⟨List.not_mem_nil, List.nodup_nil⟩, fun a ha b hb e => by rw [List.mem_singleton] at hb; rw [e, hb] at ha; exact hn ha⟩
  exact key ns [] List.nodup_nil
theorem firsts_len (ns : List Str) : (firsts ns).length ≤ ns.length := by
  have key : ∀ (l d : List Str), (l.foldl (fun d x => if x ∈ d then d else d ++ [x]) d).length ≤ d.length + l.length := by
    intro l
    induction l with
    | nil => intro d; exact Nat.le_refl _
    | cons y l ih =>
      intro d
      rw [List.foldl_cons]
      refine Nat.le_trans (ih _) ?_
      rw [List.length_cons]
      split
      · omega
      · rw [List.length_append, List.length_singleton]; omega
  have := key ns []
  unfold firsts
  simpa using this
theorem putK_again {ds : List Str} {f : Str → Int} {x : Str} (h : x ∈ ds) : putK (prK ds (ds.map f)) (Sum.inr x : Key) (.int (f x)) = prK ds (ds.map f) := by
  rw [prK_fun]
  unfold putK
  have ha : ((ds.map fun x => ((Sum.inr x : Key), V.int (f x))).any fun kv => decide (kv.1 = (Sum.inr x : Key))) = true := by
    rw [List.any_eq_true]
    exact ⟨_, List.mem_map.mpr ⟨x, h, rfl⟩, decide_eq_true rfl⟩
  rw [if_pos ha, List.map_map]
  refine List.map_congr_left fun y hy => ?_
  show (if (Sum.inr y : Key) = Sum.inr x then ((Sum.inr y : Key), V.int (f x)) else ((Sum.inr y : Key), V.int (f y))) = _
  split
  · rename_i e
    rw [Sum.inr.inj e]
  · rfl
def spPart (C : Addr) : Sp := fun vs H Q _ => ∃ o dx dp tl xs ms qs us nl ns ds, vs = [.ref o, .ref nl] ∧ WebS H C o dx dp tl xs ms qs us ∧ H nl = some (.lst (ns.map V.str)) ∧ ds = firsts ns ∧ ns.length ≤ 1000 ∧ NsOk ds ∧ (∀ x ∈ ns, x ∈ ms) ∧
  ∀ o2 dx2 dp2 tl2 ys ms2 qs2 us2 H', Same H H' → H o2 = none → H dp2 = none → H tl2 = none → WebAt H' C o2 dx2 dp2 tl2 ys ms2 qs2 us2 → WebOk ds (ds.map (prF ms qs)) (us.filter (within ds)) ms2 qs2 us2 → Q (.ref o2) H'
section
variable {P : Program} {w : World} {K : PySem.W.Frag} {mg : Str → Option Value} {base : Heap} {C : Addr}
abbrev NWebpart : List Str := ["self", "names", "prices", "ties", "name", "a", "b"]
theorem scWebpart : FnScope NWebpart ["self", "names"] (defScope s_Web_part) := ⟨rfl, rfl, rfl, by decide +kernel, rfl, by decide +kernel, by decide +kernel⟩
theorem c_part (T : Blt mg) (W : WebC K mg C) (F : HasM K C "_part" "Web._part" s_Web_part) (CWEBOF : C8.Cal P w K mg base 6 "_web_of" (spWebOf C) []) : C8.Met P w K mg base 7 C "_part" (spPart C) [] := by
  have Cl := W.cl
  refine metF Cl F (fun f fd F => F.binds (ps := ["self", "names"]) fun _ _ _ _ _ _ us hl => match us, hl with | [_, _], _ => rfl) scWebpart (fun vs H Q E h => ?_) (fun f cdv A outer s H vs Q E hr h => ?_)
  · obtain ⟨o, dx, dp, tl, xs, ms, qs, us, nl, ns, ds, rfl, _⟩ := h
    rfl
  · obtain ⟨o, dx, dp, tl, xs, ms, qs, us, nl, ns, ds, rfl, ws, hnl, hds, hn, no, hsub, q⟩ := h
    have hu := hu_of hr
    refine ⟨_, (pss_cons (ps_set (i := 2) scWebpart.nd rfl (Or.inr rfl) (pe_dc (own := [("name", 4)]) rfl scWebpart.nd (pi_list (pv 1)) (blkOk_by (own := [("name", 4)]) (N := NWebpart) (sc := defScope s_Web_part) (by decide +kernel)) (fun _ _ _ _ _ => (pg_name (i := 4) scWebpart.nd rfl (Or.inl rfl))) (fun _ _ _ _ _ => pts_nil) (fun _ _ _ _ _ => (pv 4)) (fun _ _ _ _ _ => (pe_dget hu (show PE _ _ (tFld K (tVar 0) "_prices") from pe_fld (pv 0) rfl) (pv 4) (fun _ _ => rfl)))))
      (pss_cons (ps_setLc (i := 3) (own := [("a", 5), ("b", 6)]) (g := gTup K 2 (gCons (gName 5) (gCons (gName 6) gNil))) rfl scWebpart.nd rfl rfl (sw_true rfl rfl rfl (by decide +kernel)) (pi_list (pe_fld (pv 0) rfl)) (blkOk_by (own := [("a", 5), ("b", 6)]) (N := NWebpart) (sc := defScope s_Web_part) (by decide +kernel)) (fun _ _ _ _ _ => (pg_tup rfl (pgs_cons (pg_name (i := 5) scWebpart.nd rfl (Or.inl rfl)) (pgs_cons (pg_name (i := 6) scWebpart.nd rfl (Or.inl rfl)) pgs_nil)))) (fun _ _ _ _ _ => pts_one (PW.pt (pw_and (pt_cmp (pc_din hu (pv 5) (pv 2))) (pw_and1 (pt_cmp (pc_din hu (pv 6) (pv 2))))))) (fun _ _ _ _ _ => (pe_tup (pa_cons (pv 5) (pa_cons (pv 6) pa_nil)))))
      (pss_one (ps_ret (C8.pe_c CWEBOF hr (by decide) rfl (pa_cons (pv 2) (pa_cons (pv 3) pa_nil))))))), ?_⟩
    have wa := ws.wa
    have n2 := no.hi
    have lxs := paired_len wa.ti
    have lus := ws.to.hi
    refine ⟨_, rfl, nl, rfl, ⟨_, SqL.of hnl⟩, fun D hD => dc_it (walk_list (K := K) (a := nl) (xs := ns.map V.str)) (fun i H4 => Same H H4 ∧ H4 D = some (.dK (prK (firsts (ns.take i)) ((firsts (ns.take i)).map (prF ms qs)))))
      ⟨Same.new hD, upd_same⟩ (fun i H4 _ h => SqL.of (h.1 _ _ hnl)) ?_ ?_⟩
    · rintro i v H4 H5 hi ⟨s4, h5⟩ ⟨rfl, hx⟩
      obtain ⟨x, hxx, rfl⟩ := strs_at hx
      clear hx
      have hx := hxx
      have hxm : x ∈ ms := hsub x (List.mem_of_getElem? hx)
      have hg : DGet H5 dp (.str x) (some (.int (prF ms qs x))) := by
        rw [← prF_some ws.no.nd ws.ql hxm]
        exact DGet.k (k := Sum.inr x) (s4 _ _ wa.hp)
      have wa4 := wa.same s4
      refine ⟨rfl, ?_⟩
      refine iteT (B := False) ?_
      refine ⟨_, rfl, _, rfl, o, C, dx, _, _, rfl, wa4.ho, Cl, W.np, rfl, _, rfl, dp, _, rfl, hg, _, Sum.inr x, rfl, h5, fitsL (by rw [prK_len _ _ (by rw [List.length_map])]; have := firsts_len (ns.take i); rw [List.length_take] at this; omega), fun b u e => by rw [upd_ne (ne_of_none e hD)]; exact s4 _ _ e, ?_⟩
      rw [upd_same, take_more hx, firsts_snoc]
      by_cases hm : x ∈ firsts (ns.take i)
      · rw [if_pos hm, putK_again hm]
      · rw [if_neg hm, prK_put (by rw [List.length_map]) hm, List.map_append]
        rfl
    · rintro H4 ⟨s4, h4⟩
      rw [List.length_map, List.take_of_length_le (Nat.le_refl _), ← hds] at h4
      have wa4 := wa.same s4
      refine ⟨_, rfl, o, C, dx, _, _, rfl, wa4.ho, Cl, W.nt, rfl, tl, rfl, ⟨_, SqL.of wa4.ht⟩, fun E2 hE => lc_it (walk_list (K := K) (a := tl) (xs := xs)) (fun i H5 => ∃ ys, Same H4 H5 ∧ H5 E2 = some (.lst ys) ∧ Ties H5 ys ((us.take i).filter (within ds)))
        ⟨[], Same.new hE, upd_same, .nil⟩ (fun i H5 _ ⟨_, h, _⟩ => SqL.of (h _ _ wa4.ht)) ?_ ?_⟩
      · rintro i v H5 H6 hi ⟨ys, s5, h6, t6⟩ ⟨rfl, hx⟩
        obtain ⟨pp, hpp, t, rfl, htt⟩ := paired_get wa4.ti hx
        refine ⟨t, _, rfl, SqT.of (s5 _ _ htt), rfl, _, _, rfl, _, _, rfl, rfl, rfl, ?_⟩
        have eD := s5 _ _ h4
        rw [take_filter hpp]
        refine ⟨_, rfl, _, rfl, D, _, rfl, DGet.k (k := Sum.inr pp.1) eD, ?_⟩
        rw [within_val]
        have stay : within ds pp = false → ∃ ys, Same H4 H6 ∧ H6 E2 = some (.lst ys) ∧ Ties H6 ys ((us.take i).filter (within ds) ++ (if within ds pp = true then [pp] else [])) := fun e => by
          rw [e, if_neg Bool.false_ne_true, List.append_nil]
          exact ⟨ys, s5, h6, t6⟩
        by_cases ha : pp.1 ∈ ds
        · refine ⟨true, by rw [decide_eq_true ha], iteT ?_⟩
          refine ⟨_, rfl, _, rfl, D, _, rfl, DGet.k (k := Sum.inr pp.2) eD, ?_⟩
          rw [within_val]
          by_cases hb : pp.2 ∈ ds
          · refine ⟨true, by rw [decide_eq_true hb], iteT ?_⟩
            have hw : within ds pp = true := by unfold within; rw [decide_eq_true ha, decide_eq_true hb]; rfl
            rw [if_pos hw]
            refine ⟨_, rfl, _, rfl, by show 2 ≤ sizeLine; unfold sizeLine; omega, fun u hu5 => ?_⟩
            have nDu : E2 ≠ u := ne_of_none h6 hu5
            have s6 := s5.trans (Same.new (o := .tup [.str pp.1, .str pp.2]) hu5)
            have ly : ys.length ≤ 400 := by
              rw [paired_len t6]
              exact Nat.le_trans (List.length_filter_le _ _) (Nat.le_trans (List.length_take_le _ _) (by omega))
            refine ⟨ys, by rw [upd_ne nDu]; exact h6, fitsL (by omega), _, fun b z e => by rw [upd_ne (ne_of_none e hE)]; exact s6 _ _ e, upd_same, ?_⟩
            have t7 := t6.same (Same.new (o := .tup [.str pp.1, .str pp.2]) hu5)
            have t8 : Ties _ (ys ++ [V.ref u]) _ := paired_app t7 (.cons ⟨u, rfl, upd_same⟩ .nil)
            exact t8.upd fun z l e => ne_of e (by rw [upd_ne nDu]; exact h6) (by intro z; cases z)
          · refine ⟨false, by rw [decide_eq_false hb], iteF (stay ?_)⟩
            unfold within
            rw [decide_eq_false hb, Bool.and_false]
        · refine ⟨false, by rw [decide_eq_false ha], iteF (iteF (stay ?_))⟩
          unfold within
          rw [decide_eq_false ha, Bool.false_and]
      · rintro H5 ⟨ys, s5, h6, t6⟩
        rw [List.take_of_length_le (by omega)] at t6
        have s7 := s4.trans s5
        have tof : TsOk ds (us.filter (within ds)) := by
          have t0 := tsOk_filter ws.to (within ds)
          refine ⟨fun p hp => ?_, t0.nd, t0.hi⟩
          have h1 := (List.mem_filter.mp hp).2
          unfold within at h1
          rw [Bool.and_eq_true, decide_eq_true_eq, decide_eq_true_eq] at h1
          exact ⟨h1.1, h1.2, (t0.ok p hp).ne⟩
        refine ⟨_, rfl, _, rfl, D, E2, ds, ds.map (prF ms qs), ys, _, rfl, s5 _ _ h4, h6, t6, by rw [List.length_map], no, tof, fun z hz => ?_, fun o2 dx2 dp2 tl2 ys2 ms2 qs2 us2 H3 s3 fo fd ft wb wo => ?_⟩
        · obtain ⟨x, hx, rfl⟩ := List.mem_map.mp hz
          obtain ⟨ix, hix⟩ := List.getElem?_of_mem (hsub x ((firsts_mem x ns).mp (by rw [← hds]; exact hx)))
          obtain ⟨r, h1, h2⟩ := prK_some ws.no.nd ws.ql hix
          have : prF ms qs x = r := by unfold prF; rw [h2]
          rw [this]
          exact ws.po r (List.mem_of_getElem? h1)
        · exact q o2 dx2 dp2 tl2 ys2 ms2 qs2 us2 H3 (s7.trans s3) (s7.free fo) (s7.free fd) (s7.free ft) wb wo
end
end KK
end

section
set_option maxRecDepth 100000
set_option maxHeartbeats 4000000
namespace KK
open PySem PySem.Spec PyProof.Rows L2
def spWithout (C : Addr) : Sp := fun vs H Q _ => ∃ o dx dp tl xs ms qs us x, vs = [.ref o, .str x] ∧ WebS H C o dx dp tl xs ms qs us ∧ x ∈ ms ∧ 1 < ms.length ∧
  ∀ o2 dx2 dp2 tl2 ys ms2 qs2 us2 H', Same H H' → H o2 = none → H dp2 = none → H tl2 = none → WebAt H' C o2 dx2 dp2 tl2 ys ms2 qs2 us2 →
    WebOk (ms.filter fun z => !decide (z = x)) ((ms.filter fun z => !decide (z = x)).map (prF ms qs)) (us.filter (within (ms.filter fun z => !decide (z = x)))) ms2 qs2 us2 → Q (.ref o2) H'
section
variable {P : Program} {w : World} {K : PySem.W.Frag} {mg : Str → Option Value} {base : Heap} {C : Addr}
end
end KK
end

section
set_option maxRecDepth 100000
set_option maxHeartbeats 4000000
namespace KK
open PySem PySem.Spec PyProof.Rows L2 Z
section
variable {P : Program} {w : World} {K : PySem.W.Frag} {mg : Str → Option Value} {base : Heap} {C : Addr}
theorem webS {W : Wd} {H : Hp} {v : V} {z : WebZ} (ok : OKW W H) (nl : ∀ b, W b ≠ .lk) (h : (tWeb K C).R W H v z) : WfZ z ∧ ∃ o dx dp tl xs, v = .ref o ∧ WebS H C o dx dp tl xs z.ms z.qs z.us := by
  obtain ⟨wf, o, dx, dp, tl, xs, e, wa⟩ := web_at ok nl h
  exact ⟨wf, o, dx, dp, tl, xs, e, wa, wf.p.pl, wf.p.no, wf.p.to, wf.p.po⟩
/-! promises of the methods, where they raise nothing -/
abbrev ctPrice (K : PySem.W.Frag) (C : Addr) : CT WebZ := ⟨true, tWeb K C, fun as P _ => ∃ z x p, as = [.sh (tWeb K C) z, .sh tStr x, .sh tInt p] ∧ (x ∈ z.ms ∧ 1 ≤ p ∧ p ≤ 10 ^ 30) ∧ ∀ r, (WfZ z ∧ ∃ i, z.ms[i]? = some x ∧ WebOk z.ms (z.qs.set i p) z.us r.ms r.qs r.us) → P r⟩
theorem pts_set {ms : List Str} {qs : List Int} {us : List (Str × Str)} (h : Pts ms qs us) (i : Nat) {p : Int} (h1 : 1 ≤ p) (h2 : p ≤ 10 ^ 30) : Pts ms (qs.set i p) us :=
  ⟨by rw [List.length_set]; exact h.pl, h.no, h.to, fun z hz => by
    rcases List.mem_or_eq_of_mem_set hz with hz | rfl
    · exact h.po z hz
    · exact ⟨h1, h2⟩⟩
theorem z_withprice (c : C8.Met P w K mg base 7 C "with_price" (spWithPrice C) []) : C8.Met P w K mg base 7 C "with_price" (spZ (ctPrice K C)) [] := by
  refine met_of c ?_
  rintro vs H Q E ⟨W, as, P, XP, ok, _, nl, ha, ⟨z, x, p, rfl, ⟨hx, h1, h2⟩, hp⟩, q, _⟩
  cases ha with
  | cons r1 ha => cases ha with
    | cons r2 ha => cases ha with
      | cons r3 ha =>
        cases ha
        cases r2
        cases r3
        obtain ⟨wf, o, dx, dp, tl, xs, rfl, ws⟩ := webS ok (nl rfl) r1
        obtain ⟨i, hi⟩ := List.getElem?_of_mem hx
        refine ⟨o, dx, dp, tl, xs, _, _, _, x, i, p, rfl, ws, hi, h1, h2, fun o2 dx2 dp2 tl2 ys ms2 qs2 us2 H' s fo fd ft wa wo => ?_⟩
        exact q _ W H' ⟨ms2, qs2, us2⟩ (hp _ ⟨wf, i, hi, wo⟩) (same_go s) (same_ok ok s) (web_new ok s fo fd ft wa (wf_of wo (pts_set wf.p i h1 h2)))
end
end KK
end

section
set_option maxRecDepth 100000
set_option maxHeartbeats 4000000
namespace KK
open PySem PySem.Spec PyProof.Rows L2 Z
abbrev ctLaw (K : PySem.W.Frag) : CT Bool := ⟨true, tBl, fun as P _ => ∃ xs, as = [.sh (tScr K) xs] ∧ xs.length ≤ 1000 ∧ P true⟩
section
variable {P : Program} {w : World} {K : PySem.W.Frag} {mg : Str → Option Value} {base : Heap}
theorem calG {x : Str} {st : Stmt} {N ps : List Str} {k : Nat} {sp : Sp} (F : Has K mg x st) (S : FnScope N ps (defScope st)) (len : ∀ vs H Q E, sp vs H Q E → vs.length = ps.length)
    (hbody : ∀ (f : Addr) (cdv : Value) (A : Around) (outer : List Env) (s : Shared) (H : Hp) (vs : List V) (Q : VK) (E : XK), Room k (A.deeper (envOfC x (defScope st) s.heap.objs.size f cdv)) → sp vs H Q E →
      ∃ t, PSs (cxOf CX0 P w K mg base N x (defScope st) f cdv A outer s H E).nox (defBody st) t ∧ t { nx := fun _ H' => Q .non H', rt := Q } (start N vs) H) : ∃ f fd, Fun K x x st f fd ∧ mg x = some (.ref f) ∧ FnOk P w K mg base CX0 (k + 1) f fd ps sp := by
  obtain ⟨f, fd, F, hm⟩ := F
  exact ⟨f, fd, F, hm, F.ok S len (hbody f)⟩
end
end KK
end

section
set_option maxRecDepth 100000
set_option maxHeartbeats 4000000
/-! What the Z layer has shown, told to the Y layer. -/
namespace Y
open PySem PySem.Spec PyProof.Rows L2
open Classical in
/-- to be read by -/
noncomputable def toR (W : Wd) : Z.Wd := fun b => match W b with
  | .sh => .sh
  | .lk => .lk
  | .fo => .fo
  | .st φ => if φ = IsStm then .st else .ow
  | .ow _ => .ow
open Classical in
/-- to be called in -/
noncomputable def toC (W : Wd) : Z.Wd := fun b => match W b with
  | .sh => .sh
  | .lk => .lk
  | .fo => .fo
  | .st φ => if φ = IsStm then .st else .fo
  | .ow _ => .fo
section
variable {W : Wd} {H : Hp} {b : Addr}
theorem toR_sh : toR W b = .sh ↔ W b = .sh := by
  unfold toR
  cases W b with
  | st φ => simp only; split <;> simp
  | _ => simp
theorem toR_lk : toR W b = .lk ↔ W b = .lk := by
  unfold toR
  cases W b with
  | st φ => simp only; split <;> simp
  | _ => simp
theorem toR_fo : toR W b = .fo ↔ W b = .fo := by
  unfold toR
  cases W b with
  | st φ => simp only; split <;> simp
  | _ => simp
theorem toR_st : toR W b = .st ↔ W b = .st IsStm := by
  unfold toR
  cases W b with
  | st φ =>
    simp only
    split
    · rename_i e; simp [e]
    · rename_i e; simp [e]
  | _ => simp
theorem toC_sh : toC W b = .sh ↔ W b = .sh := by
  unfold toC
  cases W b with
  | st φ => simp only; split <;> simp
  | _ => simp
theorem toC_lk : toC W b = .lk ↔ W b = .lk := by
  unfold toC
  cases W b with
  | st φ => simp only; split <;> simp
  | _ => simp
theorem toC_st : toC W b = .st ↔ W b = .st IsStm := by
  unfold toC
  cases W b with
  | st φ =>
    simp only
    split
    · rename_i e; simp [e]
    · rename_i e; simp [e]
  | _ => simp
theorem toC_ow : toC W b ≠ .ow := by
  unfold toC
  cases W b with
  | st φ => simp only; split <;> simp
  | _ => simp
theorem toC_fo : toC W b = .fo ↔ (W b = .fo ∨ (∃ p, W b = .ow p) ∨ ∃ φ, W b = .st φ ∧ φ ≠ IsStm) := by
  unfold toC
  cases W b with
  | st φ =>
    simp only
    split
    · rename_i e; simp [e]
    · rename_i e; simp [e]
  | _ => simp
theorem rdR {o : HO} : Z.RdW (toR W) H b o ↔ RdW W H b o := by
  unfold Z.RdW RdW
  rw [toR_sh, toR_lk, toR_fo]
end
theorem toR_mv {W W' : Wd} {H H' : Hp} (m : Mv W H W' H') : Z.Mv (toR W) H (toR W') H' := ⟨fun b o h => rdR.mpr (m.rd b o (rdR.mp h)), fun b vs w h => by
  obtain ⟨a, c⟩ := m.ls b vs (toR_sh.mp w) h
  exact ⟨toR_sh.mpr a, c⟩, fun b h => toR_st.mpr (m.st b _ (toR_st.mp h))⟩
theorem toRC_mv {W : Wd} {H : Hp} : Z.Mv (toR W) H (toC W) H := ⟨fun b o h => by
  have h := rdR.mp h
  rcases h with ⟨w, h⟩ | ⟨w | w, od, h⟩
  · exact .inl ⟨toC_sh.mpr w, h⟩
  · exact .inr ⟨.inl (toC_lk.mpr w), od, h⟩
  · exact .inr ⟨.inr (toC_fo.mpr (.inl w)), od, h⟩, fun b vs w h => ⟨toC_sh.mpr (toR_sh.mp w), h⟩, fun b h => toC_st.mpr (toR_st.mp h)⟩
/-- a reading of the Z layer -/
def Lift {α : Type} (t : Z.Ty α) : Ty α := ⟨fun W H v x => t.R (toR W) H v x, fun h m => t.go h (toR_mv m)⟩
/-- one reading on both layers -/
def Same {α : Type} (t : Ty α) (u : Z.Ty α) : Prop := ∀ W H v x, t.R W H v x ↔ u.R (toR W) H v x
section
variable {α β γ : Type} {t : Ty α} {u : Ty β} {z : Ty γ} {t' : Z.Ty α} {u' : Z.Ty β} {z' : Z.Ty γ} {K : PySem.W.Frag}
theorem same_lift : Same (Lift t') t' := fun _ _ _ _ => Iff.rfl
theorem same_int : Same tInt Z.tInt := fun _ _ _ _ => Iff.rfl
theorem same_str : Same tStr Z.tStr := fun _ _ _ _ => Iff.rfl
theorem same_stm : Same tStm Z.tStm := fun W H v x => ⟨fun ⟨a, e, h⟩ => ⟨a, e, toR_st.mpr h⟩, fun ⟨a, e, h⟩ => ⟨a, e, toR_st.mp h⟩⟩
theorem sqW {W : Wd} {H : Hp} {a : Addr} {vs : List V} : Z.SqW K (toR W) H a vs ↔ SqW K W H a vs := by
  unfold Z.SqW SqW
  rw [toR_sh]
theorem sqTW {W : Wd} {H : Hp} {a : Addr} {vs : List V} : Z.SqTW K (toR W) H a vs ↔ SqTW K W H a vs := rdR
theorem same_scr : Same (tScr K) (Z.tScr K) := fun W H v x => by
  constructor
  · rintro ⟨a, e, h | h⟩
    · exact ⟨a, e, .inl (rdR.mpr h)⟩
    · exact ⟨a, e, .inr h⟩
  · rintro ⟨a, e, h | h⟩
    · exact ⟨a, e, .inl (rdR.mp h)⟩
    · exact ⟨a, e, .inr h⟩
theorem same_ls (s : Same t t') : Same (tLs K t) (Z.tLs K t') := fun W H v x => by
  constructor
  · rintro ⟨a, vs, e, h, p⟩
    exact ⟨a, vs, e, sqW.mpr h, L2.Paired.mapP p fun _ _ r => (s _ _ _ _).mp r⟩
  · rintro ⟨a, vs, e, h, p⟩
    exact ⟨a, vs, e, sqW.mp h, L2.Paired.mapP p fun _ _ r => (s _ _ _ _).mpr r⟩
theorem same_t2 (s : Same t t') (s2 : Same u u') : Same (tT2 K t u) (Z.tT2 K t' u') := fun W H v x => by
  constructor
  · rintro ⟨a, p, q, e, h, r1, r2⟩
    exact ⟨a, p, q, e, sqTW.mpr h, (s _ _ _ _).mp r1, (s2 _ _ _ _).mp r2⟩
  · rintro ⟨a, p, q, e, h, r1, r2⟩
    exact ⟨a, p, q, e, sqTW.mp h, (s _ _ _ _).mpr r1, (s2 _ _ _ _).mpr r2⟩
def kyZ {κ : Type} (ke : Ky κ) : Z.Ky κ := ⟨ke.k, ke.inj⟩
end
/-! ### promises -/
/-- slots on both layers -/
inductive SlS : List Sl → List Z.Sl → Prop where
  | nil : SlS [] []
  | cons {α : Type} {t : Ty α} {u : Z.Ty α} {x : α} {as : List Sl} {bs : List Z.Sl} : Same t u → SlS as bs → SlS (.sh t x :: as) (.sh u x :: bs)
theorem SlS.args {W : Wd} {H : Hp} {as : List Sl} {bs : List Z.Sl} (h : SlS as bs) : ∀ {vs : List V}, vs.length = as.length → (∀ (k : Nat) v s, vs[k]? = some v → as[k]? = some s → s.at [k] W H v) → Z.ArgsOk (toR W) H vs bs := by
  have key : ∀ {as : List Sl} {bs : List Z.Sl}, SlS as bs → ∀ (n : Nat) {vs : List V}, vs.length = as.length → (∀ (k : Nat) v s, vs[k]? = some v → as[k]? = some s → s.at [n + k] W H v) → Z.ArgsOk (toR W) H vs bs := by
    intro as bs h
    induction h with
    | nil =>
      intro n vs hl _
      cases vs with
      | nil => exact .nil
      | cons _ _ => cases hl
    | @cons α t u x as bs s _ ih =>
      intro n vs hl hk
      cases vs with
      | nil => cases hl
      | cons v vs =>
        refine .cons ((s _ _ _ _).mp (hk 0 v (.sh t x) rfl rfl)) (ih (n + 1) (Nat.succ.inj hl) fun k v' s' h1 h2 => ?_)
        have := hk (k + 1) v' s' h1 h2
        rwa [show n + 1 + k = n + (k + 1) from by omega]
  intro vs hl hk
  exact key h 0 hl fun k v s h1 h2 => by rw [Nat.zero_add]; exact hk k v s h1 h2
open Classical in
/-- what stands behind a call of the Z layer -/
noncomputable def backW (W : Wd) (Wz : Z.Wd) : Wd := fun b => match W b with
  | .ow p => .ow p
  | .st φ => .st φ
  | _ => match Wz b with
    | .sh => .sh
    | .lk => .lk
    | .st => .st IsStm
    | _ => .fo
section
variable {W : Wd} {H H' : Hp} {Wz : Z.Wd}
theorem toC_ok (ok : OKW W H) : Z.OKW (toC W) H := by
  refine ⟨fun b h => ?_, fun b h => ?_, fun b od u w => absurd w toC_ow, fun b h => ok.lk b (toC_lk.mp h), fun b od u w h => ?_, fun b vs h => toC_sh.mpr (ok.tp b vs h)⟩
  · obtain ⟨o, h1, ⟨c, k, rfl, hk⟩, _⟩ := ok.st b _ (toC_st.mp h)
    exact ⟨c, k, h1, hk⟩
  · exact ok.al b fun e => h (toC_sh.mpr e)
  · rcases toC_fo.mp w with w | ⟨p, w⟩ | ⟨φ, w, _⟩
    · exact ok.fo b od u w h
    · exact absurd h (ok.nf b p od u w)
    · obtain ⟨o, h1, _, nf⟩ := ok.st b φ w
      rw [h] at h1
      cases h1
      exact nf.elim
theorem back_keep (ok : OKW W H) (g : Z.Go (toC W) H Wz H') {b : Addr} (h : (∃ p, W b = .ow p) ∨ ∃ φ, W b = .st φ ∧ φ ≠ IsStm) : ∃ o, H b = some o ∧ H' b = some o ∧ Wz b = .fo ∧ NoFrz o := by
  have w : toC W b = .fo := toC_fo.mpr (.inr h)
  obtain ⟨o, e⟩ := ok.al b (by rcases h with ⟨p, h⟩ | ⟨φ, h, _⟩ <;> rw [h] <;> exact fun z => nomatch z)
  obtain ⟨h1, w1⟩ := g.k b o e (.inr (.inr w))
  refine ⟨o, e, h1, w1.trans w, ?_⟩
  rcases h with ⟨p, h⟩ | ⟨φ, h, _⟩
  · cases o with
    | frz od u => exact absurd e (ok.nf b p od u h)
    | _ => trivial
  · obtain ⟨o', h2, _, nf⟩ := ok.st b φ h
    rw [e] at h2
    cases h2
    exact nf
theorem back_else (n1 : ∀ p, W b ≠ .ow p) (n2 : ∀ φ, W b ≠ .st φ) : backW W Wz b = (match Wz b with | .sh => .sh | .lk => .lk | .st => .st IsStm | _ => .fo) := by
  unfold backW
  cases e : W b with
  | ow p => exact absurd e (n1 p)
  | st φ => exact absurd e (n2 φ)
  | _ => rfl
theorem back_ok (ok : OKW W H) (g : Z.Go (toC W) H Wz H') (okz : Z.OKW Wz H') : Go W H (backW W Wz) H' ∧ OKW (backW W Wz) H' ∧ Z.Mv Wz H' (toR (backW W Wz)) H' := by
  have cas : ∀ b, ((∃ p, W b = .ow p) ∨ ∃ φ, W b = .st φ ∧ φ ≠ IsStm) ∨ W b = .st IsStm ∨ ((∀ p, W b ≠ .ow p) ∧ ∀ φ, W b ≠ .st φ) := fun b => by
    cases e : W b with
    | ow p => exact .inl (.inl ⟨p, rfl⟩)
    | st φ =>
      by_cases h : φ = IsStm
      · exact .inr (.inl (by rw [h]))
      · exact .inl (.inr ⟨φ, rfl, h⟩)
    | _ => exact .inr (.inr ⟨fun p z => (nomatch z), fun φ z => (nomatch z)⟩)
  have owE : ∀ {b p}, W b = .ow p → backW W Wz b = .ow p := fun {b p} h => by unfold backW; rw [h]
  have stE : ∀ {b φ}, W b = .st φ → backW W Wz b = .st φ := fun {b φ} h => by unfold backW; rw [h]
  have own : ∀ {b p}, backW W Wz b = .ow p → W b = .ow p := fun {b p} h => by
    rcases cas b with (⟨q, e⟩ | ⟨φ, e, _⟩) | e | ⟨n1, n2⟩
    · rw [owE e] at h; cases h; exact e
    · rw [stE e] at h; cases h
    · rw [stE e] at h; cases h
    · rw [back_else n1 n2] at h
      cases e2 : Wz b <;> rw [e2] at h <;> cases h
  refine ⟨⟨fun b o h w => ?_, fun b φ h => stE h, fun b h => ?_⟩, ⟨fun b φ h => ?_, fun b h => ?_, fun b p od u w h => ?_, fun b h => ?_, fun b od u w h => ?_, fun b vs h => ?_⟩, ⟨fun b o h => ?_, fun b vs w h => ?_, fun b h => ?_⟩⟩
  · have wz : toC W b = .sh ∨ toC W b = .lk ∨ toC W b = .fo := by
      rcases w with w | w | w
      · exact .inl (toC_sh.mpr w)
      · exact .inr (.inl (toC_lk.mpr w))
      · exact .inr (.inr (toC_fo.mpr (.inl w)))
    obtain ⟨h1, w1⟩ := g.k b o h wz
    refine ⟨h1, ?_⟩
    rw [back_else (fun p e => by rcases w with w | w | w <;> (rw [w] at e; cases e)) (fun p e => by rcases w with w | w | w <;> (rw [w] at e; cases e)), w1]
    clear wz w1
    rcases w with w | w | w
    · rw [toC_sh.mpr w, w]
    · rw [toC_lk.mpr w, w]
    · rw [toC_fo.mpr (.inl w), w]
  · rcases cas b with (⟨q, e⟩ | ⟨φ, e, _⟩) | e | ⟨n1, n2⟩
    · rw [owE e] at h; cases h
    · rw [stE e] at h; cases h
    · rw [stE e] at h; cases h
    · rw [back_else n1 n2] at h
      cases e2 : Wz b with
      | lk => exact toC_lk.mp (g.l b e2)
      | _ => rw [e2] at h; cases h
  · rcases cas b with c | e | ⟨n1, n2⟩
    · obtain ⟨o, h0, h1, _, nf⟩ := back_keep ok g c
      rcases c with ⟨q, e⟩ | ⟨ψ, e, _⟩
      · rw [owE e] at h; cases h
      · rw [stE e] at h; cases h
        obtain ⟨o', h2, hp, _⟩ := ok.st b φ e
        rw [h0] at h2; cases h2
        exact ⟨o, h1, hp, nf⟩
    · rw [stE e] at h
      cases h
      obtain ⟨c, k, h1, hk⟩ := okz.st b (g.s b (toC_st.mpr e))
      exact ⟨_, h1, ⟨c, k, rfl, hk⟩, trivial⟩
    · rw [back_else n1 n2] at h
      cases e2 : Wz b with
      | st =>
        rw [e2] at h
        cases h
        obtain ⟨c, k, h1, hk⟩ := okz.st b e2
        exact ⟨_, h1, ⟨c, k, rfl, hk⟩, trivial⟩
      | _ => rw [e2] at h; cases h
  · rcases cas b with c | e | ⟨n1, n2⟩
    · obtain ⟨o, _, h1, _⟩ := back_keep ok g c
      exact ⟨o, h1⟩
    · obtain ⟨c, k, h1, _⟩ := okz.st b (g.s b (toC_st.mpr e))
      exact ⟨_, h1⟩
    · rw [back_else n1 n2] at h
      refine okz.al b fun e2 => h ?_
      rw [e2]
  · have e := own w
    obtain ⟨o, _, h1, _, nf⟩ := back_keep ok g (.inl ⟨p, e⟩)
    rw [h] at h1
    cases h1
    exact nf
  · rcases cas b with (⟨q, e⟩ | ⟨φ, e, _⟩) | e | ⟨n1, n2⟩
    · rw [owE e] at h; cases h
    · rw [stE e] at h; cases h
    · rw [stE e] at h; cases h
    · rw [back_else n1 n2] at h
      cases e2 : Wz b with
      | lk => exact okz.lk b e2
      | _ => rw [e2] at h; cases h
  · rcases cas b with (⟨q, e⟩ | ⟨φ, e, _⟩) | e | ⟨n1, n2⟩
    · rw [owE e] at w; cases w
    · rw [stE e] at w; cases w
    · rw [stE e] at w; cases w
    · rw [back_else n1 n2] at w
      cases e2 : Wz b with
      | fo => exact okz.fo b od u e2 h
      | ow => exact absurd h (okz.nf b od u e2)
      | _ => rw [e2] at w; cases w
  · have ws := okz.tp b vs h
    rcases cas b with c | e | ⟨n1, n2⟩
    · obtain ⟨_, _, _, w, _⟩ := back_keep ok g c
      rw [ws] at w; cases w
    · have := g.s b (toC_st.mpr e)
      rw [ws] at this; cases this
    · rw [back_else n1 n2, ws]
  · refine rdR.mpr ?_
    rcases cas b with c | e | ⟨n1, n2⟩
    · obtain ⟨o2, _, h1, w, nf⟩ := back_keep ok g c
      rcases h with ⟨w2, _⟩ | ⟨w2 | w2, od, h2⟩
      · rw [w] at w2; cases w2
      · rw [w] at w2; cases w2
      · rw [h1] at h2; cases h2; exact nf.elim
    · have := g.s b (toC_st.mpr e)
      rcases h with ⟨w2, _⟩ | ⟨w2 | w2, od, h2⟩ <;> (rw [this] at w2; cases w2)
    · have eb := back_else (Wz := Wz) n1 n2
      rcases h with ⟨w2, h2⟩ | ⟨w2 | w2, od, h2⟩
      · rw [w2] at eb; exact .inl ⟨eb, h2⟩
      · rw [w2] at eb; exact .inr ⟨.inl eb, od, h2⟩
      · rw [w2] at eb; exact .inr ⟨.inr eb, od, h2⟩
  · refine ⟨toR_sh.mpr ?_, h⟩
    rcases cas b with c | e | ⟨n1, n2⟩
    · obtain ⟨_, _, _, w2, _⟩ := back_keep ok g c
      rw [w] at w2; cases w2
    · have := g.s b (toC_st.mpr e)
      rw [w] at this; cases this
    · rw [back_else n1 n2, w]
  · refine toR_st.mpr ?_
    rcases cas b with c | e | ⟨n1, n2⟩
    · obtain ⟨_, _, _, w2, _⟩ := back_keep ok g c
      rw [h] at w2; cases w2
    · exact stE e
    · rw [back_else n1 n2, h]
end
/-- a promise without errors -/
theorem of_z {ρ : Type} {c : CT ρ} {cz : Z.CT ρ} {t : Ty ρ} (hr : c.r = .sh t) (st : Same t cz.tr) (hn : cz.n = true → c.n = true)
    (h : ∀ as P XP, c.ct as P XP → ∃ bs Pz, SlS as bs ∧ cz.ct bs Pz (fun _ => False) ∧ ∀ x, Pz x → ∀ os, P os x) {vs : List V} {H : Hp} {Q : VK} {E : XK} (s : spZ c vs H Q E) : Z.spZ cz vs H Q E := by
  obtain ⟨W, as, P, XP, ok, nl, ha, hc, q, _⟩ := s
  obtain ⟨bs, Pz, sl, hz, hp⟩ := h as P XP hc
  refine ⟨toC W, bs, Pz, fun _ => False, toC_ok ok, fun b => toC_ow, fun n b w => nl (hn n) b (toC_lk.mp w), (sl.args ha.1 ha.2).go toRC_mv, hz, fun v Wz H' x p g okz r => ?_, fun e d Wz H' z => z.elim⟩
  obtain ⟨g2, ok2, mv⟩ := back_ok ok g okz
  refine q v _ H' (as.map fun _ => .un) x (hp x p _) g2 ok2 ⟨by rw [List.length_map]; exact ha.1, fun k v s h1 h2 => ?_⟩ ?_
  · rw [List.getElem?_map] at h2
    obtain ⟨_, _, rfl⟩ := Option.map_eq_some_iff.mp h2
    trivial
  · rw [hr]
    exact (st _ _ _ _).mpr (cz.tr.go r mv)
theorem cal_z {ρ : Type} {P : Program} {w : World} {K : PySem.W.Frag} {mg : Str → Option Value} {base : Heap} {k : Nat} {f : Str} {c : CT ρ} {cz : Z.CT ρ} {t : Ty ρ} (C : C8.Cal P w K mg base k f (Z.spZ cz) []) (hr : c.r = .sh t) (st : Same t cz.tr) (hn : cz.n = true → c.n = true)
    (h : ∀ as P XP, c.ct as P XP → ∃ bs Pz, SlS as bs ∧ cz.ct bs Pz (fun _ => False) ∧ ∀ x, Pz x → ∀ os, P os x) : C8.Cal P w K mg base k f (spZ c) [] := by
  obtain ⟨f, fd, ps, ds, F, hm, kp, b, d⟩ := C.ex
  exact ⟨f, fd, ps, ds, F.imp fun vs H Q E s => of_z hr st hn h s, hm, kp, b, d⟩
theorem met_z {ρ : Type} {P : Program} {w : World} {K : PySem.W.Frag} {mg : Str → Option Value} {base : Heap} {k : Nat} {D : Addr} {f : Str} {c : CT ρ} {cz : Z.CT ρ} {t : Ty ρ} (C : C8.Met P w K mg base k D f (Z.spZ cz) []) (hr : c.r = .sh t) (st : Same t cz.tr) (hn : cz.n = true → c.n = true)
    (h : ∀ as P XP, c.ct as P XP → ∃ bs Pz, SlS as bs ∧ cz.ct bs Pz (fun _ => False) ∧ ∀ x, Pz x → ∀ os, P os x) : C8.Met P w K mg base k D f (spZ c) [] := by
  obtain ⟨f, fd, ps, ds, c1, c2, F, b, d⟩ := C.ex
  exact ⟨f, fd, ps, ds, c1, c2, F.imp fun vs H Q E s => of_z hr st hn h s, b, d⟩
end Y
end

section
set_option maxRecDepth 100000
set_option maxHeartbeats 4000000
/-! A thing of one's own whose shape is told by what it holds. -/
namespace Y
open PySem PySem.Spec PyProof.Rows L2
section
variable {β : Type}
def tBox (f : β → Ty Unit) : Ty β := ⟨fun W H v x => (f x).R W H v (), fun h m => (f _).go h m⟩
def oBox (f : β → OT Unit) : OT β := ⟨fun p W H v x => (f x).R p W H v (), tBox fun x => (f x).sv, fun h k m => (f _).mv h k m, fun h k m => (f _).fz h k m⟩
end
/-- slots that say less -/
inductive SlsTo : List Sl → List Sl → Prop where
  | nil : SlsTo [] []
  | cons {s s' : Sl} {as bs : List Sl} : (∀ p W H v, s.at p W H v → s'.at p W H v) → SlsTo as bs → SlsTo (s :: as) (s' :: bs)
section
variable {ρ : Type} {c c' : CT ρ}
/-- c' asks for c -/
def CtTo (c' c : CT ρ) : Prop := (c.n = true → c'.n = true) ∧ c'.r = c.r ∧ ∀ as P XP, c'.ct as P XP → ∃ as' P' XP', SlsTo as as' ∧ c.ct as' P' XP' ∧ (∀ os x, P' os x → ∃ os', SlsTo os os' ∧ P os' x) ∧ ∀ os e, XP' os e → ∃ os', SlsTo os os' ∧ XP os' e
variable {P : Program} {w : World} {K : PySem.W.Frag} {mg : Str → Option Value} {base : Heap} {k : Nat} {D : Addr} {f : Str}
end
end Y
end

section
set_option maxRecDepth 100000
set_option maxHeartbeats 4000000
/-! dict(zip(xs, ys)), its keys tuples; d.clear() of such a dict -/
namespace PySem
end PySem
namespace L2
open PySem PySem.Spec PyProof.Rows
/-- dict(zip(a, b)): the keys are a's items, tuples of ints and texts that differ -/
def tDictZip (K : PySem.W.Frag) (ta : TA) : TE := fun σ H Q => ta σ H fun vs H1 => ∃ (a b : Addr) (ks : List (Addr × List Key)) (ys : List V), vs = [.ref a, .ref b] ∧ SqL K H1 a (ks.map fun e => V.ref e.1) ∧ SqL K H1 b ys ∧
  (∀ e ∈ ks, H1 e.1 = some (.tup (e.2.map kV))) ∧ ys.length = ks.length ∧ (ks.map (·.2)).Nodup ∧ ∀ p, H1 p = none → Q (.ref p) (upd H1 p (.dT ((ks.map (·.2)).zip ys)))
section
variable {X : Cx} {e e2 : Expr} {ta : TA} {pd pos pz posz : Pos}
end
/-! ### d.clear(), of a dict whose keys are tuples -/
def rTClear : V → List V → Hp → VK → Prop := fun x vs H Q => ∃ (a : Addr) (kvs : List (List Key × V)), x = .ref a ∧ vs = [] ∧ H a = some (.dT kvs) ∧ Q .non (upd H a (.dT []))
section
variable {X : Cx} {o : Expr} {to : TE} {apos cpos : Pos}
end
end L2
end

section
set_option maxRecDepth 100000
set_option maxHeartbeats 4000000
/-! dicts whose keys are pairs of texts; isinstance(x, dict), isinstance of ints -/
namespace Y
open PySem PySem.Spec PyProof.Rows L2
abbrev kP (p : Str × Str) : List Key := [Sum.inr p.1, Sum.inr p.2]
def tDP {α : Type} (t : Ty α) : Ty (List ((Str × Str) × α)) := ⟨fun W H v kvs => ∃ a ws, v = .ref a ∧ RdW W H a (.dT ws) ∧ Paired (fun (p : List Key × V) (q : (Str × Str) × α) => p.1 = kP q.1 ∧ t.R W H p.2 q.2) ws kvs, by
  rintro W W' H H' v xs ⟨a, vs, e, h, p⟩ m
  exact ⟨a, vs, e, m.rd _ _ h, L2.Paired.mapP p fun u x r => ⟨r.1, t.go r.2 m⟩⟩⟩
def oDP {α : Type} (t : Ty α) : OT (List ((Str × Str) × α)) where
  R p W H v xs := ∃ a ws, v = .ref a ∧ W a = .ow p ∧ H a = some (.dT ws) ∧ Paired (fun (p : List Key × V) (q : (Str × Str) × α) => p.1 = kP q.1 ∧ t.R W H p.2 q.2) ws xs
  sv := tDP t
  mv := by
    rintro p p' W W' H H' v xs ⟨a, vs, e, w, h, r⟩ k m
    obtain ⟨w1, h1⟩ := k a _ [] (by rw [List.append_nil]; exact w) h
    exact ⟨a, vs, e, by rw [List.append_nil] at w1; exact w1, h1, L2.Paired.mapP r fun u x r => ⟨r.1, t.go r.2 m⟩⟩
  fz := by
    rintro p W W' H H' v xs ⟨a, vs, e, w, h, r⟩ k m
    obtain ⟨w1, h1⟩ := k a _ [] (by rw [List.append_nil]; exact w) h
    exact ⟨a, vs, e, .inl ⟨w1, h1⟩, L2.Paired.mapP r fun u x r => ⟨r.1, t.go r.2 m⟩⟩
section
variable {α ρ : Type} {K : PySem.W.Frag} {X : Xw} {k : Bool} {G : Ct} {t : Ty α}
abbrev tPr (K : PySem.W.Frag) : Ty (Str × Str) := tT2 K tStr tStr
theorem pr_at {W : Wd} {H : Hp} {v : V} {x : Str × Str} (ok : OKW W H) (h : (tPr K).R W H v x) : ∃ a, v = .ref a ∧ H a = some (.tup ((kP x).map kV)) := by
  obtain ⟨a, p, q, rfl, sq, rfl, rfl⟩ := h
  exact ⟨a, rfl, sq.at ok⟩
theorem ty_dK {κ : Type} {ke : Ky κ} {W : Wd} {H : Hp} {v : V} {xs : List (κ × α)} (h : (tDk ke t).R W H v xs) : TyX K H v (.type "dict") := by
  obtain ⟨a, ws, rfl, ⟨_, h⟩ | ⟨_, od, h⟩, p⟩ := h
  · exact .base (.dK h)
  · exact .fDict h
/-- isinstance(x, T) -/
theorem ev_isi {T : String} {b : Bool} {te : TE} {A : String} {P : Ct → Bool → Prop} (ty : ∀ W H v x, OKW W H → (G.n = true → ∀ b, W b ≠ .lk) → t.R W H v x → TyX K H v (.type A)) (kb : kitB A T = some b) (h : Ev X k te G t fun G1 _ => G1.n = G.n ∧ P G1 b) :
    Ev X k (tCB (rIsi K) (tCons te (tCons (tC (.ty T)) tNil))) G tBl P := fun W H σ Q hs ex q =>
  h W H σ _ hs ex fun v W1 H1 G1 x ⟨hn, p⟩ m r => ⟨v, .ty T, .type A, .type T, b, rfl, .ty T, ty W1 H1 v x m.hs.ok (fun e => m.hs.nl (hn.trans e)) r, kit_ty kb, q _ W1 H1 G1 b p m rfl⟩
end
section
variable {α ρ : Type} {F : Fx ρ} {G : Ct} {N B C : Ct → Prop} {t : Ty α} {K : PySem.W.Frag}
end
end Y
end

section
set_option maxRecDepth 100000
set_option maxHeartbeats 4000000
namespace KK
open PySem PySem.Spec PyProof.Rows L2
/-! ### webs, told to the Y layer -/
section
variable {P : Program} {w : World} {K : PySem.W.Frag} {mg : Str → Option Value} {base : Heap} {C : Addr}
abbrev ctPlacesZ (K : PySem.W.Frag) (C : Addr) : Z.CT (List Str) := ⟨true, Z.tLs K Z.tStr, fun as P _ => ∃ z, as = [.sh (tWeb K C) z] ∧ P z.ms⟩
abbrev ctTiesZ (K : PySem.W.Frag) (C : Addr) : Z.CT (List (Str × Str)) := ⟨true, Z.tLs K (Z.tT2 K Z.tStr Z.tStr), fun as P _ => ∃ z, as = [.sh (tWeb K C) z] ∧ P z.us⟩
abbrev ctPriceZ (K : PySem.W.Frag) (C : Addr) : Z.CT Int := ⟨true, Z.tInt, fun as P _ => ∃ z x, as = [.sh (tWeb K C) z, .sh Z.tStr x] ∧ x ∈ z.ms ∧ P (prF z.ms z.qs x)⟩
theorem paired_str {W : Z.Wd} {H : Hp} : ∀ ms : List Str, Paired (Z.tStr.R W H) (ms.map V.str) ms
  | [] => .nil
  | _ :: l => .cons rfl (paired_str l)
theorem z_places (c : C8.Met P w K mg base 1 C "places" (spPlaces C) []) : C8.Met P w K mg base 1 C "places" (Z.spZ (ctPlacesZ K C)) [] := by
  refine met_of c ?_
  rintro vs H Q E ⟨W, as, P, XP, ok, _, nl, ha, ⟨z, rfl, hp⟩, q, _⟩
  cases ha with
  | cons r1 ha =>
    cases ha
    obtain ⟨wf, o, dx, dp, tl, xs, rfl, wa⟩ := web_at ok (nl rfl) r1
    exact ⟨o, dx, dp, tl, xs, _, _, _, rfl, wa, wf.p.pl, fun p hn => q _ W _ _ hp (same_go (Same.new hn)) (same_ok ok (Same.new hn)) ⟨p, _, rfl, ⟨ok.fresh hn, upd_same⟩, paired_str _⟩⟩
theorem z_ties (c : C8.Met P w K mg base 1 C "ties" (spTies C) []) : C8.Met P w K mg base 1 C "ties" (Z.spZ (ctTiesZ K C)) [] := by
  refine met_of c ?_
  rintro vs H Q E ⟨W, as, P, XP, ok, _, nl, ha, ⟨z, rfl, hp⟩, q, _⟩
  cases ha with
  | cons r1 ha =>
    cases ha
    obtain ⟨wf, o, dx, dp, tl, xs, rfl, wa⟩ := web_at ok (nl rfl) r1
    have pr := pair_of_ties (K := K) ok wa.ti
    exact ⟨o, dx, dp, tl, xs, _, _, _, rfl, wa, fun p hn => q _ W _ _ hp (same_go (Same.new hn)) (same_ok ok (Same.new hn)) ⟨p, _, rfl, ⟨ok.fresh hn, upd_same⟩, L2.Paired.mapP pr fun u x r => Z.Ty.go _ r (same_go (Same.new hn)).mv⟩⟩
open Y
abbrev yWeb (K : PySem.W.Frag) (C : Addr) : Y.Ty WebZ := Lift (tWeb K C)
abbrev yParts (K : PySem.W.Frag) : Y.Ty (List Str × List (Str × Str) × List (Str × Int)) := tL3 K (tTu K tStr) (tLs K (tT2 K tStr tStr)) (tDk kS tInt)
abbrev ctPlaces (K : PySem.W.Frag) (C : Addr) : Y.CT (List Str) := ⟨true, .sh (tLs K tStr), fun as P _ => ∃ z, as = [.sh (yWeb K C) z] ∧ ∀ os, P os z.ms⟩
abbrev ctTies (K : PySem.W.Frag) (C : Addr) : Y.CT (List (Str × Str)) := ⟨true, .sh (tLs K (tT2 K tStr tStr)), fun as P _ => ∃ z, as = [.sh (yWeb K C) z] ∧ ∀ os, P os z.us⟩
abbrev ctPrc (K : PySem.W.Frag) (C : Addr) : Y.CT Int := ⟨true, .sh tInt, fun as P _ => ∃ z x, as = [.sh (yWeb K C) z, .sh tStr x] ∧ x ∈ z.ms ∧ ∀ os, P os (prF z.ms z.qs x)⟩
theorem y_places (c : C8.Met P w K mg base 1 C "places" (spPlaces C) []) : C8.Met P w K mg base 1 C "places" (Y.spZ (ctPlaces K C)) [] :=
  met_z (z_places c) rfl (same_ls same_str) (fun _ => rfl) fun as P XP ⟨z, e, hp⟩ => ⟨_, fun r => r = z.ms, by rw [e]; exact .cons same_lift .nil, ⟨z, rfl, rfl⟩, fun x e os => by rw [e]; exact hp os⟩
theorem y_ties (c : C8.Met P w K mg base 1 C "ties" (spTies C) []) : C8.Met P w K mg base 1 C "ties" (Y.spZ (ctTies K C)) [] :=
  met_z (z_ties c) rfl (same_ls (same_t2 same_str same_str)) (fun _ => rfl) fun as P XP ⟨z, e, hp⟩ => ⟨_, fun r => r = z.us, by rw [e]; exact .cons same_lift .nil, ⟨z, rfl, rfl⟩, fun x e os => by rw [e]; exact hp os⟩
/-! ### draws -/
abbrev yDraw : Y.CT Int := ⟨false, .sh tInt, fun as P _ => ∃ n, as = [.sh tStm (), .sh tInt n] ∧ (0 < n ∧ n < 2 ^ 200) ∧ ∀ r, (0 ≤ r ∧ r < n) → ∀ os, P os r⟩
abbrev yStream (K : PySem.W.Frag) : Y.CT Unit := ⟨false, .sh tStm, fun as P _ => ∃ xs j, as = [.sh (tScr K) xs, .sh tInt j] ∧ (xs.length ≤ 1000 ∧ 0 ≤ j ∧ j ≤ 100) ∧ ∀ os, P os ()⟩
abbrev yName (K : PySem.W.Frag) : Y.CT Str := ⟨false, .sh tStr, fun as P _ => ∃ ys, as = [.sh tStm (), .sh (tLs K tStr) ys] ∧ ys.length ≤ 60 ∧ ∀ x, (NameOk x ∧ x ∉ ys) → ∀ os, P os x⟩
abbrev yAmount : Y.CT Int := ⟨false, .sh tInt, fun as P _ => ∃ n, as = [.sh tStm (), .sh tInt n] ∧ ∀ r, (1 ≤ r ∧ r ≤ 10 ^ 30) → ∀ os, P os r⟩
abbrev yWebL (K : PySem.W.Frag) (C : Addr) : Y.CT WebZ := ⟨true, .sh (yWeb K C), fun as P _ => ∃ p, as = [.sh (yParts K) p] ∧ PtsZ p ∧ ∀ r, (WfZ r ∧ WebOk p.1 (prP p) p.2.1 r.ms r.qs r.us) → ∀ os, P os r⟩
abbrev yCopy : Y.CT (List (Str × Int)) := ⟨true, .sh (tDk kS tInt), fun as P _ => ∃ d, as = [.sh (tDk kS tInt) d] ∧ ((d.map (·.1)).Nodup ∧ d.length ≤ 40) ∧ ∀ os, P os d⟩
abbrev yWithPrice (K : PySem.W.Frag) (C : Addr) : Y.CT WebZ := ⟨true, .sh (yWeb K C), fun as P _ => ∃ z x p, as = [.sh (yWeb K C) z, .sh tStr x, .sh tInt p] ∧ (x ∈ z.ms ∧ 1 ≤ p ∧ p ≤ 10 ^ 30) ∧ ∀ r, (WfZ z ∧ ∃ i, z.ms[i]? = some x ∧ WebOk z.ms (z.qs.set i p) z.us r.ms r.qs r.us) → ∀ os, P os r⟩
theorem y_draw (c : C8.Cal P w K mg base 1 "_law_draw" (Z.spZ ctDraw) []) : C8.Cal P w K mg base 1 "_law_draw" (Y.spZ yDraw) [] :=
  cal_z c rfl same_int (fun h => h) fun as P XP ⟨n, e, h, hp⟩ => ⟨_, fun r => 0 ≤ r ∧ r < n, by rw [e]; exact .cons same_stm (.cons same_int .nil), ⟨n, rfl, h, fun r hr => hr⟩, fun x hx os => hp x hx os⟩
theorem y_stream (c : C8.Cal P w K mg base 1 "_law_stream" (Z.spZ (ctStream K)) []) : C8.Cal P w K mg base 1 "_law_stream" (Y.spZ (yStream K)) [] :=
  cal_z c rfl same_stm (fun h => h) fun as P XP ⟨xs, j, e, h, hp⟩ => ⟨_, fun r => True, by rw [e]; exact .cons same_scr (.cons same_int .nil), ⟨xs, j, rfl, h, trivial⟩, fun x hx os => hp os⟩
theorem y_withprice (c : C8.Met P w K mg base 7 C "with_price" (Z.spZ (ctPrice K C)) []) : C8.Met P w K mg base 7 C "with_price" (Y.spZ (yWithPrice K C)) [] :=
  met_z c rfl same_lift (fun h => h) fun as P XP ⟨z, x, p, e, h, hp⟩ => ⟨_, fun r => WfZ z ∧ ∃ i, z.ms[i]? = some x ∧ WebOk z.ms (z.qs.set i p) z.us r.ms r.qs r.us, by rw [e]; exact .cons same_lift (.cons same_str (.cons same_int .nil)), ⟨z, x, p, rfl, h, fun r hr => hr⟩, fun x hx os => hp x hx os⟩
theorem instYW {m : Str} (h : m ≠ "_prices" ∧ m ≠ "_ties") : Y.Inst C m (yWeb K C) := fun W H v x ok r => by
  obtain ⟨_, o, dx, dp, tl, xs, rfl, h1, _⟩ := r
  have h1 := rdR.mp h1
  refine ⟨o, dx, _, rfl, ok.exact h1 (fun _ e => by cases e) (fun _ e => by cases e) (fun _ e => by cases e), ?_⟩
  have e1 : (m == ("_prices" : Str)) = false := beq_eq_false_iff_ne.mpr h.1
  have e2 : (m == ("_ties" : Str)) = false := beq_eq_false_iff_ne.mpr h.2
  rw [List.lookup_cons, e1, List.lookup_cons, e2]
  rfl
end
end KK
end

section
set_option maxRecDepth 100000
set_option maxHeartbeats 4000000
namespace KK
open PySem PySem.Spec PyProof.Rows L2 Y
/-! ### sides as one thing -/
structure SD where
  ns : List Str
  hs : List Int
  rs : List Int
  ls : List (List Int)
  arcs : List (Int × Int)
  tot : Int
abbrev fSd (K : PySem.W.Frag) (CS C : Addr) (d : SD) : OT Unit := oIns CS (fl6 K C d.ns d.hs d.rs d.ls d.arcs d.tot)
abbrev oSd (K : PySem.W.Frag) (CS C : Addr) : OT SD := oBox (fSd K CS C)
abbrev tSd (K : PySem.W.Frag) (CS C : Addr) : Y.Ty SD := tBox fun d => (fSd K CS C d).sv
abbrev ctSidesB (K : PySem.W.Frag) (CS C : Addr) : Y.CT Unit := ⟨true, .sh tNon, fun as P _ => ∃ (rows : List Row) (left right : List (Str × Int)), as = [.ow (oIns CS []) (), .sh (tLs K (tRow K)) rows, .sh (tDk kS tInt) left, .sh (tDk kS tInt) right] ∧
  ((left.map (·.1)).Nodup ∧ left.length ≤ 40 ∧ rows.length ≤ 400 ∧ (∀ p ∈ rows, p.1.1 ∈ left.map (·.1) ∧ p.2.1 ∈ left.map (·.1)) ∧ (∀ x ∈ left.map (·.1), ∃ v, lookK right x = some v ∧ 0 ≤ v) ∧ (∀ x ∈ left.map (·.1), 0 ≤ gD left x)) ∧
  ∀ hs rs0 rs ls tot lv, SidesR (left.map (·.1)) left right rows hs rs0 rs ls tot lv → ∀ r, P (.ow (oSd K CS C) ⟨left.map (·.1), hs, rs, ls, arcL left.length rows.length, tot⟩ :: r) ()⟩
abbrev yAnsB (K : PySem.W.Frag) (CS C : Addr) : Y.CT (List (Str × Int)) := ⟨false, .ow (oD kS tInt), fun as P _ => ∃ d, as = [.sh (tSd K CS C) d] ∧
  (d.ns.Nodup ∧ d.ns.length ≤ 40 ∧ Net (2 * d.ns.length + 2) d.hs d.rs d.ls) ∧ ∀ lv, Lev (2 * d.ns.length + 2) d.hs d.rs d.ls [2 * (d.ns.length : Int)] lv → ∀ os, P os (readOf d.ns (lv.map fun x => decide (0 ≤ x)))⟩
abbrev yRowB (K : PySem.W.Frag) (CS C : Addr) : Y.CT (List Int) := ⟨false, .ow (oL K tInt), fun as P _ => ∃ d, as = [.sh (tSd K CS C) d] ∧
  (d.arcs.length ≤ 1000 ∧ ∀ p ∈ d.arcs, (0 ≤ p.1 ∧ p.1 + 1 < d.rs.length) ∧ (0 ≤ p.2 ∧ p.2 + 1 < d.rs.length)) ∧ ∀ os, P os (d.arcs.map fun p => g0 d.rs (p.1 + 1) + g0 d.rs (p.2 + 1))⟩
/-! ### what a web's sides are -/
def prW (z : WebZ) (x : Str) : Int := prF z.ms z.qs x
def prD (z : WebZ) : List (Str × Int) := z.ms.map fun x => (x, prW z x)
theorem look_fun {f : Str → Int} {x : Str} : ∀ {l : List Str}, x ∈ l → lookK (l.map fun x => (x, f x)) x = some (f x)
  | [], h => by simp at h
  | a :: l, h => by
    rw [List.map_cons, look_cons]
    by_cases e : a = x
    · rw [if_pos e, e]
    · rw [if_neg e]
      exact look_fun ((List.mem_cons.mp h).resolve_left fun z => e z.symm)
def Opt (z : WebZ) (v : Int) : Prop := (∃ xv, AnsR z.ms (prW z) z.us v xv) ∧ ∃ ys, TieFl z.ms (prW z) z.us v ys
structure SofR (z : WebZ) (d : SD) : Prop where
  ns : d.ns = z.ms
  ar : d.arcs = arcL z.ms.length z.us.length
  sd : ∃ rs0 lv, SidesR z.ms (prD z) (prD z) (z.us.map tieRow) d.hs rs0 d.rs d.ls d.tot lv
/-! ### weak duality -/
theorem sum_mul {α : Type} (c : Int) (f : α → Int) : ∀ l : List α, (l.map fun x => c * f x).sum = c * (l.map f).sum
  | [] => by simp
  | a :: l => by simp only [List.map_cons, List.sum_cons, sum_mul c f l, Int.mul_add]
end KK
end

section
set_option maxRecDepth 100000
set_option maxHeartbeats 4000000
/-! name = {..: .. for ..} on one line -/
namespace L2
open PySem PySem.Spec PyProof.Rows
section
variable {X : Cx}
end
end L2
end

section
set_option maxRecDepth 100000
set_option maxHeartbeats 4000000
namespace KK
open PySem PySem.Spec PyProof.Rows L2 Y
abbrev yRows (K : PySem.W.Frag) (CW : Addr) : Y.CT (List Row) := ⟨true, .ow (oL K (tRow K)), fun as P _ => ∃ z, as = [.sh (yWeb K CW) z] ∧ WfZ z ∧ ∀ os, P os (z.us.map tieRow)⟩
abbrev ySof (K : PySem.W.Frag) (CW CS C : Addr) : Y.CT SD := ⟨true, .sh (tSd K CS C), fun as P _ => ∃ z, as = [.sh (yWeb K CW) z] ∧ WfZ z ∧ ∀ d, SofR z d → ∀ os, P os d⟩
abbrev yWorth (K : PySem.W.Frag) (CW : Addr) : Y.CT Int := ⟨true, .sh tInt, fun as P _ => ∃ z, as = [.sh (yWeb K CW) z] ∧ WfZ z ∧ ∀ v, Opt z v → ∀ os, P os v⟩
abbrev yAnsW (K : PySem.W.Frag) (CW : Addr) : Y.CT (List (Str × Int)) := ⟨true, .ow (oD kS tInt), fun as P _ => ∃ z, as = [.sh (yWeb K CW) z] ∧ WfZ z ∧ ∀ v xv, Opt z v → AnsR z.ms (prW z) z.us v xv → ∀ os, P os (z.ms.map fun x => (x, xv x))⟩
abbrev yTieP (K : PySem.W.Frag) (CW : Addr) : Y.CT (List ((Str × Str) × Int)) := ⟨true, .ow (oDP tInt), fun as P _ => ∃ z, as = [.sh (yWeb K CW) z] ∧ WfZ z ∧ ∀ v ys, Opt z v → TieFl z.ms (prW z) z.us v ys → ∀ os, P os (z.us.zip ys)⟩
section
variable {P : Program} {w : World} {K : PySem.W.Frag} {mg : Str → Option Value} {base : Heap} {C CS CW : Addr}
end
end KK
end

section
set_option maxRecDepth 100000
set_option maxHeartbeats 4000000
namespace KK
open PySem PySem.Spec PyProof.Rows L2 Y
/-! all least cuts: sets that no rest leaves -/
section
variable {ns : List Str} {left right : List (Str × Int)} {rows : List Row} {hs rs0 rs lv : List Int} {ls : List (List Int)} {tot : Int}
end
section
variable {ns : List Str} {pr : List (Str × Int)} {us : List (Str × Str)} {hs rs0 rs lv : List Int} {ls : List (List Int)} {tot : Int}
/-- the values of a set -/
def valS (ns : List Str) (S : Int → Bool) (x : Str) : Int := (if S (node ns (x, false)) = true then 0 else 1) + (if S (node ns (x, true)) = true then 1 else 0)
/-- the set of an answer -/
def setOf (ns : List Str) (g : Str → Int) (u : Int) : Bool := decide (u = 2 * (ns.length : Int) ∨ ∃ x ∈ ns, (u = node ns (x, false) ∧ g x ≤ 1) ∨ (u = node ns (x, true) ∧ 1 ≤ g x))
end
end KK
end

section
set_option maxRecDepth 100000
set_option maxHeartbeats 4000000
namespace KK
open PySem PySem.Spec PyProof.Rows L2 Y
section
variable {K : PySem.W.Frag}
theorem ev_draw {X : Xw} {k : Bool} {G : Ct} {E : XK} {tn : TE} {i : Nat} {P : Ct → Int → Prop} (e : G.s[i]? = some (.sh tStm ())) (h : Ev X k tn G tInt fun G1 n => (0 < n ∧ n < 2 ^ 200) ∧ ∀ r, 0 ≤ r → r < n → P G1 r) : Ev X k (tCall (Y.spZ yDraw) [] E (tCons (tVar i) (tCons tn tNil))) G tInt P :=
  ev_call0 (ea_cons (ev_var e (ea_cons (h.mono fun G1 n q => ea_nil ⟨fun h => (nomatch h), allc trivial (all1 trivial), n, rfl, q.1, fun r hr _ => q.2 r hr.1 hr.2⟩))))
theorem at_in {α : Type} {xs : List α} {i : Int} (h0 : 0 ≤ i) (h1 : i < xs.length) : ∃ x, atI xs i = some x ∧ x ∈ xs := by
  refine ⟨xs[i.toNat]'(by omega), ?_, List.getElem_mem _⟩
  unfold atI
  rw [ixN_in h0 h1]
  exact List.getElem?_eq_getElem _
end
abbrev yWide (K : PySem.W.Frag) : Y.CT (List Str × List (Str × Str) × List (Str × Int)) := ⟨true, .sh (yParts K), fun as P _ => ∃ lo hi tr, as = [.sh tStm (), .sh tInt lo, .sh tInt hi, .sh tInt tr] ∧ (1 ≤ lo ∧ lo ≤ hi ∧ hi ≤ 40 ∧ 0 ≤ tr ∧ tr ≤ 400) ∧ ∀ r, PtsZ r → ∀ os, P os r⟩
abbrev yLint : Y.CT Bool := ⟨false, .sh tBl, fun as P _ => ∃ i, as = [.sh tInt i] ∧ ∀ os, P os true⟩
abbrev yUp (K : PySem.W.Frag) : Y.CT (Str × Str) := ⟨false, .sh (tPr K), fun as P _ => ∃ p, as = [.sh (tPr K) p] ∧ ∀ os, P os (upP p)⟩
abbrev yCopyO : Y.CT (List (Str × Int)) := ⟨true, .ow (oD kS tInt), fun as P _ => ∃ d, as = [.sh (tDk kS tInt) d] ∧ ((d.map (·.1)).Nodup ∧ d.length ≤ 40) ∧ ∀ os, P os d⟩
section
variable {P : Program} {w : World} {K : PySem.W.Frag} {mg : Str → Option Value} {base : Heap}
abbrev NYLisinteger : List Str := ["_law_value"]
theorem scYLisinteger : FnScope NYLisinteger ["_law_value"] (defScope s_law_is_integer) := ⟨rfl, rfl, rfl, by decide +kernel, rfl, by decide +kernel, by decide +kernel⟩
theorem y_lint (T : Blt mg) (F : Has K mg "_law_is_integer" s_law_is_integer) : C8.Cal P w K mg base 1 "_law_is_integer" (Y.spZ yLint) [] := by
  refine calF F (fun f fd F => F.binds (ps := ["_law_value"]) fun _ _ _ _ _ _ us hl => match us, hl with | [_], _ => rfl) scYLisinteger (fun vs H Q E h => zlen (fun as P XP hc => by obtain ⟨_, rfl, _⟩ := hc; rfl) h) (fun f cdv A outer s H vs Q E hr h => ?_)
  have hu := hu_of hr
  refine ⟨_, (pss_one (ps_ret (pe_and (pe_callB call_isi (by rfl) T.b_isinstance (by decide +kernel) (pa_cons (pv 0) (pa_cons (pe_bltn (v := .ty "int") (by rfl) T.b_int (by decide +kernel) rfl) pa_nil))) (pe_one (pe_not (pe_callB call_isi (by rfl) T.b_isinstance (by decide +kernel) (pa_cons (pv 0) (pa_cons (pe_bltn (v := .ty "bool") (by rfl) T.b_bool (by decide +kernel) rfl) pa_nil)))))))), zrun h ?_⟩
  rintro as P XP ⟨i, rfl, hp⟩ hl
  obtain ⟨p0, rfl⟩ := len1 hl
  refine ⟨0, rfl, by decide, ?_⟩
  have ti : ∀ (W : Wd) (H : Hp) (v : V) (x : Int), OKW W H → (False → True) → tInt.R W H v x → TyX K H v (.type "int") := fun W H v x _ _ r => by cases r; exact .base (.int _)
  refine blk_ret (ev_and (ev_isi (A := "int") (b := true) (fun W H v x ok _ r => ti W H v x ok (fun z => z.elim) r) (by decide +kernel) (ev_var rfl ⟨rfl, fun _ => ev_not (ev_isi (A := "int") (b := false) (fun W H v x ok _ r => ti W H v x ok (fun z => z.elim) r) (by decide +kernel) (ev_var rfl ⟨rfl, fin0 [_] _ hp⟩)), fun h => (nomatch h)⟩)))
end
end KK
end

section
set_option maxRecDepth 100000
set_option maxHeartbeats 4000000
namespace KK
open PySem PySem.Spec PyProof.Rows L2 Y
section
variable {P : Program} {w : World} {K : PySem.W.Frag} {mg : Str → Option Value} {base : Heap}
theorem ordP_eq2 {q : Str × Str} {a b : Str} (h : ordP q = ordP (a, b)) : q = (a, b) ∨ q = (b, a) := by
  rcases ordP_cases q with e1 | e1 <;> rcases ordP_cases (a, b) with e2 | e2 <;> rw [e1, e2] at h
  · exact .inl h
  · exact .inr h
  · right
    have h1 := congrArg Prod.fst h
    have h2 := congrArg Prod.snd h
    exact Prod.ext h2 h1
  · left
    have h1 := congrArg Prod.fst h
    have h2 := congrArg Prod.snd h
    exact Prod.ext h2 h1
end
end KK
end

section
set_option maxRecDepth 100000
set_option maxHeartbeats 4000000
namespace KK
open PySem PySem.Spec PyProof.Rows L2 Y
abbrev ySpent (K : PySem.W.Frag) : Y.CT Int := ⟨false, .sh tInt, fun as P _ => ∃ p d, as = [.sh (yParts K) p, .sh (tDk kS tInt) d] ∧ (∀ x ∈ p.1, lookK p.2.2 x = some (gD p.2.2 x) ∧ lookK d x = some (gD d x) ∧ -(2 ^ 64) < gD d x ∧ gD d x < 2 ^ 64) ∧ ∀ os, P os ((p.1.map fun x => gD p.2.2 x * gD d x).sum)⟩
abbrev yAnsIs (K : PySem.W.Frag) : Y.CT Bool := ⟨true, .sh tBl, fun as P _ => ∃ p d, as = [.sh (yParts K) p, .sh (tDk kS tInt) d] ∧ (d.length = p.1.length ∧ (∀ x ∈ p.1, lookK d x = some (gD d x) ∧ 0 ≤ gD d x ∧ gD d x ≤ 2) ∧ ∀ e ∈ p.2.1, lookK d e.1 = some (gD d e.1) ∧ lookK d e.2 = some (gD d e.2) ∧ 2 ≤ gD d e.1 + gD d e.2) ∧ ∀ os, P os true⟩
section
variable {P : Program} {w : World} {K : PySem.W.Frag} {mg : Str → Option Value} {base : Heap}
end
end KK
end

section
set_option maxRecDepth 100000
set_option maxHeartbeats 4000000
namespace KK
open PySem PySem.Spec PyProof.Rows L2 Y
/-- what is put on x by the ties us -/
def loadU (f : Str × Str → Int) (us : List (Str × Str)) (x : Str) : Int := (us.map fun e => (if (upP e).1 = x then f e else 0) + (if (upP e).2 = x then f e else 0)).sum
structure PrsR (p : List Str × List (Str × Str) × List (Str × Int)) (y : List ((Str × Str) × Int)) (v : Int) (f : Str × Str → Int) : Prop where
  nd : p.1.Nodup
  hi : p.1.length ≤ 40
  pr : ∀ x ∈ p.1, lookK p.2.2 x = some (gD p.2.2 x)
  ln : y.length = p.2.1.length
  at_ : ∀ e ∈ p.2.1, lookK y (upP e) = some (f e) ∧ 0 ≤ f e ∧ (upP e).1 ∈ p.1 ∧ (upP e).2 ∈ p.1
  tt : (p.2.1.map f).sum = v
  lo : ∀ x ∈ p.1, loadU f p.2.1 x ≤ 2 * gD p.2.2 x
abbrev yPrs (K : PySem.W.Frag) : Y.CT Bool := ⟨true, .sh tBl, fun as P _ => ∃ p y v, as = [.sh (yParts K) p, .sh (tDP tInt) y, .sh tInt v] ∧ (∃ f, PrsR p y v f) ∧ ∀ os, P os true⟩
def atD (ns : List Str) (g : Str → Int) : List (Str × Int) := ns.map fun x => (x, g x)
theorem look_atD {ns : List Str} {g : Str → Int} {x : Str} (h : x ∈ ns) : lookK (atD ns g) x = some (g x) := look_fun h
section
variable {P : Program} {w : World} {K : PySem.W.Frag} {mg : Str → Option Value} {base : Heap}
end
end KK
end

section
set_option maxRecDepth 100000
set_option maxHeartbeats 4000000
namespace KK
open PySem PySem.Spec PyProof.Rows L2 Y
theorem look_ix {κ α : Type} [DecidableEq κ] {kvs : List (κ × α)} (hn : (kvs.map (·.1)).Nodup) {e : κ × α} (h : e ∈ kvs) : lookK kvs e.1 = some e.2 := by
  induction kvs with
  | nil => simp at h
  | cons z kvs ih =>
    obtain ⟨k, v⟩ := z
    rw [List.map_cons, List.nodup_cons] at hn
    rw [look_cons]
    rcases List.mem_cons.mp h with rfl | h
    · rw [if_pos rfl]
    · rw [if_neg fun z => hn.1 (by rw [show (k, v).1 = k from rfl, z]; exact List.mem_map_of_mem (f := (·.1)) h)]
      exact ih hn.2 h
theorem prF_ix {ns : List Str} {ps : List Int} (hn : ns.Nodup) (hl : ps.length = ns.length) {x : Str} {i : Nat} (h : ns[i]? = some x) : ps[i]? = some (prF ns ps x) := by
  obtain ⟨r, h1, h2⟩ := prK_some hn hl h
  have e : prF ns ps x = r := by unfold prF; rw [h2]
  rw [h1, e]
/-- a web stands for these parts -/
structure Mat (z : WebZ) (p : List Str × List (Str × Str) × List (Str × Int)) : Prop where
  wf : WfZ z
  pt : PtsZ p
  pm : z.ms.Perm p.1
  pu : z.us.Perm (p.2.1.map ordP)
  pr : ∀ x ∈ p.1, prW z x = gD p.2.2 x ∧ lookK p.2.2 x = some (gD p.2.2 x)
theorem pts_look {p : List Str × List (Str × Str) × List (Str × Int)} (h : PtsZ p) {x : Str} (hx : x ∈ p.1) : lookK p.2.2 x = some (gD p.2.2 x) ∧ prF (p.2.2.map (·.1)) (p.2.2.map (·.2)) x = gD p.2.2 x := by
  have hm : x ∈ p.2.2.map (·.1) := h.ks.mem_iff.mpr hx
  obtain ⟨e, he, rfl⟩ := List.mem_map.mp hm
  have l := look_ix h.kn he
  have g : gD p.2.2 e.1 = e.2 := by unfold gD; rw [l]; rfl
  refine ⟨by rw [g]; exact l, ?_⟩
  obtain ⟨i, hi⟩ := List.getElem?_of_mem he
  have := prF_ix (ps := p.2.2.map (·.2)) h.kn (by rw [List.length_map, List.length_map]) (i := i) (x := e.1) (by rw [List.getElem?_map, hi]; rfl)
  rw [List.getElem?_map, hi] at this
  rw [g]
  exact (Option.some.inj this).symm
theorem mat_web {z : WebZ} {p : List Str × List (Str × Str) × List (Str × Int)} (wf : WfZ z) (h : PtsZ p) (w : WebOk p.1 (prP p) p.2.1 z.ms z.qs z.us) : Mat z p := by
  refine ⟨wf, h, w.pm, w.pu, fun x hx => ?_⟩
  obtain ⟨l, g⟩ := pts_look h hx
  refine ⟨?_, l⟩
  rw [← g]
  have e1 : prW z x = prF p.1 (prP p) x := by
    unfold prW prF
    rw [w.pq x hx]
  rw [e1]
  obtain ⟨i, hi⟩ := List.getElem?_of_mem hx
  have := prF_ix (ps := prP p) h.no.nd (List.length_map ..) hi
  unfold prP at this ⊢
  rw [List.getElem?_map, hi] at this
  exact (Option.some.inj this).symm
theorem look_mapset {d : List (Str × Int)} {a x : Str} {v : Int} : lookK (d.map fun p => if p.1 = a then (p.1, v) else p) x = if a = x then (lookK d x).map fun _ => v else lookK d x := by
  induction d with
  | nil =>
    by_cases e : a = x
    · rw [if_pos e]; rfl
    · rw [if_neg e]; rfl
  | cons z d ih =>
    obtain ⟨k, w⟩ := z
    rw [List.map_cons]
    by_cases h : k = a
    · rw [if_pos h, look_cons, ih, look_cons]
      by_cases e : k = x
      · rw [if_pos e, if_pos e, if_pos (h.symm.trans e)]; rfl
      · rw [if_neg e, if_neg e]
    · rw [if_neg h, look_cons, ih, look_cons]
      by_cases e : k = x
      · rw [if_pos e, if_pos e, if_neg fun z => h (e.trans z.symm)]
      · rw [if_neg e, if_neg e]
theorem look_put {d : List (Str × Int)} {a x : Str} {v : Int} (h : (lookK d a).isSome = true) : lookK (putZ d a v) x = if a = x then some v else lookK d x := by
  unfold putZ
  rw [show hasK d a = true from h, if_pos rfl, look_mapset]
  by_cases e : a = x
  · rw [if_pos e, if_pos e, ← e]
    obtain ⟨y, hy⟩ := Option.isSome_iff_exists.mp h
    rw [hy]
    rfl
  · rw [if_neg e, if_neg e]
theorem put_keys {d : List (Str × Int)} {a : Str} {v : Int} (h : (lookK d a).isSome = true) : (putZ d a v).map (·.1) = d.map (·.1) := by
  unfold putZ
  rw [show hasK d a = true from h, if_pos rfl, List.map_map]
  refine List.map_congr_left fun p _ => ?_
  show (if p.1 = a then (p.1, v) else p).1 = p.1
  split <;> rfl
theorem gD_put {d : List (Str × Int)} {a x : Str} {v : Int} (h : (lookK d a).isSome = true) : gD (putZ d a v) x = if a = x then v else gD d x := by
  unfold gD
  rw [look_put h]
  split <;> rfl
/-- the prices of a tie, by its dict -/
def gP (y : List ((Str × Str) × Int)) (e : Str × Str) : Int := (lookK y e).getD 0
section
variable {z : WebZ} {p : List Str × List (Str × Str) × List (Str × Int)} {v : Int} {xv : Str → Int} {ys : List Int}
/-- the parts with another price -/
theorem Mat.price (M : Mat z p) {x : Str} {r : Int} {i : Nat} {z2 : WebZ} (hx : z.ms[i]? = some x) (r1 : 1 ≤ r) (r2 : r ≤ 10 ^ 30) (w : WebOk z.ms (z.qs.set i r) z.us z2.ms z2.qs z2.us) : Mat z2 (p.1, p.2.1, putZ p.2.2 x r) := by
  have hxp : x ∈ p.1 := M.pm.mem_iff.mp (List.mem_of_getElem? hx)
  have has : (lookK p.2.2 x).isSome = true := by rw [(M.pr x hxp).2]; rfl
  have P2 := pts_set M.wf.p i r1 r2
  refine ⟨wf_of w P2, ⟨M.pt.no, M.pt.to, ?_, fun e he => ?_⟩, w.pm.trans M.pm, ?_, fun y hy => ?_⟩
  · show ((putZ p.2.2 x r).map (·.1)).Perm p.1
    rw [put_keys has]
    exact M.pt.ks
  · have he : e ∈ putZ p.2.2 x r := he
    unfold putZ at he
    rw [show hasK p.2.2 x = true from has, if_pos rfl] at he
    obtain ⟨q, hq, rfl⟩ := List.mem_map.mp he
    show 1 ≤ (if q.1 = x then (q.1, r) else q).2 ∧ (if q.1 = x then (q.1, r) else q).2 ≤ 10 ^ 30
    split
    · exact ⟨r1, r2⟩
    · exact M.pt.po q hq
  · have e : z.us.map ordP = z.us := by
      conv => rhs; rw [← List.map_id z.us]
      exact List.map_congr_left fun e he => M.wf.fx e he
    have := w.pu
    rw [e] at this
    exact this.trans M.pu
  · show prW z2 y = gD (putZ p.2.2 x r) y ∧ lookK (putZ p.2.2 x r) y = some (gD (putZ p.2.2 x r) y)
    have hy : y ∈ p.1 := hy
    have hyz := M.pm.mem_iff.mpr hy
    obtain ⟨j, hj⟩ := List.getElem?_of_mem hyz
    have q1 := prF_ix M.wf.p.no.nd M.wf.p.pl hj
    have q2 := prF_ix P2.no.nd P2.pl hj
    have e1 : prW z2 y = prF z.ms (z.qs.set i r) y := by
      unfold prW prF
      rw [w.pq y hyz]
    rw [look_put has, gD_put has, e1]
    by_cases e : x = y
    · subst e
      have hij : i = j := by
        have := (List.getElem?_inj (List.getElem?_eq_some_iff.mp hx).1 M.wf.p.no.nd).mp (hx.trans hj.symm)
        exact this
      subst hij
      rw [List.getElem?_set_self (by have := (List.getElem?_eq_some_iff.mp hx).1; rw [M.wf.p.pl]; exact this)] at q2
      rw [if_pos rfl, if_pos rfl]
      exact ⟨(Option.some.inj q2).symm, rfl⟩
    · have hij : i ≠ j := fun z => e (by subst z; exact Option.some.inj (hx.symm.trans hj))
      rw [List.getElem?_set_ne hij, q1] at q2
      rw [if_neg e, if_neg e, ← (M.pr y hy).1]
      refine ⟨(Option.some.inj q2).symm, ?_⟩
      rw [(M.pr y hy).1]
      exact (M.pr y hy).2
end
end KK
end

section
set_option maxRecDepth 100000
set_option maxHeartbeats 4000000
namespace KK
open PySem PySem.Spec PyProof.Rows L2 Y
/-! answers, their cost, the best -/
section
variable {K : PySem.W.Frag} {mg : Str → Option Value} {CW : Addr}
theorem prK_paired {W : Y.Wd} {H : Hp} : ∀ (ms : List Str) (qs : List Int), Paired (fun (p : Key × V) (q : Str × Int) => p.1 = kS.k q.1 ∧ tInt.R W H p.2 q.2) (prK ms qs) (ms.zip qs)
  | [], _ => .nil
  | _ :: _, [] => .nil
  | m :: ms, q :: qs => by
    have ih := prK_paired (W := W) (H := H) ms qs
    unfold prK at ih ⊢
    rw [List.zip_cons_cons, List.map_cons]
    exact .cons ⟨rfl, rfl⟩ ih
theorem fo_prices (W : WebC K mg CW) : FldOf K "_prices" (yWeb K CW) (tDk kS tInt) fun z => z.ms.zip z.qs := fun Wd H v z r => by
  obtain ⟨_, o, dx, dp, tl, xs, rfl, h1, h2, _⟩ := r
  exact ⟨o, CW, dx, _, .ref dp, rfl, rdR.mp h1, W.cl, W.np, rfl, dp, _, rfl, rdR.mp h2, prK_paired _ _⟩
theorem look_zip {z : WebZ} (wf : WfZ z) {x : Str} (hx : x ∈ z.ms) : lookK (z.ms.zip z.qs) x = some (prW z x) := by
  obtain ⟨i, hi⟩ := List.getElem?_of_mem hx
  have q := prF_ix wf.p.no.nd wf.p.pl hi
  have hm : (x, prW z x) ∈ z.ms.zip z.qs := List.mem_of_getElem? (i := i) (List.getElem?_zip_eq_some.mpr ⟨hi, q⟩)
  exact look_ix (by rw [List.map_fst_zip (by rw [wf.p.pl]; exact Nat.le_refl _)]; exact wf.p.no.nd) hm
end
/-- a dict that is an answer -/
structure AnsD (z : WebZ) (d : List (Str × Int)) : Prop where
  pm : (d.map (·.1)).Perm z.ms
  r : ∀ x ∈ z.ms, lookK d x = some (gD d x) ∧ 0 ≤ gD d x ∧ gD d x ≤ 2
  t : ∀ e ∈ z.us, 2 ≤ gD d e.1 + gD d e.2
theorem AnsD.ln {z : WebZ} {d : List (Str × Int)} (h : AnsD z d) : d.length = z.ms.length := by
  have := h.pm.length_eq
  rwa [List.length_map] at this
abbrev yInt : Y.CT Bool := ⟨false, .sh tBl, fun as P _ => ∃ i, as = [.sh tInt i] ∧ ∀ os, P os true⟩
abbrev yBet : Y.CT Bool := ⟨false, .sh tBl, fun as P _ => ∃ i lo hi, as = [.sh tInt i, .sh tInt lo, .sh tInt hi] ∧ ∀ os, P os (decide (lo ≤ i) && decide (i ≤ hi))⟩
abbrev yJust (K : PySem.W.Frag) : Y.CT Bool := ⟨true, .sh tBl, fun as P _ => ∃ d ns, as = [.sh (tDk kS tInt) d, .sh (tLs K tStr) ns] ∧ (d.length = ns.length ∧ ns.length ≤ 1000 ∧ ∀ x ∈ ns, hasK d x = true) ∧ ∀ os, P os true⟩
abbrev yVals (K : PySem.W.Frag) : Y.CT Bool := ⟨true, .sh tBl, fun as P _ => ∃ d ns, as = [.sh (tDk kS tInt) d, .sh (tLs K tStr) ns] ∧ (d.length = ns.length ∧ ns.length ≤ 1000 ∧ ∀ x ∈ ns, lookK d x = some (gD d x) ∧ 0 ≤ gD d x ∧ gD d x ≤ 2) ∧ ∀ os, P os true⟩
abbrev yIsAns (K : PySem.W.Frag) (CW : Addr) : Y.CT Bool := ⟨true, .sh tBl, fun as P _ => ∃ z d, as = [.sh (yWeb K CW) z, .sh (tDk kS tInt) d] ∧ (WfZ z ∧ AnsD z d) ∧ ∀ os, P os true⟩
abbrev yCost (K : PySem.W.Frag) (CW : Addr) : Y.CT Int := ⟨true, .sh tInt, fun as P _ => ∃ z d, as = [.sh (yWeb K CW) z, .sh (tDk kS tInt) d] ∧ (WfZ z ∧ AnsD z d) ∧ ∀ os, P os ((z.ms.map fun x => prW z x * gD d x).sum)⟩
abbrev yBest (K : PySem.W.Frag) (CW : Addr) : Y.CT Bool := ⟨true, .sh tBl, fun as P _ => ∃ z d, as = [.sh (yWeb K CW) z, .sh (tDk kS tInt) d] ∧ (WfZ z ∧ AnsD z d) ∧ ∀ v, Opt z v → ∀ os, P os (decide ((z.ms.map fun x => prW z x * gD d x).sum = v))⟩
abbrev yAmong : Y.CT Bool := ⟨false, .sh tBl, fun as P _ => ∃ x d, as = [.sh tStr x, .sh (tDk kS tInt) d] ∧ ∀ os, P os (hasK d x)⟩
abbrev yNeed (K : PySem.W.Frag) (CW : Addr) : Y.CT Unit := ⟨false, .sh tNon, fun as P _ => ∃ z x, as = [.sh (yWeb K CW) z, .sh tStr x] ∧ (WfZ z ∧ x ∈ z.ms) ∧ ∀ os, P os ()⟩
abbrev yPrc2 (K : PySem.W.Frag) (CW : Addr) : Y.CT Int := ⟨false, .sh tInt, fun as P _ => ∃ z x, as = [.sh (yWeb K CW) z, .sh tStr x] ∧ (WfZ z ∧ x ∈ z.ms) ∧ ∀ os, P os (prW z x)⟩
section
variable {P : Program} {w : World} {K : PySem.W.Frag} {mg : Str → Option Value} {base : Heap} {CW : Addr}
abbrev NYisinteger : List Str := ["value"]
theorem scYisinteger : FnScope NYisinteger ["value"] (defScope s_is_integer) := ⟨rfl, rfl, rfl, by decide +kernel, rfl, by decide +kernel, by decide +kernel⟩
theorem y_int (T : Blt mg) (F : Has K mg "is_integer" s_is_integer) : C8.Cal P w K mg base 1 "is_integer" (Y.spZ yInt) [] := by
  refine calF F (fun f fd F => F.binds (ps := ["value"]) fun _ _ _ _ _ _ us hl => match us, hl with | [_], _ => rfl) scYisinteger (fun vs H Q E h => zlen (fun as P XP hc => by obtain ⟨_, rfl, _⟩ := hc; rfl) h) (fun f cdv A outer s H vs Q E hr h => ?_)
  have hu := hu_of hr
  refine ⟨_, (pss_one (ps_ret (pe_and (pe_callB call_isi (by rfl) T.b_isinstance (by decide +kernel) (pa_cons (pv 0) (pa_cons (pe_bltn (v := .ty "int") (by rfl) T.b_int (by decide +kernel) rfl) pa_nil))) (pe_one (pe_not (pe_callB call_isi (by rfl) T.b_isinstance (by decide +kernel) (pa_cons (pv 0) (pa_cons (pe_bltn (v := .ty "bool") (by rfl) T.b_bool (by decide +kernel) rfl) pa_nil)))))))), zrun h ?_⟩
  rintro as P XP ⟨i, rfl, hp⟩ hl
  obtain ⟨p0, rfl⟩ := len1 hl
  refine ⟨0, rfl, by decide, ?_⟩
  have ti : ∀ (W : Wd) (H : Hp) (v : V) (x : Int), tInt.R W H v x → TyX K H v (.type "int") := fun W H v x r => by cases r; exact .base (.int _)
  refine blk_ret (ev_and (ev_isi (A := "int") (b := true) (fun W H v x ok _ r => ti W H v x r) (by decide +kernel) (ev_var rfl ⟨rfl, fun _ => ev_not (ev_isi (A := "int") (b := false) (fun W H v x ok _ r => ti W H v x r) (by decide +kernel) (ev_var rfl ⟨rfl, fin0 [_] _ hp⟩)), fun h => (nomatch h)⟩)))
abbrev NYisbetween : List Str := ["value", "low", "high"]
theorem scYisbetween : FnScope NYisbetween ["value", "low", "high"] (defScope s_is_between) := ⟨rfl, rfl, rfl, by decide +kernel, rfl, by decide +kernel, by decide +kernel⟩
theorem y_bet (T : Blt mg) (F : Has K mg "is_between" s_is_between) (YINT : C8.Cal P w K mg base 1 "is_integer" (Y.spZ yInt) []) : C8.Cal P w K mg base 2 "is_between" (Y.spZ yBet) [] := by
  refine calF F (fun f fd F => F.binds (ps := ["value", "low", "high"]) fun _ _ _ _ _ _ us hl => match us, hl with | [_, _, _], _ => rfl) scYisbetween (fun vs H Q E h => zlen (fun as P XP hc => by obtain ⟨_, _, _, rfl, _⟩ := hc; rfl) h) (fun f cdv A outer s H vs Q E hr h => ?_)
  have hu := hu_of hr
  refine ⟨_, (pss_one (ps_ret (pe_and (C8.pe_c YINT hr (by decide) rfl (pa_cons (pv 0) pa_nil)) (pe_one (pe_chain op_le op_le (pv 1) (pv 0) (pv 2)))))), zrun h ?_⟩
  rintro as P XP ⟨i, lo, hi, rfl, hp⟩ hl
  obtain ⟨p0, p1, p2, rfl⟩ := len3 hl
  refine ⟨0, rfl, by decide, ?_⟩
  refine blk_ret (ev_and (ev_call0 (ea_cons (ev_var rfl (ea_nil ⟨fun h => (nomatch h), all1 trivial, i, rfl, fun _ => ⟨fun _ => ev_chain ro_B0 ro_B0 (ev_var rfl (ev_var rfl ⟨fun h1 => ev_var rfl ?_, fun h1 => ?_⟩)), fun h => (nomatch h)⟩⟩)))))
  · refine fin0 [_, _, _] _ fun os => ?_
    have := hp os
    rw [h1, Bool.true_and] at this
    exact this
  · refine fin0 [_, _, _] _ fun os => ?_
    have := hp os
    rw [h1, Bool.false_and] at this
    exact this
abbrev NYhasjust : List Str := ["value", "keys", "key"]
theorem scYhasjust : FnScope NYhasjust ["value", "keys"] (defScope s_has_just) := ⟨rfl, rfl, rfl, by decide +kernel, rfl, by decide +kernel, by decide +kernel⟩
theorem y_just (T : Blt mg) (F : Has K mg "has_just" s_has_just) : C8.Cal P w K mg base 1 "has_just" (Y.spZ (yJust K)) [] := by
  refine calF F (fun f fd F => F.binds (ps := ["value", "keys"]) fun _ _ _ _ _ _ us hl => match us, hl with | [_, _], _ => rfl) scYhasjust (fun vs H Q E h => zlen (fun as P XP hc => by obtain ⟨_, _, rfl, _⟩ := hc; rfl) h) (fun f cdv A outer s H vs Q E hr h => ?_)
  have hu := hu_of hr
  refine ⟨_, (pss_one (ps_ret (pe_and (pe_callB call_isi (by rfl) T.b_isinstance (by decide +kernel) (pa_cons (pv 0) (pa_cons (pe_bltn (v := .ty "dict") (by rfl) T.b_dict (by decide +kernel) rfl) pa_nil))) (pe_and (pe_cmpR op_eq (pe_callB call_lenD (by rfl) T.b_len PySem.boot_len (pa_cons (pv 0) pa_nil)) (pe_callB call_len (by rfl) T.b_len PySem.boot_len (pa_cons (pv 1) pa_nil)) (nomark _)) (pe_one (pe_callB (cr_all rfl) (by rfl) T.b_all (by decide +kernel) (pa_cons (pe_lc (own := [("key", 2)]) (g := gName 2) (tt := tYes) rfl scYhasjust.nd (pi_list (pv 1)) (blkOk_by (own := [("key", 2)]) (N := NYhasjust) (sc := defScope s_has_just) (by decide +kernel)) (fun _ _ _ _ _ => (pg_name (i := 2) scYhasjust.nd rfl (Or.inl rfl))) (fun _ _ _ _ _ => pts_nil) (fun _ _ _ _ _ => (pe_cmp (pc_din hu (pv 2) (pv 0)) rfl))) pa_nil))))))), zrun h ?_⟩
  rintro as P XP ⟨d, ns, rfl, ⟨hln, h1000, hh⟩, hp⟩ hl
  obtain ⟨p0, p1, rfl⟩ := len2 hl
  refine ⟨1, rfl, by decide, ?_⟩
  refine blk_ret (ev_and (ev_isi (A := "dict") (b := true) (fun W H v x ok _ r => ty_dK r) (by decide +kernel) (ev_var rfl ⟨rfl, fun _ => ?_, fun h => (nomatch h)⟩)))
  refine ev_and (ev_op ro_eqI (ev_cb rc_lenD (ev_var rfl ⟨fun _ => rfl, ev_cb rc_lenL (ev_var rfl ⟨fun h => (nomatch h), fun _ => ?_, fun h => ?_⟩)⟩)))
  · refine ev_cb rc_all (EvR.share (O := oL K tBl) (ev_lc (K := K) (vs := [2]) (ei_list (ev_var rfl ⟨(fun i ys => ys = (ns.take i).map fun _ => true), fits40 h1000, ?_, rfl, ?_, ?_⟩))))
    · intro i hi
      rw [List.mem_singleton] at hi; subst hi; exact free_of rfl
    · rintro i x ys hx rfl
      refine tg_name (by decide) (free_of rfl) (et_yes ⟨fun _ => ev_din kyS (ev_var rfl (ev_var rfl ?_)), fun h => (nomatch h)⟩)
      show (ns.take i).map _ ++ [hasK d x] = (ns.take (i + 1)).map _
      rw [hh x (List.mem_of_getElem? hx), List.take_succ, hx, List.map_append]
      rfl
    · rintro ys rfl
      refine ⟨fun h => (nomatch h), ?_⟩
      rw [show (((ns.take ns.length).map fun _ => true).all id) = true from by simp]
      exact fin0 [_, _] _ hp
  · rw [hln] at h
    simp at h
abbrev NYhasvalues : List Str := ["value", "names", "name"]
theorem scYhasvalues : FnScope NYhasvalues ["value", "names"] (defScope s_has_values) := ⟨rfl, rfl, rfl, by decide +kernel, rfl, by decide +kernel, by decide +kernel⟩
theorem y_vals (T : Blt mg) (F : Has K mg "has_values" s_has_values) (YJUST : C8.Cal P w K mg base 1 "has_just" (Y.spZ (yJust K)) []) (YBET : C8.Cal P w K mg base 2 "is_between" (Y.spZ yBet) []) : C8.Cal P w K mg base 3 "has_values" (Y.spZ (yVals K)) [] := by
  refine calF F (fun f fd F => F.binds (ps := ["value", "names"]) fun _ _ _ _ _ _ us hl => match us, hl with | [_, _], _ => rfl) scYhasvalues (fun vs H Q E h => zlen (fun as P XP hc => by obtain ⟨_, _, rfl, _⟩ := hc; rfl) h) (fun f cdv A outer s H vs Q E hr h => ?_)
  have hu := hu_of hr
  refine ⟨_, (pss_one (ps_ret (pe_and (C8.pe_c YJUST hr (by decide) rfl (pa_cons (pv 0) (pa_cons (pv 1) pa_nil))) (pe_one (pe_callB (cr_all rfl) (by rfl) T.b_all (by decide +kernel) (pa_cons (pe_lc (own := [("name", 2)]) (g := gName 2) (tt := tYes) rfl scYhasvalues.nd (pi_list (pv 1)) (blkOk_by (own := [("name", 2)]) (N := NYhasvalues) (sc := defScope s_has_values) (by decide +kernel)) (fun _ _ _ _ _ => (pg_name (i := 2) scYhasvalues.nd rfl (Or.inl rfl))) (fun _ _ _ _ _ => pts_nil) (fun _ _ _ _ _ => (C8.pe_c YBET hr (by decide) rfl (pa_cons (pe_dget hu (pv 0) (pv 2) (fun _ _ => rfl)) (pa_cons pe_int (pa_cons pe_int pa_nil)))))) pa_nil)))))), zrun h ?_⟩
  rintro as P XP ⟨d, ns, rfl, ⟨hln, h1000, hh⟩, hp⟩ hl
  obtain ⟨p0, p1, rfl⟩ := len2 hl
  refine ⟨1, rfl, by decide, ?_⟩
  refine blk_ret (ev_and (ev_call0 (ea_cons (ev_var rfl (ea_cons (ev_var rfl (ea_nil ⟨fun _ => rfl, allc trivial (all1 trivial), d, ns, rfl, ⟨hln, h1000, fun x hx => ?_⟩, fun _ => ⟨fun _ => ?_, fun h => (nomatch h)⟩⟩)))))))
  · unfold hasK
    rw [(hh x hx).1]
    rfl
  · refine ev_cb rc_all (EvR.share (O := oL K tBl) (ev_lc (K := K) (vs := [2]) (ei_list (ev_var rfl ⟨(fun i ys => ys = (ns.take i).map fun _ => true), fits40 h1000, ?_, rfl, ?_, ?_⟩))))
    · intro i hi
      rw [List.mem_singleton] at hi; subst hi; exact free_of rfl
    · rintro i x ys hx rfl
      obtain ⟨c1, c2, c3⟩ := hh x (List.mem_of_getElem? hx)
      refine tg_name (by decide) (free_of rfl) (et_yes ⟨fun _ => ev_call0 (ea_cons (ev_dget kyS (ev_var rfl (ev_var rfl ⟨_, c1, ea_cons (ev_c (t := tInt) (fun _ _ => rfl) (ea_cons (ev_c (t := tInt) (fun _ _ => rfl) (ea_nil ⟨fun h => (nomatch h), allc trivial (allc trivial (all1 trivial)), _, _, _, rfl, fun _ => ?_⟩))))⟩)))), fun h => (nomatch h)⟩)
      show (ns.take i).map _ ++ [decide (0 ≤ gD d x) && decide (gD d x ≤ 2)] = (ns.take (i + 1)).map _
      rw [decide_eq_true c2, decide_eq_true c3, List.take_succ, hx, List.map_append]
      rfl
    · rintro ys rfl
      refine ⟨fun h => (nomatch h), ?_⟩
      rw [show (((ns.take ns.length).map fun _ => true).all id) = true from by simp]
      exact fin0 [_, _] _ hp
end
end KK
end

section
set_option maxRecDepth 100000
set_option maxHeartbeats 4000000
namespace KK
open PySem PySem.Spec PyProof.Rows L2 Y
section
variable {P : Program} {w : World} {K : PySem.W.Frag} {mg : Str → Option Value} {base : Heap} {CW : Addr}
abbrev NYisamong : List Str := ["value", "names"]
theorem scYisamong : FnScope NYisamong ["value", "names"] (defScope s_is_among) := ⟨rfl, rfl, rfl, by decide +kernel, rfl, by decide +kernel, by decide +kernel⟩
theorem y_among (T : Blt mg) (F : Has K mg "is_among" s_is_among) : C8.Cal P w K mg base 1 "is_among" (Y.spZ yAmong) [] := by
  refine calF F (fun f fd F => F.binds (ps := ["value", "names"]) fun _ _ _ _ _ _ us hl => match us, hl with | [_, _], _ => rfl) scYisamong (fun vs H Q E h => zlen (fun as P XP hc => by obtain ⟨_, _, rfl, _⟩ := hc; rfl) h) (fun f cdv A outer s H vs Q E hr h => ?_)
  have hu := hu_of hr
  refine ⟨_, (pss_one (ps_ret (pe_and (pe_callB call_isi (by rfl) T.b_isinstance (by decide +kernel) (pa_cons (pv 0) (pa_cons (pe_bltn (v := .ty "str") (by rfl) T.b_str (by decide +kernel) rfl) pa_nil))) (pe_one (pe_cmp (pc_din hu (pv 0) (pv 1)) rfl))))), zrun h ?_⟩
  rintro as P XP ⟨x, d, rfl, hp⟩ hl
  obtain ⟨p0, p1, rfl⟩ := len2 hl
  refine ⟨0, rfl, by decide, ?_⟩
  refine blk_ret (ev_and (ev_isi (A := "str") (b := true) (fun W H v x ok _ r => by cases r; exact .base (.str _)) (by decide +kernel) (ev_var rfl ⟨rfl, fun _ => ev_din kyS (ev_var rfl (ev_var rfl (fin0 [_, _] _ hp))), fun h => (nomatch h)⟩)))
abbrev NYWebneed : List Str := ["self", "place"]
theorem scYWebneed : FnScope NYWebneed ["self", "place"] (defScope s_Web_need) := ⟨rfl, rfl, rfl, by decide +kernel, rfl, by decide +kernel, by decide +kernel⟩
theorem y_need (T : Blt mg) (CC : WebC K mg CW) (F : HasM K CW "_need" "Web._need" s_Web_need) (YAMONG : C8.Cal P w K mg base 1 "is_among" (Y.spZ yAmong) []) : C8.Met P w K mg base 2 CW "_need" (Y.spZ (yNeed K CW)) [] := by
  refine metF CC.cl F (fun f fd F => F.binds (ps := ["self", "place"]) fun _ _ _ _ _ _ us hl => match us, hl with | [_, _], _ => rfl) scYWebneed (fun vs H Q E h => zlen (fun as P XP hc => by obtain ⟨_, _, rfl, _⟩ := hc; rfl) h) (fun f cdv A outer s H vs Q E hr h => ?_)
  have hu := hu_of hr
  refine ⟨_, (pss_one (ps_if (pt_not (pt_val (C8.pe_c YAMONG hr (by decide) rfl (pa_cons (pv 1) (pa_cons (pe_fld (pv 0) rfl) pa_nil))))) pss_never pss_nil)), zrun h ?_⟩
  rintro as P XP ⟨z, x, rfl, ⟨wf, hx⟩, hp⟩ hl
  obtain ⟨p0, p1, rfl⟩ := len2 hl
  refine ⟨0, rfl, by decide, ?_⟩
  have hh : hasK (z.ms.zip z.qs) x = true := by unfold hasK; rw [look_zip wf hx]; rfl
  refine blk_if (et_not (et_b (ev_call0 (ea_cons (ev_var rfl (ea_cons (ev_fld (fo_prices CC) (ev_var rfl (ea_nil ⟨fun h => (nomatch h), allc trivial (all1 trivial), x, _, rfl, fun _ => ⟨fun h => blk_never (by rw [hh] at h; cases h), fun _ => blk_next ⟨(), ?_, fun _ _ => rfl⟩⟩⟩)))))))))
  exact fin0 [_, _] _ hp
abbrev NYWebprice : List Str := ["self", "place"]
abbrev NYisanswer : List Str := ["web", "x", "a", "b"]
theorem scYisanswer : FnScope NYisanswer ["web", "x"] (defScope s_is_answer) := ⟨rfl, rfl, rfl, by decide +kernel, rfl, by decide +kernel, by decide +kernel⟩
theorem y_isans (T : Blt mg) (F : Has K mg "is_answer" s_is_answer) (YVALS : C8.Cal P w K mg base 3 "has_values" (Y.spZ (yVals K)) []) (YPLACES : C8.Met P w K mg base 1 CW "places" (Y.spZ (ctPlaces K CW)) []) (YTIES : C8.Met P w K mg base 1 CW "ties" (Y.spZ (ctTies K CW)) []) : C8.Cal P w K mg base 4 "is_answer" (Y.spZ (yIsAns K CW)) [] := by
  refine calF F (fun f fd F => F.binds (ps := ["web", "x"]) fun _ _ _ _ _ _ us hl => match us, hl with | [_, _], _ => rfl) scYisanswer (fun vs H Q E h => zlen (fun as P XP hc => by obtain ⟨_, _, rfl, _⟩ := hc; rfl) h) (fun f cdv A outer s H vs Q E hr h => ?_)
  have hu := hu_of hr
  refine ⟨_, (pss_one (ps_ret (pe_and (C8.pe_c YVALS hr (by decide) rfl (pa_cons (pv 1) (pa_cons (C8.pe_mt0 YPLACES hr (by decide) (pv 0)) pa_nil))) (pe_one (pe_callB (cr_all rfl) (by rfl) T.b_all (by decide +kernel) (pa_cons (pe_lc (own := [("a", 2), ("b", 3)]) (g := gTup K 2 (gCons (gName 2) (gCons (gName 3) gNil))) (tt := tYes) rfl scYisanswer.nd (pi_list (C8.pe_mt0 YTIES hr (by decide) (pv 0))) (blkOk_by (own := [("a", 2), ("b", 3)]) (N := NYisanswer) (sc := defScope s_is_answer) (by decide +kernel)) (fun _ _ _ _ _ => (pg_tup rfl (pgs_cons (pg_name (i := 2) scYisanswer.nd rfl (Or.inl rfl)) (pgs_cons (pg_name (i := 3) scYisanswer.nd rfl (Or.inl rfl)) pgs_nil)))) (fun _ _ _ _ _ => pts_nil) (fun _ _ _ _ _ => (pe_cmpR op_ge (pe_op op_add (pe_dget hu (pv 1) (pv 2) (fun _ _ => rfl)) (pe_dget hu (pv 1) (pv 3) (fun _ _ => rfl))) pe_int (nomark _)))) pa_nil)))))), zrun h ?_⟩
  rintro as P XP ⟨z, d, rfl, ⟨wf, A⟩, hp⟩ hl
  obtain ⟨p0, p1, rfl⟩ := len2 hl
  refine ⟨2, rfl, by decide, ?_⟩
  have h40 := wf.p.no.hi
  have h400 := wf.p.to.hi
  refine blk_ret (ev_and (ev_call0 (ea_cons (ev_var rfl (ea_cons (ev_meth0 (instYW (by decide)) (ev_var rfl (ea_nil ⟨fun _ => rfl, all1 trivial, z, rfl, fun _ => ea_nil ⟨fun _ => rfl, allc trivial (all1 trivial), d, z.ms, rfl, ⟨A.ln, by omega, A.r⟩, fun _ => ⟨fun _ => ?_, fun h => (nomatch h)⟩⟩⟩))))))))
  refine ev_cb rc_all (EvR.share (O := oL K tBl) (ev_lc (K := K) (vs := [2, 3]) (ei_list (ev_meth0 (instYW (by decide)) (ev_var rfl (ea_nil ⟨fun _ => rfl, all1 trivial, z, rfl, fun _ => ⟨(fun i ys => ys = (z.us.take i).map fun _ => true), fits40 (by omega), ?_, rfl, ?_, ?_⟩⟩))))))
  · intro i hi
    rcases List.mem_cons.mp hi with rfl | hi
    · exact free_of rfl
    · rw [List.mem_singleton] at hi; subst hi; exact free_of rfl
  · rintro i e ys hx rfl
    have hm := List.mem_of_getElem? hx
    have t := wf.p.to.ok e hm
    have a := A.t e hm
    refine tg_tup2 (tg_name (by decide) (free_of rfl) (tg_name (by decide) (free_of rfl) (et_yes ⟨fun _ => ev_op ro_B0 (ev_op ro_I0 (ev_dget kyS (ev_var rfl (ev_var rfl ⟨_, (A.r _ t.a).1, ev_dget kyS (ev_var rfl (ev_var rfl ⟨_, (A.r _ t.b).1, ev_c (t := tInt) (fun _ _ => rfl) ?_⟩))⟩)))), fun h => (nomatch h)⟩)))
    show (z.us.take i).map _ ++ [decide _] = (z.us.take (i + 1)).map _
    rw [List.take_succ, hx, List.map_append]
    congr 2
    exact decide_eq_true a
  · rintro ys rfl
    refine ⟨fun h => (nomatch h), ?_⟩
    rw [show (((z.us.take z.us.length).map fun _ => true).all id) = true from by simp]
    exact fin0 [_, _] _ hp
end
end KK
end

section
set_option maxRecDepth 100000
set_option maxHeartbeats 4000000
/-! a + b by the class's own __add__, where it raises nothing; p[i] of a pair, i drawn -/
namespace Y
open PySem PySem.Spec PyProof.Rows L2
section
variable {α ρ : Type} {X : Xw} {k : Bool} {G : Ct} {t : Ty α} {c : CT ρ} {K : PySem.W.Frag}
end
end Y
end

section
set_option maxRecDepth 100000
set_option maxHeartbeats 4000000
namespace KK
open PySem PySem.Spec PyProof.Rows L2 Y
abbrev yTruth : Y.CT Bool := ⟨false, .sh tBl, fun as P _ => ∃ a b, as = [.sh tBl a, .sh tBl b] ∧ ∀ os, P os (decide (a = b))⟩
structure SomeR (p : List Str × List (Str × Str) × List (Str × Int)) (g : Str → Int) : Prop where
  r : ∀ x, 0 ≤ g x ∧ g x ≤ 2
  t : ∀ e ∈ p.2.1, 2 ≤ g e.1 + g e.2
abbrev ySome (K : PySem.W.Frag) : Y.CT (List (Str × Int)) := ⟨true, .sh (tDk kS tInt), fun as P _ => ∃ p, as = [.sh tStm (), .sh (yParts K) p] ∧ PtsZ p ∧ ∀ g, SomeR p g → ∀ os, P os (atD p.1 g)⟩
abbrev yBoth : Y.CT (List (Str × Int)) := ⟨true, .sh (tDk kS tInt), fun as P _ => ∃ xs ys g h, as = [.sh (tDk kS tInt) (atD xs g), .sh (tDk kS tInt) (atD ys h)] ∧ ((xs ++ ys).Nodup ∧ xs.length ≤ 40 ∧ ys.length ≤ 40) ∧ ∀ os, P os (atD (xs ++ ys) fun x => if x ∈ xs then g x else h x)⟩
abbrev yPart (K : PySem.W.Frag) : Y.CT (List (Str × Int)) := ⟨true, .sh (tDk kS tInt), fun as P _ => ∃ ns xs g, as = [.sh (tDk kS tInt) (atD ns g), .sh (tTu K tStr) xs] ∧ (xs.Nodup ∧ xs.length ≤ 40 ∧ ∀ x ∈ xs, x ∈ ns) ∧ ∀ os, P os (atD xs g)⟩
theorem atD_keys (ns : List Str) (g : Str → Int) : (atD ns g).map (·.1) = ns := by
  unfold atD
  rw [List.map_map]
  exact List.map_id _
theorem atD_len (ns : List Str) (g : Str → Int) : (atD ns g).length = ns.length := List.length_map ..
section
variable {P : Program} {w : World} {K : PySem.W.Frag} {mg : Str → Option Value} {base : Heap}
end
end KK
end

section
set_option maxRecDepth 100000
set_option maxHeartbeats 4000000
namespace KK
open PySem PySem.Spec PyProof.Rows L2 Z
/-! what a call has made anew is the caller's own -/
section
variable {ρ α : Type} {F : Fx ρ} {G : Ct} {N B C : Ct → Prop} {t : Z.Ty α} {K : PySem.W.Frag}
end
end KK
end

section
set_option maxRecDepth 100000
set_option maxHeartbeats 4000000
namespace KK
open PySem PySem.Spec PyProof.Rows L2 Z
abbrev ctMany (K : PySem.W.Frag) : CT (List Str) := ⟨false, tLs K tStr, fun as P _ => ∃ n, as = [.sh tInt n] ∧ (0 ≤ n ∧ n ≤ 78) ∧ ∀ r, (r.Nodup ∧ (∀ x ∈ r, NameOk x) ∧ (r.length : Int) = n) → P r⟩
abbrev ctBlock (K : PySem.W.Frag) : CT (List Str × List (Str × Str) × List (Str × Int)) := ⟨true, tParts K, fun as P _ => ∃ ns n, as = [.sh (tLs K tStr) ns, .sh tInt n] ∧ (NsOk ns ∧ n ≤ 400) ∧ ∀ r, (PtsZ r ∧ r.1 = ns ∧ (r.2.1.length : Int) ≤ max n 0) → P r⟩
abbrev DueZ : Type := (Str × Str) ⊕ ((Str × Int) ⊕ (Str × (List Str × List (Str × Str) × List (Str × Int))))
/-- what two parts give, added -/
def dueZ (p q : List Str × List (Str × Str) × List (Str × Int)) (r : DueZ) : Prop :=
  (∃ x, r = .inl ("CommonPlace", x) ∧ x ∈ p.1 ∧ x ∈ q.1 ∧ ∀ y ∈ p.1, y ∈ q.1 → Own.ltS y x = false) ∨
  ((∀ x ∈ p.1, x ∉ q.1) ∧ ((40 < p.1.length + q.1.length ∧ r = .inr (.inl ("TooMany", 40))) ∨
    (p.1.length + q.1.length ≤ 40 ∧ ((400 < p.2.1.length + q.2.1.length ∧ r = .inr (.inl ("TooMany", 400))) ∨ (p.2.1.length + q.2.1.length ≤ 400 ∧ r = .inr (.inr ("web", (p.1 ++ q.1, p.2.1 ++ q.2.1, p.2.2 ++ q.2.2))))))))
abbrev ctLDue (K : PySem.W.Frag) : CT DueZ := ⟨true, tSum (tL2 K tStr tStr) (tSum (tL2 K tStr tInt) (tL2 K tStr (tParts K))), fun as P _ => ∃ p q, as = [.sh (tParts K) p, .sh (tParts K) q] ∧ (PtsZ p ∧ PtsZ q) ∧ ∀ r, dueZ p q r → P r⟩
def abcN : List Str := chars "abcdefghijklmnopqrstuvwxyz"
def allN : List Str := (chars "kbz").flatMap fun y => abcN.map fun x => x ++ y
section
variable {P : Program} {w : World} {K : PySem.W.Frag} {mg : Str → Option Value} {base : Heap}
end
end KK
end

section
set_option maxRecDepth 100000
set_option maxHeartbeats 4000000
namespace KK
open PySem PySem.Spec PyProof.Rows L2 Z
abbrev ctApart (K : PySem.W.Frag) : CT (List Str × List (Str × Str) × List (Str × Int)) := ⟨true, tParts K, fun as P _ => ∃ p lo hi, as = [.sh tStm (), .sh (tParts K) p, .sh tInt lo, .sh tInt hi] ∧ (PtsZ p ∧ 1 ≤ lo ∧ lo ≤ hi ∧ hi ≤ 9) ∧ ∀ r, (PtsZ r ∧ (r.1.length : Int) ≤ hi ∧ (p.1 ++ r.1).Nodup) → P r⟩
abbrev ctCommon (K : PySem.W.Frag) : CT (List Str × List (Str × Str) × List (Str × Int)) := ⟨true, tParts K, fun as P _ => ∃ p q, as = [.sh tStm (), .sh (tParts K) p, .sh (tParts K) q] ∧ (PtsZ p ∧ PtsZ q ∧ q.1.length ≤ 37) ∧ ∀ r, PtsZ r → P r⟩
/-- names told anew, one after another -/
structure Turn (p d : List Str × List (Str × Str) × List (Str × Int)) (i : Nat) (tn : List (Str × Str)) (ps : List (Str × Int)) : Prop where
  hk : tn.map (·.1) = d.1.take i
  us : (p.1 ++ tn.map (·.2)).Nodup
  ok : ∀ x ∈ tn.map (·.2), NameOk x
  pk : ps.map (·.1) = tn.map (·.2)
  po : ∀ e ∈ ps, 1 ≤ e.2 ∧ e.2 ≤ 10 ^ 30
abbrev TurnR (tn : List (Str × Str)) : Str × Str → List (Str × Str) → Prop := fun x l => ∃ a b, lookK tn x.1 = some a ∧ lookK tn x.2 = some b ∧ l = [(a, b)]
section
variable {P : Program} {w : World} {K : PySem.W.Frag} {mg : Str → Option Value} {base : Heap}
end
end KK
end

section
set_option maxRecDepth 100000
set_option maxHeartbeats 4000000
namespace Z
open PySem PySem.Spec PyProof.Rows L2 KK
section
variable {K : PySem.W.Frag} {C : Addr} {mg : Str → Option Value} {X : Xw} {G : Ct}
def TrT {α : Type} (t : Z.Ty α) (f : α → Bool) : Prop := ∀ W H v x, OKW W H → t.R W H v x → TruV K v H (f x)
end
end Z
namespace KK
open PySem PySem.Spec PyProof.Rows L2 Z
abbrev ctWebOf (K : PySem.W.Frag) (C : Addr) : CT WebZ := ⟨true, tWeb K C, fun as P _ => ∃ d us, as = [.sh (tDk kS tInt) d, .sh (tLs K (tT2 K tStr tStr)) us] ∧ (NsOk (d.map (·.1)) ∧ TsOk (d.map (·.1)) us ∧ PrOk (d.map (·.2))) ∧ ∀ r, (WfZ r ∧ WebOk (d.map (·.1)) (d.map (·.2)) us r.ms r.qs r.us) → P r⟩
abbrev ctAdd (K : PySem.W.Frag) (C CP CM : Addr) : CT WebZ := ⟨true, tWeb K C, fun as P XP => ∃ z y, as = [.sh (tWeb K C) z, .sh (tWeb K C) y] ∧ (WfZ z ∧ WfZ y) ∧
  (∀ x, x ∈ z.ms → x ∈ y.ms → (∀ w ∈ z.ms, w ∈ y.ms → Own.ltS w x = false) → XP ⟨CP, some [("place", .sh tStr x)]⟩) ∧
  ((∀ x ∈ z.ms, x ∉ y.ms) → 40 < z.ms.length + y.ms.length → XP ⟨CM, some [("limit", .sh tInt 40)]⟩) ∧
  ((∀ x ∈ z.ms, x ∉ y.ms) → z.ms.length + y.ms.length ≤ 40 → 400 < z.us.length + y.us.length → XP ⟨CM, some [("limit", .sh tInt 400)]⟩) ∧
  ∀ r, ((∀ x ∈ z.ms, x ∉ y.ms) ∧ z.ms.length + y.ms.length ≤ 40 ∧ z.us.length + y.us.length ≤ 400 ∧ WfZ r ∧ WebOk (z.ms ++ y.ms) (z.qs ++ y.qs) (z.us ++ y.us) r.ms r.qs r.us) → P r⟩
section
variable {P : Program} {w : World} {K : PySem.W.Frag} {mg : Str → Option Value} {base : Heap} {C CP CM fP fM : Addr} {eP eM : PySem.Err1.EP}
abbrev NWebadd : List Str := ["self", "other", "common", "place"]
end
end KK
end

section
set_option maxRecDepth 100000
set_option maxHeartbeats 4000000
namespace KK
open PySem PySem.Spec PyProof.Rows L2 Z
structure Cmn (q : List Str × List (Str × Str) × List (Str × Int)) (i : Nat) (ns : List Str) (ps : List (Str × Int)) : Prop where
  nd : ns.Nodup
  ok : ∀ x ∈ ns, NameOk x
  sub : ∀ x ∈ q.1, x ∈ ns
  ln : ns.length ≤ q.1.length + i
  lo : 1 ≤ ns.length
  pk : (ps.map (·.1)).Perm ns
  po : ∀ e ∈ ps, 1 ≤ e.2 ∧ e.2 ≤ 10 ^ 30
section
variable {P : Program} {w : World} {K : PySem.W.Frag} {mg : Str → Option Value} {base : Heap} {C : Addr}
end
end KK
end

section
set_option maxRecDepth 100000
set_option maxHeartbeats 4000000
namespace KK
open PySem PySem.Spec PyProof.Rows L2 Y
abbrev yPartsC (K : PySem.W.Frag) : Y.CT (List Str × List (Str × Str) × List (Str × Int)) := ⟨true, .sh (yParts K), fun as P _ => ∃ lo hi, as = [.sh tStm (), .sh tInt lo, .sh tInt hi] ∧ (1 ≤ lo ∧ lo ≤ hi ∧ hi ≤ 19) ∧ ∀ r, (PtsZ r ∧ (r.1.length : Int) ≤ hi) → ∀ os, P os r⟩
abbrev yApart (K : PySem.W.Frag) : Y.CT (List Str × List (Str × Str) × List (Str × Int)) := ⟨true, .sh (yParts K), fun as P _ => ∃ p lo hi, as = [.sh tStm (), .sh (yParts K) p, .sh tInt lo, .sh tInt hi] ∧ (PtsZ p ∧ 1 ≤ lo ∧ lo ≤ hi ∧ hi ≤ 9) ∧ ∀ r, (PtsZ r ∧ (r.1.length : Int) ≤ hi ∧ (p.1 ++ r.1).Nodup) → ∀ os, P os r⟩
abbrev yAdd (K : PySem.W.Frag) (C : Addr) : Y.CT WebZ := ⟨true, .sh (yWeb K C), fun as P _ => ∃ z y, as = [.sh (yWeb K C) z, .sh (yWeb K C) y] ∧ (WfZ z ∧ WfZ y ∧ (∀ x ∈ z.ms, x ∉ y.ms) ∧ z.ms.length + y.ms.length ≤ 40 ∧ z.us.length + y.us.length ≤ 400) ∧ ∀ r, (WfZ r ∧ WebOk (z.ms ++ y.ms) (z.qs ++ y.qs) (z.us ++ y.us) r.ms r.qs r.us) → ∀ os, P os r⟩
section
variable {P : Program} {w : World} {K : PySem.W.Frag} {mg : Str → Option Value} {base : Heap} {C CP CM : Addr}
end
/-! ### joined webs -/
def costZ (z : WebZ) (g : Str → Int) : Int := (z.ms.map fun x => prW z x * g x).sum
structure Ansf (z : WebZ) (g : Str → Int) : Prop where
  r : ∀ x ∈ z.ms, 0 ≤ g x ∧ g x ≤ 2
  t : ∀ e ∈ z.us, 2 ≤ g e.1 + g e.2
structure Join (z y J : WebZ) : Prop where
  wf : WfZ J
  nd : (z.ms ++ y.ms).Nodup
  pm : J.ms.Perm (z.ms ++ y.ms)
  pu : J.us.Perm (z.us ++ y.us)
  pz : ∀ x ∈ z.ms, prW J x = prW z x
  py : ∀ x ∈ y.ms, prW J x = prW y x
section
variable {z y J : WebZ}
end
end KK
end

section
set_option maxRecDepth 100000
set_option maxHeartbeats 4000000
namespace KK
open PySem PySem.Spec PyProof.Rows L2 Y
def starts1 (ns : List Str) (x : Str) (i : Int) : List Int := if i < 2 then [2 * (ns.length : Int)] ++ [node ns (x, false)] else [2 * (ns.length : Int)]
def startsOf (ns : List Str) (x : Str) (i : Int) : List Int := if 0 < i then starts1 ns x i ++ [node ns (x, true)] else starts1 ns x i
/-- a best answer of cost v -/
abbrev BestA (z : WebZ) (v : Int) (g : Str → Int) : Prop := AnsR z.ms (prW z) z.us v g
inductive AwR (z : WebZ) (v : Int) (x : Str) (i : Int) : Option (List (Str × Int)) → Prop where
  | no : (∀ g, BestA z v g → g x ≠ i) → AwR z v x i none
  | yes (g : Str → Int) : BestA z v g → g x = i → AwR z v x i (some (atD z.ms g))
abbrev ctAw (K : PySem.W.Frag) (CS C : Addr) : Y.CT (Option (List (Str × Int))) := ⟨false, .sh (tOpt (tDk kS tInt)), fun as P _ => ∃ (z : WebZ) (d : SD) (x : Str) (i : Int), as = [.sh (tSides K CS C d.ns d.hs d.rs d.ls d.arcs d.tot) (), .sh tStr x, .sh tInt i] ∧ (WfZ z ∧ SofR z d ∧ x ∈ z.ms ∧ 0 ≤ i ∧ i ≤ 2) ∧ ∀ o, AwR z d.tot x i o → ∀ os, P os o⟩
abbrev yAw (K : PySem.W.Frag) (CS C : Addr) : Y.CT (Option (List (Str × Int))) := ⟨false, .sh (tOpt (tDk kS tInt)), fun as P _ => ∃ (z : WebZ) (d : SD) (x : Str) (i : Int), as = [.sh (tSd K CS C) d, .sh tStr x, .sh tInt i] ∧ (WfZ z ∧ SofR z d ∧ x ∈ z.ms ∧ 0 ≤ i ∧ i ≤ 2) ∧ ∀ o, AwR z d.tot x i o → ∀ os, P os o⟩
section
variable {ns : List Str} {x : Str} {i : Int}
end
section
variable {P : Program} {w : World} {K : PySem.W.Frag} {mg : Str → Option Value} {base : Heap} {C CS : Addr}
end
end KK
end

section
set_option maxRecDepth 100000
set_option maxHeartbeats 4000000
/-! {} with pairs as keys, d[p] = v; min of two -/
namespace Y
open PySem PySem.Spec PyProof.Rows L2
section
variable {α ρ : Type} {X : Xw} {k : Bool} {G : Ct} {t : Ty α} {K : PySem.W.Frag}
end
section
variable {α ρ : Type} {F : Fx ρ} {G : Ct} {N B C : Ct → Prop} {t : Ty α} {K : PySem.W.Frag}
end
end Y
end

section
set_option maxRecDepth 100000
set_option maxHeartbeats 4000000
/-! a list [a, b, c] of one's own, its third one's own too -/
namespace Y
open PySem PySem.Spec PyProof.Rows L2
section
variable {α β γ : Type}
def oL3 (K : PySem.W.Frag) (t : Ty α) (u : Ty β) (O : OT γ) : OT (α × β × γ) where
  R p W H v x := ∃ a v1 v2 v3, v = .ref a ∧ W a = .ow p ∧ H a = some (.lst [v1, v2, v3]) ∧ t.R W H v1 x.1 ∧ u.R W H v2 x.2.1 ∧ O.R (p ++ [2]) W H v3 x.2.2
  sv := tL3 K t u O.sv
  mv := by
    rintro p p' W W' H H' v x ⟨a, v1, v2, v3, e, w, h, r1, r2, r3⟩ kk m
    obtain ⟨w1, h1⟩ := kk a _ [] (by rw [List.append_nil]; exact w) h
    refine ⟨a, v1, v2, v3, e, by rw [List.append_nil] at w1; exact w1, h1, t.go r1 m, u.go r2 m, O.mv r3 (fun b o q w e => ?_) m⟩
    have := kk b o ([2] ++ q) (by rw [← List.append_assoc]; exact w) e
    rwa [← List.append_assoc] at this
  fz := by
    rintro p W W' H H' v x ⟨a, v1, v2, v3, e, w, h, r1, r2, r3⟩ kk m
    obtain ⟨w1, h1⟩ := kk a _ [] (by rw [List.append_nil]; exact w) h
    exact ⟨a, v1, v2, v3, e, ⟨w1, h1⟩, t.go r1 m, u.go r2 m, O.fz r3 (fun b o q w e => kk b o ([2] ++ q) (by rw [← List.append_assoc]; exact w) e) m⟩
variable {G : Ct} {K : PySem.W.Frag} {t : Ty α} {u : Ty β}
end
end Y
end

section
set_option maxRecDepth 100000
set_option maxHeartbeats 4000000
/-! a list of three made with an own third; dicts with pairs as keys, walked; a string in a pair -/
namespace Y
open PySem PySem.Spec PyProof.Rows L2
section
variable {α β γ κ ρ : Type} {t : Ty α} {u : Ty β} {X : Xw} {k : Bool} {G : Ct} {K : PySem.W.Frag}
end

section
variable {α β γ : Type} {t : Ty α} {u : Ty β} {X : Xw} {k : Bool} {G : Ct} {K : PySem.W.Frag}
/-- what is new and hangs nowhere hangs as the third item of what is new -/
def push2 (W : Wd) : Wd := fun b => match W b with
  | .ow (j :: r) => if j = tmp then .ow (tmp :: 2 :: r) else .ow (j :: r)
  | w => w
end
end Y
namespace Y
open PySem PySem.Spec PyProof.Rows L2
section
variable {K : PySem.W.Frag}
end
end Y
namespace Y
open PySem PySem.Spec PyProof.Rows L2
section
variable {α : Type} {X : Xw} {k : Bool} {G : Ct} {t : Ty α} {K : PySem.W.Frag}
end
end Y
namespace Y
open PySem PySem.Spec PyProof.Rows L2
section
variable {α β γ : Type} {X : Xw} {k : Bool} {G : Ct} {t : Ty α} {u : Ty β} {K : PySem.W.Frag}
end
end Y
end

section
set_option maxRecDepth 100000
set_option maxHeartbeats 4000000
/-! x in (a, b, ..) where equality is told by what is held -/
namespace L2
open PySem PySem.Spec PyProof.Rows
def rInDT (K : PySem.W.Frag) : R2 := fun x y H Q => ∃ d ds, Dp K H x d ∧ Dp K H y (.tuple ds) ∧ SeqAt.shaped d = true ∧ SeqAt.shaped (.list ds) = true ∧ Q (.bl (ds.any fun z => PyData.eqv z d)) H
end L2
end

section
set_option maxRecDepth 100000
set_option maxHeartbeats 4000000
/-! lists of ints, of texts: equality -/
namespace Y
open PySem PySem.Spec PyProof.Rows L2
section
variable {K : PySem.W.Frag}
end
end Y
end

section
set_option maxRecDepth 100000
set_option maxHeartbeats 4000000
namespace KK
open PySem PySem.Spec PyProof.Rows L2 Y
/-- some best answer gives x the value i -/
noncomputable def canB (z : WebZ) (v : Int) (x : Str) (i : Int) : Bool := @decide (∃ g, BestA z v g ∧ g x = i) (Classical.propDecidable _)
/-- the values of a place -/
noncomputable def possL (z : WebZ) (v : Int) (x : Str) : List Int := [0, 1, 2].filter (canB z v x)
noncomputable def possD (z : WebZ) (v : Int) : List (Str × List Int) := z.ms.map fun x => (x, possL z v x)
noncomputable def kerL (z : WebZ) (v : Int) : List Str := z.ms.filter fun x => decide (possL z v x = [1])
noncomputable def fixD (z : WebZ) (v : Int) : List (Str × Int) := (z.ms.filter fun x => decide (possL z v x ∈ [[0], [2]])).map fun x => (x, (possL z v x).headD 0)
noncomputable def looL (z : WebZ) (v : Int) : List Str := z.ms.filter fun x => canB z v x 0 && canB z v x 2
abbrev yPoss (K : PySem.W.Frag) (CS C : Addr) : Y.CT (List (Str × List Int)) := ⟨false, .ow (oD kS (tLs K tInt)), fun as P _ => ∃ (z : WebZ) (d : SD), as = [.sh (tSd K CS C) d] ∧ (WfZ z ∧ SofR z d) ∧ ∀ os, P os (possD z d.tot)⟩
abbrev yHalves (K : PySem.W.Frag) (CS C : Addr) : Y.CT (List Str) := ⟨false, .ow (oL K tStr), fun as P _ => ∃ (z : WebZ) (d : SD), as = [.sh (tSd K CS C) d] ∧ (WfZ z ∧ SofR z d) ∧ ∀ os, P os (kerL z d.tot)⟩
abbrev yFixM (K : PySem.W.Frag) (CS C : Addr) : Y.CT (List (Str × Int)) := ⟨false, .ow (oD kS tInt), fun as P _ => ∃ (z : WebZ) (d : SD), as = [.sh (tSd K CS C) d] ∧ (WfZ z ∧ SofR z d) ∧ ∀ os, P os (fixD z d.tot)⟩
abbrev yKernel (K : PySem.W.Frag) (CW : Addr) : Y.CT (List Str) := ⟨true, .ow (oL K tStr), fun as P _ => ∃ z, as = [.sh (yWeb K CW) z] ∧ WfZ z ∧ ∀ v, Opt z v → ∀ os, P os (kerL z v)⟩
abbrev yFixed (K : PySem.W.Frag) (CW : Addr) : Y.CT (List (Str × Int)) := ⟨true, .ow (oD kS tInt), fun as P _ => ∃ z, as = [.sh (yWeb K CW) z] ∧ WfZ z ∧ ∀ v, Opt z v → ∀ os, P os (fixD z v)⟩
abbrev yLoose (K : PySem.W.Frag) (CW : Addr) : Y.CT (List Str) := ⟨true, .ow (oL K tStr), fun as P _ => ∃ z, as = [.sh (yWeb K CW) z] ∧ WfZ z ∧ ∀ v, Opt z v → ∀ os, P os (looL z v)⟩
theorem filter_snoc {α : Type} {p : α → Bool} {l : List α} {i : Nat} {x : α} (h : l[i]? = some x) : (l.take (i + 1)).filter p = (l.take i).filter p ++ if p x then [x] else [] := by
  rw [List.take_succ, h, List.filter_append]
  congr 1
  show [x].filter p = _
  rw [List.filter_cons]
  rfl
theorem nnD : ∀ W H v x, (tDk kS tInt).R W H v x → v ≠ .non := fun _ _ _ _ ⟨_, _, e, _⟩ z => by rw [e] at z; cases z
section
variable {P : Program} {w : World} {K : PySem.W.Frag} {mg : Str → Option Value} {base : Heap} {C CS CW : Addr}
end
end KK
end

section
set_option maxRecDepth 100000
set_option maxHeartbeats 4000000
/-! a op b op c op d -/
namespace L2
open PySem PySem.Spec PyProof.Rows
variable {X : Cx} {a b c d : Expr} {ta tb tc td : TE} {pos : Pos}
def tChain3 (r r' r'' : R2) (ta tb tc td : TE) : TE := fun σ H Q => ta σ H fun x H1 => tb σ H1 fun y H2 => r x y H2 fun z H3 => ∃ k, z = .bl k ∧
  (if k = true then tc σ H3 fun w H4 => r' y w H4 fun z2 H5 => ∃ k2, z2 = .bl k2 ∧ (if k2 = true then td σ H5 fun w2 H6 => r'' w w2 H6 Q else Q (.bl false) H5) else Q (.bl false) H3)
end L2
end

section
set_option maxRecDepth 100000
set_option maxHeartbeats 4000000
/-! x in o by the class's own __contains__; a chain of three comparisons of ints -/
namespace Y
open PySem PySem.Spec PyProof.Rows L2
section
variable {α β : Type} {X : Xw} {k : Bool} {G : Ct} {t : Ty α} {u : Ty β} {c : CT Bool} {K : PySem.W.Frag}
end
end Y
end

section
set_option maxRecDepth 100000
set_option maxHeartbeats 4000000
namespace KK
open PySem PySem.Spec PyProof.Rows L2 Y
abbrev yHas (K : PySem.W.Frag) (CW : Addr) : Y.CT Bool := ⟨false, .sh tBl, fun as P _ => ∃ z x, as = [.sh (yWeb K CW) z, .sh tStr x] ∧ WfZ z ∧ ∀ os, P os (decide (x ∈ z.ms))⟩
abbrev yCan (K : PySem.W.Frag) (CW : Addr) : Y.CT Bool := ⟨true, .sh tBl, fun as P _ => ∃ z x i, as = [.sh (yWeb K CW) z, .sh tStr x, .sh tInt i] ∧ (WfZ z ∧ x ∈ z.ms ∧ 0 ≤ i ∧ i ≤ 2) ∧ ∀ v, Opt z v → ∀ os, P os (canB z v x i)⟩
section
variable {P : Program} {w : World} {K : PySem.W.Frag} {mg : Str → Option Value} {base : Heap} {C CS CW : Addr}
abbrev NYWebcontains : List Str := ["self", "x"]
end
end KK
end

section
set_option maxRecDepth 100000
set_option maxHeartbeats 4000000
/-! own dicts of flat things -/
namespace Y
open PySem PySem.Spec PyProof.Rows L2
end Y
end

section
set_option maxRecDepth 100000
set_option maxHeartbeats 4000000
/-! len(o) by the class's own __len__; not xs as a value -/
namespace Y
open PySem PySem.Spec PyProof.Rows L2
section
variable {α β : Type} {X : Xw} {k : Bool} {G : Ct} {t : Ty α} {c : CT Int} {K : PySem.W.Frag}
end
end Y
end

section
set_option maxRecDepth 100000
set_option maxHeartbeats 4000000
/-! max of two; len of a pair -/
namespace Y
open PySem PySem.Spec PyProof.Rows L2
section
variable {α β : Type} {X : Xw} {k : Bool} {G : Ct} {t : Ty α} {u : Ty β} {K : PySem.W.Frag}
end
end Y
end

section
set_option maxRecDepth 100000
set_option maxHeartbeats 4000000
/-! dicts that hold the same, to be read: != -/
namespace Own
open PySem PySem.Spec PyProof.Rows L2
def rNeDS : R2 := fun x y H Q => ∃ a b ks ls, x = .ref a ∧ y = .ref b ∧ Rd H a (.dK ks) ∧ Rd H b (.dK ls) ∧ ks.length = ls.length ∧ (∀ p ∈ ks, valV ls p.1 = some p.2 ∧ sameB p.2 = true) ∧ Q (.bl false) H

theorem op_ne_dictS {X : Cx} (hu : X.A.units < cLine) : OpR X (compareOp .NotEq) rNeDS := by
  intro pins s σ H x y v u Q I rx ry h
  obtain ⟨a, b, ks, ls, rfl, rfl, ea, eb, hlen, hp, q⟩ := h
  obtain rfl : v = Value.ref a := rx
  obtain rfl : u = Value.ref b := ry
  have ok : ∀ {c : Addr} {us : List (Key × V)}, Rd H c (.dK us) → ObjOk X.prog X.w H s.heap c (.dK us) := fun {c us} r => by
    rcases r with h | ⟨od, h⟩
    · exact I.hok c _ h
    · exact (show ObjOk X.prog X.w H s.heap c (.frz od (.dK us)) from I.hok c _ h).2
  obtain ⟨_, ya, va, ra, da⟩ := ok ea
  obtain ⟨_, yb, vb, rb, db⟩ := ok eb
  have hl : va.length = vb.length := by rw [← ra.length, ← rb.length]; exact hlen
  refine PySem.W.keq_ne (knd := mixKind X.prog X.w) (r := true) ya yb da db hu (fun _ => hits_sameB rb ra hp) ?_
  have e : (!(va.length == vb.length && true)) = false := by rw [hl]; simp
  rw [e]
  exact ⟨.bl false, H, I, rfl, q⟩
end Own
end

section
set_option maxRecDepth 100000
set_option maxHeartbeats 4000000
/-! dicts alike -/
namespace Y
open PySem PySem.Spec PyProof.Rows L2
section
variable {K : PySem.W.Frag} {κ : Type} [DecidableEq κ] {ke : Ky κ}
/-- the one holds what the other holds -/
def LikeD (xs ys : List (κ × Int)) : Prop := xs.length = ys.length ∧ ∀ p ∈ xs, lookK ys p.1 = some p.2
theorem prd_mem {A B : Type} {R : A → B → Prop} {ws : List A} {xs : List B} (p : Paired R ws xs) : ∀ w ∈ ws, ∃ x ∈ xs, R w x := by
  induction p with
  | nil => exact fun _ h => nomatch h
  | cons r _ ih =>
    intro w h
    rcases List.mem_cons.mp h with rfl | h
    · exact ⟨_, List.mem_cons_self .., r⟩
    · obtain ⟨x, hx, e⟩ := ih w h
      exact ⟨x, List.mem_cons_of_mem _ hx, e⟩
theorem ro_neDI : RO Own.rNeDS (tDk ke tInt) (tDk ke tInt) (.sh tBl) (fun x y P => LikeD x y ∧ P false) := by
  rintro W H v w x y Q P ok ⟨a, ws, rfl, ra, pa⟩ ⟨b, us, rfl, rb, pb⟩ ⟨⟨hl, hk⟩, c⟩ q
  refine ⟨a, b, ws, us, rfl, rfl, ra.rd, rb.rd, by rw [show ws.length = x.length from pa.length, show us.length = y.length from pb.length]; exact hl, fun p hp => ?_, q _ W H _ c .refl ok rfl⟩
  obtain ⟨r, hr, e, rr⟩ := prd_mem pa p hp
  have := hk r hr
  rcases val_paired (t := tInt) pb r.1 with ⟨h, _⟩ | ⟨x2, v2, h, g, r2⟩
  · rw [h] at this; cases this
  · rw [h] at this
    injection this with this
    have e1 : p.2 = .int r.2 := rr
    have e2 : v2 = .int x2 := r2
    rw [e, g, e1, e2, this]
    exact ⟨rfl, rfl⟩
end
end Y
end

section
set_option maxRecDepth 100000
set_option maxHeartbeats 4000000
/-! a pair whose second is one's own; a thing of one's own or None -/
namespace Y
open PySem PySem.Spec PyProof.Rows L2
section
variable {α γ : Type}
def oT2 (K : PySem.W.Frag) (t : Ty α) (O : OT γ) : OT (α × γ) where
  R p W H v x := ∃ a v1 v2, v = .ref a ∧ SqTW K W H a [v1, v2] ∧ t.R W H v1 x.1 ∧ O.R p W H v2 x.2
  sv := tT2 K t O.sv
  mv := by
    rintro p p' W W' H H' v x ⟨a, v1, v2, e, sq, r1, r2⟩ kk m
    exact ⟨a, v1, v2, e, sq.mv m, t.go r1 m, O.mv r2 kk m⟩
  fz := by
    rintro p W W' H H' v x ⟨a, v1, v2, e, sq, r1, r2⟩ kk m
    exact ⟨a, v1, v2, e, sq.mv m, t.go r1 m, O.fz r2 kk m⟩
def oOpt (O : OT γ) : OT (Option γ) where
  R p W H v x := match x with
    | none => v = .non
    | some y => O.R p W H v y
  sv := tOpt O.sv
  mv := by
    rintro p p' W W' H H' v (_ | y) r kk m
    · exact r
    · exact O.mv (x := y) r kk m
  fz := by
    rintro p W W' H H' v (_ | y) r kk m
    · exact r
    · exact O.fz (x := y) r kk m
variable {X : Xw} {k : Bool} {G : Ct} {K : PySem.W.Frag} {t : Ty α}
theorem ev_nonO {O : OT γ} {P : Ct → Option γ → Prop} (p : P G none) : EvR X k (tC .non) G (.ow (oOpt O)) P := fun W H σ Q hs ex q => q .non W H G none p (.refl hs) rfl
theorem ev_someO {te : TE} {O : OT γ} {P : Ct → Option γ → Prop} (h : EvR X k te G (.ow O) fun G x => P G (some x)) : EvR X k te G (.ow (oOpt O)) P := fun W H σ Q hs ex q => h W H σ Q hs ex fun v W1 H1 G1 x p m r => q v W1 H1 G1 (some x) p m r
end
end Y
end

section
set_option maxRecDepth 100000
set_option maxHeartbeats 4000000
/-! an own dict that a list holds too -/
namespace Y
open PySem PySem.Spec PyProof.Rows L2
/-- an own dict, its address told -/
def oDA : OT (Addr × List (Str × Int)) where
  R p W H v x := v = .ref x.1 ∧ (oD kS tInt).R p W H v x.2
  sv := ⟨fun W H v x => v = .ref x.1 ∧ (tDk kS tInt).R W H v x.2, fun r m => ⟨r.1, (tDk kS tInt).go r.2 m⟩⟩
  mv := fun r kk m => ⟨r.1, (oD kS tInt).mv r.2 kk m⟩
  fz := fun r kk m => ⟨r.1, (oD kS tInt).fz r.2 kk m⟩
section
variable {ρ : Type} {X : Xw} {k : Bool} {G : Ct} {F : Fx ρ} {N B C : Ct → Prop} {K : PySem.W.Frag}
/-- a list of three whose third is told by its address -/
def tRing (K : PySem.W.Frag) : Ty (List Str × List (Str × Str) × Addr) := ⟨fun W H v x => ∃ a v1 v2, v = .ref a ∧ SqW K W H a [v1, v2, .ref x.2.2] ∧ (tTu K tStr).R W H v1 x.1 ∧ (tLs K (tT2 K tStr tStr)).R W H v2 x.2.1, fun r m => by
  obtain ⟨a, v1, v2, e, sq, r1, r2⟩ := r
  exact ⟨a, v1, v2, e, sq.mv m, (tTu K tStr).go r1 m, (tLs K (tT2 K tStr tStr)).go r2 m⟩⟩
end
end Y
end

section
set_option maxRecDepth 100000
set_option maxHeartbeats 4000000
/-! dict(d): a copy -/
namespace Own
open PySem PySem.Spec PyProof.Rows L2
def rDictD : List V → Hp → VK → Prop := fun xs H Q => ∃ p kvs, xs = [.ref p] ∧ Rd H p (.dK kvs) ∧ ∀ q, H q = none → Q (.ref q) (upd H q (.dK kvs))
theorem call_dict_dK {X : Cx} : CallR X (.type "dict") rDictD := by
  intro pins s σ H xs us Q I r h
  obtain ⟨p, kvs, e, hk, q⟩ := h
  subst e
  obtain ⟨u, eu, rx⟩ := vals1 r
  subst eu
  obtain rfl : u = Value.ref p := rx
  exact d_copyOf I hk fun b s' hb I' => ⟨.ref b, _, I', rfl, q b hb⟩
end Own
end

section
set_option maxRecDepth 100000
set_option maxHeartbeats 4000000
/-! dict(d) -/
namespace Y
open PySem PySem.Spec PyProof.Rows L2
section
variable {κ α : Type} {ke : Ky κ} {t : Ty α}
theorem rc_dictD : RC1 Own.rDictD (tDk ke t) (.ow (oD ke t)) false (fun xs P => P xs) := by
  rintro W H v x Q P ok _ ⟨a, ws, rfl, rd, p⟩ c q
  refine ⟨a, ws, rfl, rd.rd, fun b hb => ?_⟩
  obtain ⟨g, ok'⟩ := newT ok hb (o := .dK ws) trivial
  exact q _ _ _ _ c g ok' ⟨b, ws, rfl, setW_same, upd_same, L2.Paired.mapP p fun u x r => ⟨r.1, t.mvE r.2 g⟩⟩
end
end Y
end

section
set_option maxRecDepth 100000
set_option maxHeartbeats 4000000
/-! {x: y} of two variables -/
namespace Y
open PySem PySem.Spec PyProof.Rows L2
section
variable {X : Xw} {k : Bool} {G : Ct}
end
end Y
end

section
set_option maxRecDepth 100000
set_option maxHeartbeats 4000000
/-! dicts that hold the same, to be read: == -/
namespace Own
open PySem PySem.Spec PyProof.Rows L2
def rEqDS : R2 := fun x y H Q => ∃ a b ks ls, x = .ref a ∧ y = .ref b ∧ Rd H a (.dK ks) ∧ Rd H b (.dK ls) ∧ ks.length = ls.length ∧ (∀ p ∈ ks, valV ls p.1 = some p.2 ∧ sameB p.2 = true) ∧ Q (.bl true) H
end Own
end

section
set_option maxRecDepth 100000
set_option maxHeartbeats 4000000
/-! dicts alike: == -/
namespace Y
open PySem PySem.Spec PyProof.Rows L2
section
variable {κ : Type} [DecidableEq κ] {ke : Ky κ}
end
end Y
end

section
set_option maxRecDepth 100000
set_option maxHeartbeats 4000000
/-! xs.append(e) where e changes other things of one's own -/
namespace Y
open PySem PySem.Spec PyProof.Rows L2
section
variable {α ρ : Type} {F : Fx ρ} {G : Ct} {N B C : Ct → Prop} {t : Ty α} {K : PySem.W.Frag}
end
end Y
end

section
set_option maxRecDepth 100000
set_option maxHeartbeats 4000000
/-! try with several clauses, 'except X as n' and 'except X', mixed -/
namespace Own
open PySem PySem.Spec PyProof.Rows L2
/-- a body asked of its errors (kept as it stands) -/
def ap (tb : WX → TS) (W : WX) : TS := tb W
structure Hn where
  cl : Value
  i : Option Nat
  ts : Addr → Value → Option Addr → TS
def wEv (K : PySem.W.Frag) (Wo : WX) (D : Ends) : List Hn → WX
  | [] => Wo
  | z :: r => fun q d τ J => ∃ b, PySem.W.exmOne K q z.cl = some b ∧ (b = true → ∀ e, J e = none → match z.i with
      | some i => z.ts e q d (ends i D) (τ.set i (some (.ref e))) J
      | none => z.ts e q d D τ J) ∧ (b = false → wEv K Wo D r q d τ J)
def tryAp (K : PySem.W.Frag) (Wo : WX) (tb : WX → TS) (r : List Hn) : TS := fun D τ J => tb (wEv K Wo D r) D τ J
inductive Evs (X : Cx) : List ExceptHandler → List Hn → Prop
  | nil : Evs X [] []
  | cons {n : Str} {i : Nat} {y : Str} {cl : Value} {tz : Addr → Value → Option Addr → TS} {f : Stmt} {fs : List Stmt} {p1 p2 : Pos} {ks : List ExceptHandler} {r : List Hn} : X.N[i]? = some n → X.env.kindOf n = some .local →
      Names X y cl → (∀ (e : Addr) (o : Obj) (q : Value) (d : Option Addr) (pn : List (Addr × Obj)), Zc q d o → (∃ vs, o.data = .fields vs) → PSs (X.suite e ((e, o) :: pn)) (f :: fs) (tz e q d)) →
      Evs X ks r → Evs X (.ExceptHandler (some (.Name y p1)) (some n) (f :: fs) p2 :: ks) (⟨cl, some i, tz⟩ :: r)
  | bare {y : Str} {cl : Value} {tz : Addr → Value → Option Addr → TS} {f : Stmt} {fs : List Stmt} {p1 p2 : Pos} {ks : List ExceptHandler} {r : List Hn} :
      Names X y cl → (∀ (e : Addr) (o : Obj) (q : Value) (d : Option Addr) (pn : List (Addr × Obj)), Zc q d o → (∃ vs, o.data = .fields vs) → PSs (X.suite e ((e, o) :: pn)) (f :: fs) (tz e q d)) →
      Evs X ks r → Evs X (.ExceptHandler (some (.Name y p1)) none (f :: fs) p2 :: ks) (⟨cl, none, tz⟩ :: r)
section
variable {X : Cx} {pins : List (Addr × Obj)} {τ : L2.St} {J : Hp} {e : Addr} {q : Value} {d : Option Addr} {G : Heap} {s0 u : Shared} {D : Ends} {Wo : WX}
theorem ev_ok (hs : X.stack = X.env :: X.outer) (hf : X.env.frame = some X.env.locals) (hN : X.N.Nodup) (tk : Takes X Wo) :
    ∀ {ks : List ExceptHandler} {r : List Hn}, Evs X ks r → ∀ {u : Shared}, Down X pins τ J e q d G s0 u → wEv X.K Wo D r q d τ J → wpAny (model X.prog X.w) X.A (handleBy (.ref e) X.env ks) (SP X pins D) X.xe u := by
  intro ks r hk
  induction hk with
  | nil =>
    intro u g w
    refine wpAny_handleBy_nil ?_
    have fl := g.fl
    obtain ⟨_, _, _, o1, vs1, t1, _, _, e1, _, e3, e4, _⟩ := id fl
    unfold PySem.passOn
    refine wpAny_bind (wpAny_field e1 e3 e4 ?_)
    rw [if_neg (by simp)]
    have go : wpAny (model X.prog X.w) X.A (setFlight (.ref e) X.env.frame) (fun _ s4 => wpAny (model X.prog X.w) X.A (throw (.ref e) : Sem Flow) (SP X pins D) X.xe s4) X.xe u := by
      rw [hf]
      refine HandSPX.setFlight_upZ fl fun h4 fl4 up4 => wpAny_throw ?_
      exact tk _ _ ⟨e, G, s0, pins, τ, J, q, d, rfl, g.inv, g.nb, g.up.trans up4, .inr (.inr (by rw [hs]; exact fl4)), g.na, g.os, g.ag, w⟩
    first
      | exact wpAny_bind (wpAny_pure (wpAny_bind go))
      | exact wpAny_bind go
  | @cons n i y cl tz f fs p1 p2 ks2 r2 hi hl hc hsu hr ih =>
    intro u g w
    obtain ⟨b, wb, yes, no⟩ := w
    refine wpAny_handleBy_cons (codeAny_handlers_test ?_) (by intro x; cases x)
    obtain ⟨o, g1, g2, g3, S⟩ := g.sees hf
    have look : PySem.W.Looks (model X.prog X.w) u.heap (typeOf (.ref e)) q := fun _ _ _ _ k x => wpAny_typeOf_ref (k _ _ g1) (by rw [g2.1]; exact x)
    have is := PySem.W.exm_one (M := model X.prog X.w) g.now.kIn look wb
    have name : ∀ {Q E : Value → Shared → Prop}, Q cl u → wpAny (model X.prog X.w) (X.A.mark (some (.ref e))) (eval (.Name y p1) X.env) Q E u := fun {Q E} x => by
      obtain ⟨c1, c2, c3 | ⟨c3, c4, c5⟩⟩ := hc
      · exact ld_glob S c1 c3 x c2
      · exact ld_blt S c1 c3 c4 x c5 c2
    refine name (is.here ?_)
    cases b with
    | false => exact ih g (no rfl)
    | true =>
      refine codeAny_handlers_suite_as ?_
      refine HandSPX.lands_againZ g.fl fun h4 fl4 up4 => ?_
      have g' := g.to fl4 up4
      obtain ⟨o', _, z2, z3, S'⟩ := g'.sees hf
      refine store_ok (X := X.suite e ((e, o') :: (X.pn ++ pins)))
        (v := .ref e) S' hN hi (.inl hl) rfl (fun s5 S5 => ?_) (.inr hl)
      refine wpAny_mono ((hsu e o' q d (X.pn ++ pins) z2 z3).run [] s5 _ J _ S5 (yes rfl e g.na)) (fun fw s6 r6 => ?_) fun _ _ x => x.elim
      have back : ∀ {τ6 : L2.St} {J6 : Hp} {Q : Shared → Prop}, Inv (X.suite e ((e, o') :: (X.pn ++ pins))) [] τ6 J6 s6 → (∀ s7, Inv X pins (τ6.set i none) J6 s7 → Q s7) →
          wpAny (model X.prog X.w) X.A (do bindName X.env n .none; unbindBehindTheSuite X.env n p2) (fun _ s7 => Q s7) X.xe s6 := fun S6 k => gone_ok (S6.unsuite g.inv.ok) hN hi hl k
      cases fw with
      | next => exact let ⟨_, _, S6, q6⟩ := r6; back S6 fun _ I => ⟨_, _, I, q6⟩
      | brk => exact let ⟨_, _, S6, q6⟩ := r6; back S6 fun _ I => ⟨_, _, I, q6⟩
      | cont => exact let ⟨_, _, S6, q6⟩ := r6; back S6 fun _ I => ⟨_, _, I, q6⟩
      | ret v => exact let ⟨_, _, _, S6, r7, q6⟩ := r6; back S6 fun _ I => ⟨_, _, _, I, r7, q6⟩
  | @bare y cl tz f fs p1 p2 ks2 r2 hc hsu hr ih =>
    intro u g w
    obtain ⟨b, wb, yes, no⟩ := w
    refine wpAny_handleBy_cons (codeAny_handlers_test ?_) (by intro x; cases x)
    obtain ⟨o, g1, g2, g3, S⟩ := g.sees hf
    have look : PySem.W.Looks (model X.prog X.w) u.heap (typeOf (.ref e)) q := fun _ _ _ _ k x => wpAny_typeOf_ref (k _ _ g1) (by rw [g2.1]; exact x)
    have is := PySem.W.exm_one (M := model X.prog X.w) g.now.kIn look wb
    have name : ∀ {Q E : Value → Shared → Prop}, Q cl u → wpAny (model X.prog X.w) (X.A.mark (some (.ref e))) (eval (.Name y p1) X.env) Q E u := fun {Q E} x => by
      obtain ⟨c1, c2, c3 | ⟨c3, c4, c5⟩⟩ := hc
      · exact ld_glob S c1 c3 x c2
      · exact ld_blt S c1 c3 c4 x c5 c2
    refine name (is.here ?_)
    cases b with
    | false => exact ih g (no rfl)
    | true =>
      refine codeAny_handlers_suite ?_
      refine HandSPX.lands_againZ g.fl fun h4 fl4 up4 => ?_
      have g' := g.to fl4 up4
      obtain ⟨o', _, z2, z3, S'⟩ := g'.sees hf
      refine wpAny_mono ((hsu e o' q d (X.pn ++ pins) z2 z3).run [] _ _ J _ S' (yes rfl e g.na)) (fun fw s6 r6 => ?_) fun _ _ x => x.elim
      cases fw with
      | next => exact let ⟨_, _, S6, q6⟩ := r6; ⟨_, _, S6.unsuite g.inv.ok, q6⟩
      | brk => exact let ⟨_, _, S6, q6⟩ := r6; ⟨_, _, S6.unsuite g.inv.ok, q6⟩
      | cont => exact let ⟨_, _, S6, q6⟩ := r6; ⟨_, _, S6.unsuite g.inv.ok, q6⟩
      | ret v => exact let ⟨_, _, _, S6, r7, q6⟩ := r6; ⟨_, _, _, S6.unsuite g.inv.ok, r7, q6⟩
/-- the statement -/
theorem ps_try_evs {body : List Stmt} {k0 : ExceptHandler} {ks : List ExceptHandler} {r : List Hn} {pos : Pos} {tb : WX → TS} (hs : X.stack = X.env :: X.outer) (hf : X.env.frame = some X.env.locals) (hN : X.N.Nodup) (tk : Takes X Wo)
    (hb : ∀ (W : WX) (pn : List (Addr × Obj)) (xe : Value → Shared → Prop), Takes (X.tr pn xe) W → PassesOwn (model X.prog X.w) X.A X.env xe → PSs (X.tr pn xe) body (tb W)) (hk : Evs X (k0 :: ks) r) :
    PS X (.Try body (k0 :: ks) [] [] pos) fun D τ J => tb (wEv X.K Wo D r) D τ J := by
  refine ⟨fun pins s τ J D I h => wpAny_Try_except ?_⟩
  have ok := I.ok
  have fr : X.A.frames = some (X.env :: X.outer) := by rw [ok.frames, hs]
  let xe : Value → Shared → Prop := fun v s1 => wpAny (model X.prog X.w) X.A (noteFrame v X.env) (fun _ s2 => wpAny (model X.prog X.w) X.A (setFlight v none) (fun _ s3 => wpAny (model X.prog X.w) X.A (handleBy v X.env (k0 :: ks)) (SP X pins D) X.xe s3) X.xe s2) X.xe s1
  have tx : Takes (X.tr (X.pn ++ pins) xe) (wEv X.K Wo D r) := fun v s' x => by
    obtain ⟨e, G, s0, pins', τ', J', q, d, rfl, I', nb, up, sky, na, os, ag, w⟩ := x
    have sky' : Sky G (X.env :: X.outer) e (Zc q d) X.env.locals s'.heap := by rw [← hs]; exact sky
    show wpAny (model X.prog X.w) X.A (noteFrame (.ref e) X.env) _ _ _
    exact Sky.land Zc.steady fr hf sky' fun h3 fl3 up3 => ev_ok hs hf hN tk hk (u := { s' with heap := h3 }) ⟨I'.ofTry ok, nb, up.trans up3, fl3, na, os, ag⟩ w
  refine wpAny_mono ((hb _ _ xe tx PassesOwn.looking).run [] s τ J D (I.toTry _) h) (fun fw s1 x => ?_) fun _ _ x => x
  cases fw with
  | next => exact let ⟨_, _, I1, q1⟩ := x; wpAny_execs_nil ⟨_, _, I1.ofTry ok, q1⟩
  | brk => exact let ⟨_, _, I1, q1⟩ := x; ⟨_, _, I1.ofTry ok, q1⟩
  | cont => exact let ⟨_, _, I1, q1⟩ := x; ⟨_, _, I1.ofTry ok, q1⟩
  | ret v => exact let ⟨_, _, _, I1, r1, q1⟩ := x; ⟨_, _, _, I1.ofTry ok, r1, q1⟩
theorem ps_try_ap {body : List Stmt} {k0 : ExceptHandler} {ks : List ExceptHandler} {r : List Hn} {pos : Pos} {tb : WX → TS} (hs : X.stack = X.env :: X.outer) (hf : X.env.frame = some X.env.locals) (hN : X.N.Nodup) (tk : Takes X Wo)
    (hb : ∀ (W : WX) (pn : List (Addr × Obj)) (xe : Value → Shared → Prop), Takes (X.tr pn xe) W → PassesOwn (model X.prog X.w) X.A X.env xe → PSs (X.tr pn xe) body (tb W)) (hk : Evs X (k0 :: ks) r) :
    PS X (.Try body (k0 :: ks) [] [] pos) (tryAp X.K Wo tb r) := ps_try_evs hs hf hN tk hb hk
end
end Own
end

section
set_option maxRecDepth 100000
set_option maxHeartbeats 4000000
/-! the head's facts, properties too -/
namespace OwnP
open PySem PySem.Spec PyProof.Rows L2 He OwnH OwnQ
/-- a property: its class, its name; its getter -/
structure PrD where
  cls : Str
  name : Str
  qual : Str
  st : Stmt
def pAd (K : PySem.W.Frag) (d : PrD) : Addr := ma K (ga K d.cls) d.name
def gAd (K : PySem.W.Frag) (d : PrD) : Addr := match PySem.W.recIn K (pAd K d) "property" with
  | some (.ref g :: _) => g
  | _ => 0
def prO (K : PySem.W.Frag) (d : PrD) : FnV := match K.lookup (gAd K d) with
  | some ⟨_, _, .func fd, _⟩ => some (fd.name, fd.qualname, fd.params, fd.body, fd.scope, fd.globals, fd.closure, fd.defaults, fd.builtins)
  | _ => none
def PrD.val (d : PrD) : FnV := some (d.name, d.qual, defArgs d.st, .stmts (defBody d.st), defScope d.st, mainGlobals, [], .none, builtinsNs)
def recB (K : PySem.W.Frag) (d : PrD) : Bool := match PySem.W.recIn K (pAd K d) "property" with
  | some (.ref _ :: _) => true
  | _ => false
def codB (K : PySem.W.Frag) (d : PrD) : Bool := match K.lookup (gAd K d) with
  | some ⟨_, _, .func fd, _⟩ => PySem.W.codeIn K fd.code d.qual
  | _ => false
def prB (K : PySem.W.Frag) (d : PrD) : Bool := decide (PySem.W.findIn K (.ref (ga K d.cls)) d.name = some (some (.ref (pAd K d)))) && (decide (PySem.W.specialIn K (.ref (pAd K d)) "__get__" = some (some (.builtin "property.__get__"))) &&
  (decide (PySem.W.takesIn K (.ref (pAd K d)) = some true) && (recB K d && (PySem.W.keepIn K (.ref (gAd K d)) && codB K d))))
abbrev AlP : Type := AlQ × Bool × List FnV
def obsP (file : Str) (n : Nat) (fa : List Fa) (fn : List DefD) (er : List ErrD) (ck : PySem.W.Frag → Bool) (pr : List PrD) (g : Addr → Option Obj) : AlP := (obsQ file n fa fn er ck g, pr.all (fun d => prB (frG g (asO g n)) d), pr.map fun d => prO (frG g (asO g n)) d)
def hookP (file : Str) (n : Nat) (fa : List Fa) (fn : List DefD) (er : List ErrD) (ck : PySem.W.Frag → Bool) (pr : List PrD) : PySem.W.Hook where
  α := AlP
  obs := fun s => obsP file n fa fn er ck pr s.heap.get?
  val := fun _ => ((valO fn er, true), true, pr.map PrD.val)
  says := fun _ h => ∃ K : PySem.W.Frag, K.In h ∧ SaysO file fa fn er K ∧ ck K = true ∧ pr.all (fun d => prB K d) = true ∧ (pr.map fun d => prO K d) = pr.map PrD.val
  of := fun _ s e => ⟨_, frG_in, ⟨congrArg (fun z : AlP => z.1.1.1) e, congrArg (fun z : AlP => z.1.1.2.1) e, congrArg (fun z : AlP => z.1.1.2.2) e⟩, congrArg (fun z : AlP => z.1.2) e, congrArg (fun z : AlP => z.2.1) e, congrArg (fun z : AlP => z.2.2) e⟩
  keeps := fun _ _ _ ⟨K, hK, c⟩ k => ⟨K, PySem.W.Frag.In.keeps hK k, c⟩
/-! a property, an instance called: as promises -/
structure Prp (P : Program) (w : World) (K : PySem.W.Frag) (mg : Str → Option Value) (base : Heap) (k : Nat) (C : Addr) (f : Str) (sp : Sp) : Prop where
  ex : ∃ (p g : Addr) (fd : FuncData) (ps : List Str), Cls K C ∧ PropOf K C f p g ∧ FnOk P w K mg base CX0 k g fd ps sp ∧ Binds K fd ps []
structure Cbl (P : Program) (w : World) (K : PySem.W.Frag) (mg : Str → Option Value) (base : Heap) (k : Nat) (C : Addr) (sp : Sp) : Prop where
  ex : ∃ (g : Addr) (fd : FuncData) (ps : List Str), StX.CallO K C g ∧ FnOk P w K mg base CX0 k g fd ps sp ∧ Binds K fd ps []
section
variable {X : Cx} {k j : Nat} {C : Addr} {f : Str} {sp : Sp} {e fe : Expr} {es : List Expr} {ta tf : TE} {t : TA} {pos : Pos}
end
end OwnP
end

section
set_option maxRecDepth 100000
set_option maxHeartbeats 4000000
/-! what is raised and caught; properties, instances called -/
namespace Y
open PySem PySem.Spec PyProof.Rows L2
/-! ### raise -/
section
variable {ρ α : Type} {F : Fx ρ} {G : Ct} {N B C : Ct → Prop} {t : Ty α}
theorem blk_raise0 {C0 : Addr} (h : F.X.xp G ⟨C0, none⟩) : Blk F (Own.tRaise0 C0 F.X.E) G N B C := fun W0 H0 W H σ D g hs n _ _ _ ex => ex ⟨C0, none⟩ none G W H σ h g hs trivial
end
/-! ### an exception in hand -/
theorem FldsOk.mv {W W' : Wd} {H H' : Hp} (m : Mv W H W' H') : ∀ {vs : List (Str × V)} {ss : List (Str × Sl)}, FldsOk W H vs ss → FldsOk W' H' vs ss
  | _, _, .nil => .nil
  | _, _, .cons r p => .cons (Ty.go _ r m) (FldsOk.mv m p)
def ErIn (W : Wd) (H : Hp) (e : Er) (d : Option Addr) : Prop := ∀ fs, e.fs = some fs → ∃ dd ws, d = some dd ∧ RdW W H dd (.xd ws) ∧ FldsOk W H ws fs
def tErr (a : Addr) (e : Er) (d : Option Addr) : Ty Unit := ⟨fun W H v _ => v = .ref a ∧ ErIn W H e d, by
  rintro W W' H H' v _ ⟨e1, h⟩ m
  refine ⟨e1, fun fs e2 => ?_⟩
  obtain ⟨dd, ws, h1, h2, h3⟩ := h fs e2
  exact ⟨dd, ws, h1, m.rd _ _ h2, h3.mv m⟩⟩
section
variable {α β ρ : Type} {t : Ty α} {u : Ty β} {X : Xw} {k : Bool} {G : Ct} {F : Fx ρ} {N B C : Ct → Prop}
/-! ### the clauses -/
def Catc (F : Fx ρ) (G : Ct) (N B C : Ct → Prop) (K : PySem.W.Frag) (Wo : WX) (r : List Own.Hn) (e : Er) : Prop :=
  ∀ W0 H0 W H σ (D : Ends) d, Go W0 H0 W H → Holds G W H σ →
    (∀ G' W' H' σ', N G' → Go W0 H0 W' H' → Holds G' W' H' σ' → D.nx σ' H') →
    (∀ G' W' H' σ', B G' → Go W0 H0 W' H' → Holds G' W' H' σ' → D.bk σ' H') →
    (∀ G' W' H' σ', C G' → Go W0 H0 W' H' → Holds G' W' H' σ' → D.ct σ' H') →
    (∀ v G' W' H' σ' x, F.rt G' x → Go W0 H0 W' H' → Holds G' W' H' σ' → F.r.R W' H' v x → D.rt v H') →
    (∀ e d G' W' H' σ', F.X.xp G' e → Go W0 H0 W' H' → Holds G' W' H' σ' → ErAt W' H' e d → F.X.E (.ref e.C) d σ' H') → ErAt W H e d → Own.wEv K Wo D r (.ref e.C) d σ H
variable {K : PySem.W.Frag} {Wo : WX} {z : Own.Hn} {r : List Own.Hn} {e : Er}
theorem catc_bare {cl : Value} {ts : Addr → Value → Option Addr → TS} (h1 : PySem.W.exmOne K (.ref e.C) cl = some true) (hb : ∀ a d, Blk F (ts a (.ref e.C) d) G N B C) : Catc F G N B C K Wo (⟨cl, none, ts⟩ :: r) e :=
  fun W0 H0 W H σ D d g hs n bk ct rt ex ea => ⟨true, h1, fun _ a _ => hb a d W0 H0 W H _ D g hs n bk ct rt ex, fun z => by cases z⟩
/-- try -/
theorem blk_try {tb : WX → TS} {xp : Ct → Er → Prop} (h : ∀ E, Blk ⟨F.r, F.rt, ⟨E, xp⟩⟩ (tb E) G N B C) (hc : ∀ G' e, xp G' e → Catc F G' N B C K Wo r e) : Blk F (Own.tryAp K Wo tb r) G N B C := fun W0 H0 W H σ D g hs n bk ct rt ex =>
  h (Own.wEv K Wo D r) W0 H0 W H σ D g hs n bk ct rt fun e d G' W' H' σ' p g' hs' ea => hc G' e p W0 H0 W' H' σ' D d g' hs' n bk ct rt ex ea
end
/-! ### properties, instances called -/
section
variable {ρ α β : Type} {c : CT ρ} {X : Xw} {k : Bool} {G : Ct} {t : Ty α} {u : Ty β}
def InC (C : Addr) (t : Ty α) : Prop := ∀ W H v x, OKW W H → t.R W H v x → ∃ o dx fs, v = .ref o ∧ H o = some (.ins C dx fs)
end
end Y
end

section
set_option maxRecDepth 100000
set_option maxHeartbeats 4000000
/-! a list unpacked -/
namespace Y
open PySem PySem.Spec PyProof.Rows L2
section
variable {α β γ : Type} {t : Ty α} {u : Ty β} {z : Ty γ} {K : PySem.W.Frag} {G : Ct} {N : Ct → Prop}
theorem tg_unl3 {g1 g2 g3 : TG} {x : α × β × γ} {vs : List Nat} (h : Tg g1 G t x.1 vs fun G1 => Tg g2 G1 u x.2.1 vs fun G2 => Tg g3 G2 z x.2.2 vs N) : Tg (gUnl K 3 (gCons g1 (gCons g2 (gCons g3 gNil)))) G (tL3 K t u z) x vs N := fun W H σ v Q hs r q => by
  obtain ⟨a, p, w, w3, rfl, sq, r1, r2, r3⟩ := r
  refine ⟨a, [p, w, w3], rfl, sq.l, rfl, p, [w, w3], rfl, h W H σ p _ hs r1 fun G1 σ1 h1 hs1 l1 k1 => ⟨w, [w3], rfl, h1 W H σ1 w _ hs1 r2 fun G2 σ2 h2 hs2 l2 k2 => ⟨w3, [], rfl, h2 W H σ2 w3 _ hs2 r3 fun G3 σ3 h3 hs3 l3 k3 => ⟨rfl, q G3 σ3 h3 hs3 (l3.trans (l2.trans l1)) fun i hi => (k3 i hi).trans ((k2 i hi).trans (k1 i hi))⟩⟩⟩⟩
end
end Y
end

section
set_option maxRecDepth 100000
set_option maxHeartbeats 4000000
/-! x is True, x is not False, of a bool or None -/
namespace Own
open PySem PySem.Spec PyProof.Rows L2
/-- a bool or None -/
def isPl : V → Bool
  | .bl _ => true
  | .non => true
  | _ => false
def rIsP : R2 := fun x y H Q => isPl x = true ∧ isPl y = true ∧ Q (.bl (decide (x = y))) H
def rNotP : R2 := fun x y H Q => isPl x = true ∧ isPl y = true ∧ Q (.bl (!decide (x = y))) H
section
variable {X : Cx}
end
end Own
end

section
set_option maxRecDepth 100000
set_option maxHeartbeats 4000000
/-! x is True of a bool or None; slices -/
namespace Y
open PySem PySem.Spec PyProof.Rows L2
end Y
end

section
set_option maxRecDepth 100000
set_option maxHeartbeats 4000000
/-! slices up to, from -/
namespace Y
open PySem PySem.Spec PyProof.Rows L2
section
variable {K : PySem.W.Frag} {α : Type} {t : Ty α}
end
/-- the slots told anew, as they are -/
theorem blk_norm {ρ : Type} {F : Fx ρ} {ts : TS} {G : Ct} {N B C : Ct → Prop} (G' : Ct) (e : G = G') (h : Blk F ts G' N B C) : Blk F ts G N B C := by
  rw [e]
  exact h
end Y
end

section
set_option maxRecDepth 100000
set_option maxHeartbeats 4000000
/-! a list of four unpacked, made -/
namespace Y
open PySem PySem.Spec PyProof.Rows L2
section
variable {α β γ δ : Type} {t : Ty α} {u : Ty β} {z : Ty γ} {y : Ty δ} {K : PySem.W.Frag} {G : Ct} {N : Ct → Prop} {X : Xw} {k : Bool}
end
end Y
end

section
set_option maxRecDepth 100000
set_option maxHeartbeats 4000000
/-! zip of two tuples -/
namespace Y
open PySem PySem.Spec PyProof.Rows L2 RZ
section
variable {α β : Type} {t : Ty α} {u : Ty β} {K : PySem.W.Frag} {G : Ct} {X : Xw} {k : Bool} {a b : Addr} {xs ys : List V}
end
end Y
end

section
set_option maxRecDepth 100000
set_option maxHeartbeats 4000000
/-! tuples of texts compared -/
namespace Y
open PySem PySem.Spec PyProof.Rows L2
section
variable {K : PySem.W.Frag}
end
end Y
end

section
set_option maxRecDepth 100000
set_option maxHeartbeats 4000000
/-! a == b by the class's own __eq__, both of the class -/
namespace Y
open PySem PySem.Spec PyProof.Rows L2
section
variable {α ρ : Type} {X : Xw} {k : Bool} {G : Ct} {t : Ty α} {c : CT ρ}
end
end Y
end

section
set_option maxRecDepth 100000
set_option maxHeartbeats 4000000
/-! pairs of ints compared; a list of things that are there, read as a list of things -/
namespace Y
open PySem PySem.Spec PyProof.Rows L2
section
variable {K : PySem.W.Frag}
end
end Y
end

section
set_option maxRecDepth 100000
set_option maxHeartbeats 4000000
/-! the head's facts with properties: five steps, and the getters' codes by name -/
namespace OwnP
open PySem PySem.Spec PyProof.Rows L2 He OwnH OwnQ
def codA (K : PySem.W.Frag) (d : PrD) : List Addr := match K.lookup (gAd K d) with
  | some ⟨_, _, .func fd, _⟩ => refV fd.code
  | _ => []
def asP (g : Addr → Option Obj) (n : Nat) (pr : List PrD) : List Addr := asO g n ++ pr.flatMap fun d => codA (frG g (asO g n)) d
def obsK (file : Str) (fa : List Fa) (fn : List DefD) (er : List ErrD) (ck : PySem.W.Frag → Bool) (pr : List PrD) (K : PySem.W.Frag) : AlP := (((obsD fa fn K, er.all (fun d => errB file K d), er.map fun d => fnC K d.at_), ck K), pr.all (fun d => prB K d), pr.map fun d => prO K d)
def obsR (file : Str) (n : Nat) (fa : List Fa) (fn : List DefD) (er : List ErrD) (ck : PySem.W.Frag → Bool) (pr : List PrD) (g : Addr → Option Obj) : AlP := obsK file fa fn er ck pr (frG g (asP g n pr))
def hookR (file : Str) (n : Nat) (fa : List Fa) (fn : List DefD) (er : List ErrD) (ck : PySem.W.Frag → Bool) (pr : List PrD) : PySem.W.Hook where
  α := AlP
  obs := fun s => obsR file n fa fn er ck pr s.heap.get?
  val := fun _ => ((valO fn er, true), true, pr.map PrD.val)
  says := fun _ h => ∃ K : PySem.W.Frag, K.In h ∧ SaysO file fa fn er K ∧ ck K = true ∧ pr.all (fun d => prB K d) = true ∧ (pr.map fun d => prO K d) = pr.map PrD.val
  of := fun _ s e => ⟨_, frG_in, ⟨congrArg (fun z : AlP => z.1.1.1) e, congrArg (fun z : AlP => z.1.1.2.1) e, congrArg (fun z : AlP => z.1.1.2.2) e⟩, congrArg (fun z : AlP => z.1.2) e, congrArg (fun z : AlP => z.2.1) e, congrArg (fun z : AlP => z.2.2) e⟩
  keeps := fun _ _ _ ⟨K, hK, c⟩ k => ⟨K, PySem.W.Frag.In.keeps hK k, c⟩
end OwnP
end

section
set_option maxRecDepth 100000
set_option maxHeartbeats 4000000
/-! d.update(e): what stands in e is put into d -/
namespace Own
open PySem PySem.Spec PyProof.Rows L2
def putAll (ws us : List (Key × V)) : List (Key × V) := us.foldl (fun acc p => putK acc p.1 p.2) ws
theorem putAll_len : ∀ (us ws : List (Key × V)), (putAll ws us).length ≤ ws.length + us.length
  | [], ws => Nat.le_refl _
  | p :: us, ws => by
    have h := putAll_len us (putK ws p.1 p.2)
    have h2 := length_putK ws p.1 p.2
    show (putAll (putK ws p.1 p.2) us).length ≤ ws.length + (us.length + 1)
    omega
theorem kv_all {us : List (Key × V)} {us' : List (Key × Value)} (r : KV us us') : ∀ {ws : List (Key × V)} {ws' : List (Key × Value)}, KV ws ws' → KV (putAll ws us) (merged ws' us') := by
  induction r with
  | nil => exact fun h => h
  | @cons a b as bs r q ih =>
    intro ws ws' h
    obtain ⟨e, rv⟩ := r
    have := ih (h.put a.1 rv)
    show KV (putAll (putK ws a.1 a.2) as) (merged (stored ws' b.1 b.2) bs)
    rw [← e]
    exact this
def rDUpd : V → List V → Hp → VK → Prop := fun x vs H Q => ∃ (a b : Addr) (ws us : List (Key × V)), x = .ref a ∧ vs = [.ref b] ∧ a ≠ b ∧ H a = some (.dK ws) ∧ Rd H b (.dK us) ∧ ws.length + us.length ≤ sizeLine ∧ Q .non (upd H a (.dK (putAll ws us)))
theorem mtd_update {X : Cx} : MtR X "dict.update" rDUpd := by
  intro pins s σ H x vs v us Q I rx rv h
  obtain ⟨a, b, ws, ms, ex, ev, ne, ea, eb, hl, q⟩ := h
  subst ex
  subst ev
  obtain rfl : v = Value.ref a := rx
  obtain ⟨u, eu, rb⟩ := vals1 rv
  subst eu
  obtain rfl : u = Value.ref b := rb
  obtain ⟨z, hd, vs, rel, dd⟩ := dk_of I.hok ea
  obtain ⟨z2, hd2, vs2, rel2, dd2⟩ := dk_rd I.hok eb
  refine call_meetsIn PySem.F.slot_dict_update dd.typeIs PySem.F.entry_dict_update (PySem.F.args_dict_update_2 _ _) (meets_dict_update (mixKind X.prog X.w) a b ne hd2)
    ⟨vs, vs2, dd, dd2, by rw [← rel.length, ← rel2.length]; exact hl, fun h' hm _ hs => ?_⟩
  have he : ∃ q, h'.get? a = some q := let ⟨q, _, _, hq, _⟩ := hm; ⟨q, hq⟩
  exact ⟨.non, _, d_write I (by rw [ea]; exact True.intro) hs he (dk_new (Nat.le_trans (putAll_len ms ws) hl) hd (kv_all rel2 rel) hm), rfl, q⟩
end Own
end

section
set_option maxRecDepth 100000
set_option maxHeartbeats 4000000
/-! d.update(e) -/
namespace Y
open PySem PySem.Spec PyProof.Rows L2
section
variable {α κ ρ : Type} {F : Fx ρ} {G : Ct} {N B C : Ct → Prop} {t : Ty α} {X : Xw} {K : PySem.W.Frag} {ke : Ky κ} {tk : Ty κ} [DecidableEq κ]
def mrgZ (xs ys : List (κ × α)) : List (κ × α) := ys.foldl (fun a e => putZ a e.1 e.2) xs
theorem all_paired {R : V → α → Prop} {us : List (Key × V)} {ys : List (κ × α)} (p : Paired (fun (p : Key × V) (q : κ × α) => p.1 = ke.k q.1 ∧ R p.2 q.2) us ys) : ∀ {ws : List (Key × V)} {xs : List (κ × α)}, Paired (fun (p : Key × V) (q : κ × α) => p.1 = ke.k q.1 ∧ R p.2 q.2) ws xs → Paired (fun (p : Key × V) (q : κ × α) => p.1 = ke.k q.1 ∧ R p.2 q.2) (Own.putAll ws us) (mrgZ xs ys) := by
  induction p with
  | nil => exact fun h => h
  | @cons a b as bs r _ ih =>
    intro ws xs h
    have := ih (put_paired b.1 r.2 h)
    show Paired _ (Own.putAll (putK ws a.1 a.2) as) (mrgZ (putZ xs b.1 b.2) bs)
    rw [r.1]
    exact this
theorem blk_dupd {to ta : TE} {q : List Nat} {xs : List (κ × α)} {up : List (κ × α) → Ct} (pt : Pt to G q (oD ke t) xs up) (h : Ev F.X true ta G (tDk ke t) fun _ ys => xs.length + ys.length ≤ sizeLine ∧ N (up (mrgZ xs ys))) : Blk F (tDrop (tBM K "dict" Own.rDUpd to (tCons ta tNil))) G N B C := fun W0 H0 W H σ D g hs n _ _ _ ex => by
  obtain ⟨a, ws, f, wa, ha, k⟩ := pt.dict hs
  refine f _ ⟨.inr (.inr (.inl ⟨rfl, .inl ⟨_, ha⟩⟩)), h W H σ _ hs (exo ex g) fun v W1 H1 G1 ys ⟨hl, hn⟩ m ⟨b, us, eb, rd, p2⟩ => ?_⟩
  subst eb
  obtain ⟨w1, h1, pp, k2⟩ := k W1 H1 (m.kp rfl).1 m.hs.ok
  obtain ⟨g2, hs2⟩ := k2 (Own.putAll ws us) (mrgZ xs ys) (all_paired p2 pp)
  exact ⟨a, b, ws, us, rfl, rfl, fun e => rd.no (by rw [← e]; exact w1), h1, rd.rd, by rw [pp.length, p2.length]; exact hl, n _ _ _ _ hn ((g.trans m.go).trans g2) hs2⟩
end
end Y
end

section
set_option maxRecDepth 100000
set_option maxHeartbeats 4000000
/-! xs[-2::-1]: from the last but one backwards -/
namespace Own
open PySem PySem.Spec PyProof.Rows L2
def tRevF (K : PySem.W.Frag) (te : TE) : TE := fun σ H Q => te σ H fun x H1 => ∃ a xs, x = .ref a ∧ SqL K H1 a xs ∧ 0 < xs.length ∧ ∀ p, H1 p = none → Q (.ref p) (upd H1 p (.lst xs.dropLast.reverse))
end Own
end

section
set_option maxRecDepth 100000
set_option maxHeartbeats 4000000
/-! xs[-2::-1] -/
namespace Y
open PySem PySem.Spec PyProof.Rows L2
section
variable {α : Type} {X : Xw} {k : Bool} {G : Ct} {K : PySem.W.Frag} {t : Ty α}
/-- {x: n} of a variable and a number that stands there -/
theorem ev_disp1c {X : Xw} {k : Bool} {G : Ct} {i : Nat} {x : Str} {y : Int} {P : Ct → List (Str × Int) → Prop} (e1 : G.s[i]? = some (.sh tStr x)) (p : P G [(x, y)]) : EvR X k (tDisp [(tVar i, tC (.int y))]) G (.ow (oD kS tInt)) P := fun W H σ Q hs ex q => fun d hd => by
  obtain ⟨v1, f1, r1⟩ := hs.var e1
  obtain rfl : v1 = .str x := r1
  refine ⟨_, f1, upd_same, [((Sum.inr x : Key), V.int y)], rfl, (show 1 ≤ 15 by decide), ?_⟩
  show Q (.ref d) (upd (upd H d (.dK [])) d (.dK [((Sum.inr x : Key), V.int y)]))
  rw [upd_upd]
  obtain ⟨g, ok⟩ := newT hs.ok hd (o := .dK [((Sum.inr x : Key), V.int y)]) trivial
  exact q _ _ _ G [(x, y)] p (.goE hs g ok) ⟨d, _, rfl, setW_same, upd_same, .cons ⟨rfl, rfl⟩ .nil⟩
end
end Y
end

section
set_option maxRecDepth 100000
set_option maxHeartbeats 4000000
/-! n & 1 -/
namespace Y
open PySem PySem.Spec PyProof.Rows L2
def rOdd : R2 := fun x y H Q => ∃ n : Nat, x = .int (n : Int) ∧ y = .int 1 ∧ Q (.int ((n % 2 : Nat) : Int)) H
theorem op_odd1 {X : Cx} : OpR X (binaryOp .BitAnd) rOdd := op_odd
theorem ro_odd : RO rOdd tInt tInt (.sh tInt) (fun i j P => (0 ≤ i ∧ j = 1) ∧ P (i % 2)) := by
  rintro W H v w x y Q P ok r1 r2 ⟨⟨h0, h1⟩, c⟩ q
  obtain rfl : v = .int x := r1
  obtain rfl : w = .int y := r2
  subst h1
  refine ⟨x.toNat, by rw [Int.toNat_of_nonneg h0], rfl, q _ W H _ c .refl ok ?_⟩
  show V.int _ = V.int _
  congr 1
  omega
theorem pt_truthK {X : Cx} {K : PySem.W.Frag} {a : Expr} {ta : TE} (hK : X.K = K) (ha : PE X a ta) (he : ∀ whole, PySem.isTrue a X.env whole = (do let v ← whole; standAt a.pos; holding [v] (truthy v))) : PT X a (fun σ H Q => ta σ H fun x H' => ∃ k, TruV K x H' k ∧ Q k H') := by
  subst hK
  exact pt_truth ha he
/-! a comprehension over a dict, assigned to a name -/
theorem ps_lock_either {X : Cx} {st : Stmt} {a : TS} (ha : PS X st a) : PS X st (tEither (tLock a) a) := ps_either (ps_lock ha) ha
section
variable {ρ : Type} {F : Fx ρ} {G : Ct} {N B C : Ct → Prop}
theorem blk_lockA {E : TE} {i : Nat} (h : Blk F (tAsg (tEitherE (tLockE E) E) (gName i)) G N B C) : Blk F (tEither (tLock (tAsg E (gName i))) (tAsg E (gName i))) G N B C := fun W0 H0 W H σ D g hs n bk ct rt ex => by
  have := h W0 H0 W H σ D g hs n bk ct rt ex
  rcases this with q | q
  · exact .inl q
  · exact .inr q
end
end Y
end

section
set_option maxRecDepth 100000
set_option maxHeartbeats 4000000
/-! x != y, dicts from texts to ints that are read: both answers -/
namespace Own
open PySem PySem.Spec PyProof.Rows L2
def rNeDG : R2 := fun x y H Q => ∃ a b zs ws, x = .ref a ∧ y = .ref b ∧ Rd H a (.dK (dZ zs)) ∧ Rd H b (.dK (dZ ws)) ∧ Q (.bl (!eqZ zs ws)) H
end Own
end

section
set_option maxRecDepth 100000
set_option maxHeartbeats 4000000
/-! dicts of ints by texts: not the same -/
namespace Y
open PySem PySem.Spec PyProof.Rows L2
end Y
end

section
set_option maxRecDepth 100000
set_option maxHeartbeats 4000000
/-! a list [a, b, c] of one's own, its second one's own too -/
namespace Y
open PySem PySem.Spec PyProof.Rows L2
section
variable {α β γ : Type}
def oL3m (K : PySem.W.Frag) (t : Ty α) (O : OT γ) (u : Ty β) : OT (α × γ × β) where
  R p W H v x := ∃ a v1 v2 v3, v = .ref a ∧ W a = .ow p ∧ H a = some (.lst [v1, v2, v3]) ∧ t.R W H v1 x.1 ∧ O.R (p ++ [1]) W H v2 x.2.1 ∧ u.R W H v3 x.2.2
  sv := tL3 K t O.sv u
  mv := by
    rintro p p' W W' H H' v x ⟨a, v1, v2, v3, e, w, h, r1, r2, r3⟩ kk m
    obtain ⟨w1, h1⟩ := kk a _ [] (by rw [List.append_nil]; exact w) h
    refine ⟨a, v1, v2, v3, e, by rw [List.append_nil] at w1; exact w1, h1, t.go r1 m, O.mv r2 (fun b o q w e => ?_) m, u.go r3 m⟩
    have := kk b o ([1] ++ q) (by rw [← List.append_assoc]; exact w) e
    rwa [← List.append_assoc] at this
  fz := by
    rintro p W W' H H' v x ⟨a, v1, v2, v3, e, w, h, r1, r2, r3⟩ kk m
    obtain ⟨w1, h1⟩ := kk a _ [] (by rw [List.append_nil]; exact w) h
    exact ⟨a, v1, v2, v3, e, ⟨w1, h1⟩, t.go r1 m, O.fz r2 (fun b o q w e => kk b o ([1] ++ q) (by rw [← List.append_assoc]; exact w) e) m, u.go r3 m⟩
variable {G : Ct} {K : PySem.W.Frag} {t : Ty α} {u : Ty β}
def push1 (W : Wd) : Wd := fun b => match W b with
  | .ow (j :: r) => if j = tmp then .ow (tmp :: 1 :: r) else .ow (j :: r)
  | w => w
variable {X : Xw}
end
end Y
end

section
set_option maxRecDepth 100000
set_option maxHeartbeats 4000000
/-! equality of nested values: ==, !=, in, not in -/
namespace PySem.SeqAt
open AutoSeq1 (wpAny_loadPart')
open MeetsSeq MeetsSeq2 MeetsSeq3 SeqRoads2
section
variable {pg : Program} {w : World}
end
section
variable {pg : Program} {w : World} {A : Around} {s : Shared} {E : Value → Shared → Prop}
end
end PySem.SeqAt
namespace Own
open PySem PySem.Spec PyProof.Rows L2
/-- x == y tells b, at most n deep -/
inductive EqG (K : PySem.W.Frag) (H : Hp) : Nat → V → V → Bool → Prop
  | same {n : Nat} {v : V} : sameB v = true → EqG K H n v v true
  | leaf {n : Nat} {v y : V} : flatV v = true → flatV y = true → EqG K H n v y (eqV v y)
  | lists {n : Nat} {a b : Addr} {xs ys : List V} {e : Nat → Bool} : a ≠ b → SqL K H a xs → SqL K H b ys → xs.length = ys.length → (∀ j x y, xs[j]? = some x → ys[j]? = some y → EqG K H n x y (e j)) → EqG K H (n + 1) (.ref a) (.ref b) ((List.range xs.length).all e)
  | dicts {n : Nat} {a b : Addr} {ks ls : List (Key × V)} {e : Key → Bool} : a ≠ b → Rd H a (.dK ks) → Rd H b (.dK ls) → (∀ k v y, (k, v) ∈ ks → valV ls k = some y → EqG K H n v y (e k)) → EqG K H (n + 1) (.ref a) (.ref b) (ks.length == ls.length && ks.all fun p => (valV ls p.1).isSome && e p.1)
section
variable {X : Cx} {pins : List (Addr × Obj)} {σ : L2.St} {H : Hp} {s : Shared}
end
/-- the value without its token -/
def noTok : Value → V
  | .none => .non
  | .bool b => .bl b
  | .int i _ => .int i
  | .str z _ => .str z
  | .ref a => .ref a
  | _ => .non
def isRefB : V → Bool
  | .ref _ => true
  | _ => false
/-- x in xs, a list -/
def rInG (K : PySem.W.Frag) (neg : Bool) : R2 := fun x y H Q => ∃ p xs f, y = .ref p ∧ SqL K H p xs ∧ (∀ z ∈ xs, (flatV z = true ∨ isRefB z = true) ∧ EqG K H 60 z x (f z)) ∧ Q (.bl (if neg then !xs.any f else xs.any f)) H
/-- xs == ys, xs != ys: lists of one length -/
def rEqGL (K : PySem.W.Frag) (neg : Bool) : R2 := fun x y H Q => ∃ a b xs ys e, x = .ref a ∧ y = .ref b ∧ SqL K H a xs ∧ SqL K H b ys ∧ xs.length = ys.length ∧ (∀ j x y, xs[j]? = some x → ys[j]? = some y → EqG K H 60 x y (e j)) ∧ Q (.bl (if neg then !(List.range xs.length).all e else (List.range xs.length).all e)) H
end Own
end

section
set_option maxRecDepth 100000
set_option maxHeartbeats 4000000
/-! nested equality, typed; a list of two whose second is one's own; plain errors -/
namespace Y
open PySem PySem.Spec PyProof.Rows L2
/-! ### equality -/
/-- values of u and t compared -/
def EqT {α β : Type} (K : PySem.W.Frag) (n : Nat) (u : Ty α) (t : Ty β) (C : α → β → Prop) (f : α → β → Bool) : Prop := ∀ W H v w x y, OKW W H → u.R W H v x → t.R W H w y → C x y → Own.EqG K H n v w (f x y)
/-- a value stands for one thing, and is flat or at an address -/
def FnT {α : Type} (t : Ty α) : Prop := ∀ W H v x, t.R W H v x → (flatV v = true ∨ Own.isRefB v = true) ∧ ∀ y, t.R W H v y → x = y
section
variable {K : PySem.W.Frag} {α β : Type}
end
/-! dicts of ints -/
section
variable {K : PySem.W.Frag} {κ : Type} [DecidableEq κ] {ke : Ky κ}
def eqDZ (x y : List (κ × Int)) : Bool := x.length == y.length && x.all fun p => decide (lookK y p.1 = some p.2)
end
/-! ### what is never told -/
section
variable {α β γ : Type} {X : Xw} {k : Bool} {G : Ct} {t : Ty α} {u : Ty β} {K : PySem.W.Frag}
theorem ev_void {te : TE} {r : Rt α} {r' : Rt β} {P : Ct → β → Prop} (h : EvR X k te G r fun _ _ => False) : EvR X k te G r' P := fun W H σ Q hs ex q => h W H σ Q hs ex fun v W1 H1 G1 x p m r => p.elim
/-! ### [a, b], b one's own -/
def oL2 (K : PySem.W.Frag) (t : Ty α) (O : OT γ) : OT (α × γ) where
  R p W H v x := ∃ a v1 v2, v = .ref a ∧ W a = .ow p ∧ H a = some (.lst [v1, v2]) ∧ t.R W H v1 x.1 ∧ O.R (p ++ [1]) W H v2 x.2
  sv := tL2 K t O.sv
  mv := by
    rintro p p' W W' H H' v x ⟨a, v1, v2, e, w, h, r1, r2⟩ kk m
    obtain ⟨w1, h1⟩ := kk a _ [] (by rw [List.append_nil]; exact w) h
    refine ⟨a, v1, v2, e, by rw [List.append_nil] at w1; exact w1, h1, t.go r1 m, O.mv r2 (fun b o q w e => ?_) m⟩
    have := kk b o ([1] ++ q) (by rw [← List.append_assoc]; exact w) e
    rwa [← List.append_assoc] at this
  fz := by
    rintro p W W' H H' v x ⟨a, v1, v2, e, w, h, r1, r2⟩ kk m
    obtain ⟨w1, h1⟩ := kk a _ [] (by rw [List.append_nil]; exact w) h
    exact ⟨a, v1, v2, e, ⟨w1, h1⟩, t.go r1 m, O.fz r2 (fun b o q w e => kk b o ([1] ++ q) (by rw [← List.append_assoc]; exact w) e) m⟩
end
end Y
namespace KK
open PySem PySem.Spec PyProof.Rows L2
/-- what the class of a plain own error has -/
structure ErrN (K : PySem.W.Frag) (mg : Str → Option Value) (x : Str) (C : Addr) : Prop where
  gC : mg x = some (.ref C)
  q : PySem.W.excIn K C He.veBase "ValueError.__new__" = true
  kC : PySem.W.keepIn K (.ref C) = true
  exC : PySem.W.subIn K (.ref C) (.type "BaseException") = some true
  tyC : PySem.W.typeIn K (.ref C) = some (.type "type")
theorem errN_of {K : PySem.W.Frag} {mg : Str → Option Value} {x : Str} {C : Addr} (h : PySem.W.excIn K C He.veBase "ValueError.__new__" = true ∧ PySem.W.keepIn K (.ref C) = true ∧ PySem.W.subIn K (.ref C) (.type "BaseException") = some true ∧ PySem.W.typeIn K (.ref C) = some (.type "type")) (g : mg x = some (.ref C)) : ErrN K mg x C := ⟨g, h.1, h.2.1, h.2.2.1, h.2.2.2⟩
end KK
end

section
set_option maxRecDepth 100000
set_option maxHeartbeats 4000000
namespace KK
open PySem PySem.Spec PyProof.Rows L2 Y
/-! defs that raise -/
theorem fnY {P : Program} {w : World} {K : PySem.W.Frag} {mg : Str → Option Value} {base : Heap} {x : Str} {st : Stmt} {N ps : List Str} {k : Nat} {sp : Sp} (F : Has K mg x st) (b : ∀ f fd, Fun K x x st f fd → Binds K fd ps []) (S : FnScope N ps (defScope st)) (len : ∀ vs H Q E, sp vs H Q E → vs.length = ps.length)
    (hbody : ∀ (f : Addr) (cdv : Value) (A : Around) (outer : List Env) (s : Shared) (H : Hp) (vs : List V) (Q : VK) (E : XK), Room k (A.deeper (envOfC x (defScope st) s.heap.objs.size f cdv)) → sp vs H Q E →
      ∃ t, PSs (cxOf (L2.CX P w) P w K mg base N x (defScope st) f cdv A outer s H E) (defBody st) t ∧ t { nx := fun _ H' => Q .non H', rt := Q } (start N vs) H) : Own.CalX P w K mg base (k + 1) x sp := by
  obtain ⟨f, fd, F, hm⟩ := F
  exact ⟨f, fd, ps, F.okX S len (hbody f), hm, F.kp, b f fd F⟩
end KK
end

section
set_option maxRecDepth 100000
set_option maxHeartbeats 4000000
/-! values of any kind, told by themselves -/
namespace Y
open PySem PySem.Spec PyProof.Rows L2
def KindW (K : PySem.W.Frag) (W : Wd) (H : Hp) (v : V) : Prop := flatV v = true ∨ (∃ a vs, v = .ref a ∧ SqW K W H a vs) ∨ (∃ a vs, v = .ref a ∧ SqTW K W H a vs) ∨ ∃ a ws, v = .ref a ∧ RdW W H a (.dK ws)
theorem KindW.mv {K : PySem.W.Frag} {W W' : Wd} {H H' : Hp} {v : V} (h : KindW K W H v) (m : Mv W H W' H') : KindW K W' H' v := by
  rcases h with h | ⟨a, vs, e, h⟩ | ⟨a, vs, e, h⟩ | ⟨a, ws, e, h⟩
  · exact .inl h
  · exact .inr (.inl ⟨a, vs, e, h.mv m⟩)
  · exact .inr (.inr (.inl ⟨a, vs, e, h.mv m⟩))
  · exact .inr (.inr (.inr ⟨a, ws, e, m.rd _ _ h⟩))
/-- the value itself is what is told -/
def tV (K : PySem.W.Frag) : Ty V := ⟨fun W H v x => v = x ∧ KindW K W H v, fun ⟨e, h⟩ m => ⟨e, h.mv m⟩⟩
def isIntV : V → Bool
  | .int _ => true
  | .bl _ => true
  | _ => false
def isBlV : V → Bool
  | .bl _ => true
  | _ => false
def isStrV : V → Bool
  | .str _ => true
  | _ => false
section
variable {α β γ κ : Type} {t : Ty α} {X : Xw} {k : Bool} {G : Ct} {K : PySem.W.Frag}
theorem tyV {W : Wd} {H : Hp} {v : V} (ok : OKW W H) (h : KindW K W H v) : ∃ A, TyX K H v (.type A) ∧ kitB A "int" = some (isIntV v) ∧ kitB A "bool" = some (isBlV v) ∧ kitB A "str" = some (isStrV v) := by
  rcases h with h | ⟨a, vs, rfl, h⟩ | ⟨a, vs, rfl, h⟩ | ⟨a, ws, rfl, h⟩
  · cases v with
    | non => exact ⟨_, .base .non, by decide +kernel, by decide +kernel, by decide +kernel⟩
    | bl b => exact ⟨_, .base (.bl b), by simp only [isIntV]; decide +kernel, by simp only [isBlV]; decide +kernel, by simp only [isStrV]; decide +kernel⟩
    | int b => exact ⟨_, .base (.int b), by simp only [isIntV]; decide +kernel, by simp only [isBlV]; decide +kernel, by simp only [isStrV]; decide +kernel⟩
    | str b => exact ⟨_, .base (.str b), by simp only [isIntV]; decide +kernel, by simp only [isBlV]; decide +kernel, by simp only [isStrV]; decide +kernel⟩
    | _ => cases h
  · exact ⟨_, .base (.lst h.2), by simp only [isIntV]; decide +kernel, by simp only [isBlV]; decide +kernel, by simp only [isStrV]; decide +kernel⟩
  · exact ⟨_, .base (.tup (h.at ok)), by simp only [isIntV]; decide +kernel, by simp only [isBlV]; decide +kernel, by simp only [isStrV]; decide +kernel⟩
  · rcases h with ⟨_, h⟩ | ⟨_, od, h⟩
    · exact ⟨_, .base (.dK h), by simp only [isIntV]; decide +kernel, by simp only [isBlV]; decide +kernel, by simp only [isStrV]; decide +kernel⟩
    · exact ⟨_, .fDict h, by simp only [isIntV]; decide +kernel, by simp only [isBlV]; decide +kernel, by simp only [isStrV]; decide +kernel⟩
theorem ev_isVg {T : String} {f : V → Bool} (hf : ∀ W H v, OKW W H → KindW K W H v → ∃ A, TyX K H v (.type A) ∧ kitB A T = some (f v)) {te : TE} {P : Ct → Bool → Prop} (h : Ev X k te G (tV K) fun G1 x => P G1 (f x)) : Ev X k (tCB (rIsi K) (tCons te (tCons (tC (.ty T)) tNil))) G tBl P := fun W H σ Q hs ex q =>
  h W H σ _ hs ex fun v W1 H1 G1 x p m r => by
    obtain ⟨rfl, r⟩ := r
    obtain ⟨A, ty, kb⟩ := hf W1 H1 v m.hs.ok r
    exact ⟨v, .ty T, .type A, .type T, _, rfl, .ty T, ty, kit_ty kb, q _ W1 H1 G1 _ p m rfl⟩
theorem ev_isVi {te : TE} {P : Ct → Bool → Prop} (h : Ev X k te G (tV K) fun G1 x => P G1 (isIntV x)) : Ev X k (tCB (rIsi K) (tCons te (tCons (tC (.ty "int")) tNil))) G tBl P := ev_isVg (fun W H v ok r => by obtain ⟨A, h1, h2, _⟩ := tyV ok r; exact ⟨A, h1, h2⟩) h
theorem ev_isVb {te : TE} {P : Ct → Bool → Prop} (h : Ev X k te G (tV K) fun G1 x => P G1 (isBlV x)) : Ev X k (tCB (rIsi K) (tCons te (tCons (tC (.ty "bool")) tNil))) G tBl P := ev_isVg (fun W H v ok r => by obtain ⟨A, h1, _, h2, _⟩ := tyV ok r; exact ⟨A, h1, h2⟩) h
theorem ev_isVs {te : TE} {P : Ct → Bool → Prop} (h : Ev X k te G (tV K) fun G1 x => P G1 (isStrV x)) : Ev X k (tCB (rIsi K) (tCons te (tCons (tC (.ty "str")) tNil))) G tBl P := ev_isVg (fun W H v ok r => by obtain ⟨A, h1, _, _, h2⟩ := tyV ok r; exact ⟨A, h1, h2⟩) h
/-! told as of any kind -/
theorem ev_Vi {te : TE} {P : Ct → V → Prop} (h : Ev X k te G tInt fun G x => P G (.int x)) : Ev X k te G (tV K) P := Ev.as V.int h fun W H v x r => ⟨r, .inl (by rw [show v = V.int x from r]; rfl)⟩
theorem ev_Vb {te : TE} {P : Ct → V → Prop} (h : Ev X k te G tBl fun G x => P G (.bl x)) : Ev X k te G (tV K) P := Ev.as V.bl h fun W H v x r => ⟨r, .inl (by rw [show v = V.bl x from r]; rfl)⟩
theorem ev_Vn {te : TE} {P : Ct → V → Prop} (h : Ev X k te G tNon fun G _ => P G .non) : Ev X k te G (tV K) P := Ev.as (fun _ => V.non) h fun W H v x r => ⟨r, .inl (by rw [show v = V.non from r]; rfl)⟩
theorem ev_Vref {te : TE} {u : Ty α} {P : Ct → V → Prop} (c : ∀ W H v x, u.R W H v x → ∃ a, v = .ref a ∧ KindW K W H v) (h : Ev X k te G u fun G _ => ∀ a, P G (.ref a)) : Ev X k te G (tV K) P := fun W H σ Q hs ex q => h W H σ Q hs ex fun v W1 H1 G1 x p m r => by
  obtain ⟨a, rfl, kd⟩ := c _ _ _ _ r
  exact q _ W1 H1 G1 _ (p a) m ⟨rfl, kd⟩
theorem ev_Vl {te : TE} {P : Ct → V → Prop} (h : Ev X k te G (tLs K t) fun G _ => ∀ a, P G (.ref a)) : Ev X k te G (tV K) P := ev_Vref (u := tLs K t) (fun W H v x ⟨a, vs, e, h, _⟩ => ⟨a, e, .inr (.inl ⟨a, vs, e, h⟩)⟩) h
/-! and read again -/
theorem ev_asI {te : TE} {P : Ct → Int → Prop} (h : Ev X k te G (tV K) fun G x => ∃ i, x = .int i ∧ P G i) : Ev X k te G tInt P := fun W H σ Q hs ex q => h W H σ Q hs ex fun v W1 H1 G1 x ⟨i, e, p⟩ m r => q v W1 H1 G1 i p m (by obtain ⟨rfl, _⟩ := r; exact e)
theorem ev_asS {te : TE} {P : Ct → Str → Prop} (h : Ev X k te G (tV K) fun G x => ∃ i, x = .str i ∧ P G i) : Ev X k te G tStr P := fun W H σ Q hs ex q => h W H σ Q hs ex fun v W1 H1 G1 x ⟨i, e, p⟩ m r => q v W1 H1 G1 i p m (by obtain ⟨rfl, _⟩ := r; exact e)
/-! [s, v] against [s, v] -/
/-! dicts of any keys and values, or no dict -/
def kK : Ky Key := ⟨id, fun _ _ h => h⟩
def tKy : Ty Key := ⟨fun _ _ v k => v = kV k, fun h _ => h⟩
theorem kyK : KyT kK tKy := ⟨fun _ _ _ _ => Iff.rfl⟩
theorem ev_Ks {te : TE} {P : Ct → Key → Prop} (h : Ev X k te G tStr fun G x => P G (.inr x)) : Ev X k te G tKy P := Ev.as Sum.inr h fun W H v x r => r
def anyD (d : List (Str × Int)) : List (Key × V) := d.map fun e => (Sum.inr e.1, V.int e.2)
theorem anyD_pairs {W W' : Wd} {H H' : Hp} {ws : List (Key × V)} {d : List (Str × Int)} (p : Paired (fun (p : Key × V) (q : Str × Int) => p.1 = kS.k q.1 ∧ tInt.R W H p.2 q.2) ws d) : Paired (fun (p : Key × V) (q : Key × V) => p.1 = kK.k q.1 ∧ (tV K).R W' H' p.2 q.2) ws (anyD d) := by
  induction p with
  | nil => exact .nil
  | cons r _ ih =>
    have e : _ = V.int _ := r.2
    exact .cons ⟨r.1, e, .inl (by rw [e]; rfl)⟩ ih
theorem own_anyD {d : List (Str × Int)} : ∀ p W H v, (oD kS tInt).R p W H v d → (oD kK (tV K)).R p W H v (anyD d) := fun p W H v ⟨a, ws, e, w, h, r⟩ => ⟨a, ws, e, w, h, anyD_pairs r⟩
def tAD (K : PySem.W.Frag) : Ty (Option (List (Key × V))) := ⟨fun W H v o => match o with
  | some d => (tDk kK (tV K)).R W H v d
  | none => flatV v = true ∨ (∃ a vs, v = .ref a ∧ SqW K W H a vs) ∨ ∃ a vs, v = .ref a ∧ SqTW K W H a vs, by
  rintro W W' H H' v (_ | d) r m
  · rcases r with h | ⟨a, vs, e, sq⟩ | ⟨a, vs, e, sq⟩
    · exact .inl h
    · exact .inr (.inl ⟨a, vs, e, sq.mv m⟩)
    · exact .inr (.inr ⟨a, vs, e, sq.mv m⟩)
  · exact (tDk kK (tV K)).go (x := d) r m⟩
theorem ad_ty {W : Wd} {H : Hp} {v : V} {o : Option (List (Key × V))} (ok : OKW W H) (r : (tAD K).R W H v o) : ∃ A, TyX K H v (.type A) ∧ kitB A "dict" = some o.isSome := by
  cases o with
  | some d => exact ⟨"dict", ty_dK (r : (tDk kK (tV K)).R W H v d), show kitB "dict" "dict" = some true by decide +kernel⟩
  | none =>
    rcases r with h | ⟨a, vs, rfl, sq⟩ | ⟨a, vs, rfl, sq⟩
    · cases v with
      | non => exact ⟨_, .base .non, by decide +kernel⟩
      | bl b => exact ⟨_, .base (.bl b), by decide +kernel⟩
      | int b => exact ⟨_, .base (.int b), by decide +kernel⟩
      | str b => exact ⟨_, .base (.str b), by decide +kernel⟩
      | _ => cases h
    · exact ⟨_, .base (.lst sq.2), by decide +kernel⟩
    · exact ⟨_, .base (.tup (sq.at ok)), by decide +kernel⟩
theorem ev_isAD {te : TE} {P : Ct → Bool → Prop} (h : Ev X k te G (tAD K) fun G1 o => P G1 o.isSome) : Ev X k (tCB (rIsi K) (tCons te (tCons (tC (.ty "dict")) tNil))) G tBl P := fun W H σ Q hs ex q =>
  h W H σ _ hs ex fun v W1 H1 G1 x p m r => by
    obtain ⟨A, t, kb⟩ := ad_ty m.hs.ok r
    exact ⟨v, .ty "dict", .type A, .type "dict", _, rfl, .ty "dict", t, kit_ty kb, q _ W1 H1 G1 _ p m rfl⟩
theorem ev_varAD {i : Nat} {d : List (Key × V)} {P : Ct → List (Key × V) → Prop} (e : G.s[i]? = some (.sh (tAD K) (some d))) (p : P G d) : Ev X k (tVar i) G (tDk kK (tV K)) P := fun W H σ Q hs ex q => by
  obtain ⟨v, e1, r⟩ := hs.var e
  exact ⟨v, e1, q v W H G d p (.refl hs) r⟩
theorem ev_someAD {te : TE} {P : Ct → Option (List (Key × V)) → Prop} (h : Ev X k te G (tDk kK (tV K)) fun G d => P G (some d)) : Ev X k te G (tAD K) P := Ev.as some h fun _ _ _ _ r => r
theorem ev_lsAD {te : TE} {P : Ct → Option (List (Key × V)) → Prop} (h : Ev X k te G (tLs K t) fun G _ => P G none) : Ev X k te G (tAD K) P := Ev.as (fun _ => none) h fun W H v x ⟨a, vs, e, sq, _⟩ => .inr (.inl ⟨a, vs, e, sq⟩)
end
end Y
end

section
set_option maxRecDepth 100000
set_option maxHeartbeats 4000000
namespace KK
open PySem PySem.Spec PyProof.Rows L2 Y
/-! is_among, is_integer, is_between, can: of values of any kind -/
def isI : V → Bool
  | .int _ => true
  | _ => false
def inMs : V → List Str → Bool
  | .str s, ms => decide (s ∈ ms)
  | _, _ => false
def inLH : V → Int → Int → Bool
  | .int i, lo, hi => decide (lo ≤ i) && decide (i ≤ hi)
  | _, _, _ => false
theorem isStr_ex {v : V} (h : isStrV v = true) : ∃ s, v = .str s := by
  cases v with
  | str s => exact ⟨s, rfl⟩
  | _ => cases h
theorem isI_ex {v : V} (h : isI v = true) : ∃ s, v = .int s := by
  cases v with
  | int s => exact ⟨s, rfl⟩
  | _ => cases h
abbrev yAmongV (K : PySem.W.Frag) : Y.CT Bool := ⟨false, .sh tBl, fun as P _ => ∃ x d, as = [.sh (tV K) x, .sh (tDk kS tInt) d] ∧ ∀ os, P os (inMs x (d.map (·.1)))⟩
abbrev yIntV (K : PySem.W.Frag) : Y.CT Bool := ⟨false, .sh tBl, fun as P _ => ∃ x, as = [.sh (tV K) x] ∧ ∀ os, P os (isI x)⟩
abbrev yBetV (K : PySem.W.Frag) : Y.CT Bool := ⟨false, .sh tBl, fun as P _ => ∃ x lo hi, as = [.sh (tV K) x, .sh tInt lo, .sh tInt hi] ∧ ∀ os, P os (inLH x lo hi)⟩
abbrev yHasV (K : PySem.W.Frag) (CW : Addr) : Y.CT Bool := ⟨false, .sh tBl, fun as P _ => ∃ z x, as = [.sh (yWeb K CW) z, .sh (tV K) x] ∧ WfZ z ∧ ∀ os, P os (inMs x z.ms)⟩
abbrev yCanX (K : PySem.W.Frag) (CW CN CB : Addr) : Y.CT Bool := ⟨true, .sh tBl, fun as P XP => ∃ z x i, as = [.sh (yWeb K CW) z, .sh (tV K) x, .sh (tV K) i] ∧ WfZ z ∧ (inMs x z.ms = false → ∀ os, XP os ⟨CN, some [("place", .sh (tV K) x)]⟩) ∧ (inMs x z.ms = true → inLH i 0 2 = false → ∀ os, XP os ⟨CB, some [("value", .sh (tV K) i)]⟩) ∧
  (∀ s n, x = .str s → s ∈ z.ms → i = .int n → 0 ≤ n → n ≤ 2 → ∀ v, Opt z v → ∀ os, P os (canB z v s n))⟩
abbrev yGotC (K : PySem.W.Frag) (CW : Addr) : Y.CT (Str × V) := ⟨true, .sh (tL2 K tStr (tV K)), fun as P _ => ∃ z x i, as = [.sh (yWeb K CW) z, .sh (tV K) x, .sh (tV K) i] ∧ WfZ z ∧ (inMs x z.ms = false → ∀ os, P os ("no place", x)) ∧ (inMs x z.ms = true → inLH i 0 2 = false → ∀ os, P os ("bad value", i)) ∧
  (∀ s n, x = .str s → s ∈ z.ms → i = .int n → 0 ≤ n → n ≤ 2 → ∀ v, Opt z v → ∀ os, P os ("told", .bl (canB z v s n)))⟩
abbrev yNameU (K : PySem.W.Frag) : Y.CT Str := ⟨false, .sh tStr, fun as P _ => ∃ ys, as = [.sh tStm (), .sh (tTu K tStr) ys] ∧ ys.length ≤ 60 ∧ ∀ x, (NameOk x ∧ x ∉ ys) → ∀ os, P os x⟩
section
variable {P : Program} {w : World} {K : PySem.W.Frag} {mg : Str → Option Value} {base : Heap} {C CS CW CN CB f1 f2 : Addr} {e1 e2 : PySem.Err1.EP}
theorem y_amongV (T : Blt mg) (F : Has K mg "is_among" s_is_among) : C8.Cal P w K mg base 1 "is_among" (Y.spZ (yAmongV K)) [] := by
  refine calF F (fun f fd F => F.binds (ps := ["value", "names"]) fun _ _ _ _ _ _ us hl => match us, hl with | [_, _], _ => rfl) scYisamong (fun vs H Q E h => zlen (fun as P XP hc => by obtain ⟨_, _, rfl, _⟩ := hc; rfl) h) (fun f cdv A outer s H vs Q E hr h => ?_)
  have hu := hu_of hr
  refine ⟨_, (pss_one (ps_ret (pe_and (pe_callB call_isi (by rfl) T.b_isinstance (by decide +kernel) (pa_cons (pv 0) (pa_cons (pe_bltn (v := .ty "str") (by rfl) T.b_str (by decide +kernel) rfl) pa_nil))) (pe_one (pe_cmp (pc_din hu (pv 0) (pv 1)) rfl))))), zrun h ?_⟩
  rintro as P XP ⟨x, d, rfl, hp⟩ hl
  obtain ⟨p0, p1, rfl⟩ := len2 hl
  refine ⟨0, rfl, by decide, ?_⟩
  refine blk_ret (ev_and (ev_isVs (ev_var rfl ⟨fun h => ?_, fun h => ?_⟩)))
  · obtain ⟨s, rfl⟩ := isStr_ex h
    refine ev_din kyS (ev_asS (ev_var rfl ⟨s, rfl, ev_var rfl ?_⟩))
    rw [Y.hasK_mem]
    exact fin0 [_, _] _ hp
  · refine fin0 [_, _] _ fun os => ?_
    have := hp os
    cases x with
    | str s => cases h
    | _ => exact this
theorem y_intV (T : Blt mg) (F : Has K mg "is_integer" s_is_integer) : C8.Cal P w K mg base 1 "is_integer" (Y.spZ (yIntV K)) [] := by
  refine calF F (fun f fd F => F.binds (ps := ["value"]) fun _ _ _ _ _ _ us hl => match us, hl with | [_], _ => rfl) scYisinteger (fun vs H Q E h => zlen (fun as P XP hc => by obtain ⟨_, rfl, _⟩ := hc; rfl) h) (fun f cdv A outer s H vs Q E hr h => ?_)
  have hu := hu_of hr
  refine ⟨_, (pss_one (ps_ret (pe_and (pe_callB call_isi (by rfl) T.b_isinstance (by decide +kernel) (pa_cons (pv 0) (pa_cons (pe_bltn (v := .ty "int") (by rfl) T.b_int (by decide +kernel) rfl) pa_nil))) (pe_one (pe_not (pe_callB call_isi (by rfl) T.b_isinstance (by decide +kernel) (pa_cons (pv 0) (pa_cons (pe_bltn (v := .ty "bool") (by rfl) T.b_bool (by decide +kernel) rfl) pa_nil)))))))), zrun h ?_⟩
  rintro as P XP ⟨x, rfl, hp⟩ hl
  obtain ⟨p0, rfl⟩ := len1 hl
  refine ⟨0, rfl, by decide, ?_⟩
  refine blk_ret (ev_and (ev_isVi (ev_var rfl ⟨fun h => ev_not (ev_isVb (ev_var rfl ?_)), fun h => ?_⟩)))
  · refine fin0 [_] _ fun os => ?_
    have := hp os
    cases x with
    | int s => exact this
    | bl b => exact this
    | _ => cases h
  · refine fin0 [_] _ fun os => ?_
    have := hp os
    cases x with
    | int s => cases h
    | _ => exact this
theorem y_betV (T : Blt mg) (F : Has K mg "is_between" s_is_between) (YINT : C8.Cal P w K mg base 1 "is_integer" (Y.spZ (yIntV K)) []) : C8.Cal P w K mg base 2 "is_between" (Y.spZ (yBetV K)) [] := by
  refine calF F (fun f fd F => F.binds (ps := ["value", "low", "high"]) fun _ _ _ _ _ _ us hl => match us, hl with | [_, _, _], _ => rfl) scYisbetween (fun vs H Q E h => zlen (fun as P XP hc => by obtain ⟨_, _, _, rfl, _⟩ := hc; rfl) h) (fun f cdv A outer s H vs Q E hr h => ?_)
  have hu := hu_of hr
  refine ⟨_, (pss_one (ps_ret (pe_and (C8.pe_c YINT hr (by decide) rfl (pa_cons (pv 0) pa_nil)) (pe_one (pe_chain op_le op_le (pv 1) (pv 0) (pv 2)))))), zrun h ?_⟩
  rintro as P XP ⟨x, lo, hi, rfl, hp⟩ hl
  obtain ⟨p0, p1, p2, rfl⟩ := len3 hl
  refine ⟨0, rfl, by decide, ?_⟩
  refine blk_ret (ev_and (ev_call0 (ea_cons (ev_var rfl (ea_nil ⟨fun h => (nomatch h), all1 trivial, x, rfl, fun _ => ⟨fun h => ?_, fun h => ?_⟩⟩)))))
  · obtain ⟨i, rfl⟩ := isI_ex h
    refine ev_chain ro_B0 ro_B0 (ev_var rfl (ev_asI (ev_var rfl ⟨i, rfl, fun h1 => ev_var rfl ?_, fun h1 => ?_⟩)))
    · refine fin0 [_, _, _] _ fun os => ?_
      have this : P os (decide (lo ≤ i) && decide (i ≤ hi)) := hp os
      rw [h1, Bool.true_and] at this
      exact this
    · refine fin0 [_, _, _] _ fun os => ?_
      have this : P os (decide (lo ≤ i) && decide (i ≤ hi)) := hp os
      rw [h1, Bool.false_and] at this
      exact this
  · refine fin0 [_, _, _] _ fun os => ?_
    have := hp os
    cases x with
    | int s => cases h
    | _ => exact this
end
end KK
end

section
set_option maxRecDepth 100000
set_option maxHeartbeats 4000000
namespace KK
open PySem PySem.Spec PyProof.Rows L2 Y
section
variable {z z2 : WebZ} {p p2 : List Str × List (Str × Str) × List (Str × Int)}
end
end KK
end

section
set_option maxRecDepth 100000
set_option maxHeartbeats 4000000
namespace KK
open PySem PySem.Spec PyProof.Rows L2 Y
/-! the values that a place has in best answers are a stretch -/
section
variable {z : WebZ} {v : Int}
def joinV (g1 g2 : Str → Int) (x : Str) : Int := (if g1 x ≤ 1 ∨ g2 x ≤ 1 then 0 else 1) + (if 1 ≤ g1 x ∨ 1 ≤ g2 x then 1 else 0)
def meetV (g1 g2 : Str → Int) (x : Str) : Int := (if g1 x ≤ 1 ∧ g2 x ≤ 1 then 0 else 1) + (if 1 ≤ g1 x ∧ 1 ≤ g2 x then 1 else 0)
/-- least, without a witness in prices -/
def LowV (z : WebZ) (v : Int) : Prop := (∃ g, BestA z v g) ∧ ∀ h, Ansf z h → v ≤ costZ z h
end
/-! a price moved by one, all prices thrice -/
section
variable {z z3 : WebZ} {v w : Int}
end
end KK
end

section
set_option maxRecDepth 100000
set_option maxHeartbeats 4000000
namespace KK
open PySem PySem.Spec PyProof.Rows L2 Y
/-! merged, merge, least -/
def mrgV (g1 g2 : Str → Int) (x : Str) : Int := if g1 x = 1 then g2 x else g1 x
/-- just the places of the kernel are half -/
structure LeastR (z : WebZ) (v : Int) (g : Str → Int) : Prop where
  a : BestA z v g
  k : ∀ x ∈ z.ms, g x = 1 ↔ x ∈ kerL z v
abbrev yMerged : Y.CT (List (Str × Int)) := ⟨false, .ow (oD kS tInt), fun as P _ => ∃ ns ms g1 g2, as = [.sh (tDk kS tInt) (atD ns g1), .sh (tDk kS tInt) (atD ms g2)] ∧ (ns.Nodup ∧ ns.length ≤ 40 ∧ ∀ x ∈ ns, x ∈ ms) ∧ ∀ os, P os (atD ns (mrgV g1 g2))⟩
abbrev ctLeastM (K : PySem.W.Frag) (CS C : Addr) : Y.CT (List (Str × Int)) := ⟨false, .ow (oD kS tInt), fun as P _ => ∃ (z : WebZ) (d : SD), as = [.sh (tSd K CS C) d] ∧ (WfZ z ∧ SofR z d) ∧ ∀ g, LeastR z d.tot g → ∀ os, P os (atD z.ms g)⟩
abbrev yLeast (K : PySem.W.Frag) (CW : Addr) : Y.CT (List (Str × Int)) := ⟨true, .ow (oD kS tInt), fun as P _ => ∃ z, as = [.sh (yWeb K CW) z] ∧ WfZ z ∧ ∀ v g, Opt z v → LeastR z v g → ∀ os, P os (atD z.ms g)⟩
abbrev yMerge (K : PySem.W.Frag) (CW : Addr) : Y.CT (List (Str × Int)) := ⟨true, .ow (oD kS tInt), fun as P _ => ∃ z v ns ms g1 g2, as = [.sh (yWeb K CW) z, .sh (tDk kS tInt) (atD ns g1), .sh (tDk kS tInt) (atD ms g2)] ∧ (WfZ z ∧ Opt z v ∧ ns.Perm z.ms ∧ ms.Perm z.ms ∧ BestA z v g1 ∧ BestA z v g2) ∧ ∀ os, P os (atD ns (mrgV g1 g2))⟩
section
variable {P : Program} {w : World} {K : PySem.W.Frag} {mg : Str → Option Value} {base : Heap} {C CS CW : Addr}
end
end KK
end

section
set_option maxRecDepth 100000
set_option maxHeartbeats 4000000
namespace KK
open PySem PySem.Spec PyProof.Rows L2 Y
abbrev yLaw (K : PySem.W.Frag) : Y.CT Bool := ⟨true, .sh tBl, fun as P _ => ∃ xs, as = [.sh (tScr K) xs] ∧ xs.length ≤ 1000 ∧ ∀ os, P os true⟩
theorem spY_law {K : PySem.W.Frag} {H : Hp} {a : Addr} {ns : List Int} (hl : ns.length ≤ 1000) (hS : SqL K H a (ns.map V.int)) : Y.spZ (yLaw K) [.ref a] H (fun v _ => v = .bl true) fun _ _ _ => False := by
  have fin : ∀ W : Y.Wd, OKW W H → (∀ b, W b ≠ .lk) → (Y.tScr K).R W H (.ref a) ns → Y.spZ (yLaw K) [.ref a] H (fun v _ => v = .bl true) fun _ _ _ => False := fun W ok nl r =>
    ⟨W, [.sh (tScr K) ns], fun _ r => r = true, fun _ _ => False, ok, fun _ => nl, ⟨rfl, fun k v s h1 h2 => by
      cases k with
      | zero => cases h1; cases h2; exact r
      | succ k => cases h1⟩, ⟨ns, rfl, hl, fun _ => rfl⟩, fun v W' H' os x p _ _ _ r => (by rw [p] at r; exact r), fun e d W' H' os p => p.elim⟩
  have sh : OKW (fun _ => .sh) H := ⟨fun b φ h => (by cases h), fun b h => absurd rfl h, fun b p od u h => (by cases h), fun b h => (by cases h), fun b od u h => (by cases h), fun _ _ _ => rfl⟩
  rcases hS with (h | ⟨od, hA⟩) | h
  · exact fin _ sh (fun b h => by cases h) ⟨a, rfl, .inl (.inl ⟨rfl, h⟩)⟩
  · have hW : ∀ b, (if b = a then Md.fo else Md.sh) ≠ .sh → b = a := fun b h => by
      by_cases e : b = a
      · exact e
      · rw [if_neg e] at h; exact absurd rfl h
    refine fin (fun b => if b = a then .fo else .sh) ⟨fun b φ h => ?_, fun b h => ?_, fun b p od' u h => ?_, fun b h => ?_, fun b od' u h e => ?_, fun b vs e => ?_⟩ (fun b h => ?_) ⟨a, rfl, .inl (.inr ⟨.inr (if_pos rfl), od, hA⟩)⟩
    · have h : (if b = a then Md.fo else Md.sh) = Md.st φ := h
      split at h <;> cases h
    · rw [hW b h]; exact ⟨_, hA⟩
    · have h : (if b = a then Md.fo else Md.sh) = Md.ow p := h
      split at h <;> cases h
    · have h : (if b = a then Md.fo else Md.sh) = Md.lk := h
      split at h <;> cases h
    · have eb : b = a := hW b (by rw [show (if b = a then Md.fo else Md.sh) = Md.fo from h]; exact fun z => nomatch z)
      rw [eb, hA] at e
      cases e
      exact ⟨_, rfl⟩
    · have n : b ≠ a := fun z => by rw [z, hA] at e; cases e
      show (if b = a then Md.fo else Md.sh) = Md.sh
      rw [if_neg n]
    · have h : (if b = a then Md.fo else Md.sh) = Md.lk := h
      split at h <;> cases h
  · exact fin _ sh (fun b h => by cases h) ⟨a, rfl, .inr h⟩
end KK
end

section
set_option maxRecDepth 100000
set_option maxHeartbeats 4000000
namespace KK
open PySem PySem.Spec PyProof.Rows L2 Y
end KK
end

section
set_option maxRecDepth 100000
set_option maxHeartbeats 4000000
namespace KK
open PySem PySem.Spec PyProof.Rows L2 Y
/-! a web without its kernel, and the kernel alone -/
structure PartW (z : WebZ) (ns : List Str) (r : WebZ) : Prop where
  wf : WfZ r
  pm : r.ms.Perm ns
  pu : r.us.Perm (z.us.filter fun e => decide (e.1 ∈ ns) && decide (e.2 ∈ ns))
  pr : ∀ x ∈ ns, prW r x = prW z x
section
variable {z : WebZ} {v : Int} {g : Str → Int}
end
end KK
end

section
set_option maxRecDepth 100000
set_option maxHeartbeats 4000000
namespace KK
open PySem PySem.Spec PyProof.Rows L2 Z
abbrev ctPartZ (K : PySem.W.Frag) (C : Addr) : CT WebZ := ⟨true, tWeb K C, fun as P _ => ∃ z ns, as = [.sh (tWeb K C) z, .sh (tLs K tStr) ns] ∧ (ns ≠ [] ∧ (∀ s ∈ ns, s ∈ z.ms) ∧ ns.length ≤ 1000) ∧ ∀ r, (WfZ r ∧ WebOk (firsts ns) ((firsts ns).map (prF z.ms z.qs)) (z.us.filter (within (firsts ns))) r.ms r.qs r.us) → P r⟩
theorem pts_part {ms ns : List Str} {qs : List Int} {us : List (Str × Str)} (h : Pts ms qs us) (no : NsOk ns) (sub : ∀ x ∈ ns, x ∈ ms) : Pts ns (ns.map (prF ms qs)) (us.filter (within ns)) := by
  refine ⟨List.length_map .., no, ⟨fun p hp => ?_, (h.to.nd.sublist (List.Sublist.map _ List.filter_sublist)), Nat.le_trans (List.length_filter_le _ _) h.to.hi⟩, fun z hz => ?_⟩
  · obtain ⟨h1, h2⟩ := List.mem_filter.mp hp
    unfold within at h2
    rw [Bool.and_eq_true, decide_eq_true_eq, decide_eq_true_eq] at h2
    exact ⟨h2.1, h2.2, (h.to.ok p h1).ne⟩
  · obtain ⟨x, hx, rfl⟩ := List.mem_map.mp hz
    exact prF_at h.po h.no.nd h.pl (sub x hx)
section
variable {P : Program} {w : World} {K : PySem.W.Frag} {mg : Str → Option Value} {base : Heap} {C : Addr}
theorem z_part (c : C8.Met P w K mg base 7 C "_part" (spPart C) []) : C8.Met P w K mg base 7 C "_part" (spZ (ctPartZ K C)) [] := by
  refine met_of c ?_
  rintro vs H Q E ⟨W, as, P, XP, ok, _, nl, ha, ⟨z, ns, rfl, ⟨hn, sub, hl⟩, hp⟩, q, ex⟩
  cases ha with
  | cons r1 ha => cases ha with
    | cons r2 ha =>
      cases ha
      obtain ⟨wf, o, dx, dp, tl, xs, rfl, ws⟩ := webS ok (nl rfl) r1
      obtain ⟨a, vs, rfl, sq, p⟩ := r2
      have e := paired_f scS p
      subst e
      have no : NsOk (firsts ns) := by
        refine ⟨?_, ?_, firsts_nd ns, fun x hx => wf.p.no.ok x (sub x ((firsts_mem x ns).mp hx))⟩
        · cases ns with
          | nil => exact absurd rfl hn
          | cons b l => exact List.length_pos_of_mem ((firsts_mem b _).mpr List.mem_cons_self)
        · exact Nat.le_trans (pigeon (firsts_nd ns) (ys := z.ms) fun x hx => sub x ((firsts_mem x ns).mp hx)) wf.p.no.hi
      have pt := pts_part wf.p no fun x hx => sub x ((firsts_mem x ns).mp hx)
      refine ⟨o, dx, dp, tl, xs, _, _, _, a, ns, _, rfl, ws, sq.2, rfl, hl, no, sub, fun o2 dx2 dp2 tl2 ys ms2 qs2 us2 H' s2 fo fd ft wa wo => ?_⟩
      exact q _ W H' ⟨ms2, qs2, us2⟩ (hp _ ⟨wf_of wo pt, wo⟩) (same_go s2) (same_ok ok s2) (web_new ok s2 fo fd ft wa (wf_of wo pt))
end
end KK
end

section
set_option maxRecDepth 100000
set_option maxHeartbeats 4000000
namespace KK
open PySem PySem.Spec PyProof.Rows L2 Y
theorem prF_map {ns : List Str} {f : Str → Int} (hn : ns.Nodup) {x : Str} (hx : x ∈ ns) : prF ns (ns.map f) x = f x := by
  obtain ⟨i, hi⟩ := List.getElem?_of_mem hx
  have := prF_ix hn (List.length_map f) hi
  rw [List.getElem?_map, hi] at this
  exact (Option.some.inj this).symm
theorem partW_of {z r : WebZ} {ns : List Str} (wz : WfZ z) (hn : ns.Nodup) (wf : WfZ r) (w : WebOk (firsts ns) ((firsts ns).map (prF z.ms z.qs)) (z.us.filter (within (firsts ns))) r.ms r.qs r.us) : PartW z ns r := by
  have fp : (firsts ns).Perm ns := (List.perm_ext_iff_of_nodup (firsts_nd ns) hn).mpr fun x => firsts_mem x ns
  refine ⟨wf, w.pm.trans fp, ?_, fun x hx => ?_⟩
  · have e : (z.us.filter (within (firsts ns))).map ordP = z.us.filter (within (firsts ns)) := by
      conv => rhs; rw [← List.map_id (z.us.filter (within (firsts ns)))]
      exact List.map_congr_left fun e he => wz.fx e (List.mem_filter.mp he).1
    have pu := w.pu
    rw [e] at pu
    have e2 : z.us.filter (within (firsts ns)) = z.us.filter fun e => decide (e.1 ∈ ns) && decide (e.2 ∈ ns) := List.filter_congr fun e _ => by
      unfold within
      rw [decide_eq_decide.mpr (firsts_mem e.1 ns), decide_eq_decide.mpr (firsts_mem e.2 ns)]
    rw [e2] at pu
    exact pu
  · have hf := (firsts_mem x ns).mpr hx
    have pf : ∀ {a c : List Str} {b d : List Int}, valV (prK a b) (Sum.inr x : Key) = valV (prK c d) (Sum.inr x : Key) → prF a b x = prF c d x := fun h => by
      unfold prF
      rw [h]
    have e1 : prW r x = prF (firsts ns) ((firsts ns).map (prF z.ms z.qs)) x := pf (w.pq x hf)
    rw [e1, prF_map (firsts_nd ns) hf]
    rfl
abbrev yWPart (K : PySem.W.Frag) (CW : Addr) : Y.CT WebZ := ⟨true, .sh (yWeb K CW), fun as P _ => ∃ z ns, as = [.sh (yWeb K CW) z, .sh (tLs K tStr) ns] ∧ (WfZ z ∧ ns ≠ [] ∧ ns.Nodup ∧ (∀ s ∈ ns, s ∈ z.ms) ∧ ns.length ≤ 1000) ∧ ∀ r, PartW z ns r → ∀ os, P os r⟩
abbrev yInside (K : PySem.W.Frag) (CW : Addr) : Y.CT WebZ := ⟨true, .sh (yWeb K CW), fun as P _ => ∃ z ns, as = [.sh (yWeb K CW) z, .sh (tLs K tStr) ns] ∧ (WfZ z ∧ ns ≠ [] ∧ ns.Nodup ∧ ∀ s ∈ ns, s ∈ z.ms) ∧ ∀ r, PartW z ns r → ∀ os, P os r⟩
abbrev yLenW (K : PySem.W.Frag) (CW : Addr) : Y.CT Int := ⟨true, .sh tInt, fun as P _ => ∃ z, as = [.sh (yWeb K CW) z] ∧ WfZ z ∧ ∀ os, P os (z.ms.length : Int)⟩
abbrev yAllHalf (K : PySem.W.Frag) (CW : Addr) : Y.CT Bool := ⟨true, .sh tBl, fun as P _ => ∃ z, as = [.sh (yWeb K CW) z] ∧ WfZ z ∧ ∀ v, Opt z v → ∀ os, P os (decide (((kerL z v).length : Int) = z.ms.length))⟩
abbrev yWhole (K : PySem.W.Frag) (CW : Addr) : Y.CT Bool := ⟨true, .sh tBl, fun as P _ => ∃ z, as = [.sh (yWeb K CW) z] ∧ WfZ z ∧ ∀ v, Opt z v → ∀ os, P os (kerL z v).isEmpty⟩
theorem nd_len {z : WebZ} {ns : List Str} (wz : WfZ z) (hn : ns.Nodup) (sub : ∀ s ∈ ns, s ∈ z.ms) : ns.length ≤ 40 := Nat.le_trans (pigeon hn (ys := z.ms) sub) wz.p.no.hi
section
variable {P : Program} {w : World} {K : PySem.W.Frag} {mg : Str → Option Value} {base : Heap} {C CS CW : Addr}
theorem y_wpart (c : C8.Met P w K mg base 7 CW "_part" (Z.spZ (ctPartZ K CW)) []) : C8.Met P w K mg base 7 CW "_part" (Y.spZ (yWPart K CW)) [] :=
  met_z c rfl same_lift (fun h => h) fun as P XP ⟨z, ns, e, ⟨wz, h0, hn, sub, hl⟩, hp⟩ => ⟨_, fun r => WfZ r ∧ WebOk (firsts ns) ((firsts ns).map (prF z.ms z.qs)) (z.us.filter (within (firsts ns))) r.ms r.qs r.us, by rw [e]; exact .cons same_lift (.cons (same_ls same_str) .nil), ⟨z, ns, rfl, ⟨h0, sub, hl⟩, fun r hr => hr⟩, fun x hx os => hp x (partW_of wz hn hx.1 hx.2) os⟩
abbrev NYWebinside : List Str := ["self", "places", "place"]
theorem scYWebinside : FnScope NYWebinside ["self", "places"] (defScope s_Web_inside) := ⟨rfl, rfl, rfl, by decide +kernel, rfl, by decide +kernel, by decide +kernel⟩
theorem y_inside (T : Blt mg) (CC : WebC K mg CW) (F : HasM K CW "inside" "Web.inside" s_Web_inside) (YNEED : C8.Met P w K mg base 2 CW "_need" (Y.spZ (yNeed K CW)) []) (YWPART : C8.Met P w K mg base 7 CW "_part" (Y.spZ (yWPart K CW)) []) : C8.Met P w K mg base 8 CW "inside" (Y.spZ (yInside K CW)) [] := by
  refine metF CC.cl F (fun f fd F => F.binds (ps := ["self", "places"]) fun _ _ _ _ _ _ us hl => match us, hl with | [_, _], _ => rfl) scYWebinside (fun vs H Q E h => zlen (fun as P XP hc => by obtain ⟨_, _, rfl, _⟩ := hc; rfl) h) (fun f cdv A outer s H vs Q E hr h => ?_)
  have hu := hu_of hr
  refine ⟨_, (pss_cons (ps_if (pt_not (pt_val (pe_callB call_isi (by rfl) T.b_isinstance (by decide +kernel) (pa_cons (pv 1) (pa_cons (pe_bltn (v := .ty "list") (by rfl) T.b_list (by decide +kernel) rfl) pa_nil))))) pss_never pss_nil)
      (pss_cons (ps_for PassesOwn.never rfl (pi_list (pv 1)) (pg_name (i := 2) scYWebinside.nd rfl (Or.inl rfl))
        (pss_one (ps_expr (C8.pe_mt YNEED hr (by decide) (pv 0) (pa_cons (pv 2) pa_nil)))))
      (pss_cons (ps_if (pt_not (pt_truth (pv 1) (by intro _; rfl))) pss_never pss_nil)
      (pss_one (ps_ret (C8.pe_mt YWPART hr (by decide) (pv 0) (pa_cons (pv 1) pa_nil))))))), zrun h ?_⟩
  rintro as P XP ⟨z, ns, rfl, ⟨wz, h0, hn, sub⟩, hp⟩ hl
  obtain ⟨p0, p1, rfl⟩ := len2 hl
  refine ⟨1, rfl, by decide, ?_⟩
  have l40 := nd_len wz hn sub
  refine blk_seq (blk_if (et_not (et_b (ev_isi (A := "list") (b := true) (fun W H v x ok _ r => by obtain ⟨a, vs, rfl, sq, _⟩ := r; exact .base (.lst sq.2)) (by decide +kernel) (ev_var (t := tLs K tStr) (x := ns) rfl ⟨rfl, fun h => absurd h (by decide), fun _ => blk_next ?_⟩)))))
  refine blk_seq (blk_for (vs := [2]) (ei_list (ev_var (t := tLs K tStr) (x := ns) rfl ⟨(fun i G' => G' = ⟨true, [.sh (yWeb K CW) z, .sh (tLs K tStr) ns, .un], [some p0, some p1]⟩), rfl, ?_, ?_⟩)))
  · rintro i x _ hx rfl
    refine tg_name (by decide) (free_of rfl) (blk_wipe [2] (blk_drop (ev_meth0 (instYW (by decide)) (ev_var rfl (ea_cons (ev_var rfl (ea_nil ⟨fun h => (nomatch h), allc trivial (all1 trivial), z, x, rfl, ⟨wz, sub x (List.mem_of_getElem? hx)⟩, fun _ => rfl⟩)))))))
  rintro _ rfl
  refine blk_seq (blk_if (et_not (et_truth trL (ev_var (t := tLs K tStr) (x := ns) rfl ⟨fun h => ?_, fun _ => blk_next ?_⟩))))
  · cases ns with
    | nil => exact absurd rfl h0
    | cons a l => cases h
  exact blk_ret (ev_meth0 (instYW (by decide)) (ev_var rfl (ea_cons (ev_var (t := tLs K tStr) (x := ns) rfl (ea_nil ⟨fun _ => rfl, allc trivial (all1 trivial), z, ns, rfl, ⟨wz, h0, hn, sub, by omega⟩, fun r hr _ => fin0 [_, _] _ (hp r hr)⟩)))))
abbrev NYWeblen : List Str := ["self"]
end
end KK
end

section
set_option maxRecDepth 100000
set_option maxHeartbeats 4000000
/-! promises of with_tie, without_tie, without_place, where they raise nothing; the new web is told to be one -/
namespace KK
open PySem PySem.Spec PyProof.Rows L2 Z
section
variable {P : Program} {w : World} {K : PySem.W.Frag} {mg : Str → Option Value} {base : Heap} {C : Addr}
abbrev ctWithTieC (K : PySem.W.Frag) (C : Addr) : CT WebZ := ⟨true, tWeb K C, fun as P _ => ∃ z x y, as = [.sh (tWeb K C) z, .sh tStr x, .sh tStr y] ∧ (x ∈ z.ms ∧ y ∈ z.ms ∧ x ≠ y ∧ ordP (x, y) ∉ z.us ∧ z.us.length < 400) ∧ ∀ r, (WfZ r ∧ WfZ z ∧ WebOk z.ms z.qs (z.us ++ [ordP (x, y)]) r.ms r.qs r.us) → P r⟩
abbrev ctCutC (K : PySem.W.Frag) (C : Addr) : CT WebZ := ⟨true, tWeb K C, fun as P _ => ∃ z x y, as = [.sh (tWeb K C) z, .sh tStr x, .sh tStr y] ∧ (x ∈ z.ms ∧ y ∈ z.ms ∧ ordP (x, y) ∈ z.us) ∧ ∀ r, (WfZ r ∧ WfZ z ∧ WebOk z.ms z.qs (z.us.filter fun p => !decide (p = ordP (x, y))) r.ms r.qs r.us) → P r⟩
abbrev ctWithoutC (K : PySem.W.Frag) (C : Addr) : CT WebZ := ⟨true, tWeb K C, fun as P _ => ∃ z x, as = [.sh (tWeb K C) z, .sh tStr x] ∧ (x ∈ z.ms ∧ 1 < z.ms.length) ∧ ∀ r, (WfZ r ∧ WfZ z ∧ WebOk (z.ms.filter fun y => !decide (y = x)) ((z.ms.filter fun y => !decide (y = x)).map (prF z.ms z.qs)) (z.us.filter (within (z.ms.filter fun y => !decide (y = x)))) r.ms r.qs r.us) → P r⟩
end
end KK
end

section
set_option maxRecDepth 100000
set_option maxHeartbeats 4000000
namespace KK
open PySem PySem.Spec PyProof.Rows L2 Y
/-! a web with a tie more, a place less; parts of a web and their worths -/
structure TieW (z : WebZ) (x y : Str) (r : WebZ) : Prop where
  wf : WfZ r
  pm : r.ms.Perm z.ms
  pu : r.us.Perm (z.us ++ [ordP (x, y)])
  pr : ∀ x ∈ z.ms, prW r x = prW z x
abbrev yWithTie (K : PySem.W.Frag) (C : Addr) : Y.CT WebZ := ⟨true, .sh (yWeb K C), fun as P _ => ∃ z x y, as = [.sh (yWeb K C) z, .sh tStr x, .sh tStr y] ∧ (x ∈ z.ms ∧ y ∈ z.ms ∧ x ≠ y ∧ ordP (x, y) ∉ z.us ∧ z.us.length < 400) ∧ ∀ r, TieW z x y r → ∀ os, P os r⟩
abbrev yDropW (K : PySem.W.Frag) (C : Addr) : Y.CT WebZ := ⟨true, .sh (yWeb K C), fun as P _ => ∃ z x, as = [.sh (yWeb K C) z, .sh tStr x] ∧ (x ∈ z.ms ∧ 1 < z.ms.length) ∧ ∀ r, PartW z (z.ms.filter fun y => !decide (y = x)) r → ∀ os, P os r⟩
def nearL (z : WebZ) (x : Str) : List Str := (z.us.filter fun e => decide (e.2 = x)).map (·.1) ++ (z.us.filter fun e => decide (e.1 = x)).map (·.2)
abbrev yNear (K : PySem.W.Frag) (C : Addr) : Y.CT (List Str) := ⟨true, .ow (oL K tStr), fun as P _ => ∃ z x, as = [.sh (yWeb K C) z, .sh tStr x] ∧ (WfZ z ∧ x ∈ z.ms) ∧ ∀ os, P os (nearL z x)⟩
theorem near_mem {z : WebZ} (wz : WfZ z) {x y : Str} (hx : x ∈ z.ms) : y ∈ nearL z x ↔ ordP (x, y) ∈ z.us ∧ x ≠ y := by
  unfold nearL
  rw [List.mem_append, List.mem_map, List.mem_map]
  constructor
  · rintro (⟨e, he, rfl⟩ | ⟨e, he, rfl⟩)
    · obtain ⟨h1, h2⟩ := List.mem_filter.mp he
      have h2 := of_decide_eq_true h2
      have ne := (wz.p.to.ok e h1).ne
      refine ⟨?_, fun z => ne (z.symm.trans h2.symm)⟩
      have : ordP (x, e.1) = e := by
        rw [← h2]
        have f := wz.fx e h1
        have s : ordP (e.2, e.1) = ordP (e.1, e.2) := ordP_swap _ _
        rw [s]
        exact f
      rw [this]
      exact h1
    · obtain ⟨h1, h2⟩ := List.mem_filter.mp he
      have h2 := of_decide_eq_true h2
      refine ⟨?_, fun z => (wz.p.to.ok e h1).ne (h2.trans z)⟩
      have : ordP (x, e.2) = e := by
        rw [← h2]
        exact wz.fx e h1
      rw [this]
      exact h1
  · rintro ⟨h, ne⟩
    rcases ordP_cases (x, y) with c | c
    · rw [c] at h
      exact .inr ⟨_, List.mem_filter.mpr ⟨h, decide_eq_true rfl⟩, rfl⟩
    · rw [c] at h
      exact .inl ⟨_, List.mem_filter.mpr ⟨h, decide_eq_true rfl⟩, rfl⟩
/-! sums -/
/-! parts -/
section
variable {z r r1 r2 : WebZ} {n1 n2 ns : List Str} {v a b : Int}
def chE (z : WebZ) (q : Str × Str) : Str := if prW z q.2 < prW z q.1 then q.2 else q.1
end
section
variable {P : Program} {w : World} {K : PySem.W.Frag} {mg : Str → Option Value} {base : Heap} {C CS CW : Addr}
end
end KK
end

section
set_option maxRecDepth 100000
set_option maxHeartbeats 4000000
namespace KK
open PySem PySem.Spec PyProof.Rows L2 Y
/-! distances from a place, sides, rings -/
def Adj (z : WebZ) (x y : Str) : Prop := ordP (x, y) ∈ z.us
theorem Adj.sym {z : WebZ} {x y : Str} (h : Adj z x y) : Adj z y x := by
  unfold Adj at h ⊢
  rw [show ordP (y, x) = ordP (x, y) from ordP_swap _ _]
  exact h
theorem Adj.ends {z : WebZ} (wz : WfZ z) {x y : Str} (h : Adj z x y) : x ∈ z.ms ∧ y ∈ z.ms ∧ x ≠ y := by
  have t := wz.p.to.ok _ h
  rcases ordP_cases (x, y) with c | c <;> rw [c] at t
  · exact ⟨t.a, t.b, t.ne⟩
  · exact ⟨t.b, t.a, fun e => t.ne e.symm⟩
theorem near_adj {z : WebZ} (wz : WfZ z) {x y : Str} (hx : x ∈ z.ms) : y ∈ nearL z x ↔ Adj z x y := by
  rw [near_mem wz hx]
  exact ⟨fun h => h.1, fun h => ⟨h, (Adj.ends wz h).2.2⟩⟩
theorem us_adj {z : WebZ} (wz : WfZ z) {e : Str × Str} (he : e ∈ z.us) : Adj z e.1 e.2 := by
  unfold Adj
  have := wz.fx e he
  rw [show ordP (e.1, e.2) = e from this]
  exact he
theorem look_key {d : List (Str × Int)} {x : Str} {n : Int} (h : lookK d x = some n) : (x, n) ∈ d := by
  unfold lookK at h
  obtain ⟨p, hp, e⟩ := Option.map_eq_some_iff.mp h
  have h1 := List.mem_of_find?_eq_some hp
  have h2 : decide (p.1 = x) = true := List.find?_some (p := fun q : Str × Int => decide (q.1 = x)) hp
  have h2 := of_decide_eq_true h2
  rw [← h2, ← e]
  exact h1
theorem look_no {d : List (Str × Int)} {x : Str} (h : lookK d x = none) : x ∉ d.map (·.1) := fun q => by
  obtain ⟨e, he, rfl⟩ := List.mem_map.mp q
  unfold lookK at h
  rw [Option.map_eq_none_iff, List.find?_eq_none] at h
  exact h e he (by simp)
theorem key_look {d : List (Str × Int)} {x : Str} (h : x ∈ d.map (·.1)) : ∃ n, lookK d x = some n := by
  cases e : lookK d x with
  | none => exact absurd h (look_no e)
  | some n => exact ⟨n, rfl⟩
theorem look_put3 {d : List (Str × Int)} {a x : Str} {v : Int} : lookK (putZ d a v) x = if a = x then some v else lookK d x := by
  cases e : lookK d a with
  | some n => exact look_put (by rw [e]; rfl)
  | none =>
    rw [putZ_new (look_no e)]
    unfold lookK
    rw [List.find?_append]
    by_cases c : a = x
    · subst c
      have : d.find? (fun p => decide (p.1 = a)) = none := by
        unfold lookK at e
        exact Option.map_eq_none_iff.mp e
      rw [this, if_pos rfl]
      simp
    · rw [if_neg c]
      cases q : d.find? (fun p => decide (p.1 = x)) with
      | some p => simp
      | none => simp [c]
/-- the distances from r -/
structure DistB (z : WebZ) (r : Str) (L : Int) (d : List (Str × Int)) : Prop where
  nd : (d.map (·.1)).Nodup
  sub : ∀ x n, lookK d x = some n → x ∈ z.ms ∧ 0 ≤ n ∧ n ≤ L
  rt : lookK d r = some 0
  zr : ∀ x, lookK d x = some 0 → x = r
  dn : ∀ x n, lookK d x = some n → 0 < n → ∃ y m, Adj z x y ∧ lookK d y = some m ∧ m < n
/-- whoever is nearer than L has been looked around from -/
def DoneB (z : WebZ) (L : Int) (d : List (Str × Int)) : Prop := ∀ x n, lookK d x = some n → n < L → ∀ y, Adj z x y → ∃ m, lookK d y = some m ∧ m ≤ n + 1
structure DistR (z : WebZ) (r : Str) (d : List (Str × Int)) : Prop where
  b : ∃ L, DistB z r L d
  clo : ∀ x n, lookK d x = some n → ∀ y, Adj z x y → ∃ m, lookK d y = some m ∧ m ≤ n + 1
/-- where the outer loop stands -/
structure BfsO (z : WebZ) (r : Str) (L : Int) (d : List (Str × Int)) (bd : List Str) : Prop where
  b : DistB z r L d
  l0 : 0 ≤ L
  o : DoneB z L d
  bd1 : ∀ x, lookK d x = some L → x ∈ bd
  bd2 : ∀ x ∈ bd, lookK d x = some L
theorem DistB.len {z : WebZ} {r : Str} {L : Int} {d : List (Str × Int)} (h : DistB z r L d) : d.length ≤ z.ms.length := by
  have : (d.map (·.1)).length ≤ z.ms.length := by
    have gen : ∀ {a b : List Str}, a.Nodup → (∀ x ∈ a, x ∈ b) → a.length ≤ b.length := fun {a} => by
      induction a with
      | nil => exact fun _ _ => Nat.zero_le _
      | cons x a ih =>
        intro b hn hs
        rw [List.nodup_cons] at hn
        have hx := hs x List.mem_cons_self
        have := ih (b := b.erase x) hn.2 fun y hy => (List.mem_erase_of_ne (fun e => hn.1 (by rw [← e]; exact hy))).mpr (hs y (List.mem_cons_of_mem _ hy))
        rw [List.length_erase_of_mem hx] at this
        have := List.length_pos_of_mem hx
        rw [List.length_cons]
        omega
    refine gen h.nd fun x hx => ?_
    obtain ⟨n, hn⟩ := key_look hx
    exact (h.sub x n hn).1
  rwa [List.length_map] at this
theorem bfs_start {z : WebZ} {r : Str} (hr : r ∈ z.ms) : BfsO z r 0 [(r, 0)] [r] := by
  have lk : ∀ x n, lookK [(r, (0 : Int))] x = some n ↔ x = r ∧ n = 0 := fun x n => by
    rw [look_cons]
    by_cases c : r = x
    · rw [if_pos c]
      exact ⟨fun h => ⟨c.symm, (Option.some.inj h).symm⟩, fun h => by rw [h.2]⟩
    · rw [if_neg c]
      exact ⟨fun h => (nomatch h), fun h => absurd h.1.symm c⟩
  refine ⟨⟨List.nodup_cons.mpr ⟨by simp, List.nodup_nil⟩, fun x n h => ?_, (lk r 0).mpr ⟨rfl, rfl⟩, fun x h => ((lk x 0).mp h).1, fun x n h p => ?_⟩, Int.le_refl _, fun x n h p => ?_, fun x h => ?_, fun x h => ?_⟩
  · obtain ⟨e1, e2⟩ := (lk x n).mp h
    rw [e1, e2]
    exact ⟨hr, Int.le_refl _, Int.le_refl _⟩
  · have := ((lk x n).mp h).2
    omega
  · have := ((lk x n).mp h).2
    omega
  · rw [((lk x 0).mp h).1]
    exact List.mem_singleton_self _
  · rw [List.mem_singleton] at h
    exact (lk x 0).mpr ⟨h, rfl⟩
/-- where the inner loops stand: dn so far, what is found, the places looked around from, the neighbours looked at -/
structure BfsI (z : WebZ) (r : Str) (L : Int) (d d2 : List (Str × Int)) (fd ps ys : List Str) : Prop where
  b : DistB z r (L + 1) d2
  old : ∀ x n, lookK d x = some n → lookK d2 x = some n
  nw : ∀ x n, lookK d2 x = some n → lookK d x = some n ∨ (n = L + 1 ∧ x ∈ fd)
  fdl : ∀ x ∈ fd, lookK d2 x = some (L + 1)
  ln : d2.length = d.length + fd.length
  ps : ∀ x ∈ ps, ∀ y, Adj z x y → ∃ m, lookK d2 y = some m ∧ m ≤ L + 1
  ys : ∀ y ∈ ys, ∃ m, lookK d2 y = some m ∧ m ≤ L + 1
theorem bfs_in {z : WebZ} {r : Str} {L : Int} {d : List (Str × Int)} {bd : List Str} (h : BfsO z r L d bd) : BfsI z r L d d [] [] [] := ⟨⟨h.b.nd, fun x n q => by
  have := h.b.sub x n q
  exact ⟨this.1, this.2.1, by omega⟩, h.b.rt, h.b.zr, h.b.dn⟩, fun _ _ q => q, fun _ _ q => .inl q, fun x q => absurd q (by simp), rfl, fun x q => absurd q (by simp), fun x q => absurd q (by simp)⟩
section
variable {z : WebZ} {r x0 y : Str} {L : Int} {d d2 : List (Str × Int)} {fd ps ys bd : List Str}
theorem BfsI.there (h : BfsI z r L d d2 fd ps ys) {m : Int} (hy : lookK d2 y = some m) : BfsI z r L d d2 fd ps (ys ++ [y]) := ⟨h.b, h.old, h.nw, h.fdl, h.ln, h.ps, fun u hu => by
  rcases List.mem_append.mp hu with hu | hu
  · exact h.ys u hu
  · rw [List.mem_singleton] at hu
    rw [hu]
    exact ⟨m, hy, (h.b.sub y m hy).2.2⟩⟩
theorem BfsI.add (h : BfsI z r L d d2 fd ps ys) (l0 : 0 ≤ L) (hx : lookK d2 x0 = some L) (ha : Adj z x0 y) (ym : y ∈ z.ms) (hy : lookK d2 y = none) : BfsI z r L d (putZ d2 y (L + 1)) (fd ++ [y]) ps (ys ++ [y]) := by
  have lk : ∀ u n, lookK (putZ d2 y (L + 1)) u = some n ↔ (u = y ∧ n = L + 1) ∨ lookK d2 u = some n := fun u n => by
    rw [look_put3]
    by_cases c : y = u
    · rw [if_pos c]
      constructor
      · exact fun q => .inl ⟨c.symm, (Option.some.inj q).symm⟩
      · rintro (⟨_, e⟩ | q)
        · rw [e]
        · rw [← c, hy] at q; cases q
    · rw [if_neg c]
      constructor
      · exact .inr
      · rintro (⟨e, _⟩ | q)
        · exact absurd e.symm c
        · exact q
  have keep : ∀ u n, lookK d2 u = some n → lookK (putZ d2 y (L + 1)) u = some n := fun u n q => (lk u n).mpr (.inr q)
  refine ⟨⟨?_, fun u n q => ?_, keep _ _ h.b.rt, fun u q => ?_, fun u n q p => ?_⟩, fun u n q => keep u n (h.old u n q), fun u n q => ?_, fun u hu => ?_, ?_, fun u hu v hv => ?_, fun u hu => ?_⟩
  · rw [putZ_new (look_no hy), List.map_append, List.nodup_append]
    refine ⟨h.b.nd, List.nodup_cons.mpr ⟨by simp, List.nodup_nil⟩, fun a ha b hb e => ?_⟩
    have hb : b = y := by simpa using hb
    exact look_no hy (by rw [← hb, ← e]; exact ha)
  · rcases (lk u n).mp q with ⟨e1, e2⟩ | q
    · rw [e1, e2]
      exact ⟨ym, by omega, Int.le_refl _⟩
    · exact h.b.sub u n q
  · rcases (lk u 0).mp q with ⟨_, e2⟩ | q
    · omega
    · exact h.b.zr u q
  · rcases (lk u n).mp q with ⟨e1, e2⟩ | q
    · rw [e1, e2]
      exact ⟨x0, L, ha.sym, keep _ _ hx, by omega⟩
    · obtain ⟨v, m, a, b, c⟩ := h.b.dn u n q p
      exact ⟨v, m, a, keep _ _ b, c⟩
  · rcases (lk u n).mp q with ⟨e1, e2⟩ | q
    · exact .inr ⟨e2, by rw [e1]; simp⟩
    · rcases h.nw u n q with a | ⟨a, b⟩
      · exact .inl a
      · exact .inr ⟨a, List.mem_append_left _ b⟩
  · rcases List.mem_append.mp hu with hu | hu
    · exact keep _ _ (h.fdl u hu)
    · rw [List.mem_singleton] at hu
      exact (lk u _).mpr (.inl ⟨hu, rfl⟩)
  · rw [putZ_new (look_no hy), List.length_append, List.length_append, h.ln]
    simp
    omega
  · obtain ⟨m, a, b⟩ := h.ps u hu v hv
    exact ⟨m, keep _ _ a, b⟩
  · rcases List.mem_append.mp hu with hu | hu
    · obtain ⟨m, a, b⟩ := h.ys u hu
      exact ⟨m, keep _ _ a, b⟩
    · rw [List.mem_singleton] at hu
      exact ⟨L + 1, (lk u _).mpr (.inl ⟨hu, rfl⟩), Int.le_refl _⟩
theorem BfsI.next (wz : WfZ z) (h : BfsI z r L d d2 fd ps ys) (hx : x0 ∈ z.ms) (hy : ys = nearL z x0) : BfsI z r L d d2 fd (ps ++ [x0]) [] := ⟨h.b, h.old, h.nw, h.fdl, h.ln, fun u hu v hv => by
  rcases List.mem_append.mp hu with hu | hu
  · exact h.ps u hu v hv
  · rw [List.mem_singleton] at hu
    rw [hu] at hv
    exact h.ys v (by rw [hy]; exact (near_adj wz hx).mpr hv), fun u hu => absurd hu (by simp)⟩
theorem BfsI.level (h : BfsI z r L d d2 fd ps ys) (o : BfsO z r L d bd) (hp : ps = bd) : BfsO z r (L + 1) d2 fd := by
  refine ⟨h.b, by have := o.l0; omega, fun x n q p y a => ?_, fun x q => ?_, h.fdl⟩
  · rcases h.nw x n q with q1 | ⟨q1, _⟩
    · by_cases c : n < L
      · obtain ⟨m, e, le⟩ := o.o x n q1 c y a
        exact ⟨m, h.old y m e, le⟩
      · have hn := (o.b.sub x n q1).2.2
        have e : n = L := by omega
        subst e
        exact h.ps x (by rw [hp]; exact o.bd1 x q1) y a
    · omega
  · rcases h.nw x _ q with q1 | ⟨_, q1⟩
    · have := (o.b.sub x _ q1).2.2
      omega
    · exact q1
theorem BfsO.fin (o : BfsO z r L d []) : DistR z r d := ⟨⟨L, o.b⟩, fun x n q y a => by
  have := (o.b.sub x n q).2.2
  have : n ≠ L := fun e => by
    rw [e] at q
    exact absurd (o.bd1 x q) (by simp)
  exact o.o x n q (by omega) y a⟩
end
section
variable {z : WebZ} {r : Str} {d : List (Str × Int)}
theorem DistR.step (h : DistR z r d) {x y : Str} {n m : Int} (a : Adj z x y) (hx : lookK d x = some n) (hy : lookK d y = some m) : m ≤ n + 1 ∧ n ≤ m + 1 := by
  obtain ⟨m1, e1, l1⟩ := h.clo x n hx y a
  obtain ⟨n1, e2, l2⟩ := h.clo y m hy x a.sym
  rw [hy] at e1
  rw [hx] at e2
  cases e1
  cases e2
  exact ⟨l1, l2⟩
end
/-- a ring with an odd number of places -/
structure RingR (z : WebZ) (rg : List Str) : Prop where
  nd : rg.Nodup
  lo : 3 ≤ rg.length
  odd : rg.length % 2 = 1
  ch : ∀ i x y, rg[i]? = some x → rg[i + 1]? = some y → Adj z x y
  cl : ∀ x y, rg[0]? = some x → rg[rg.length - 1]? = some y → Adj z y x
  sub : ∀ x ∈ rg, x ∈ z.ms
end KK
end

section
set_option maxRecDepth 100000
set_option maxHeartbeats 4000000
namespace KK
open PySem PySem.Spec PyProof.Rows L2 Y
section
variable {K : PySem.W.Frag} {mg : Str → Option Value} {CW : Addr}
theorem fo_ties (W : WebC K mg CW) : FldOf K "_ties" (yWeb K CW) (tLs K (tPr K)) fun z => z.us := fun Wd H v z r => by
  obtain ⟨_, o, dx, dp, tl, xs, rfl, h1, h2, h3, h4⟩ := r
  exact ⟨o, CW, dx, _, .ref tl, rfl, rdR.mp h1, W.cl, W.nt, rfl, tl, xs, rfl, ⟨toR_sh.mp h3.1, h3.2⟩, L2.Paired.mapP h4 fun u x r => (same_t2 same_str same_str _ _ _ _).mpr r⟩
end
abbrev yParted (K : PySem.W.Frag) : Y.CT (List Str × List Str) := ⟨false, .sh (tL2 K (tLs K tStr) (tLs K tStr)), fun as P _ => ∃ ps, as = [.sh tStm (), .sh (tTu K tStr) ps] ∧ (2 ≤ ps.length ∧ ps.length ≤ 40) ∧ ∀ n1 n2, (n1 ++ n2).Perm ps → n1 ≠ [] → n2 ≠ [] → ∀ os, P os (n1, n2)⟩
section
variable {P : Program} {w : World} {K : PySem.W.Frag} {mg : Str → Option Value} {base : Heap} {C CS CW : Addr}
abbrev NYWebnear : List Str := ["self", "place", "a", "b"]
theorem scYWebnear : FnScope NYWebnear ["self", "place"] (defScope s_Web_near) := ⟨rfl, rfl, rfl, by decide +kernel, rfl, by decide +kernel, by decide +kernel⟩
theorem y_near (T : Blt mg) (CC : WebC K mg CW) (F : HasM K CW "near" "Web.near" s_Web_near) (YNEED : C8.Met P w K mg base 2 CW "_need" (Y.spZ (yNeed K CW)) []) : C8.Met P w K mg base 3 CW "near" (Y.spZ (yNear K CW)) [] := by
  refine metF CC.cl F (fun f fd F => F.binds (ps := ["self", "place"]) fun _ _ _ _ _ _ us hl => match us, hl with | [_, _], _ => rfl) scYWebnear (fun vs H Q E h => zlen (fun as P XP hc => by obtain ⟨_, _, rfl, _⟩ := hc; rfl) h) (fun f cdv A outer s H vs Q E hr h => ?_)
  have hu := hu_of hr
  refine ⟨_, (pss_cons (ps_expr (C8.pe_mt YNEED hr (by decide) (pv 0) (pa_cons (pv 1) pa_nil)))
      (pss_one (ps_ret (pe_op op_cat (pe_lc (own := [("a", 2), ("b", 3)]) (g := gTup K 2 (gCons (gName 2) (gCons (gName 3) gNil))) rfl scYWebnear.nd (pi_list (pe_fld (pv 0) rfl)) (blkOk_by (own := [("a", 2), ("b", 3)]) (N := NYWebnear) (sc := defScope s_Web_near) (by decide +kernel)) (fun _ _ _ _ _ => (pg_tup rfl (pgs_cons (pg_name (i := 2) scYWebnear.nd rfl (Or.inl rfl)) (pgs_cons (pg_name (i := 3) scYWebnear.nd rfl (Or.inl rfl)) pgs_nil)))) (fun _ _ _ _ _ => pts_one (pt_cmpR op_eq (pv 3) (pv 1) (nomark _))) (fun _ _ _ _ _ => (pv 2))) (pe_lc (own := [("a", 2), ("b", 3)]) (g := gTup K 2 (gCons (gName 2) (gCons (gName 3) gNil))) rfl scYWebnear.nd (pi_list (pe_fld (pv 0) rfl)) (blkOk_by (own := [("a", 2), ("b", 3)]) (N := NYWebnear) (sc := defScope s_Web_near) (by decide +kernel)) (fun _ _ _ _ _ => (pg_tup rfl (pgs_cons (pg_name (i := 2) scYWebnear.nd rfl (Or.inl rfl)) (pgs_cons (pg_name (i := 3) scYWebnear.nd rfl (Or.inl rfl)) pgs_nil)))) (fun _ _ _ _ _ => pts_one (pt_cmpR op_eq (pv 2) (pv 1) (nomark _))) (fun _ _ _ _ _ => (pv 3))))))), zrun h ?_⟩
  rintro as P XP ⟨z, x, rfl, ⟨wz, hx⟩, hp⟩ hl
  obtain ⟨p0, p1, rfl⟩ := len2 hl
  refine ⟨2, rfl, by decide, ?_⟩
  have h400 := wz.p.to.hi
  refine blk_seq (blk_drop (ev_meth0 (instYW (by decide)) (ev_var rfl (ea_cons (ev_var rfl (ea_nil ⟨fun h => (nomatch h), allc trivial (all1 trivial), z, x, rfl, ⟨wz, hx⟩, fun _ => ?_⟩))))))
  refine blk_ret (ev_op ro_cat (EvR.share (O := oL K tStr) (ev_lc (K := K) (u := tStr) (vs := [2, 3]) (ei_list (ev_fld (fo_ties CC) (ev_var rfl ⟨(fun i ys => ys = ((z.us.take i).filter fun e => decide (e.2 = x)).map (·.1)), fits40 (by omega), ?_, rfl, ?_, ?_⟩))))))
  · intro i hi
    rcases List.mem_cons.mp hi with rfl | hi
    · exact free_of rfl
    · rw [List.mem_singleton] at hi; subst hi; exact free_of rfl
  · rintro i e ys he rfl
    refine tg_tup2 (tg_name (by decide) (free_of rfl) (tg_name (by decide) (free_of rfl) (et_b (ev_op ro_eqS (ev_var rfl (ev_var rfl ⟨fun h => ev_var rfl ?_, fun h => ?_⟩))))))
    · show _ = _
      rw [filter_snoc he, if_pos (show decide (e.2 = x) = true from h), List.map_append]; rfl
    · show _ = _
      rw [filter_snoc he, if_neg (by rw [show decide (e.2 = x) = false from h]; decide), List.append_nil]
  rintro ys rfl
  rw [List.take_of_length_le (Nat.le_refl _)]
  refine EvR.share (O := oL K tStr) (ev_lc (K := K) (u := tStr) (vs := [2, 3]) (ei_list (ev_fld (fo_ties CC) (ev_var rfl ⟨(fun i ys => ys = ((z.us.take i).filter fun e => decide (e.1 = x)).map (·.2)), fits40 (by omega), ?_, rfl, ?_, ?_⟩))))
  · intro i hi
    rcases List.mem_cons.mp hi with rfl | hi
    · exact free_of rfl
    · rw [List.mem_singleton] at hi; subst hi; exact free_of rfl
  · rintro i e ys he rfl
    refine tg_tup2 (tg_name (by decide) (free_of rfl) (tg_name (by decide) (free_of rfl) (et_b (ev_op ro_eqS (ev_var rfl (ev_var rfl ⟨fun h => ev_var rfl ?_, fun h => ?_⟩))))))
    · show _ = _
      rw [filter_snoc he, if_pos (show decide (e.1 = x) = true from h), List.map_append]; rfl
    · show _ = _
      rw [filter_snoc he, if_neg (by rw [show decide (e.1 = x) = false from h]; decide), List.append_nil]
  rintro ys rfl
  rw [List.take_of_length_le (Nat.le_refl _)]
  refine ⟨Nat.le_of_lt (fits40 ?_), fin0 [_, _] _ hp⟩
  rw [List.length_map, List.length_map]
  have a := List.length_filter_le (fun e : Str × Str => decide (e.2 = x)) z.us
  have b := List.length_filter_le (fun e : Str × Str => decide (e.1 = x)) z.us
  omega
end
end KK
end

section
set_option maxRecDepth 100000
set_option maxHeartbeats 4000000
namespace KK
open PySem PySem.Spec PyProof.Rows L2 Y
/-! parts, level ties, rings -/
theorem DistR.len {z : WebZ} {r : Str} {d : List (Str × Int)} (wz : WfZ z) (h : DistR z r d) : d.length ≤ 40 := by
  obtain ⟨L, b⟩ := h.b
  exact Nat.le_trans b.len wz.p.no.hi
theorem DistR.ms {z : WebZ} {r : Str} {d : List (Str × Int)} (h : DistR z r d) {x : Str} {n : Int} (hx : lookK d x = some n) : x ∈ z.ms ∧ 0 ≤ n := by
  obtain ⟨L, b⟩ := h.b
  have := b.sub x n hx
  exact ⟨this.1, this.2.1⟩
/-- the parts of a web with their least places -/
structure PartsR (z : WebZ) (ds : List (List (Str × Int))) : Prop where
  rs : ∃ rs : List Str, rs.Sublist z.ms ∧ rs.length = ds.length ∧ ∀ (i : Nat) (r : Str) (d : List (Str × Int)), rs[i]? = some r → ds[i]? = some d → DistR z r d
  all : ∀ x ∈ z.ms, ∃ d ∈ ds, hasK d x = true
  fs : ∀ (i : Nat) (d : List (Str × Int)), ds[i]? = some d → ∃ r n, DistR z r d ∧ z.ms[n]? = some r ∧ ∀ x ∈ z.ms.take n, ∃ d2 ∈ ds.take i, hasK d2 x = true
theorem PartsR.one {z : WebZ} {ds : List (List (Str × Int))} (h : PartsR z ds) {d : List (Str × Int)} (hd : d ∈ ds) : ∃ r, DistR z r d := by
  obtain ⟨rs, _, hl, h⟩ := h.rs
  obtain ⟨i, hi, e⟩ := List.getElem_of_mem hd
  exact ⟨_, h i (rs[i]'(by omega)) d (List.getElem?_eq_getElem _) (by rw [List.getElem?_eq_getElem hi, e])⟩
structure PartI (z : WebZ) (sn : List (Str × Int)) (ds : List (List (Str × Int))) (i : Nat) : Prop where
  rs : ∃ rs : List Str, rs.Sublist (z.ms.take i) ∧ rs.length = ds.length ∧ ∀ (i : Nat) (r : Str) (d : List (Str × Int)), rs[i]? = some r → ds[i]? = some d → DistR z r d
  all : ∀ x ∈ z.ms.take i, ∃ d ∈ ds, hasK d x = true
  fs : ∀ (i : Nat) (d : List (Str × Int)), ds[i]? = some d → ∃ r n, DistR z r d ∧ z.ms[n]? = some r ∧ ∀ x ∈ z.ms.take n, ∃ d2 ∈ ds.take i, hasK d2 x = true
  ss : ∀ x, hasK sn x = true ↔ ∃ d ∈ ds, hasK d x = true
  ln : sn.length ≤ 40 * i
  dl : ds.length ≤ i
theorem mrg_len : ∀ (ys xs : List (Str × Int)), (mrgZ xs ys).length ≤ xs.length + ys.length
  | [], xs => Nat.le_refl _
  | e :: ys, xs => by
    have h := mrg_len ys (putZ xs e.1 e.2)
    have h2 := Y.putZ_len xs e.1 e.2
    show (mrgZ (putZ xs e.1 e.2) ys).length ≤ xs.length + (ys.length + 1)
    omega
theorem has_put {d : List (Str × Int)} {a x : Str} {v : Int} : hasK (putZ d a v) x = true ↔ a = x ∨ hasK d x = true := by
  show (lookK (putZ d a v) x).isSome = true ↔ a = x ∨ (lookK d x).isSome = true
  rw [look_put3]
  by_cases c : a = x
  · rw [if_pos c]
    exact ⟨fun _ => .inl c, fun _ => rfl⟩
  · rw [if_neg c]
    exact ⟨.inr, fun h => h.resolve_left c⟩
theorem has_mrg {x : Str} : ∀ (ys xs : List (Str × Int)), hasK (mrgZ xs ys) x = true ↔ hasK xs x = true ∨ hasK ys x = true
  | [], xs => by
    show hasK xs x = true ↔ hasK xs x = true ∨ (lookK ([] : List (Str × Int)) x).isSome = true
    exact ⟨.inl, fun h => h.resolve_right (by simp [lookK])⟩
  | e :: ys, xs => by
    have h := has_mrg (x := x) ys (putZ xs e.1 e.2)
    show hasK (mrgZ (putZ xs e.1 e.2) ys) x = true ↔ _
    rw [h, has_put]
    have hc : hasK (e :: ys) x = true ↔ e.1 = x ∨ hasK ys x = true := by
      show (lookK ((e.1, e.2) :: ys) x).isSome = true ↔ _
      rw [look_cons]
      by_cases c : e.1 = x
      · rw [if_pos c]
        exact ⟨fun _ => .inl c, fun _ => rfl⟩
      · rw [if_neg c]
        exact ⟨.inr, fun h => h.resolve_left c⟩
    rw [hc]
    constructor
    · rintro ((a | a) | a)
      · exact .inr (.inl a)
      · exact .inl a
      · exact .inr (.inr a)
    · rintro (a | a | a)
      · exact .inl (.inr a)
      · exact .inl (.inl a)
      · exact .inr a
inductive LevelR (z : WebZ) (d : List (Str × Int)) : Option (Str × Str) → Prop where
  | no : (∀ e ∈ z.us, hasK d e.1 = true → gD d e.1 ≠ gD d e.2) → LevelR z d none
  | yes (e : Str × Str) (n : Int) : e ∈ z.us → lookK d e.1 = some n → lookK d e.2 = some n → LevelR z d (some e)
abbrev yDists (K : PySem.W.Frag) (CW : Addr) : Y.CT (List (Str × Int)) := ⟨true, .ow (oD kS tInt), fun as P _ => ∃ z r, as = [.sh (yWeb K CW) z, .sh tStr r] ∧ (WfZ z ∧ r ∈ z.ms) ∧ ∀ d, DistR z r d → ∀ os, P os d⟩
abbrev yPartsF (K : PySem.W.Frag) (CW : Addr) : Y.CT (List (List (Str × Int))) := ⟨true, .ow (oL K (tDk kS tInt)), fun as P _ => ∃ z, as = [.sh (yWeb K CW) z] ∧ WfZ z ∧ ∀ ds, PartsR z ds → ∀ os, P os ds⟩
abbrev yLevel (K : PySem.W.Frag) (CW : Addr) : Y.CT (Option (Str × Str)) := ⟨true, .sh (tOpt (tPr K)), fun as P _ => ∃ z d, as = [.sh (yWeb K CW) z, .sh (tDk kS tInt) d] ∧ (WfZ z ∧ ∃ r, DistR z r d) ∧ ∀ o, LevelR z d o → ∀ os, P os o⟩
abbrev yNearer (K : PySem.W.Frag) (CW : Addr) : Y.CT Str := ⟨true, .sh tStr, fun as P _ => ∃ z d x, as = [.sh (yWeb K CW) z, .sh (tDk kS tInt) d, .sh tStr x] ∧ (WfZ z ∧ (∃ r, DistR z r d) ∧ ∃ n, lookK d x = some n ∧ 0 < n) ∧ ∀ y, (Adj z x y ∧ lookK d y = some (gD d x - 1)) → ∀ os, P os y⟩
abbrev yRingC (K : PySem.W.Frag) (CW : Addr) : Y.CT (List Str) := ⟨true, .ow (oL K tStr), fun as P _ => ∃ z d e, as = [.sh (yWeb K CW) z, .sh (tDk kS tInt) d, .sh (tPr K) e] ∧ (WfZ z ∧ (∃ r, DistR z r d) ∧ e ∈ z.us ∧ ∃ n, lookK d e.1 = some n ∧ lookK d e.2 = some n) ∧ ∀ rg, RingR z rg → ∀ os, P os rg⟩
theorem gD_of3 {d : List (Str × Int)} {x : Str} {n : Int} (h : lookK d x = some n) : gD d x = n := by
  unfold gD
  rw [h]
  rfl
section
variable {P : Program} {w : World} {K : PySem.W.Frag} {mg : Str → Option Value} {base : Heap} {C CS CW CC : Addr}
abbrev NYdistances : List Str := ["web", "root", "distances", "border", "found", "place", "other"]
theorem scYdistances : FnScope NYdistances ["web", "root"] (defScope s_distances) := ⟨rfl, rfl, rfl, by decide +kernel, rfl, by decide +kernel, by decide +kernel⟩
theorem y_dists (T : Blt mg) (F : Has K mg "_distances" s_distances) (YNEAR : C8.Met P w K mg base 3 CW "near" (Y.spZ (yNear K CW)) []) : C8.Cal P w K mg base 4 "_distances" (Y.spZ (yDists K CW)) [] := by
  refine calF F (fun f fd F => F.binds (ps := ["web", "root"]) fun _ _ _ _ _ _ us hl => match us, hl with | [_, _], _ => rfl) scYdistances (fun vs H Q E h => zlen (fun as P XP hc => by obtain ⟨_, _, rfl, _⟩ := hc; rfl) h) (fun f cdv A outer s H vs Q E hr h => ?_)
  have hu := hu_of hr
  refine ⟨_, (pss_cons (ps_set (i := 2) scYdistances.nd rfl (Or.inl rfl) (pe_disp (pps_cons (pv 1) pe_int pps_nil) (by rfl) (by rfl) (fun z => by cases z) (by decide)))
      (pss_cons (ps_set (i := 3) scYdistances.nd rfl (Or.inl rfl) (pe_lst (pa_cons (pv 1) pa_nil)))
      (pss_cons (ps_while PassesOwn.never (pt_truth (pv 3) (by intro _; rfl))
        (pss_cons (ps_set (i := 4) scYdistances.nd rfl (Or.inl rfl) (pe_lst pa_nil))
      (pss_cons (ps_for PassesOwn.never rfl (pi_list (pv 3)) (pg_name (i := 5) scYdistances.nd rfl (Or.inl rfl))
        (pss_one (ps_for PassesOwn.never rfl (pi_list (C8.pe_mt YNEAR hr (by decide) (pv 0) (pa_cons (pv 5) pa_nil))) (pg_name (i := 6) scYdistances.nd rfl (Or.inl rfl))
        (pss_one (ps_if (pt_cmp (pc_dnotin hu (pv 6) (pv 2))) (pss_cons (ps_dput hu (pv 2) (pv 6) (pe_op op_add (pe_dget hu (pv 2) (pv 5) (fun _ _ => rfl)) pe_int) rfl)
      (pss_one (ps_expr (pe_bm PySem.F.plainAttrs_list PySem.F.slot_list_append PySem.F.type_list_append mt_append (pv 4) (pa_cons (pv 6) pa_nil))))) pss_nil)))))
      (pss_one (ps_set (i := 3) scYdistances.nd rfl (Or.inl rfl) (pv 4))))))
      (pss_one (ps_ret (pv 2)))))), zrun h ?_⟩
  rintro as P XP ⟨z, r, rfl, ⟨wz, hr⟩, hp⟩ hl
  obtain ⟨p0, p1, rfl⟩ := len2 hl
  refine ⟨5, rfl, by decide, ?_⟩
  have z40 := wz.p.no.hi
  refine blk_seq (blk_setO (ev_disp1c (x := r) rfl ⟨rfl, ?_⟩))
  refine blk_seq (blk_set (t := tLs K tStr) (EvR.share (O := oL K tStr) (ev_list (K := K) (t := tStr) (es_cons (ev_var rfl (es_nil ⟨Nat.le_of_ble_eq_true rfl, rfl, ?_⟩))))))
  refine blk_seq (blk_while (fun m G' => ∃ L d bd s4 s5 s6, (BfsO z r L d bd ∧ m = 2 * (41 - d.length) + (if bd.isEmpty then 0 else 1)) ∧ G' = ⟨true, [.sh (yWeb K CW) z, .sh tStr r, .ow (oD kS tInt) d, .sh (tLs K tStr) bd, s4, s5, s6], [some p0, some p1]⟩) _ ⟨0, _, _, _, _, _, ⟨bfs_start hr, rfl⟩, rfl⟩ ?_)
  rintro m _ ⟨L, d, bd, s4, s5, s6, ⟨o, rfl⟩, rfl⟩
  refine et_truth trL (ev_var (t := tLs K tStr) (x := bd) rfl ⟨fun hne => ?_, fun he => ?_⟩)
  · have hne : bd.isEmpty = false := by simpa using hne
    refine blk_wipe [4, 5, 6] (blk_seq (blk_setO (O := oL K tStr) (ev_list (K := K) (t := tStr) (es_nil ⟨Nat.le_of_ble_eq_true rfl, rfl, ?_⟩))))
    refine blk_seq (blk_for (vs := [5]) (ei_list (ev_var (t := tLs K tStr) (x := bd) rfl ⟨(fun i G' => ∃ d2 fd s5 s6, BfsI z r L d d2 fd (bd.take i) [] ∧ G' = ⟨true, [.sh (yWeb K CW) z, .sh tStr r, .ow (oD kS tInt) d2, .sh (tLs K tStr) bd, .ow (oL K tStr) fd, s5, s6], [some p0, some p1]⟩), ⟨_, _, _, _, bfs_in o, rfl⟩, ?_, ?_⟩)))
    · rintro i x _ hx ⟨d2, fd, s5, s6, I, rfl⟩
      have xb := o.bd2 x (List.mem_of_getElem? hx)
      have xm : x ∈ z.ms := (o.b.sub x L xb).1
      refine tg_name (by decide) (free_of rfl) (blk_wipe [5, 6] (blk_for (vs := [6]) (ei_list (EvR.share (O := oL K tStr) (ev_meth0 (instYW (by decide)) (ev_var rfl (ea_cons (ev_var rfl (ea_nil ⟨fun _ => rfl, allc trivial (all1 trivial), z, x, rfl, ⟨wz, xm⟩, fun _ => ?_⟩)))))))))
      refine ⟨(fun j G' => ∃ d2 fd s6, BfsI z r L d d2 fd (bd.take i) ((nearL z x).take j) ∧ G' = ⟨true, [.sh (yWeb K CW) z, .sh tStr r, .ow (oD kS tInt) d2, .sh (tLs K tStr) bd, .ow (oL K tStr) fd, .sh tStr x, s6], [some p0, some p1]⟩), ⟨_, _, _, I, rfl⟩, ?_, ?_⟩
      · rintro j y _ hy ⟨d2, fd, s6, I, rfl⟩
        have ay : Adj z x y := (near_adj wz xm).mp (List.mem_of_getElem? hy)
        have ym := (Adj.ends wz ay).2.1
        have lx := I.old x L xb
        have l2 := I.b.len
        have ln := I.ln
        have tk := take_more hy
        refine tg_name (by decide) (free_of rfl) (blk_wipe [6] (blk_if (et_view (et_b (ev_dnotin kyS (ev_var rfl (ev_var (t := tDk kS tInt) (x := d2) rfl ⟨fun h => ?_, fun h => ?_⟩)))))))
        · have hn : lookK d2 y = none := by
            have : (lookK d2 y).isSome = false := by simpa [hasK] using h
            simpa using this
          have I2 := I.add o.l0 lx ay ym hn
          rw [← tk] at I2
          have l3 := I2.b.len
          refine blk_seq (blk_dput kyS (pt_var (i := 2) rfl (by decide)) (ev_view (r := .sh tInt) flI (ev_op ro_I0 (ev_dget kyS (ev_var (t := tDk kS tInt) (x := d2) rfl (ev_var rfl ⟨L, lx, ev_c (t := tInt) (fun _ _ => rfl) (ev_var rfl ⟨fits40 (by omega), ?_⟩)⟩))))))
          exact blk_append (pt_var (i := 4) rfl (by decide)) (ev_var rfl ⟨fits40 (by omega), _, _, _, I2, rfl⟩)
        · have hh : (lookK d2 y).isSome = true := by simpa [hasK] using h
          obtain ⟨m, hm⟩ := Option.isSome_iff_exists.mp hh
          exact blk_next ⟨_, _, _, by rw [tk]; exact I.there hm, rfl⟩
      · rintro _ ⟨d2, fd, s6, I, rfl⟩
        rw [List.take_length] at I
        refine ⟨_, _, _, _, ?_, rfl⟩
        rw [take_more hx]
        exact I.next wz xm rfl
    · rintro _ ⟨d2, fd, s5, s6, I, rfl⟩
      rw [List.take_length] at I
      have o2 := I.level o rfl
      have l2 := o2.b.len
      have l1 := o.b.len
      have ln := I.ln
      refine blk_frz 4 rfl (blk_set (t := tLs K tStr) (ev_var (t := tLs K tStr) (x := fd) rfl ⟨rfl, _, ?_, L + 1, d2, fd, _, _, _, ⟨o2, rfl⟩, rfl⟩))
      rw [hne]
      cases fd with
      | nil =>
        rw [List.length_nil] at ln
        rw [ln]
        show 2 * (41 - (d.length + 0)) + 0 < 2 * (41 - d.length) + 1
        omega
      | cons a fd =>
        rw [List.length_cons] at ln
        show 2 * (41 - d2.length) + 1 < 2 * (41 - d.length) + 1
        omega
  · have e : bd = [] := by
      have : bd.isEmpty = true := by simpa using he
      exact List.isEmpty_iff.mp this
    subst e
    exact blk_ret (ev_give (i := 2) rfl (fin0 [_, _] _ (hp d o.fin)))
abbrev NYparts : List Str := ["web", "seen", "found", "place", "distances"]
theorem scYparts : FnScope NYparts ["web"] (defScope s_parts) := ⟨rfl, rfl, rfl, by decide +kernel, rfl, by decide +kernel, by decide +kernel⟩
theorem y_partsf (T : Blt mg) (F : Has K mg "parts" s_parts) (YPLACES : C8.Met P w K mg base 1 CW "places" (Y.spZ (ctPlaces K CW)) []) (YDISTS : C8.Cal P w K mg base 4 "_distances" (Y.spZ (yDists K CW)) []) : C8.Cal P w K mg base 5 "parts" (Y.spZ (yPartsF K CW)) [] := by
  refine calF F (fun f fd F => F.binds (ps := ["web"]) fun _ _ _ _ _ _ us hl => match us, hl with | [_], _ => rfl) scYparts (fun vs H Q E h => zlen (fun as P XP hc => by obtain ⟨_, rfl, _⟩ := hc; rfl) h) (fun f cdv A outer s H vs Q E hr h => ?_)
  have hu := hu_of hr
  refine ⟨_, (pss_cons (ps_set (i := 1) scYparts.nd rfl (Or.inl rfl) pe_dnewK)
      (pss_cons (ps_set (i := 2) scYparts.nd rfl (Or.inl rfl) (pe_lst pa_nil))
      (pss_cons (ps_for PassesOwn.never rfl (pi_list (C8.pe_mt0 YPLACES hr (by decide) (pv 0))) (pg_name (i := 3) scYparts.nd rfl (Or.inl rfl))
        (pss_one (ps_if (pt_cmp (pc_dnotin hu (pv 3) (pv 1))) (pss_cons (ps_set (i := 4) scYparts.nd rfl (Or.inl rfl) (C8.pe_c YDISTS hr (by decide) rfl (pa_cons (pv 0) (pa_cons (pv 3) pa_nil))))
      (pss_cons (ps_expr (pe_bm PySem.F.plainAttrs_dict PySem.F.slot_dict_update PySem.F.type_dict_update Own.mtd_update (pv 1) (pa_cons (pv 4) pa_nil)))
      (pss_one (ps_expr (pe_bm PySem.F.plainAttrs_list PySem.F.slot_list_append PySem.F.type_list_append mt_append (pv 2) (pa_cons (pv 4) pa_nil)))))) pss_nil)))
      (pss_one (ps_ret (pv 2)))))), zrun h ?_⟩
  rintro as P XP ⟨z, rfl, wz, hp⟩ hl
  obtain ⟨p0, rfl⟩ := len1 hl
  refine ⟨4, rfl, by decide, ?_⟩
  have z40 := wz.p.no.hi
  refine blk_seq (blk_setO (ev_dnew kS tInt ⟨rfl, ?_⟩))
  refine blk_seq (blk_setO (O := oL K (tDk kS tInt)) (ev_list (K := K) (t := tDk kS tInt) (es_nil ⟨Nat.le_of_ble_eq_true rfl, rfl, ?_⟩)))
  refine blk_seq (blk_for (vs := [3]) (ei_list (ev_meth0 (instYW (by decide)) (ev_var rfl (ea_nil ⟨fun _ => rfl, all1 trivial, z, rfl, fun _ => ?_⟩)))))
  refine ⟨(fun i G' => ∃ sn ds s3 s4, PartI z sn ds i ∧ G' = ⟨true, [.sh (yWeb K CW) z, .ow (oD kS tInt) sn, .ow (oL K (tDk kS tInt)) ds, s3, s4], [some p0]⟩), ⟨_, _, _, _, ⟨⟨[], List.nil_sublist _, rfl, fun i r d h => by simp at h⟩, fun x h => absurd h (by simp), fun i d h => by simp at h, fun x => by simp [hasK, lookK], Nat.zero_le _, Nat.zero_le _⟩, rfl⟩, ?_, ?_⟩
  · rintro i x _ hx ⟨sn, ds, s3, s4, I, rfl⟩
    have xm := List.mem_of_getElem? hx
    have hi : i < z.ms.length := (List.getElem?_eq_some_iff.mp hx).1
    have il := I.ln
    have dl := I.dl
    refine tg_name (by decide) (free_of rfl) (blk_wipe [3, 4] (blk_if (et_view (et_b (ev_dnotin kyS (ev_var rfl (ev_var (t := tDk kS tInt) (x := sn) rfl ⟨fun h => ?_, fun h => ?_⟩)))))))
    · refine blk_seq (blk_setO (O := oD kS tInt) (ev_call0 (ea_cons (ev_var rfl (ea_cons (ev_var rfl (ea_nil ⟨fun _ => rfl, allc trivial (all1 trivial), z, x, rfl, ⟨wz, xm⟩, fun d D _ => ⟨rfl, blk_frz 4 rfl ?_⟩⟩)))))))
      have d40 := D.len wz
      refine blk_seq (blk_dupd (pt_var (i := 1) rfl (by decide)) (ev_var (t := tDk kS tInt) (x := d) rfl ⟨Nat.le_of_lt (Nat.lt_of_le_of_lt (show sn.length + d.length ≤ 2000 by omega) (by decide)), ?_⟩))
      refine blk_append (pt_var (i := 2) rfl (by decide)) (ev_var (t := tDk kS tInt) (x := d) rfl ⟨fits40 (by omega), _, _, _, _, ?_, rfl⟩)
      obtain ⟨rs, sub, rl, hd⟩ := I.rs
      have hr : hasK d x = true := by
        obtain ⟨L, b⟩ := D.b
        show (lookK d x).isSome = true
        rw [b.rt]
        rfl
      refine ⟨⟨rs ++ [x], ?_, by rw [List.length_append, List.length_append, rl]; rfl, fun j r' d' h1 h2 => ?_⟩, fun y hy => ?_, fun j d' h2 => ?_, fun y => ?_, ?_, ?_⟩
      · rw [take_more hx]
        exact sub.append (List.Sublist.refl _)
      · by_cases c : j < ds.length
        · rw [List.getElem?_append_left (by omega)] at h1
          rw [List.getElem?_append_left c] at h2
          exact hd j r' d' h1 h2
        · rw [List.getElem?_append_right (by omega)] at h1 h2
          have e1 : j - rs.length = 0 := by
            have := (List.getElem?_eq_some_iff.mp h1).1
            simp at this
            omega
          rw [rl] at e1
          rw [e1] at h2
          rw [rl, e1] at h1
          cases h1
          cases h2
          exact D
      · rw [take_more hx] at hy
        rcases List.mem_append.mp hy with hy | hy
        · obtain ⟨d0, h1, h2⟩ := I.all y hy
          exact ⟨d0, List.mem_append_left _ h1, h2⟩
        · rw [List.mem_singleton] at hy
          rw [hy]
          exact ⟨d, by simp, hr⟩
      · by_cases c : j < ds.length
        · rw [List.getElem?_append_left c] at h2
          rw [List.take_append_of_le_length (by omega)]
          exact I.fs j d' h2
        · rw [List.getElem?_append_right (by omega)] at h2
          have e1 : j - ds.length = 0 := by
            have := (List.getElem?_eq_some_iff.mp h2).1
            simp at this
            omega
          rw [e1] at h2
          cases h2
          refine ⟨x, i, D, hx, fun y hy => ?_⟩
          rw [show j = ds.length by omega, List.take_append_of_le_length (Nat.le_refl _), List.take_length]
          exact I.all y hy
      · rw [has_mrg, I.ss]
        constructor
        · rintro (⟨d0, h1, h2⟩ | h2)
          · exact ⟨d0, List.mem_append_left _ h1, h2⟩
          · exact ⟨d, by simp, h2⟩
        · rintro ⟨d0, h1, h2⟩
          rcases List.mem_append.mp h1 with h1 | h1
          · exact .inl ⟨d0, h1, h2⟩
          · rw [List.mem_singleton] at h1
            rw [h1] at h2
            exact .inr h2
      · have := mrg_len d sn
        omega
      · rw [List.length_append]
        show ds.length + 1 ≤ i + 1
        omega
    · have hh : hasK sn x = true := by simpa using h
      obtain ⟨rs, sub, rl, hd⟩ := I.rs
      refine blk_next ⟨_, _, _, _, ⟨⟨rs, ?_, rl, hd⟩, fun y hy => ?_, I.fs, I.ss, by omega, by omega⟩, rfl⟩
      · rw [take_more hx]
        exact sub.trans (List.sublist_append_left _ _)
      · rw [take_more hx] at hy
        rcases List.mem_append.mp hy with hy | hy
        · exact I.all y hy
        · rw [List.mem_singleton] at hy
          rw [hy]
          exact (I.ss x).mp hh
  · rintro _ ⟨sn, ds, s3, s4, I, rfl⟩
    obtain ⟨rs, sub, rl, hd⟩ := I.rs
    have al := I.all
    rw [List.take_length] at sub al
    exact blk_ret (ev_give (i := 2) rfl (fin0 [_] _ (hp ds ⟨⟨rs, sub, rl, hd⟩, al, I.fs⟩)))
abbrev NYleveltie : List Str := ["web", "distances", "a", "b"]
theorem scYleveltie : FnScope NYleveltie ["web", "distances"] (defScope s_level_tie) := ⟨rfl, rfl, rfl, by decide +kernel, rfl, by decide +kernel, by decide +kernel⟩
theorem y_level (T : Blt mg) (F : Has K mg "level_tie" s_level_tie) (YTIES : C8.Met P w K mg base 1 CW "ties" (Y.spZ (ctTies K CW)) []) : C8.Cal P w K mg base 2 "level_tie" (Y.spZ (yLevel K CW)) [] := by
  refine calF F (fun f fd F => F.binds (ps := ["web", "distances"]) fun _ _ _ _ _ _ us hl => match us, hl with | [_, _], _ => rfl) scYleveltie (fun vs H Q E h => zlen (fun as P XP hc => by obtain ⟨_, _, rfl, _⟩ := hc; rfl) h) (fun f cdv A outer s H vs Q E hr h => ?_)
  have hu := hu_of hr
  refine ⟨_, (pss_cons (ps_for PassesOwn.never rfl (pi_list (C8.pe_mt0 YTIES hr (by decide) (pv 0))) (pg_tup rfl (pgs_cons (pg_name (i := 2) scYleveltie.nd rfl (Or.inl rfl)) (pgs_cons (pg_name (i := 3) scYleveltie.nd rfl (Or.inl rfl)) pgs_nil)))
        (pss_one (ps_if (PW.pt (pw_and (pt_cmp (pc_din hu (pv 2) (pv 1))) (pw_and1 (pt_cmpR op_eq (pe_dget hu (pv 1) (pv 2) (fun _ _ => rfl)) (pe_dget hu (pv 1) (pv 3) (fun _ _ => rfl)) (nomark _))))) (pss_one (ps_ret (pe_tup (pa_cons (pv 2) (pa_cons (pv 3) pa_nil))))) pss_nil)))
      (pss_one (ps_ret pe_non))), zrun h ?_⟩
  rintro as P XP ⟨z, d, rfl, ⟨wz, r, D⟩, hp⟩ hl
  obtain ⟨p0, p1, rfl⟩ := len2 hl
  refine ⟨2, rfl, by decide, ?_⟩
  refine blk_seq (blk_for (vs := [2, 3]) (ei_list (ev_meth0 (instYW (by decide)) (ev_var rfl (ea_nil ⟨fun _ => rfl, all1 trivial, z, rfl, fun _ => ?_⟩)))))
  refine ⟨(fun i G' => ∃ s2 s3, (∀ e ∈ z.us.take i, hasK d e.1 = true → gD d e.1 ≠ gD d e.2) ∧ G' = ⟨true, [.sh (yWeb K CW) z, .sh (tDk kS tInt) d, s2, s3], [some p0, some p1]⟩), ⟨_, _, fun e h => absurd h (by simp), rfl⟩, ?_, ?_⟩
  · rintro i e _ he ⟨s2, s3, hn, rfl⟩
    have em := List.mem_of_getElem? he
    have ea := us_adj wz em
    refine tg_tup2 (tg_name (by decide) (free_of rfl) (tg_name (by decide) (free_of rfl) (blk_wipe [2, 3] (blk_if (et_and (et_b (ev_din kyS (ev_var rfl (ev_var (t := tDk kS tInt) (x := d) rfl ⟨fun h => ?_, fun h => ⟨fun h => (nomatch h), fun _ => blk_next ⟨_, _, ?_, rfl⟩⟩⟩)))))))))
    · have hh : hasK d e.1 = true := h
      obtain ⟨n, hn1⟩ := Option.isSome_iff_exists.mp (show (lookK d e.1).isSome = true from hh)
      obtain ⟨m, hm, _⟩ := D.clo _ _ hn1 _ ea
      refine et_b (ev_op ro_eqI (ev_dget kyS (ev_var (t := tDk kS tInt) (x := d) rfl (ev_var rfl ⟨n, hn1, ev_dget kyS (ev_var (t := tDk kS tInt) (x := d) rfl (ev_var rfl ⟨m, hm, ⟨fun q => ?_, fun q => blk_next ⟨_, _, ?_, rfl⟩⟩⟩))⟩))))
      · have q : n = m := of_decide_eq_true q
        subst q
        exact blk_ret (Ev.as (t := tPr K) (u := tOpt (tPr K)) some (ev_t2 (ev_var rfl (ev_var rfl (fin0 [_, _] _ (hp (some e) (.yes e n em hn1 hm)))))) (fun _ _ _ _ r => r))
      · have q : ¬ n = m := of_decide_eq_false q
        rw [take_more he]
        intro e2 h2 _
        rcases List.mem_append.mp h2 with h2 | h2
        · exact hn e2 h2 ‹_›
        · rw [List.mem_singleton] at h2
          rw [h2, gD_of3 hn1, gD_of3 hm]
          exact q
    · rw [take_more he]
      intro e2 h2 h3
      rcases List.mem_append.mp h2 with h2 | h2
      · exact hn e2 h2 h3
      · rw [List.mem_singleton] at h2
        rw [h2, show hasK d e.1 = false from h] at h3
        cases h3
  · rintro _ ⟨s2, s3, hn, rfl⟩
    rw [List.take_length] at hn
    exact blk_ret (ev_c (t := tOpt (tPr K)) (x := none) (fun _ _ => rfl) (fin0 [_, _] _ (hp none (.no hn))))
end
end KK
end

section
set_option maxRecDepth 100000
set_option maxHeartbeats 4000000
namespace KK
open PySem PySem.Spec PyProof.Rows L2 Y
/-! odd rings and two sides -/
structure RgI (z : WebZ) (d : List (Str × Int)) (a b : Str) (m : Int) (k : Nat) (lf rt : List Str) : Prop where
  ll : lf.length = k + 1
  lr : rt.length = k + 1
  dl : ∀ (i : Nat) x, lf[i]? = some x → lookK d x = some (m - (i : Int))
  dr : ∀ (i : Nat) x, rt[i]? = some x → lookK d x = some (m - (i : Int))
  al : ∀ (i : Nat) x y, lf[i]? = some x → lf[i + 1]? = some y → Adj z x y
  ar : ∀ (i : Nat) x y, rt[i]? = some x → rt[i + 1]? = some y → Adj z x y
  la : lf[0]? = some a
  ra : rt[0]? = some b
  ne : ∀ (i : Nat) x y, i < k → lf[i]? = some x → rt[i]? = some y → x ≠ y
/-- two sides such that each tie joins them -/
def TwoC (z : WebZ) : Prop := ∃ c : Str → Int, (∀ x, c x = 0 ∨ c x = 1) ∧ ∀ x y, Adj z x y → c x ≠ c y
inductive OddR (z : WebZ) : Option (List Str) → Prop where
  | no : TwoC z → OddR z none
  | yes (rg : List Str) : RingR z rg → OddR z (some rg)
end KK
end

section
set_option maxRecDepth 100000
set_option maxHeartbeats 4000000
namespace KK
open PySem PySem.Spec PyProof.Rows L2 Y
theorem nnPr {K : PySem.W.Frag} : ∀ W H v x, (tPr K).R W H v x → v ≠ .non := fun W H v x r e => by
  obtain ⟨a, p, q, rfl, _⟩ := r
  cases e
abbrev yOddR (K : PySem.W.Frag) (CW : Addr) : Y.CT (Option (List Str)) := ⟨true, .ow (oOpt (oL K tStr)), fun as P _ => ∃ z, as = [.sh (yWeb K CW) z] ∧ WfZ z ∧ ∀ o, OddR z o → ∀ os, P os o⟩
section
variable {P : Program} {w : World} {K : PySem.W.Frag} {mg : Str → Option Value} {base : Heap} {C CS CW CC : Addr}
end
end KK
end

section
set_option maxRecDepth 100000
set_option maxHeartbeats 4000000
namespace KK
open PySem PySem.Spec PyProof.Rows L2 Y
/-! the second family of draws: names, places, prices, ties -/
abbrev yName2 (K : PySem.W.Frag) : Y.CT Str := ⟨false, .sh tStr, fun as P _ => ∃ ys, as = [.sh tStm (), .sh (tLs K tStr) ys] ∧ ys.length ≤ 59 ∧ ∀ x, (NameOk x ∧ x ∉ ys) → ∀ os, P os x⟩
def nmk (k : Nat) : Str := (⟨#[97 + k / 26]⟩ : Str) ++ ⟨#[97 + k % 26]⟩
theorem nmk_cps (k : Nat) : (nmk k).cps.toList = [97 + k / 26, 97 + k % 26] := by
  unfold nmk
  rw [cps_app] <;> rfl
theorem nmk_ok {k : Nat} (h : k < 60) : NameOk (nmk k) := by
  refine ⟨by rw [nmk_cps]; show 1 ≤ 2; decide, by rw [nmk_cps]; show 2 ≤ 8; decide, ?_⟩
  rw [nmk_cps]
  intro c hc
  rcases List.mem_cons.mp hc with rfl | hc
  · omega
  · rcases List.mem_cons.mp hc with rfl | hc
    · omega
    · simp at hc
theorem nmk_inj {i j : Nat} (h : nmk i = nmk j) : i = j := by
  have e := congrArg (fun x : Str => x.cps.toList) h
  simp only [nmk_cps] at e
  injection e with e1 e2
  injection e2 with e2 _
  omega
abbrev yPlaces2 (K : PySem.W.Frag) : Y.CT (List Str) := ⟨false, .ow (oL K tStr), fun as P _ => ∃ n, as = [.sh tStm (), .sh tInt n] ∧ (0 ≤ n ∧ n ≤ 59) ∧ ∀ ns, ((ns.length : Int) = n ∧ ns.Nodup ∧ ∀ x ∈ ns, NameOk x) → ∀ os, P os ns⟩
abbrev yPrices2 (K : PySem.W.Frag) : Y.CT (List (Str × Int)) := ⟨true, .ow (oD kS tInt), fun as P _ => ∃ ns j, as = [.sh tStm (), .sh (tLs K tStr) ns, .sh tInt j] ∧ (ns.length ≤ 59 ∧ ns.Nodup) ∧ ∀ ps, (ps.map (·.1) = ns ∧ ∀ e ∈ ps, 1 ≤ e.2 ∧ e.2 ≤ 10 ^ 30) → ∀ os, P os ps⟩
abbrev yTies2 (K : PySem.W.Frag) : Y.CT (List (Str × Str)) := ⟨true, .ow (oL K (tPr K)), fun as P _ => ∃ ns j, as = [.sh tStm (), .sh (tLs K tStr) ns, .sh tInt j] ∧ (ns.length ≤ 40 ∧ ns.Nodup ∧ 0 < j ∧ j < 2 ^ 200) ∧ ∀ ts, ((∀ p ∈ ts, TieOk ns p) ∧ (ts.map ordP).Nodup ∧ 2 * ts.length ≤ ns.length * ns.length) → ∀ os, P os ts⟩
abbrev yParts2 (K : PySem.W.Frag) : Y.Ty (List Str × List (Str × Str) × List (Str × Int)) := tL3 K (tLs K tStr) (tLs K (tPr K)) (tDk kS tInt)
abbrev yFarWeb (K : PySem.W.Frag) : Y.CT (List Str × List (Str × Str) × List (Str × Int)) := ⟨true, .sh (yParts2 K), fun as P _ => ∃ xs, as = [.sh (tScr K) xs] ∧ xs.length ≤ 1000 ∧ ∀ r, (PtsZ r ∧ r.2.2.map (·.1) = r.1 ∧ r.2.1.length ≤ 60) → ∀ os, P os r⟩
section
variable {P : Program} {w : World} {K : PySem.W.Frag} {mg : Str → Option Value} {base : Heap} {CW : Addr}
abbrev NYLname2 : List Str := ["_law_stream_here", "_law_taken", "_law_letters", "_law_name_here", "_law_k"]
theorem scYLname2 : FnScope NYLname2 ["_law_stream_here", "_law_taken"] (defScope s_law_name) := ⟨rfl, rfl, rfl, by decide +kernel, rfl, by decide +kernel, by decide +kernel⟩
theorem y_name2 (T : Blt mg) (F : Has K mg "_law_name" s_law_name) (YDRAW : C8.Cal P w K mg base 1 "_law_draw" (Y.spZ yDraw) []) : C8.Cal P w K mg base 2 "_law_name" (Y.spZ (yName2 K)) [] := by
  refine calF F (fun f fd F => F.binds (ps := ["_law_stream_here", "_law_taken"]) fun _ _ _ _ _ _ us hl => match us, hl with | [_, _], _ => rfl) scYLname2 (fun vs H Q E h => zlen (fun as P XP hc => by obtain ⟨_, rfl, _⟩ := hc; rfl) h) (fun f cdv A outer s H vs Q E hr h => ?_)
  have hu := hu_of hr
  refine ⟨_, (pss_cons (ps_set (i := 2) scYLname2.nd rfl (Or.inl rfl) pe_str)
      (pss_cons (ps_set (i := 3) scYLname2.nd rfl (Or.inl rfl) pe_str)
      (pss_cons (ps_for PassesOwn.never rfl (pi_range1 rfl T.b_range (pa_cons (pe_op op_add pe_int (C8.pe_c YDRAW hr (by decide) rfl (pa_cons (pv 0) (pa_cons pe_int pa_nil)))) pa_nil)) (pg_name (i := 4) scYLname2.nd rfl (Or.inl rfl))
        (pss_one (ps_set (i := 3) scYLname2.nd rfl (Or.inl rfl) (pe_op op_add_str (pv 3) (pe_ix ix_str (pv 2) (C8.pe_c YDRAW hr (by decide) rfl (pa_cons (pv 0) (pa_cons pe_int pa_nil))) (fun _ _ => rfl))))))
      (pss_cons (ps_if (pt_cmpR op_notIn_seq (pv 3) (pv 1) (by rfl)) (pss_one (ps_ret (pv 3))) pss_nil)
      (pss_cons (ps_for PassesOwn.never rfl (pi_range1 rfl T.b_range (pa_cons pe_int pa_nil)) (pg_name (i := 4) scYLname2.nd rfl (Or.inl rfl))
        (pss_cons (ps_set (i := 3) scYLname2.nd rfl (Or.inl rfl) (pe_op op_add_str (pe_ix ix_str (pv 2) (pe_op op_fdivW (pv 4) pe_int) (fun _ _ => rfl)) (pe_ix ix_str (pv 2) (pe_op op_modN (pv 4) pe_int) (fun _ _ => rfl))))
      (pss_one (ps_if (pt_cmpR op_notIn_seq (pv 3) (pv 1) (by rfl)) (pss_one ps_break) pss_nil))))
      (pss_one (ps_ret (pv 3)))))))), zrun h ?_⟩
  rintro as P XP ⟨ys, rfl, hlen, hp⟩ hl
  obtain ⟨p0, p1, rfl⟩ := len2 hl
  refine ⟨3, rfl, by decide, ?_⟩
  have sl : (PySem.Str.ofString "abcdefghijklmnopqrstuvwxyz").length ≤ sizeLine := Nat.le_of_lt (fits40 (by decide +kernel))
  refine blk_seq (blk_set (t := tStr) (ev_c (t := tStr) (fun _ _ => rfl) ⟨rfl, ?_⟩))
  refine blk_seq (blk_set (t := tStr) (ev_c (t := tStr) (fun _ _ => rfl) ⟨rfl, ?_⟩))
  refine blk_seq (blk_for (vs := [4]) (ei_range1 (ev_op ro_I0 (ev_c (t := tInt) (fun _ _ => rfl) (ev_draw rfl (ev_c (t := tInt) (fun _ _ => rfl) ⟨⟨by decide, by decide⟩, fun r1 a1 b1 => ⟨⟨by omega, ?_⟩, (fun i G' => ∃ z : Str, (z.cps.toList.length = i ∧ CsOk z.cps.toList) ∧ G' = ⟨false, [.sh tStm (), .sh (tLs K tStr) ys, .sh tStr "abcdefghijklmnopqrstuvwxyz", .sh tStr z, .un], [some p0, some p1]⟩), ⟨"", ⟨rfl, fun c hc => ?_⟩, rfl⟩, ?_, ?_⟩⟩))))))
  · have b1 : r1 < 8 := b1
    show 1 + r1 < 2 ^ 62
    omega
  · have e : (PySem.Str.ofString "").cps.toList = [] := by decide +kernel
    rw [e] at hc
    simp at hc
  · rintro i x _ hx ⟨z, ⟨hl, hc⟩, rfl⟩
    have b1 : r1 < 8 := b1
    obtain ⟨rfl, hi⟩ := rangeZ_get hx
    refine tg_name (by decide) (free_of rfl) (blk_wipe [4] (blk_set (ev_op ro_addS (ev_var rfl (ev_op ro_ixS (ev_var rfl (ev_draw rfl (ev_c (t := tInt) (fun _ _ => rfl) ⟨⟨by decide, by decide⟩, fun r2 a2 b2 => ⟨sl, 97 + r2.toNat, ?_, ?_, rfl, ?_⟩⟩))))))))
    · exact at_ofN (z := r2) (j := r2.toNat) (by omega) (abc_all r2.toNat (by have b2 : r2 < 26 := b2; omega))
    · refine Nat.le_of_lt (fits40 ?_)
      rw [len_cps, hl]
      show i + 1 ≤ 1000
      omega
    · have b2 : r2 < 26 := b2
      refine ⟨z ++ ⟨#[97 + r2.toNat]⟩, ⟨by rw [cps_app, List.length_append, hl]; rfl, ?_⟩, rfl⟩
      rw [cps_app]
      intro c h
      rcases List.mem_append.mp h with h | h
      · exact hc c h
      · have e2 : c = 97 + r2.toNat := by simpa using h
        omega
  rintro _ ⟨z, ⟨hl, hc⟩, rfl⟩
  have b1 : r1 < 8 := b1
  rw [rangeZ_len] at hl
  have hz : NameOk z := ⟨by omega, by omega, hc⟩
  refine blk_seq (blk_if (et_b (ev_op (ro_inSL true) (ev_var rfl (ev_var (t := tLs K tStr) (x := ys) rfl ⟨fun h => blk_ret (ev_var rfl (fin0 [_, _] _ (hp z ⟨hz, by simpa using h⟩))), fun _ => blk_next ?_⟩)))))
  refine blk_seq (blk_for (vs := [4]) (ei_range1 (ev_c (t := tInt) (fun _ _ => rfl) ⟨⟨by decide, by decide⟩, (fun i G' => (∀ j < i, nmk j ∈ ys) ∧ ∃ z : Str, G' = ⟨false, [.sh tStm (), .sh (tLs K tStr) ys, .sh tStr "abcdefghijklmnopqrstuvwxyz", .sh tStr z, .un], [some p0, some p1]⟩), ⟨fun j hj => absurd hj (Nat.not_lt_zero _), z, rfl⟩, ?_, ?_⟩)))
  · rintro i x _ hx ⟨hall, z, rfl⟩
    obtain ⟨rfl, hi⟩ := rangeZ_get hx
    have hi : i < 60 := hi
    have e0 : (0 + (i : Int)) / 26 = ((i / 26 : Nat) : Int) := by omega
    have e1 : (0 + (i : Int)).fmod 26 = ((i % 26 : Nat) : Int) := by
      rw [Int.fmod_eq_emod_of_nonneg _ (by decide)]
      omega
    refine tg_name (by decide) (free_of rfl) (blk_wipe [4] (blk_seq (blk_set (ev_op ro_addS (ev_op ro_ixS (ev_var rfl (ev_op ro_I (ev_var rfl (ev_c (t := tInt) (fun _ _ => rfl) ⟨⟨by decide, by decide +kernel⟩, sl, 97 + i / 26, ?_, ?_⟩)))))))))
    · rw [e0]
      exact atI_nat (abc_all (i / 26) (by omega))
    refine ev_op ro_ixS (ev_var rfl (ev_op ro_I (ev_var rfl (ev_c (t := tInt) (fun _ _ => rfl) ⟨by decide, sl, 97 + i % 26, ?_, Nat.le_of_lt (fits40 (by show 1 + 1 ≤ 1000; decide)), rfl, ?_⟩))))
    · rw [e1]
      exact atI_nat (abc_all (i % 26) (by omega))
    refine blk_if (et_b (ev_op (ro_inSL true) (ev_var rfl (ev_var (t := tLs K tStr) (x := ys) rfl ⟨fun h => blk_break ?_, fun h => blk_next ?_⟩))))
    · have h2 : (!decide (nmk i ∈ ys)) = true := h
      exact blk_ret (ev_var (x := nmk i) rfl (fin0 [_, _] _ (hp (nmk i) ⟨nmk_ok hi, by simpa using h2⟩)))
    · refine ⟨fun j hj => ?_, nmk i, ?_⟩
      · by_cases c : j = i
        · rw [c]
          have h2 : (!decide (nmk i ∈ ys)) = false := h
          simpa using h2
        · exact hall j (by omega)
      · rfl
  rintro _ ⟨hall, z, rfl⟩
  exfalso
  have nd : ((List.range 60).map nmk).Nodup := by
    refine List.Pairwise.map _ (fun a b h e => h (nmk_inj e)) List.nodup_range
  have := pigeon nd (ys := ys) fun x hx => by
    obtain ⟨j, hj, rfl⟩ := List.mem_map.mp hx
    exact hall j (List.mem_range.mp hj)
  rw [List.length_map, List.length_range] at this
  omega
abbrev NYLplaces : List Str := ["_law_stream_here", "_law_many", "_law_places_here", "_law_k"]
theorem scYLplaces : FnScope NYLplaces ["_law_stream_here", "_law_many"] (defScope s_law_places) := ⟨rfl, rfl, rfl, by decide +kernel, rfl, by decide +kernel, by decide +kernel⟩
theorem y_places2 (T : Blt mg) (F : Has K mg "_law_places" s_law_places) (YNAME : C8.Cal P w K mg base 2 "_law_name" (Y.spZ (yName2 K)) []) : C8.Cal P w K mg base 3 "_law_places" (Y.spZ (yPlaces2 K)) [] := by
  refine calF F (fun f fd F => F.binds (ps := ["_law_stream_here", "_law_many"]) fun _ _ _ _ _ _ us hl => match us, hl with | [_, _], _ => rfl) scYLplaces (fun vs H Q E h => zlen (fun as P XP hc => by obtain ⟨_, rfl, _⟩ := hc; rfl) h) (fun f cdv A outer s H vs Q E hr h => ?_)
  have hu := hu_of hr
  refine ⟨_, (pss_cons (ps_set (i := 2) scYLplaces.nd rfl (Or.inl rfl) (pe_lst pa_nil))
      (pss_cons (ps_for PassesOwn.never rfl (pi_range1 rfl T.b_range (pa_cons (pv 1) pa_nil)) (pg_name (i := 3) scYLplaces.nd rfl (Or.inl rfl))
        (pss_one (ps_expr (pe_bm PySem.F.plainAttrs_list PySem.F.slot_list_append PySem.F.type_list_append mt_append (pv 2) (pa_cons (C8.pe_c YNAME hr (by decide) rfl (pa_cons (pv 0) (pa_cons (pv 2) pa_nil))) pa_nil)))))
      (pss_one (ps_ret (pv 2))))), zrun h ?_⟩
  rintro as P XP ⟨n, rfl, ⟨h0, h59⟩, hp⟩ hl
  obtain ⟨p0, p1, rfl⟩ := len2 hl
  refine ⟨2, rfl, by decide, ?_⟩
  refine blk_seq (blk_setO (O := oL K tStr) (ev_list (K := K) (t := tStr) (es_nil ⟨Nat.le_of_ble_eq_true rfl, rfl, ?_⟩)))
  refine blk_seq (blk_for (vs := [3]) (ei_range1 (ev_var rfl ⟨⟨?_, ?_⟩, (fun i G' => ∃ ns : List Str, (ns.length = i ∧ ns.Nodup ∧ ∀ x ∈ ns, NameOk x) ∧ G' = ⟨false, [.sh tStm (), .sh tInt n, .ow (oL K tStr) ns, .un], [some p0, some p1]⟩), ⟨[], ⟨rfl, List.nodup_nil, fun x hx => absurd hx (by simp)⟩, rfl⟩, ?_, ?_⟩)))
  · omega
  · omega
  · rintro i x _ hx ⟨ns, ⟨hl, hnd, hok⟩, rfl⟩
    obtain ⟨rfl, hi'⟩ := rangeZ_get hx
    refine tg_name (by decide) (free_of rfl) (blk_wipe [3] (blk_append (pt_var (i := 2) rfl (by decide)) (ev_view (r := .sh tStr) flS (ev_call0 (ea_cons (ev_var rfl (ea_cons (ev_var rfl (ea_nil ⟨fun h => (nomatch h), allc trivial (all1 trivial), ns, rfl, ?_, fun x hx _ => ⟨fits40 ?_, _, ⟨?_, ?_, ?_⟩, rfl⟩⟩)))))))))
    · omega
    · omega
    · rw [List.length_append, hl]; rfl
    · rw [List.nodup_append]
      exact ⟨hnd, List.nodup_cons.mpr ⟨by simp, List.nodup_nil⟩, fun y hy z hz e => by
        have : z = x := by simpa using hz
        subst this
        subst e
        exact hx.2 hy⟩
    · intro y hy
      rcases List.mem_append.mp hy with hy | hy
      · exact hok y hy
      · have : y = x := by simpa using hy
        rw [this]
        exact hx.1
  rintro _ ⟨ns, ⟨hl, hnd, hok⟩, rfl⟩
  rw [rangeZ_len] at hl
  exact blk_ret (ev_give (i := 2) rfl (fin0 [_, _] _ (hp ns ⟨by omega, hnd, hok⟩)))
abbrev NYLprices : List Str := ["_law_stream_here", "_law_places_here", "_law_kind", "_law_prices_here", "_law_place"]
theorem scYLprices : FnScope NYLprices ["_law_stream_here", "_law_places_here", "_law_kind"] (defScope s_law_prices) := ⟨rfl, rfl, rfl, by decide +kernel, rfl, by decide +kernel, by decide +kernel⟩
theorem y_prices2 (T : Blt mg) (F : Has K mg "_law_prices" s_law_prices) (YDRAW : C8.Cal P w K mg base 1 "_law_draw" (Y.spZ yDraw) []) : C8.Cal P w K mg base 2 "_law_prices" (Y.spZ (yPrices2 K)) [] := by
  refine calF F (fun f fd F => F.binds (ps := ["_law_stream_here", "_law_places_here", "_law_kind"]) fun _ _ _ _ _ _ us hl => match us, hl with | [_, _, _], _ => rfl) scYLprices (fun vs H Q E h => zlen (fun as P XP hc => by obtain ⟨_, _, rfl, _⟩ := hc; rfl) h) (fun f cdv A outer s H vs Q E hr h => ?_)
  have hu := hu_of hr
  refine ⟨_, (pss_cons (ps_set (i := 3) scYLprices.nd rfl (Or.inl rfl) pe_dnewK)
      (pss_cons (ps_for PassesOwn.never rfl (pi_list (pv 1)) (pg_name (i := 4) scYLprices.nd rfl (Or.inl rfl))
        (pss_one (ps_if (pt_cmpR op_eq (pv 2) pe_int (nomark _)) (pss_one (ps_dput hu (pv 3) (pv 4) (pe_op op_add pe_int (C8.pe_c YDRAW hr (by decide) rfl (pa_cons (pv 0) (pa_cons pe_int pa_nil)))) rfl)) (pss_one (ps_if (pt_cmpR op_eq (pv 2) pe_int (nomark _)) (pss_one (ps_dput hu (pv 3) (pv 4) (pe_op op_add pe_int (C8.pe_c YDRAW hr (by decide) rfl (pa_cons (pv 0) (pa_cons pe_int pa_nil)))) rfl)) (pss_one (ps_if (pt_cmpR op_eq (pv 2) pe_int (nomark _)) (pss_one (ps_dput hu (pv 3) (pv 4) (pe_op op_add pe_int (C8.pe_c YDRAW hr (by decide) rfl (pa_cons (pv 0) (pa_cons (pe_op op_pow pe_int pe_int) pa_nil)))) rfl)) (pss_one (ps_dput hu (pv 3) (pv 4) (pe_op op_sub (pe_op op_pow pe_int pe_int) (C8.pe_c YDRAW hr (by decide) rfl (pa_cons (pv 0) (pa_cons pe_int pa_nil)))) rfl)))))))))
      (pss_one (ps_ret (pv 3))))), zrun h ?_⟩
  rintro as P XP ⟨ns, j, rfl, ⟨h59, hnd⟩, hp⟩ hl
  obtain ⟨p0, p1, p2, rfl⟩ := len3 hl
  refine ⟨2, rfl, by decide, ?_⟩
  refine blk_seq (blk_setO (ev_dnew kS tInt ⟨rfl, ?_⟩))
  refine blk_seq (blk_for (vs := [4]) (ei_list (ev_var (t := tLs K tStr) (x := ns) rfl ⟨(fun i G' => ∃ ps : List (Str × Int), (ps.map (·.1) = ns.take i ∧ ∀ e ∈ ps, 1 ≤ e.2 ∧ e.2 ≤ 10 ^ 30) ∧ G' = ⟨true, [.sh tStm (), .sh (tLs K tStr) ns, .sh tInt j, .ow (oD kS tInt) ps, .un], [some p0, some p1, some p2]⟩), ⟨[], ⟨rfl, fun e he => absurd he (by simp)⟩, rfl⟩, ?_, ?_⟩)))
  · rintro i x _ hx ⟨ps, ⟨hk, hpo⟩, rfl⟩
    have hin : i < ns.length := (List.getElem?_eq_some_iff.mp hx).1
    have hlen : ps.length = i := by
      have := congrArg List.length hk
      rw [List.length_map, List.length_take] at this
      omega
    have go : ∀ r : Int, 1 ≤ r ∧ r ≤ 10 ^ 30 → ∃ ps' : List (Str × Int), (ps'.map (·.1) = ns.take (i + 1) ∧ ∀ e ∈ ps', 1 ≤ e.2 ∧ e.2 ≤ 10 ^ 30) ∧ (⟨true, [.sh tStm (), .sh (tLs K tStr) ns, .sh tInt j, .ow (oD kS tInt) (putZ ps x r), .un], [some p0, some p1, some p2]⟩ : Ct) = ⟨true, [.sh tStm (), .sh (tLs K tStr) ns, .sh tInt j, .ow (oD kS tInt) ps', .un], [some p0, some p1, some p2]⟩ := fun r hr => by
      refine ⟨_, ⟨?_, ?_⟩, rfl⟩
      · rw [putZ_new (by rw [hk]; exact not_taken hnd hx), List.map_append, hk, take_more hx]
        rfl
      · rw [putZ_new (by rw [hk]; exact not_taken hnd hx)]
        intro e he
        rcases List.mem_append.mp he with he | he
        · exact hpo e he
        · have : e = (x, r) := by simpa using he
          rw [this]
          exact hr
    have e30 : (10 : Int) ^ 30 = 1000000000000000000000000000000 := by decide
    refine tg_name (by decide) (free_of rfl) (blk_wipe [4] ?_)
    refine blk_if (et_b (ev_op ro_eqI (ev_var rfl (ev_c (t := tInt) (fun _ _ => rfl) ⟨fun _ => ?_, fun _ => ?_⟩))))
    · refine blk_dput kyS (pt_var (i := 3) rfl (by decide)) (ev_op ro_I0 (ev_c (t := tInt) (fun _ _ => rfl) (ev_draw rfl (ev_c (t := tInt) (fun _ _ => rfl) ⟨⟨by decide, by decide⟩, fun r a b => ev_var rfl ⟨fits40 (by omega), go _ ⟨by omega, ?_⟩⟩⟩))))
      have b : r < 3 := b
      omega
    refine blk_if (et_b (ev_op ro_eqI (ev_var rfl (ev_c (t := tInt) (fun _ _ => rfl) ⟨fun _ => ?_, fun _ => ?_⟩))))
    · refine blk_dput kyS (pt_var (i := 3) rfl (by decide)) (ev_op ro_I0 (ev_c (t := tInt) (fun _ _ => rfl) (ev_draw rfl (ev_c (t := tInt) (fun _ _ => rfl) ⟨⟨by decide, by decide⟩, fun r a b => ev_var rfl ⟨fits40 (by omega), go _ ⟨by omega, ?_⟩⟩⟩))))
      have b : r < 9 := b
      omega
    refine blk_if (et_b (ev_op ro_eqI (ev_var rfl (ev_c (t := tInt) (fun _ _ => rfl) ⟨fun _ => ?_, fun _ => ?_⟩))))
    · refine blk_dput kyS (pt_var (i := 3) rfl (by decide)) (ev_op ro_I0 (ev_c (t := tInt) (fun _ _ => rfl) (ev_draw rfl (ev_op ro_I (ev_c (t := tInt) (fun _ _ => rfl) (ev_c (t := tInt) (fun _ _ => rfl) ⟨⟨by decide, by decide, by decide⟩, ⟨by decide, by decide⟩, fun r a b => ev_var rfl ⟨fits40 (by omega), go _ ⟨by omega, ?_⟩⟩⟩))))))
      have b : r < 10 ^ 30 := b
      omega
    · refine blk_dput kyS (pt_var (i := 3) rfl (by decide)) (ev_op ro_I0 (ev_op ro_I (ev_c (t := tInt) (fun _ _ => rfl) (ev_c (t := tInt) (fun _ _ => rfl) ⟨⟨by decide, by decide, by decide⟩, ?_⟩))))
      refine ev_draw rfl (ev_c (t := tInt) (fun _ _ => rfl) ⟨⟨by decide, by decide⟩, fun r a b => ev_var rfl ⟨fits40 (by omega), go _ ?_⟩⟩)
      have b : r < 3 := b
      show 1 ≤ (10 : Int) ^ 30 - r ∧ (10 : Int) ^ 30 - r ≤ 10 ^ 30
      omega
  rintro _ ⟨ps, ⟨hk, hpo⟩, rfl⟩
  rw [List.take_of_length_le (Nat.le_refl _)] at hk
  exact blk_ret (ev_give (i := 3) rfl (fin0 [_, _, _] _ (hp ps ⟨hk, hpo⟩)))
end
end KK
end

section
set_option maxRecDepth 100000
set_option maxHeartbeats 4000000
namespace KK
open PySem PySem.Spec PyProof.Rows L2 Y
/-! Web(places, ties, prices), made in a law -/
theorem pairs_prKY {W : Y.Wd} {H : Hp} : ∀ {ws : List (Key × V)} {kvs : List (Str × Int)}, Paired (fun (p : Key × V) (q : Str × Int) => p.1 = kS.k q.1 ∧ tInt.R W H p.2 q.2) ws kvs → ws = prK (kvs.map (·.1)) (kvs.map (·.2))
  | _, _, .nil => rfl
  | _, _, .cons r p => by
    have ih := pairs_prKY p
    unfold prK at ih ⊢
    rw [List.map_cons, List.map_cons, List.zip_cons_cons, List.map_cons, ← ih]
    congr 1
    exact Prod.ext r.1 r.2
theorem ties_prY {K : PySem.W.Frag} {W : Y.Wd} {H : Hp} (ok : OKW W H) : ∀ {xs : List V} {us : List (Str × Str)}, Paired ((tPr K).R W H) xs us → Ties H xs us
  | _, _, .nil => .nil
  | _, _, .cons r p => by
    obtain ⟨a, e, h⟩ := pr_at ok r
    exact .cons ⟨a, e, h⟩ (ties_prY ok p)
theorem pr_tiesY {K : PySem.W.Frag} {W : Y.Wd} {H : Hp} (ok : OKW W H) : ∀ {xs : List V} {us : List (Str × Str)}, Ties H xs us → Paired ((Z.tT2 K Z.tStr Z.tStr).R (toR W) H) xs us
  | _, _, .nil => .nil
  | _, _, .cons r p => by
    obtain ⟨a, rfl, e⟩ := r
    exact .cons ⟨a, _, _, rfl, .inl ⟨toR_sh.mpr (ok.tp a _ e), e⟩, rfl, rfl⟩ (pr_tiesY ok p)
theorem same_okY {W : Y.Wd} {H H' : Hp} (ok : OKW W H) (s : ∀ b o, H b = some o → H' b = some o) : OKW W H' := by
  have fr : ∀ b, W b ≠ .sh → ∃ o, H b = some o ∧ H' b = some o := fun b h => by
    obtain ⟨o, e⟩ := ok.al b h
    exact ⟨o, e, s _ _ e⟩
  refine ⟨fun b φ h => ?_, fun b h => ?_, fun b p od u w e => ?_, fun b h => ?_, fun b od u w e => ?_, fun b vs e => ?_⟩
  · obtain ⟨o, e, z⟩ := ok.st b φ h
    exact ⟨o, s _ _ e, z⟩
  · obtain ⟨o, _, e⟩ := fr b h
    exact ⟨o, e⟩
  · obtain ⟨o, e0, e1⟩ := fr b (by rw [w]; exact fun z => nomatch z)
    rw [e1] at e; cases e
    exact ok.nf b p od u w e0
  · obtain ⟨od, ⟨ws, e⟩ | ⟨ws, e⟩⟩ := ok.lk b h
    · exact ⟨od, .inl ⟨ws, s _ _ e⟩⟩
    · exact ⟨od, .inr ⟨ws, s _ _ e⟩⟩
  · obtain ⟨o, e0, e1⟩ := fr b (by rw [w]; exact fun z => nomatch z)
    rw [e1] at e; cases e
    exact ok.fo b od u w e0
  · cases e0 : H b with
    | none => exact ok.fresh e0
    | some o =>
      have := s _ _ e0
      rw [this] at e; cases e
      exact ok.tp b vs e0
section
variable {K : PySem.W.Frag} {C : Addr} {X : Y.Xw} {k : Bool} {G : Ct}
theorem ev_mkWeb {ta : TA} {E : XK} {P : Ct → WebZ → Prop} (h : Ea X k ta G fun G as => G.n = true ∧ ∃ p, as = [.sh (tTu K tStr) p.1, .sh (tLs K (tPr K)) p.2.1, .sh (tDk kS tInt) p.2.2] ∧ PtsZ p ∧ ∀ r, (WfZ r ∧ WebOk p.1 (prP p) p.2.1 r.ms r.qs r.us) → P G r) :
    Ev X k (tMake C (spInit K C) [] E ta) G (yWeb K C) P := fun W H σ Q hs ex q =>
  h W H σ _ hs ex fun vs W1 H1 G1 as ⟨hn, p, e, hz, hp⟩ m ha x dx hx hdx hne => by
    subst e
    rw [List.append_nil]
    cases ha with
    | cons r1 ha => cases ha with
      | cons r2 ha => cases ha with
        | cons r3 ha =>
          cases ha
          obtain ⟨pl, us1, rfl, s1, p1⟩ := (r1 : (tTu K tStr).R W1 H1 _ p.1)
          obtain ⟨tl, us2, rfl, s2, p2⟩ := (r2 : (tLs K (tPr K)).R W1 H1 _ p.2.1)
          obtain ⟨d, ws, rfl, s3, p3⟩ := (r3 : (tDk kS tInt).R W1 H1 _ p.2.2)
          have ok := m.hs.ok
          have e1 := paired_f scS p1
          subst e1
          have e3 := pairs_prKY p3
          subst e3
          have ti := ties_prY ok p2
          have wd := (ok.exactD s3 (m.hs.nl hn d) (fun _ e => by cases e)).1
          have pz := hz.pts
          have hx2 : upd H1 dx (HO.own x) x = none := by rw [upd_ne (fun z => hne z.symm)]; exact hx
          have s : L2.Same H1 (upd (upd H1 dx (.own x)) x (.ins C dx [])) := fun b o e => by rw [upd_ne (ne_of_none (show upd H1 dx (HO.own x) b = some o by rw [upd_ne (ne_of_none e hdx)]; exact e) hx2), upd_ne (ne_of_none e hdx)]; exact e
          refine ⟨x, dx, pl, tl, d, p.1, prP p, us2, p.2.1, rfl, upd_same, s _ _ (s1.at ok), s _ _ s2.2, ⟨_, s _ _ wd, hz.pk⟩, ti.same s, pz.pl, pz.no, pz.to, pz.po, fun dp tl' ys ms qs us H' b hdp htl wa wo => ?_⟩
          have s5 : ∀ b o, H1 b = some o → H' b = some o := fun c o e => b c o (s c o e) (ne_of_none e hx)
          have ok5 := same_okY ok s5
          have fr : ∀ c, upd (upd H1 dx (.own x)) x (.ins C dx []) c = none → W1 c = .sh := fun c e => ok.fresh (by
            cases e0 : H1 c with
            | none => rfl
            | some o => rw [s c o e0] at e; cases e)
          have g : GoE W1 H1 W1 H' := ⟨fun b o e _ _ => ⟨s5 b o e, rfl⟩, fun _ _ h => h, fun _ h => h⟩
          refine ⟨rfl, q _ W1 H' G1 ⟨ms, qs, us⟩ (hp _ ⟨wf_of wo pz, wo⟩) (m.thenE g ok5) ?_⟩
          exact ⟨wf_of wo pz, x, dx, dp, tl', ys, rfl, .inl ⟨toR_sh.mpr (ok.fresh hx), wa.ho⟩, .inl ⟨toR_sh.mpr (fr _ hdp), wa.hp⟩, ⟨toR_sh.mpr (fr _ htl), wa.ht⟩, pr_tiesY ok5 wa.ti⟩
end
end KK
end

section
set_option maxRecDepth 100000
set_option maxHeartbeats 4000000
namespace KK
open PySem PySem.Spec PyProof.Rows L2 Y
/-! the laws' own look at an answer -/
def ansK (ns : List Str) (ts : List (Str × Str)) (d : List (Str × Int)) : Bool := decide (d.length = ns.length) && (ns.all (fun x => hasK d x && (decide (0 ≤ gD d x) && decide (gD d x ≤ 2))) && ts.all fun e => decide (2 ≤ gD d e.1 + gD d e.2))
theorem has_look {d : List (Str × Int)} {x : Str} (h : hasK d x = true) : lookK d x = some (gD d x) := by
  unfold hasK at h
  unfold gD
  cases e : lookK d x with
  | none => rw [e] at h; cases h
  | some v => rfl
abbrev yLisans (K : PySem.W.Frag) : Y.CT Bool := ⟨true, .sh tBl, fun as P _ => ∃ d ns ts, as = [.sh (tDk kS tInt) d, .sh (tLs K tStr) ns, .sh (tLs K (tPr K)) ts] ∧ (∀ e ∈ ts, e.1 ∈ ns ∧ e.2 ∈ ns) ∧ ∀ os, P os (ansK ns ts d)⟩
section
variable {P : Program} {w : World} {K : PySem.W.Frag} {mg : Str → Option Value} {base : Heap} {C CS CW CC : Addr}
abbrev NYLisanswer : List Str := ["_law_x", "_law_places_here", "_law_ties_here", "_law_place", "_law_a", "_law_b"]
theorem scYLisanswer : FnScope NYLisanswer ["_law_x", "_law_places_here", "_law_ties_here"] (defScope s_law_is_answer) := ⟨rfl, rfl, rfl, by decide +kernel, rfl, by decide +kernel, by decide +kernel⟩
theorem y_lisans (T : Blt mg) (F : Has K mg "_law_is_answer" s_law_is_answer) (YLINT : C8.Cal P w K mg base 1 "_law_is_integer" (Y.spZ yLint) []) : C8.Cal P w K mg base 2 "_law_is_answer" (Y.spZ (yLisans K)) [] := by
  refine calF F (fun f fd F => F.binds (ps := ["_law_x", "_law_places_here", "_law_ties_here"]) fun _ _ _ _ _ _ us hl => match us, hl with | [_, _, _], _ => rfl) scYLisanswer (fun vs H Q E h => zlen (fun as P XP hc => by obtain ⟨_, _, _, rfl, _⟩ := hc; rfl) h) (fun f cdv A outer s H vs Q E hr h => ?_)
  have hu := hu_of hr
  refine ⟨_, (pss_cons (ps_if (PW.pt (pw_or (pt_not (pt_val (pe_callB call_isi (by rfl) T.b_isinstance (by decide +kernel) (pa_cons (pv 0) (pa_cons (pe_bltn (v := .ty "dict") (by rfl) T.b_dict (by decide +kernel) rfl) pa_nil))))) (pw_or1 (pt_cmpR op_ne (pe_callB call_lenD (by rfl) T.b_len PySem.boot_len (pa_cons (pv 0) pa_nil)) (pe_callB call_len (by rfl) T.b_len PySem.boot_len (pa_cons (pv 1) pa_nil)) (nomark _))))) (pss_one (ps_ret pe_bl)) pss_nil)
      (pss_cons (ps_for PassesOwn.never rfl (pi_list (pv 1)) (pg_name (i := 3) scYLisanswer.nd rfl (Or.inl rfl))
        (pss_one (ps_if (PW.pt (pw_or (pt_cmp (pc_dnotin hu (pv 3) (pv 0))) (pw_or (pt_not (pt_val (C8.pe_c YLINT hr (by decide) rfl (pa_cons (pe_dget hu (pv 0) (pv 3) (fun _ _ => rfl)) pa_nil)))) (pw_or (pt_cmpR op_lt (pe_dget hu (pv 0) (pv 3) (fun _ _ => rfl)) pe_int (nomark _)) (pw_or1 (pt_cmpR op_gt (pe_dget hu (pv 0) (pv 3) (fun _ _ => rfl)) pe_int (nomark _))))))) (pss_one (ps_ret pe_bl)) pss_nil)))
      (pss_cons (ps_for PassesOwn.never rfl (pi_list (pv 2)) (pg_tup rfl (pgs_cons (pg_name (i := 4) scYLisanswer.nd rfl (Or.inl rfl)) (pgs_cons (pg_name (i := 5) scYLisanswer.nd rfl (Or.inl rfl)) pgs_nil)))
        (pss_one (ps_if (pt_cmpR op_lt (pe_op op_add (pe_dget hu (pv 0) (pv 4) (fun _ _ => rfl)) (pe_dget hu (pv 0) (pv 5) (fun _ _ => rfl))) pe_int (nomark _)) (pss_one (ps_ret pe_bl)) pss_nil)))
      (pss_one (ps_ret pe_bl))))), zrun h ?_⟩
  rintro as P XP ⟨d, ns, ts, rfl, ht, hp⟩ hl
  obtain ⟨p0, p1, p2, rfl⟩ := len3 hl
  refine ⟨3, rfl, by decide, ?_⟩
  have no : ansK ns ts d = false → ∀ os, P os false := fun e os => by have := hp os; rwa [e] at this
  refine blk_seq (blk_if (et_or (et_not (et_b (ev_isi (A := "dict") (b := true) (fun W H v x ok _ r => ty_dK r) (by decide +kernel) (ev_var rfl ⟨rfl, fun h => (nomatch h), fun _ => ?_⟩))))))
  refine et_b (ev_op ro_neI (ev_cb rc_lenD (ev_var rfl ⟨fun _ => rfl, ev_cb rc_lenL (ev_var (t := tLs K tStr) (x := ns) rfl ⟨fun h => (nomatch h), fun h => ?_, fun h => blk_next ?_⟩)⟩)))
  · have h : (d.length : Int) ≠ ns.length := of_decide_eq_false (by simpa using h)
    have e : ansK ns ts d = false := by
      unfold ansK
      rw [decide_eq_false (by omega : ¬ d.length = ns.length)]
      rfl
    exact blk_ret (ev_c (t := tBl) (fun _ _ => rfl) (fin0 [_, _, _] _ (no e)))
  have hl : d.length = ns.length := by
    have h : (d.length : Int) = ns.length := of_decide_eq_true (by simpa using h)
    omega
  refine blk_seq (blk_for (vs := [3]) (ei_list (ev_var (t := tLs K tStr) (x := ns) rfl ⟨(fun i G' => ∃ s3, (∀ x ∈ ns.take i, hasK d x = true ∧ 0 ≤ gD d x ∧ gD d x ≤ 2) ∧ G' = ⟨true, [.sh (tDk kS tInt) d, .sh (tLs K tStr) ns, .sh (tLs K (tPr K)) ts, s3, .un, .un], [some p0, some p1, some p2]⟩), ⟨_, fun x hx => absurd hx (by simp), rfl⟩, ?_, ?_⟩)))
  · rintro i x _ hx ⟨s3, hg, rfl⟩
    have hm := List.mem_of_getElem? hx
    have bad : ¬ (hasK d x = true ∧ 0 ≤ gD d x ∧ gD d x ≤ 2) → ∀ os, P os false := fun hb => no (by
      unfold ansK
      have : (ns.all fun x => hasK d x && (decide (0 ≤ gD d x) && decide (gD d x ≤ 2))) = false := by
        rw [List.all_eq_false]
        refine ⟨x, hm, fun q => hb ?_⟩
        obtain ⟨q1, q2⟩ := Bool.and_eq_true_iff.mp q
        obtain ⟨q2, q3⟩ := Bool.and_eq_true_iff.mp q2
        exact ⟨q1, of_decide_eq_true q2, of_decide_eq_true q3⟩
      rw [this]
      simp)
    refine tg_name (by decide) (free_of rfl) (blk_wipe [3] (blk_if (et_or (et_b (ev_dnotin kyS (ev_var rfl (ev_var rfl ⟨fun h => ?_, fun h => ?_⟩)))))))
    · have nb := bad fun q => by
        rw [q.1] at h
        cases h
      exact ⟨fun _ => blk_ret (ev_c (t := tBl) (fun _ _ => rfl) (fin0 [_, _, _] _ nb)), fun h => (nomatch h)⟩
    have h1 : hasK d x = true := by simpa using h
    have lk := has_look h1
    refine et_or (et_not (et_b (ev_call0 (ea_cons (ev_dget kyS (ev_var (t := tDk kS tInt) (x := d) rfl (ev_var rfl ⟨_, lk, ea_nil ⟨fun h => (nomatch h), all1 trivial, gD d x, rfl, fun _ => ⟨fun h => (nomatch h), fun _ => ?_⟩⟩⟩)))))))
    refine et_or (et_b (ev_op ro_B0 (ev_dget kyS (ev_var (t := tDk kS tInt) (x := d) rfl (ev_var rfl ⟨_, lk, ev_c (t := tInt) (fun _ _ => rfl) ⟨fun h => ?_, fun h2 => ?_⟩⟩)))))
    · have h := of_decide_eq_true h
      have nb := bad fun q => by omega
      exact ⟨fun _ => blk_ret (ev_c (t := tBl) (fun _ _ => rfl) (fin0 [_, _, _] _ nb)), fun h => (nomatch h)⟩
    refine et_b (ev_op ro_B0 (ev_dget kyS (ev_var (t := tDk kS tInt) (x := d) rfl (ev_var rfl ⟨_, lk, ev_c (t := tInt) (fun _ _ => rfl) ⟨fun h => ?_, fun h3 => blk_next ⟨_, ?_, rfl⟩⟩⟩))))
    · have h := of_decide_eq_true h
      have nb := bad fun q => by omega
      exact blk_ret (ev_c (t := tBl) (fun _ _ => rfl) (fin0 [_, _, _] _ nb))
    have h2 := of_decide_eq_false h2
    have h3 := of_decide_eq_false h3
    rw [take_more hx]
    intro y hy
    rcases List.mem_append.mp hy with hy | hy
    · exact hg y hy
    · rw [List.mem_singleton] at hy
      subst hy
      exact ⟨h1, by omega, by omega⟩
  rintro _ ⟨s3, hg, rfl⟩
  rw [List.take_length] at hg
  refine blk_seq (blk_for (vs := [4, 5]) (ei_list (ev_var (t := tLs K (tPr K)) (x := ts) rfl ⟨(fun i G' => ∃ s4 s5, (∀ e ∈ ts.take i, 2 ≤ gD d e.1 + gD d e.2) ∧ G' = ⟨true, [.sh (tDk kS tInt) d, .sh (tLs K tStr) ns, .sh (tLs K (tPr K)) ts, s3, s4, s5], [some p0, some p1, some p2]⟩), ⟨_, _, fun x hx => absurd hx (by simp), rfl⟩, ?_, ?_⟩)))
  · rintro i e _ hx ⟨s4, s5, he, rfl⟩
    have hm := List.mem_of_getElem? hx
    obtain ⟨m1, m2⟩ := ht e hm
    have l1 := has_look (hg _ m1).1
    have l2 := has_look (hg _ m2).1
    have r1 := (hg _ m1).2
    have r2 := (hg _ m2).2
    refine tg_tup2 (tg_name (by decide) (free_of rfl) (tg_name (by decide) (free_of rfl) (blk_wipe [4, 5] (blk_if (et_b (ev_op ro_B0 (ev_op ro_I0 (ev_dget kyS (ev_var (t := tDk kS tInt) (x := d) rfl (ev_var rfl ⟨_, l1, ev_dget kyS (ev_var (t := tDk kS tInt) (x := d) rfl (ev_var rfl ⟨_, l2, ev_c (t := tInt) (fun _ _ => rfl) ⟨fun h => ?_, fun h => blk_next ⟨_, _, ?_, rfl⟩⟩⟩))⟩))))))))))
    · have h := of_decide_eq_true h
      refine blk_ret (ev_c (t := tBl) (fun _ _ => rfl) (fin0 [_, _, _] _ (no ?_)))
      unfold ansK
      have : (ts.all fun e => decide (2 ≤ gD d e.1 + gD d e.2)) = false := by
        rw [List.all_eq_false]
        refine ⟨e, hm, fun q => ?_⟩
        have := of_decide_eq_true q
        omega
      rw [this]
      simp
    have h := of_decide_eq_false h
    rw [take_more hx]
    intro y hy
    rcases List.mem_append.mp hy with hy | hy
    · exact he y hy
    · rw [List.mem_singleton] at hy
      subst hy
      omega
  rintro _ ⟨s4, s5, he, rfl⟩
  rw [List.take_length] at he
  have yes : ansK ns ts d = true := by
    unfold ansK
    rw [decide_eq_true hl, List.all_eq_true.mpr fun x hx => by
      obtain ⟨a, b, c⟩ := hg x hx
      rw [a, decide_eq_true b, decide_eq_true c]
      rfl, List.all_eq_true.mpr fun e h => decide_eq_true (he e h)]
    rfl
  rw [yes] at hp
  exact blk_ret (ev_c (t := tBl) (fun _ _ => rfl) (fin0 [_, _, _] _ hp))
end
end KK
end

section
set_option maxRecDepth 100000
set_option maxHeartbeats 4000000
namespace KK
open PySem PySem.Spec PyProof.Rows L2 Y
/-! covers and answers, changed by each other -/
structure CovOk (z : WebZ) (cv : List Str) : Prop where
  sub : ∀ x ∈ cv, x ∈ z.ms
  asc : cv.Pairwise fun a b => Own.ltS a b = true
  cov : ∀ e ∈ z.us, e.1 ∈ cv ∨ e.2 ∈ cv
def menB (d : List (Str × Int)) (cv : List Str) (x : Str) : Bool := decide (gD d x = 2) || (decide (gD d x = 1) && decide (x ∈ cv))
def menL (z : WebZ) (d : List (Str × Int)) (cv : List Str) : List Str := z.ms.filter (menB d cv)
def sofV (d : List (Str × Int)) (cv : List Str) (x : Str) : Int := if gD d x = (if x ∈ cv then 0 else 2) then 1 else gD d x
def sofL (d : List (Str × Int)) (cv : List Str) : List (Str × Int) := (d.map (·.1)).map fun x => (x, sofV d cv x)
abbrev yIsCover (K : PySem.W.Frag) (CW : Addr) : Y.CT Bool := ⟨true, .sh tBl, fun as P _ => ∃ z cv, as = [.sh (yWeb K CW) z, .sh (tTu K tStr) cv] ∧ (WfZ z ∧ CovOk z cv) ∧ ∀ os, P os true⟩
abbrev yNeedBoth (K : PySem.W.Frag) (CW : Addr) : Y.CT Unit := ⟨true, .sh tNon, fun as P _ => ∃ z d cv, as = [.sh (yWeb K CW) z, .sh (tDk kS tInt) d, .sh (tTu K tStr) cv] ∧ (WfZ z ∧ AnsD z d ∧ CovOk z cv) ∧ ∀ os, P os ()⟩
abbrev yMended (K : PySem.W.Frag) (CW : Addr) : Y.CT (List Str) := ⟨true, .sh (tTu K tStr), fun as P _ => ∃ z d cv, as = [.sh (yWeb K CW) z, .sh (tDk kS tInt) d, .sh (tTu K tStr) cv] ∧ (WfZ z ∧ AnsD z d ∧ CovOk z cv) ∧ ∀ os, P os (menL z d cv)⟩
abbrev ySoftened (K : PySem.W.Frag) (CW : Addr) : Y.CT (List (Str × Int)) := ⟨true, .ow (oD kS tInt), fun as P _ => ∃ z d cv, as = [.sh (yWeb K CW) z, .sh (tDk kS tInt) d, .sh (tTu K tStr) cv] ∧ (WfZ z ∧ AnsD z d ∧ CovOk z cv) ∧ ∀ os, P os (sofL d cv)⟩
section
variable {P : Program} {w : World} {K : PySem.W.Frag} {mg : Str → Option Value} {base : Heap} {C CS CW CC : Addr}
end
end KK
end

section
set_option maxRecDepth 100000
set_option maxHeartbeats 4000000
namespace KK
open PySem PySem.Spec PyProof.Rows L2 Y
/-! a sum over a dict of prices -/
abbrev yLsum (K : PySem.W.Frag) : Y.CT Int := ⟨false, .sh tInt, fun as P _ => ∃ d ps, as = [.sh (tDk kS tInt) d, .sh (tDk kS tInt) ps] ∧ ((ps.map (·.1)).Nodup ∧ (∀ e ∈ ps, lookK d e.1 = some (gD d e.1) ∧ 0 ≤ gD d e.1 ∧ gD d e.1 ≤ 2) ∧ ps.length ≤ 1000) ∧ ∀ os, P os ((ps.map fun e => e.2 * gD d e.1).sum)⟩
section
variable {P : Program} {w : World} {K : PySem.W.Frag} {mg : Str → Option Value} {base : Heap} {C CS CW CC : Addr}
abbrev NYLsum2 : List Str := ["_law_x", "_law_prices_here", "_law_total", "_law_place"]
theorem scYLsum2 : FnScope NYLsum2 ["_law_x", "_law_prices_here"] (defScope s_law_sum) := ⟨rfl, rfl, rfl, by decide +kernel, rfl, by decide +kernel, by decide +kernel⟩
theorem y_lsum (T : Blt mg) (F : Has K mg "_law_sum" s_law_sum) : C8.Cal P w K mg base 1 "_law_sum" (Y.spZ (yLsum K)) [] := by
  refine calF F (fun f fd F => F.binds (ps := ["_law_x", "_law_prices_here"]) fun _ _ _ _ _ _ us hl => match us, hl with | [_, _], _ => rfl) scYLsum2 (fun vs H Q E h => zlen (fun as P XP hc => by obtain ⟨_, _, rfl, _⟩ := hc; rfl) h) (fun f cdv A outer s H vs Q E hr h => ?_)
  have hu := hu_of hr
  refine ⟨_, (pss_cons (ps_set (i := 2) scYLsum2.nd rfl (Or.inl rfl) pe_int)
      (pss_cons (ps_forD PassesOwn.never rfl (pv 1) (pg_name (i := 3) scYLsum2.nd rfl (Or.inl rfl))
        (pss_one (ps_set (i := 2) scYLsum2.nd rfl (Or.inl rfl) (pe_op op_add (pv 2) (pe_op op_mul (pe_dget hu (pv 1) (pv 3) (fun _ _ => rfl)) (pe_dget hu (pv 0) (pv 3) (fun _ _ => rfl)))))))
      (pss_one (ps_ret (pv 2))))), zrun h ?_⟩
  rintro as P XP ⟨d, ps, rfl, ⟨nd, hw, l40⟩, hp⟩ hl
  obtain ⟨p0, p1, rfl⟩ := len2 hl
  refine ⟨2, rfl, by decide, ?_⟩
  refine blk_seq (blk_set (t := tInt) (ev_c (t := tInt) (fun _ _ => rfl) ⟨rfl, ?_⟩))
  refine blk_seq (blk_forD (vs := [3]) kyS (fun i G' => ∃ s3, G' = ⟨false, [.sh (tDk kS tInt) d, .sh (tDk kS tInt) ps, .sh tInt (((ps.take i).map fun e => e.2 * gD d e.1).sum), s3], [some p0, some p1]⟩) (ap_var (i := 1) (x := ps) rfl rfl) ⟨_, rfl⟩ ?_ ?_)
  · rintro i x _ hx ⟨s3, rfl⟩
    obtain ⟨e, he, rfl⟩ : ∃ e, ps[i]? = some e ∧ e.1 = x := by
      rw [List.getElem?_map] at hx
      cases h : ps[i]? with
      | none => rw [h] at hx; cases hx
      | some e => rw [h] at hx; exact ⟨e, rfl, Option.some.inj hx⟩
    have hm := List.mem_of_getElem? he
    obtain ⟨h1, h2, h3⟩ := hw e hm
    refine tg_name (by decide) (free_of rfl) (blk_wipe [3] (blk_set (ev_op ro_I0 (ev_var rfl (ev_op ro_I (ev_dget kyS (ev_var (t := tDk kS tInt) (x := ps) rfl (ev_var rfl ⟨_, look_ix nd hm, ev_dget kyS (ev_var (t := tDk kS tInt) (x := d) rfl (ev_var rfl ⟨_, h1, .inr ⟨by omega, by omega⟩, ?_⟩))⟩))))))))
    refine ⟨rfl, .un, ?_⟩
    rw [take_more he, List.map_append, List.sum_append]
    simp
    rfl
  · rintro _ ⟨s3, rfl⟩
    rw [List.take_length]
    exact blk_ret (ev_var rfl (fin0 [_, _] _ hp))
end
end KK
end

section
set_option maxRecDepth 100000
set_option maxHeartbeats 4000000
namespace KK
open PySem PySem.Spec PyProof.Rows L2 Y
/-! the laws' covers and answers, drawn -/
structure SubR (ns r : List Str) : Prop where
  asc : r.Pairwise fun a b => Own.ltS a b = true
  sub : ∀ x ∈ r, x ∈ ns
abbrev yLprice (K : PySem.W.Frag) : Y.CT Int := ⟨false, .sh tInt, fun as P _ => ∃ cv ps, as = [.sh (tTu K tStr) cv, .sh (tDk kS tInt) ps] ∧ (cv.length ≤ 1000 ∧ ∀ x ∈ cv, lookK ps x = some (gD ps x)) ∧ ∀ os, P os (cv.map (gD ps)).sum⟩
abbrev ySubset (K : PySem.W.Frag) : Y.CT (List Str) := ⟨true, .sh (tTu K tStr), fun as P _ => ∃ ns ts, as = [.sh tStm (), .sh (tLs K tStr) ns, .sh (tLs K (tPr K)) ts] ∧ (ns.length ≤ 40 ∧ ns.Nodup ∧ ∀ e ∈ ts, e.1 ∈ ns ∧ e.2 ∈ ns) ∧ ∀ r, SubR ns r → ∀ os, P os r⟩
abbrev yFilled (K : PySem.W.Frag) : Y.CT (List Str) := ⟨true, .sh (tTu K tStr), fun as P _ => ∃ ns cv ts, as = [.sh (tTu K tStr) cv, .sh (tLs K (tPr K)) ts] ∧ (ns.length ≤ 40 ∧ SubR ns cv ∧ ∀ e ∈ ts, e.1 ∈ ns ∧ e.2 ∈ ns) ∧ ∀ r, (SubR ns r ∧ ∀ e ∈ ts, e.1 ∈ r ∨ e.2 ∈ r) → ∀ os, P os r⟩
section
variable {P : Program} {w : World} {K : PySem.W.Frag} {mg : Str → Option Value} {base : Heap} {C CS CW CC : Addr}
end
end KK
end

section
set_option maxRecDepth 100000
set_option maxHeartbeats 4000000
namespace KK
open PySem PySem.Spec PyProof.Rows L2 Y
/-! the laws' own answers and looks -/
structure DrawnA (ns : List Str) (ts : List (Str × Str)) (d : List (Str × Int)) : Prop where
  ks : d.map (·.1) = ns
  r : ∀ x ∈ ns, 0 ≤ gD d x ∧ gD d x ≤ 2
  t : ∀ e ∈ ts, 2 ≤ gD d e.1 + gD d e.2
theorem keys_look {d : List (Str × Int)} {x : Str} (h : x ∈ d.map (·.1)) : lookK d x = some (gD d x) := gD_of h
abbrev yDrawnA (K : PySem.W.Frag) : Y.CT (List (Str × Int)) := ⟨true, .ow (oD kS tInt), fun as P _ => ∃ ns ts, as = [.sh tStm (), .sh (tLs K tStr) ns, .sh (tLs K (tPr K)) ts] ∧ (ns.length ≤ 40 ∧ ns.Nodup ∧ ∀ e ∈ ts, TieOk ns e) ∧ ∀ d, DrawnA ns ts d → ∀ os, P os d⟩
abbrev yLmended (K : PySem.W.Frag) : Y.CT (List Str) := ⟨true, .sh (tTu K tStr), fun as P _ => ∃ z d cv, as = [.sh (tDk kS tInt) d, .sh (tTu K tStr) cv] ∧ (WfZ z ∧ AnsD z d) ∧ ∀ os, P os (menL z d cv)⟩
abbrev yLsoftened (K : PySem.W.Frag) : Y.CT (List (Str × Int)) := ⟨true, .ow (oD kS tInt), fun as P _ => ∃ d cv, as = [.sh (tDk kS tInt) d, .sh (tTu K tStr) cv] ∧ ((d.map (·.1)).Nodup ∧ d.length ≤ 900) ∧ ∀ os, P os (sofL d cv)⟩
section
variable {P : Program} {w : World} {K : PySem.W.Frag} {mg : Str → Option Value} {base : Heap} {C CS CW CC : Addr}
abbrev NYLdrawnanswerM : List Str := ["_law_stream_here", "_law_places_here", "_law_ties_here", "_law_x", "_law_place", "_law_a", "_law_b"]
theorem scYLdrawnanswerM : FnScope NYLdrawnanswerM ["_law_stream_here", "_law_places_here", "_law_ties_here"] (defScope s_law_drawn_answer) := ⟨rfl, rfl, rfl, by decide +kernel, rfl, by decide +kernel, by decide +kernel⟩
theorem y_drawna (T : Blt mg) (F : Has K mg "_law_drawn_answer" s_law_drawn_answer) (YDRAW : C8.Cal P w K mg base 1 "_law_draw" (Y.spZ yDraw) []) : C8.Cal P w K mg base 2 "_law_drawn_answer" (Y.spZ (yDrawnA K)) [] := by
  refine calF F (fun f fd F => F.binds (ps := ["_law_stream_here", "_law_places_here", "_law_ties_here"]) fun _ _ _ _ _ _ us hl => match us, hl with | [_, _, _], _ => rfl) scYLdrawnanswerM (fun vs H Q E h => zlen (fun as P XP hc => by obtain ⟨_, _, rfl, _⟩ := hc; rfl) h) (fun f cdv A outer s H vs Q E hr h => ?_)
  have hu := hu_of hr
  refine ⟨_, (pss_cons (ps_set (i := 3) scYLdrawnanswerM.nd rfl (Or.inl rfl) pe_dnewK)
      (pss_cons (ps_for PassesOwn.never rfl (pi_list (pv 1)) (pg_name (i := 4) scYLdrawnanswerM.nd rfl (Or.inl rfl))
        (pss_one (ps_dput hu (pv 3) (pv 4) (C8.pe_c YDRAW hr (by decide) rfl (pa_cons (pv 0) (pa_cons pe_int pa_nil))) rfl)))
      (pss_cons (ps_for PassesOwn.never rfl (pi_list (pv 2)) (pg_tup rfl (pgs_cons (pg_name (i := 5) scYLdrawnanswerM.nd rfl (Or.inl rfl)) (pgs_cons (pg_name (i := 6) scYLdrawnanswerM.nd rfl (Or.inl rfl)) pgs_nil)))
        (pss_one (ps_if (pt_cmpR op_lt (pe_op op_add (pe_dget hu (pv 3) (pv 5) (fun _ _ => rfl)) (pe_dget hu (pv 3) (pv 6) (fun _ _ => rfl))) pe_int (nomark _)) (pss_one (ps_dput hu (pv 3) (pv 5) (pe_op op_sub pe_int (pe_dget hu (pv 3) (pv 6) (fun _ _ => rfl))) rfl)) pss_nil)))
      (pss_one (ps_ret (pv 3)))))), zrun h ?_⟩
  rintro as P XP ⟨ns, ts, rfl, ⟨n40, nd, ht⟩, hp⟩ hl
  obtain ⟨p0, p1, p2, rfl⟩ := len3 hl
  refine ⟨4, rfl, by decide, ?_⟩
  refine blk_seq (blk_setO (ev_dnew kS tInt ⟨rfl, ?_⟩))
  refine blk_seq (blk_for (vs := [4]) (ei_list (ev_var (t := tLs K tStr) (x := ns) rfl ⟨(fun i G' => ∃ d s4, (d.map (·.1) = ns.take i ∧ ∀ e ∈ d, 0 ≤ e.2 ∧ e.2 ≤ 2) ∧ G' = ⟨true, [.sh tStm (), .sh (tLs K tStr) ns, .sh (tLs K (tPr K)) ts, .ow (oD kS tInt) d, s4, .un, .un], [some p0, some p1, some p2]⟩), ⟨[], _, ⟨rfl, fun e h => absurd h (by simp)⟩, rfl⟩, ?_, ?_⟩)))
  · rintro i x _ hx ⟨d, s4, ⟨hk, hv⟩, rfl⟩
    have dl : d.length ≤ 40 := by
      have := congrArg List.length hk
      rw [List.length_map, List.length_take] at this
      omega
    refine tg_name (by decide) (free_of rfl) (blk_wipe [4] (blk_dput kyS (pt_var (i := 3) rfl (by decide)) (ev_draw rfl (ev_c (t := tInt) (fun _ _ => rfl) ⟨⟨by decide, by decide⟩, fun r a b => ev_var rfl ⟨fits40 (by omega), _, _, ⟨?_, ?_⟩, rfl⟩⟩))))
    · rw [putZ_new (by rw [hk]; exact not_taken nd hx), List.map_append, hk, take_more hx]
      rfl
    · rw [putZ_new (by rw [hk]; exact not_taken nd hx)]
      intro e he
      have b : r < 3 := b
      rcases List.mem_append.mp he with he | he
      · exact hv e he
      · have : e = (x, r) := by simpa using he
        rw [this]
        exact ⟨a, by show r ≤ 2; omega⟩
  rintro _ ⟨d, s4, ⟨hk, hv⟩, rfl⟩
  rw [List.take_length] at hk
  have rr : ∀ x ∈ ns, 0 ≤ gD d x ∧ gD d x ≤ 2 := fun x hx => by
    have hx : x ∈ d.map (·.1) := by rw [hk]; exact hx
    obtain ⟨e, he, rfl⟩ := List.mem_map.mp hx
    have l := look_ix (by rw [hk]; exact nd) he
    rw [keys_look hx] at l
    rw [Option.some.inj l]
    exact hv e he
  refine blk_seq (blk_for (vs := [5, 6]) (ei_list (ev_var (t := tLs K (tPr K)) (x := ts) rfl ⟨(fun i G' => ∃ d s5 s6, DrawnA ns (ts.take i) d ∧ G' = ⟨true, [.sh tStm (), .sh (tLs K tStr) ns, .sh (tLs K (tPr K)) ts, .ow (oD kS tInt) d, s4, s5, s6], [some p0, some p1, some p2]⟩), ⟨d, _, _, ⟨hk, rr, fun e h => absurd h (by simp)⟩, rfl⟩, ?_, ?_⟩)))
  · rintro i e _ hx ⟨d, s5, s6, D, rfl⟩
    obtain ⟨m1, m2, ne⟩ := ht e (List.mem_of_getElem? hx)
    have l1 := keys_look (d := d) (x := e.1) (by rw [D.ks]; exact m1)
    have l2 := keys_look (d := d) (x := e.2) (by rw [D.ks]; exact m2)
    have r1 := D.r _ m1
    have r2 := D.r _ m2
    have dl : d.length ≤ 40 := by
      have := congrArg List.length D.ks
      rw [List.length_map] at this
      omega
    refine tg_tup2 (tg_name (by decide) (free_of rfl) (tg_name (by decide) (free_of rfl) (blk_wipe [5, 6] (blk_if (et_view (et_b (ev_op ro_B0 (ev_op ro_I0 (ev_dget kyS (ev_var (t := tDk kS tInt) (x := d) rfl (ev_var rfl ⟨_, l1, ev_dget kyS (ev_var (t := tDk kS tInt) (x := d) rfl (ev_var rfl ⟨_, l2, ev_c (t := tInt) (fun _ _ => rfl) ⟨fun h => ?_, fun h => blk_next ⟨d, _, _, ?_, rfl⟩⟩⟩))⟩)))))))))))
    · have h : gD d e.1 + gD d e.2 < 2 := of_decide_eq_true h
      refine blk_dput kyS (pt_var (i := 3) rfl (by decide)) (ev_view (r := .sh tInt) flI (ev_op ro_I0 (ev_c (t := tInt) (fun _ _ => rfl) (ev_dget kyS (ev_var (t := tDk kS tInt) (x := d) rfl (ev_var rfl ⟨_, l2, ev_var rfl ⟨fits40 (by omega), _, _, _, ?_, rfl⟩⟩))))))
      have has : (lookK d e.1).isSome = true := by rw [l1]; rfl
      have g := fun y => gD_put (d := d) (a := e.1) (x := y) (v := 2 - gD d e.2) has
      refine ⟨(put_keys has).trans D.ks, fun y hy => ?_, fun q hq => ?_⟩
      · rw [g]
        split
        · omega
        · exact D.r y hy
      · rw [take_more hx] at hq
        have up : ∀ y ∈ ns, gD d y ≤ gD (putZ d e.1 (2 - gD d e.2)) y := fun y hy => by
          rw [g]
          split
          · rename_i e1
            rw [← e1]
            omega
          · omega
        rcases List.mem_append.mp hq with hq | hq
        · obtain ⟨k1, k2, _⟩ := ht q (List.mem_of_mem_take hq)
          have := D.t q hq
          have := up _ k1
          have := up _ k2
          omega
        · rw [List.mem_singleton] at hq
          subst hq
          rw [g, g, if_pos rfl, if_neg ne]
          omega
    · have h : ¬ gD d e.1 + gD d e.2 < 2 := of_decide_eq_false h
      refine ⟨D.ks, D.r, fun q hq => ?_⟩
      rw [take_more hx] at hq
      rcases List.mem_append.mp hq with hq | hq
      · exact D.t q hq
      · rw [List.mem_singleton] at hq
        subst hq
        omega
  rintro _ ⟨d, s5, s6, D, rfl⟩
  rw [List.take_length] at D
  exact blk_ret (ev_give (i := 3) rfl (fin0 [_, _, _] _ (hp d D)))
end
end KK
end

section
set_option maxRecDepth 100000
set_option maxHeartbeats 4000000
namespace KK
open PySem PySem.Spec PyProof.Rows L2 Y
abbrev yTurned (K : PySem.W.Frag) : Y.CT (List (Str × Int)) := ⟨true, .ow (oD kS tInt), fun as P _ => ∃ d, as = [.sh (tDk kS tInt) d] ∧ ((d.map (·.1)).Nodup ∧ d.length ≤ 900) ∧ ∀ os, P os d.reverse⟩
abbrev yLisCover (K : PySem.W.Frag) : Y.CT Bool := ⟨true, .sh tBl, fun as P _ => ∃ cv ns ts, as = [.sh (tTu K tStr) cv, .sh (tLs K tStr) ns, .sh (tLs K (tPr K)) ts] ∧ (ns.length ≤ 40 ∧ ns.Nodup ∧ (∀ x ∈ ns, NameOk x) ∧ SubR ns cv ∧ ∀ e ∈ ts, e.1 ∈ cv ∨ e.2 ∈ cv) ∧ ∀ os, P os true⟩
section
variable {P : Program} {w : World} {K : PySem.W.Frag} {mg : Str → Option Value} {base : Heap} {C CS CW CC : Addr}
abbrev NYLturnedM : List Str := ["_law_x", "_law_found", "_law_key"]
theorem scYLturnedM : FnScope NYLturnedM ["_law_x"] (defScope s_law_turned) := ⟨rfl, rfl, rfl, by decide +kernel, rfl, by decide +kernel, by decide +kernel⟩
theorem y_turned (T : Blt mg) (F : Has K mg "_law_turned" s_law_turned) : C8.Cal P w K mg base 1 "_law_turned" (Y.spZ (yTurned K)) [] := by
  refine calF F (fun f fd F => F.binds (ps := ["_law_x"]) fun _ _ _ _ _ _ us hl => match us, hl with | [_], _ => rfl) scYLturnedM (fun vs H Q E h => zlen (fun as P XP hc => by obtain ⟨_, rfl, _⟩ := hc; rfl) h) (fun f cdv A outer s H vs Q E hr h => ?_)
  have hu := hu_of hr
  refine ⟨_, (pss_cons (ps_set (i := 1) scYLturnedM.nd rfl (Or.inl rfl) pe_dnewK)
      (pss_cons (ps_for PassesOwn.never rfl (pi_list (pe_revL (pe_callTy (call_list_dK rfl) (by rfl) T.b_list (by decide +kernel) (pa_cons (pv 0) pa_nil)))) (pg_name (i := 2) scYLturnedM.nd rfl (Or.inl rfl))
        (pss_one (ps_dput hu (pv 1) (pv 2) (pe_dget hu (pv 0) (pv 2) (fun _ _ => rfl)) rfl)))
      (pss_one (ps_ret (pv 1))))), zrun h ?_⟩
  rintro as P XP ⟨d, rfl, ⟨nd, l40⟩, hp⟩ hl
  obtain ⟨p0, rfl⟩ := len1 hl
  refine ⟨2, rfl, by decide, ?_⟩
  refine blk_seq (blk_setO (ev_dnew kS tInt ⟨rfl, ?_⟩))
  refine blk_seq (blk_for (vs := [2]) (ei_list (EvR.share (O := oL K tStr) (ev_rev (EvR.share (O := oL K tStr) (ev_cb (rc_listD kyS) (ev_var (t := tDk kS tInt) (x := d) rfl ⟨fun _ => rfl, ⟨(fun i G' => G' = ⟨true, [.sh (tDk kS tInt) d, .ow (oD kS tInt) (d.reverse.take i), .un], [some p0]⟩), rfl, ?_, ?_⟩⟩)))))))
  · rintro i x _ hx rfl
    rw [← List.map_reverse, List.getElem?_map] at hx
    obtain ⟨e, he, rfl⟩ := Option.map_eq_some_iff.mp hx
    have hm : e ∈ d := List.mem_reverse.mp (List.mem_of_getElem? he)
    have ndr : (d.reverse.map (·.1)).Nodup := by rw [List.map_reverse]; exact (List.reverse_perm _).nodup_iff.mpr nd
    refine tg_name (by decide) (free_of rfl) (blk_wipe [2] (blk_dput kyS (pt_var (i := 1) rfl (by decide)) (ev_dget kyS (ev_var rfl (ev_var rfl ⟨e.2, look_ix nd hm, ev_var rfl ⟨fits40 (by rw [List.length_take, List.length_reverse]; omega), ?_⟩⟩)))))
    rw [putZ_new (by have := not_taken ndr (show (d.reverse.map (·.1))[i]? = some e.1 by rw [List.getElem?_map, he]; rfl); rwa [← List.map_take] at this), show d.reverse.take i ++ [(e.1, e.2)] = d.reverse.take (i + 1) from by rw [List.take_succ, he]; rfl]
    rfl
  · rintro _ rfl
    refine blk_ret (ev_give (i := 1) rfl (fin0 [_] _ ?_))
    rw [List.length_reverse, List.length_map, ← List.length_reverse, List.take_length]
    exact hp
end
end KK
end

section
set_option maxRecDepth 100000
set_option maxHeartbeats 4000000
namespace KK
open PySem PySem.Spec PyProof.Rows L2 Y
/-! what covers and answers make of each other -/
section
variable {z : WebZ} {d : List (Str × Int)} {cv : List Str} {x : Str}
theorem rev_look (nd : (d.map (·.1)).Nodup) (hx : x ∈ d.map (·.1)) : lookK d.reverse x = some (gD d x) := by
  obtain ⟨e, he, rfl⟩ := List.mem_map.mp hx
  have h1 := look_ix nd he
  have h2 := look_ix (kvs := d.reverse) (by rw [List.map_reverse]; exact (List.reverse_perm _).nodup_iff.mpr nd) (List.mem_reverse.mpr he)
  rw [h2]
  rw [keys_look hx] at h1
  exact h1.symm
theorem AnsD.kn (A : AnsD z d) (wz : WfZ z) : (d.map (·.1)).Nodup := A.pm.nodup_iff.mpr wz.p.no.nd
theorem rev_gD (A : AnsD z d) (wz : WfZ z) (hx : x ∈ z.ms) : gD d.reverse x = gD d x := by
  have h := rev_look (A.kn wz) (A.pm.mem_iff.mpr hx)
  unfold gD
  rw [h]
  rfl
theorem AnsD.rev (A : AnsD z d) (wz : WfZ z) : AnsD z d.reverse := ⟨by rw [List.map_reverse]; exact (List.reverse_perm _).trans A.pm, fun x hx => by
  rw [rev_gD A wz hx]
  exact ⟨rev_look (A.kn wz) (A.pm.mem_iff.mpr hx), (A.r x hx).2⟩, fun e he => by
  obtain ⟨m1, m2, _⟩ := wz.p.to.ok e he
  rw [rev_gD A wz m1, rev_gD A wz m2]
  exact A.t e he⟩
end
end KK
end

section
set_option maxRecDepth 100000
set_option maxHeartbeats 4000000
namespace KK
open PySem PySem.Spec PyProof.Rows L2 Y
/-! back from an answer to prices -/
def parL (z : WebZ) (d : List (Str × Int)) (x : Str) : List Str := (nearL z x).filter fun o => decide (gD d x + gD d o = 2)
def idleL (z : WebZ) (d : List (Str × Int)) : List Str := z.ms.filter fun x => decide (0 < gD d x) && (parL z d x).isEmpty
def bpr (z : WebZ) (d : List (Str × Int)) (x : Str) : Int := ((parL z d x).length : Int) + if gD d x = 0 then 1 else 0
def bprL (z : WebZ) (d : List (Str × Int)) : List (Str × Int) := atD z.ms (bpr z d)
/-- what keeps an answer from being the only best one -/
inductive Flt where
  | pl (k x : Str)
  | sd (k : Str) (l r : List Str)
def tFlt (K : PySem.W.Frag) : Y.Ty Flt := ⟨fun W H v x => match x with
  | .pl k x => (tPr K).R W H v (k, x)
  | .sd k l r => (tT3 K tStr (tTu K tStr) (tTu K tStr)).R W H v (k, l, r), by
  rintro W W' H H' v (⟨k, x⟩ | ⟨k, l, r⟩) h m
  · exact (tPr K).go h m
  · exact (tT3 K tStr (tTu K tStr) (tTu K tStr)).go h m⟩
theorem nnF {K : PySem.W.Frag} : ∀ W H v x, (tFlt K).R W H v x → v ≠ .non := fun W H v x r e => by
  cases x with
  | pl k x =>
    obtain ⟨a, p, q, rfl, _⟩ := r
    cases e
  | sd k l r2 =>
    obtain ⟨a, p, q, s, rfl, _⟩ := r
    cases e
def halfL (z : WebZ) (d : List (Str × Int)) : List Str := z.ms.filter fun x => decide (gD d x = 1)
/-- no part of these has two sides: whoever adds up to 2 along all ties is 1 everywhere -/
def OneH (z : WebZ) : Prop := ∀ y : Str → Int, (∀ a b, Adj z a b → y a + y b = 2) → ∀ a ∈ z.ms, y a = 1
/-- the first part that has two sides, told by its least place -/
structure SidesD (z : WebZ) (l r : List Str) : Prop where
  ne : ∃ x ∈ z.ms, x ∈ l
  sub : ∀ x, x ∈ l ∨ x ∈ r → x ∈ z.ms
  dj : ∀ x, x ∈ l → x ∉ r
  cl : ∀ x y, x ∈ l → Adj z x y → y ∈ r
  cr : ∀ x y, x ∈ r → Adj z x y → y ∈ l
  al : Own.AscS l
  ar : Own.AscS r
  nl : l.Nodup
  nr : r.Nodup
/-- s is in a part with two sides -/
def Flat (z : WebZ) (s : Str) : Prop := ∃ y : Str → Int, (∀ a b, Adj z a b → y a + y b = 2) ∧ y s ≠ 1
/-- the part of s, and none before it has two sides -/
def FirstS (z : WebZ) (l r : List Str) : Prop := ∃ s n, z.ms[n]? = some s ∧ s ∈ l ∧ (∀ x ∈ z.ms.take n, ¬ Flat z x) ∧ ∀ S : Str → Prop, S s → (∀ a b, S a → Adj z a b → S b) → ∀ x, x ∈ l ∨ x ∈ r → S x
inductive TwoR (z : WebZ) : Option Flt → Prop where
  | no : OneH z → TwoR z none
  | yes (l r : List Str) : SidesD z l r → FirstS z l r → TwoR z (some (.sd "sides" l r))
inductive FaultR (z : WebZ) (d : List (Str × Int)) : Option Flt → Prop where
  | idle (x : Str) (xs : List Str) : idleL z d = x :: xs → FaultR z d (some (.pl "place" x))
  | whole : idleL z d = [] → halfL z d = [] → FaultR z d none
  | half (h : WebZ) (o : Option Flt) : idleL z d = [] → halfL z d ≠ [] → PartW z (halfL z d) h → TwoR h o → FaultR z d o
/-- with level ties in all parts whoever adds up to 2 along all ties is 1 -/
theorem one_in {z : WebZ} {r : Str} {d : List (Str × Int)} (D : DistR z r d) (h : ∃ e n, e ∈ z.us ∧ lookK d e.1 = some n ∧ lookK d e.2 = some n) (wz : WfZ z) {y : Str → Int} (hy : ∀ a b, Adj z a b → y a + y b = 2) {a : Str} (hk : hasK d a = true) : y a = 1 := by
  have al : ∀ (n : Nat) x, lookK d x = some (n : Int) → y x = if n % 2 = 0 then y r else 2 - y r := fun n => by
    induction n using Nat.strongRecOn with
    | _ n ih =>
      intro x hx
      by_cases c : n = 0
      · subst c
        obtain ⟨L, b⟩ := D.b
        have := b.zr x hx
        rw [if_pos rfl, this]
      · obtain ⟨L, b⟩ := D.b
        obtain ⟨u, m, au, hu, lt⟩ := b.dn x _ hx (by omega)
        have m0 := (D.ms hu).2
        obtain ⟨m', rfl⟩ : ∃ m' : Nat, m = (m' : Int) := ⟨m.toNat, by omega⟩
        have st := D.step au hx hu
        have e : m' + 1 = n := by omega
        have i1 := ih m' (by omega) u hu
        have t := hy x u au
        by_cases p : m' % 2 = 0
        · rw [if_pos p] at i1
          rw [if_neg (by omega)]
          omega
        · rw [if_neg p] at i1
          rw [if_pos (by omega)]
          omega
  obtain ⟨e, n, he, h1, h2⟩ := h
  have n0 := (D.ms h1).2
  obtain ⟨n', rfl⟩ : ∃ n' : Nat, n = (n' : Int) := ⟨n.toNat, by omega⟩
  have a1 := al n' _ h1
  have a2 := al n' _ h2
  have t := hy _ _ (us_adj wz he)
  have r1 : y r = 1 := by
    by_cases p : n' % 2 = 0
    · rw [if_pos p] at a1 a2
      omega
    · rw [if_neg p] at a1 a2
      omega
  obtain ⟨m, hm⟩ := Option.isSome_iff_exists.mp (show (lookK d a).isSome = true from hk)
  have m0 := (D.ms hm).2
  obtain ⟨m', rfl⟩ : ∃ m' : Nat, m = (m' : Int) := ⟨m.toNat, by omega⟩
  have := al m' a hm
  rw [r1] at this
  rw [this]
  split <;> rfl
theorem one_of {z : WebZ} {ds : List (List (Str × Int))} (PR : PartsR z ds) (h : ∀ d ∈ ds, ∃ e n, e ∈ z.us ∧ lookK d e.1 = some n ∧ lookK d e.2 = some n) (wz : WfZ z) : OneH z := fun y hy a ha => by
  obtain ⟨d, hd, hk⟩ := PR.all a ha
  obtain ⟨r, D⟩ := PR.one hd
  exact one_in D (h d hd) wz hy hk
abbrev yNeedAns (K : PySem.W.Frag) (CW : Addr) : Y.CT Unit := ⟨true, .sh tNon, fun as P _ => ∃ z d, as = [.sh (yWeb K CW) z, .sh (tDk kS tInt) d] ∧ (WfZ z ∧ AnsD z d) ∧ ∀ os, P os ()⟩
abbrev yPartn (K : PySem.W.Frag) (CW : Addr) : Y.CT (List Str) := ⟨true, .ow (oL K tStr), fun as P _ => ∃ z d x, as = [.sh (yWeb K CW) z, .sh (tDk kS tInt) d, .sh tStr x] ∧ (WfZ z ∧ AnsD z d ∧ x ∈ z.ms) ∧ ∀ os, P os (parL z d x)⟩
abbrev yIdle (K : PySem.W.Frag) (CW : Addr) : Y.CT (List Str) := ⟨true, .ow (oL K tStr), fun as P _ => ∃ z d, as = [.sh (yWeb K CW) z, .sh (tDk kS tInt) d] ∧ (WfZ z ∧ AnsD z d) ∧ ∀ os, P os (idleL z d)⟩
abbrev yBPrices (K : PySem.W.Frag) (CW : Addr) : Y.CT (List (Str × Int)) := ⟨true, .ow (oD kS tInt), fun as P _ => ∃ z d, as = [.sh (yWeb K CW) z, .sh (tDk kS tInt) d] ∧ (WfZ z ∧ AnsD z d) ∧ ∀ os, P os (bprL z d)⟩
abbrev yTwoSides (K : PySem.W.Frag) (CW : Addr) : Y.CT (Option Flt) := ⟨true, .sh (tOpt (tFlt K)), fun as P _ => ∃ z, as = [.sh (yWeb K CW) z] ∧ WfZ z ∧ ∀ o, TwoR z o → ∀ os, P os o⟩
abbrev yFaultOf (K : PySem.W.Frag) (CW : Addr) : Y.CT (Option Flt) := ⟨true, .sh (tOpt (tFlt K)), fun as P _ => ∃ z d, as = [.sh (yWeb K CW) z, .sh (tDk kS tInt) d] ∧ (WfZ z ∧ AnsD z d) ∧ ∀ o, FaultR z d o → ∀ os, P os o⟩
abbrev yPricesFor (K : PySem.W.Frag) (CW : Addr) : Y.CT (Option (List (Str × Int))) := ⟨true, .ow (oOpt (oD kS tInt)), fun as P _ => ∃ z d, as = [.sh (yWeb K CW) z, .sh (tDk kS tInt) d] ∧ (WfZ z ∧ AnsD z d) ∧ ∀ os, P os (if (idleL z d).isEmpty then some (bprL z d) else none)⟩
abbrev yOnlyFor (K : PySem.W.Frag) (CW : Addr) : Y.CT (Option (List (Str × Int))) := ⟨true, .ow (oOpt (oD kS tInt)), fun as P _ => ∃ z d, as = [.sh (yWeb K CW) z, .sh (tDk kS tInt) d] ∧ (WfZ z ∧ AnsD z d) ∧ ∀ o, FaultR z d o → ∀ os, P os (if o.isSome then none else some (bprL z d))⟩
section
variable {P : Program} {w : World} {K : PySem.W.Frag} {mg : Str → Option Value} {base : Heap} {C CS CW CC : Addr}
abbrev NYneedanswer : List Str := ["web", "x"]
theorem scYneedanswer : FnScope NYneedanswer ["web", "x"] (defScope s_need_answer) := ⟨rfl, rfl, rfl, by decide +kernel, rfl, by decide +kernel, by decide +kernel⟩
theorem y_needans (T : Blt mg) (F : Has K mg "_need_answer" s_need_answer) (YISANS : C8.Cal P w K mg base 4 "is_answer" (Y.spZ (yIsAns K CW)) []) : C8.Cal P w K mg base 5 "_need_answer" (Y.spZ (yNeedAns K CW)) [] := by
  refine calF F (fun f fd F => F.binds (ps := ["web", "x"]) fun _ _ _ _ _ _ us hl => match us, hl with | [_, _], _ => rfl) scYneedanswer (fun vs H Q E h => zlen (fun as P XP hc => by obtain ⟨_, _, rfl, _⟩ := hc; rfl) h) (fun f cdv A outer s H vs Q E hr h => ?_)
  have hu := hu_of hr
  refine ⟨_, (pss_one (ps_if (pt_not (pt_val (C8.pe_c YISANS hr (by decide) rfl (pa_cons (pv 0) (pa_cons (pv 1) pa_nil))))) pss_never pss_nil)), zrun h ?_⟩
  rintro as P XP ⟨z, d, rfl, ⟨wz, A⟩, hp⟩ hl
  obtain ⟨p0, p1, rfl⟩ := len2 hl
  refine ⟨0, rfl, by decide, ?_⟩
  refine blk_if (et_not (et_b (ev_call0 (ea_cons (ev_var rfl (ea_cons (ev_var rfl (ea_nil ⟨fun _ => rfl, allc trivial (all1 trivial), z, d, rfl, ⟨wz, A⟩, fun _ => ⟨fun h => blk_never (by cases h), fun _ => blk_next ⟨(), ?_, fun _ _ => rfl⟩⟩⟩))))))))
  exact fin0 [_, _] _ hp
abbrev NYpartners : List Str := ["web", "x", "place", "other"]
theorem scYpartners : FnScope NYpartners ["web", "x", "place"] (defScope s_partners) := ⟨rfl, rfl, rfl, by decide +kernel, rfl, by decide +kernel, by decide +kernel⟩
theorem y_partn (T : Blt mg) (F : Has K mg "_partners" s_partners) (YNEAR : C8.Met P w K mg base 3 CW "near" (Y.spZ (yNear K CW)) []) : C8.Cal P w K mg base 4 "_partners" (Y.spZ (yPartn K CW)) [] := by
  refine calF F (fun f fd F => F.binds (ps := ["web", "x", "place"]) fun _ _ _ _ _ _ us hl => match us, hl with | [_, _, _], _ => rfl) scYpartners (fun vs H Q E h => zlen (fun as P XP hc => by obtain ⟨_, _, _, rfl, _⟩ := hc; rfl) h) (fun f cdv A outer s H vs Q E hr h => ?_)
  have hu := hu_of hr
  refine ⟨_, (pss_one (ps_ret (pe_lc (own := [("other", 3)]) (g := gName 3) rfl scYpartners.nd (pi_list (C8.pe_mt YNEAR hr (by decide) (pv 0) (pa_cons (pv 2) pa_nil))) (blkOk_by (own := [("other", 3)]) (N := NYpartners) (sc := defScope s_partners) (by decide +kernel)) (fun _ _ _ _ _ => (pg_name (i := 3) scYpartners.nd rfl (Or.inl rfl))) (fun _ _ _ _ _ => pts_one (pt_cmpR op_eq (pe_op op_add (pe_dget hu (pv 1) (pv 2) (fun _ _ => rfl)) (pe_dget hu (pv 1) (pv 3) (fun _ _ => rfl))) pe_int (nomark _))) (fun _ _ _ _ _ => (pv 3))))), zrun h ?_⟩
  rintro as P XP ⟨z, d, x, rfl, ⟨wz, A, xm⟩, hp⟩ hl
  obtain ⟨p0, p1, p2, rfl⟩ := len3 hl
  refine ⟨1, rfl, by decide, ?_⟩
  refine blk_ret (ev_lc (K := K) (u := tStr) (vs := [3]) (ei_list (EvR.share (O := oL K tStr) (ev_meth0 (instYW (by decide)) (ev_var rfl (ea_cons (ev_var rfl (ea_nil ⟨fun _ => rfl, allc trivial (all1 trivial), z, x, rfl, ⟨wz, xm⟩, fun _ => ?_⟩))))))))
  have nl : (nearL z x).length ≤ 1000 := by
    unfold nearL
    rw [List.length_append, List.length_map, List.length_map]
    have h1 := List.length_filter_le (fun e : Str × Str => decide (e.2 = x)) z.us
    have h2 := List.length_filter_le (fun e : Str × Str => decide (e.1 = x)) z.us
    have := wz.p.to.hi
    omega
  refine ⟨(fun i ys => ys = ((nearL z x).take i).filter fun o => decide (gD d x + gD d o = 2)), fits40 nl, ?_, rfl, ?_, ?_⟩
  · intro i hi
    rw [List.mem_singleton] at hi; subst hi; exact free_of rfl
  · rintro i y ys hy rfl
    have ay := (near_adj wz xm).mp (List.mem_of_getElem? hy)
    have ym := (Adj.ends wz ay).2.1
    refine tg_name (by decide) (free_of rfl) (et_b (ev_op ro_eqI (ev_op ro_I0 (ev_dget kyS (ev_var (t := tDk kS tInt) (x := d) rfl (ev_var rfl ⟨_, (A.r x xm).1, ev_dget kyS (ev_var (t := tDk kS tInt) (x := d) rfl (ev_var rfl ⟨_, (A.r y ym).1, ev_c (t := tInt) (fun _ _ => rfl) ⟨fun h => ev_var rfl ?_, fun h => ?_⟩⟩))⟩))))))
    · show _ = _
      rw [filter_snoc hy, if_pos h]
    · show _ = _
      rw [filter_snoc hy, if_neg (by rw [show decide (gD d x + gD d y = 2) = false from h]; decide), List.append_nil]
  · rintro ys rfl
    rw [List.take_length]
    exact fin0 [_, _, _] _ hp
abbrev NYidle : List Str := ["web", "x", "place"]
theorem scYidle : FnScope NYidle ["web", "x"] (defScope s_idle) := ⟨rfl, rfl, rfl, by decide +kernel, rfl, by decide +kernel, by decide +kernel⟩
theorem y_idle (T : Blt mg) (F : Has K mg "_idle" s_idle) (YPLACES : C8.Met P w K mg base 1 CW "places" (Y.spZ (ctPlaces K CW)) []) (YPARTN : C8.Cal P w K mg base 4 "_partners" (Y.spZ (yPartn K CW)) []) : C8.Cal P w K mg base 5 "_idle" (Y.spZ (yIdle K CW)) [] := by
  refine calF F (fun f fd F => F.binds (ps := ["web", "x"]) fun _ _ _ _ _ _ us hl => match us, hl with | [_, _], _ => rfl) scYidle (fun vs H Q E h => zlen (fun as P XP hc => by obtain ⟨_, _, rfl, _⟩ := hc; rfl) h) (fun f cdv A outer s H vs Q E hr h => ?_)
  have hu := hu_of hr
  refine ⟨_, (pss_one (ps_ret (pe_lc (own := [("place", 2)]) (g := gName 2) rfl scYidle.nd (pi_list (C8.pe_mt0 YPLACES hr (by decide) (pv 0))) (blkOk_by (own := [("place", 2)]) (N := NYidle) (sc := defScope s_idle) (by decide +kernel)) (fun _ _ _ _ _ => (pg_name (i := 2) scYidle.nd rfl (Or.inl rfl))) (fun _ _ _ _ _ => pts_one (PW.pt (pw_and (pt_cmpR op_gt (pe_dget hu (pv 1) (pv 2) (fun _ _ => rfl)) pe_int (nomark _)) (pw_and1 (pt_not (pt_truthK (K := K) rfl (C8.pe_c YPARTN hr (by decide) rfl (pa_cons (pv 0) (pa_cons (pv 1) (pa_cons (pv 2) pa_nil)))) (by intro _; rfl))))))) (fun _ _ _ _ _ => (pv 2))))), zrun h ?_⟩
  rintro as P XP ⟨z, d, rfl, ⟨wz, A⟩, hp⟩ hl
  obtain ⟨p0, p1, rfl⟩ := len2 hl
  refine ⟨1, rfl, by decide, ?_⟩
  have z40 := wz.p.no.hi
  refine blk_ret (ev_lc (K := K) (u := tStr) (vs := [2]) (ei_list (ev_meth0 (instYW (by decide)) (ev_var rfl (ea_nil ⟨fun _ => rfl, all1 trivial, z, rfl, fun _ => ?_⟩)))))
  refine ⟨(fun i ys => ys = (z.ms.take i).filter fun x => decide (0 < gD d x) && (parL z d x).isEmpty), fits40 (by omega), ?_, rfl, ?_, ?_⟩
  · intro i hi
    rw [List.mem_singleton] at hi; subst hi; exact free_of rfl
  · rintro i x ys hx rfl
    have xm := List.mem_of_getElem? hx
    refine tg_name (by decide) (free_of rfl) (et_and (et_b (ev_op ro_B0 (ev_dget kyS (ev_var (t := tDk kS tInt) (x := d) rfl (ev_var rfl ⟨_, (A.r x xm).1, ev_c (t := tInt) (fun _ _ => rfl) ⟨fun h1 => ?_, fun h1 => ⟨fun h => (nomatch h), fun _ => ?_⟩⟩⟩))))))
    · have h1 : decide (gD d x > 0) = true := h1
      refine et_not (et_truth trL (EvR.share (O := oL K tStr) (ev_call0 (ea_cons (ev_var rfl (ea_cons (ev_var rfl (ea_cons (ev_var rfl (ea_nil ⟨fun _ => rfl, allc trivial (allc trivial (all1 trivial)), z, d, x, rfl, ⟨wz, A, xm⟩, fun _ => ⟨fun h2 => ev_var rfl ?_, fun h2 => ?_⟩⟩))))))))))
      · have h2 : (parL z d x).isEmpty = true := by simpa using h2
        show _ = _
        rw [filter_snoc hx, if_pos (by rw [show decide (0 < gD d x) = true from h1, h2]; rfl)]
      · have h2 : (parL z d x).isEmpty = false := by simpa using h2
        show _ = _
        rw [filter_snoc hx, if_neg (by rw [h2, Bool.and_false]; decide), List.append_nil]
    · show _ = _
      rw [filter_snoc hx, if_neg (by rw [show decide (0 < gD d x) = false from h1, Bool.false_and]; decide), List.append_nil]
  · rintro ys rfl
    rw [List.take_length]
    exact fin0 [_, _] _ hp
abbrev NYprices : List Str := ["web", "x", "prices", "place", "more"]
theorem scYprices : FnScope NYprices ["web", "x"] (defScope s_prices) := ⟨rfl, rfl, rfl, by decide +kernel, rfl, by decide +kernel, by decide +kernel⟩
theorem y_bprices (T : Blt mg) (F : Has K mg "_prices" s_prices) (YPLACES : C8.Met P w K mg base 1 CW "places" (Y.spZ (ctPlaces K CW)) []) (YPARTN : C8.Cal P w K mg base 4 "_partners" (Y.spZ (yPartn K CW)) []) : C8.Cal P w K mg base 5 "_prices" (Y.spZ (yBPrices K CW)) [] := by
  refine calF F (fun f fd F => F.binds (ps := ["web", "x"]) fun _ _ _ _ _ _ us hl => match us, hl with | [_, _], _ => rfl) scYprices (fun vs H Q E h => zlen (fun as P XP hc => by obtain ⟨_, _, rfl, _⟩ := hc; rfl) h) (fun f cdv A outer s H vs Q E hr h => ?_)
  have hu := hu_of hr
  refine ⟨_, (pss_cons (ps_set (i := 2) scYprices.nd rfl (Or.inl rfl) pe_dnewK)
      (pss_cons (ps_for PassesOwn.never rfl (pi_list (C8.pe_mt0 YPLACES hr (by decide) (pv 0))) (pg_name (i := 3) scYprices.nd rfl (Or.inl rfl))
        (pss_cons (ps_set (i := 4) scYprices.nd rfl (Or.inl rfl) (pe_ifExp (pt_cmpR op_eq (pe_dget hu (pv 1) (pv 3) (fun _ _ => rfl)) pe_int (nomark _)) pe_int pe_int))
      (pss_one (ps_dput hu (pv 2) (pv 3) (pe_op op_add (pe_callB call_len (by rfl) T.b_len PySem.boot_len (pa_cons (C8.pe_c YPARTN hr (by decide) rfl (pa_cons (pv 0) (pa_cons (pv 1) (pa_cons (pv 3) pa_nil)))) pa_nil)) (pv 4)) rfl))))
      (pss_one (ps_ret (pv 2))))), zrun h ?_⟩
  rintro as P XP ⟨z, d, rfl, ⟨wz, A⟩, hp⟩ hl
  obtain ⟨p0, p1, rfl⟩ := len2 hl
  refine ⟨3, rfl, by decide, ?_⟩
  have z40 := wz.p.no.hi
  refine blk_seq (blk_setO (ev_dnew kS tInt ⟨rfl, ?_⟩))
  refine blk_seq (blk_for (vs := [3]) (ei_list (ev_meth0 (instYW (by decide)) (ev_var rfl (ea_nil ⟨fun _ => rfl, all1 trivial, z, rfl, fun _ => ?_⟩)))))
  refine ⟨(fun i G' => ∃ s3 s4, G' = ⟨true, [.sh (yWeb K CW) z, .sh (tDk kS tInt) d, .ow (oD kS tInt) ((bprL z d).take i), s3, s4], [some p0, some p1]⟩), ⟨_, _, rfl⟩, ?_, ?_⟩
  · rintro i x _ hx ⟨s3, s4, rfl⟩
    have xm := List.mem_of_getElem? hx
    have ex : (bprL z d)[i]? = some (x, bpr z d x) := by unfold bprL atD; rw [List.getElem?_map, hx]; rfl
    have ln : ((bprL z d).take i).length ≤ 40 := by unfold bprL; rw [List.length_take, atD_len]; omega
    refine tg_name (by decide) (free_of rfl) (blk_wipe [3, 4] (blk_seq (blk_set (t := tInt) (ev_if (et_b (ev_op ro_eqI (ev_dget kyS (ev_var (t := tDk kS tInt) (x := d) rfl (ev_var rfl ⟨_, (A.r x xm).1, ev_c (t := tInt) (fun _ _ => rfl) ⟨fun h => ?_, fun h => ?_⟩⟩)))))))))
    · have h : gD d x = 0 := of_decide_eq_true h
      refine ev_c (t := tInt) (fun _ _ => rfl) ⟨rfl, ?_⟩
      refine blk_dput kyS (pt_var (i := 2) rfl (by decide)) (ev_op ro_I0 (ev_cb rc_lenL (EvR.share (O := oL K tStr) (ev_call0 (ea_cons (ev_var rfl (ea_cons (ev_var rfl (ea_cons (ev_var rfl (ea_nil ⟨fun _ => rfl, allc trivial (allc trivial (all1 trivial)), z, d, x, rfl, ⟨wz, A, xm⟩, fun _ => ⟨fun h => (nomatch h), ev_var rfl (ev_var rfl ⟨fits40 (by omega), .un, .un, ?_⟩)⟩⟩)))))))))))
      have e2 : (bprL z d).take i ++ [(x, ((parL z d x).length : Int) + 1)] = (bprL z d).take (i + 1) := by
        rw [take_more ex]
        unfold bpr
        rw [if_pos h]
      rw [putZ_new (by unfold bprL; rw [List.map_take, atD_keys]; exact not_taken wz.p.no.nd hx), e2]
      rfl
    · have h : ¬ gD d x = 0 := of_decide_eq_false h
      refine ev_c (t := tInt) (fun _ _ => rfl) ⟨rfl, ?_⟩
      refine blk_dput kyS (pt_var (i := 2) rfl (by decide)) (ev_op ro_I0 (ev_cb rc_lenL (EvR.share (O := oL K tStr) (ev_call0 (ea_cons (ev_var rfl (ea_cons (ev_var rfl (ea_cons (ev_var rfl (ea_nil ⟨fun _ => rfl, allc trivial (allc trivial (all1 trivial)), z, d, x, rfl, ⟨wz, A, xm⟩, fun _ => ⟨fun h => (nomatch h), ev_var rfl (ev_var rfl ⟨fits40 (by omega), .un, .un, ?_⟩)⟩⟩)))))))))))
      have e2 : (bprL z d).take i ++ [(x, ((parL z d x).length : Int) + 0)] = (bprL z d).take (i + 1) := by
        rw [take_more ex]
        unfold bpr
        rw [if_neg h]
      rw [putZ_new (by unfold bprL; rw [List.map_take, atD_keys]; exact not_taken wz.p.no.nd hx), e2]
      rfl
  · rintro _ ⟨s3, s4, rfl⟩
    rw [List.take_of_length_le (by unfold bprL; rw [atD_len]; exact Nat.le_refl _)]
    exact blk_ret (ev_give (i := 2) rfl (fin0 [_, _] _ hp))
end
end KK
end

section
set_option maxRecDepth 100000
set_option maxHeartbeats 4000000
namespace KK
open PySem PySem.Spec PyProof.Rows L2 Y
/-! what keeps an answer from being the only best one; prices for it -/
theorem sides_of {z : WebZ} {r : Str} {d : List (Str × Int)} {l rr : List Str} (D : DistR z r d) (h : ∀ e ∈ z.us, hasK d e.1 = true → gD d e.1 ≠ gD d e.2)
    (pl : l.Perm ((d.map (·.1)).filter fun x => decide (gD d x % 2 = 0))) (pr : rr.Perm ((d.map (·.1)).filter fun x => decide (gD d x % 2 = 1))) (al : Own.AscS l) (ar : Own.AscS rr) : SidesD z l rr ∧ r ∈ l ∧ ∀ S : Str → Prop, S r → (∀ a b, S a → Adj z a b → S b) → ∀ x, x ∈ l ∨ x ∈ rr → S x := by
  obtain ⟨L, b⟩ := D.b
  have ml : ∀ x, x ∈ l ↔ x ∈ d.map (·.1) ∧ gD d x % 2 = 0 := fun x => by
    rw [pl.mem_iff, List.mem_filter, decide_eq_true_iff]
  have mr : ∀ x, x ∈ rr ↔ x ∈ d.map (·.1) ∧ gD d x % 2 = 1 := fun x => by
    rw [pr.mem_iff, List.mem_filter, decide_eq_true_iff]
  have key : ∀ {x n}, lookK d x = some n → x ∈ d.map (·.1) := fun {x n} q => List.mem_map.mpr ⟨_, look_key q, rfl⟩
  have nx : ∀ x y, x ∈ d.map (·.1) → Adj z x y → y ∈ d.map (·.1) ∧ gD d y % 2 ≠ gD d x % 2 := fun x y hx a => by
    obtain ⟨n, hn⟩ := key_look hx
    obtain ⟨m, hm, _⟩ := D.clo x n hn y a
    have st := D.step a hn hm
    have k1 : hasK d x = true := by show (lookK d x).isSome = true; rw [hn]; rfl
    have k2 : hasK d y = true := by show (lookK d y).isSome = true; rw [hm]; rfl
    have ne : n ≠ m := by
      have a2 : ordP (x, y) ∈ z.us := a
      rcases ordP_cases (x, y) with c | c
      · rw [c] at a2
        have this : gD d x ≠ gD d y := h _ a2 k1
        rwa [gD_of3 hn, gD_of3 hm] at this
      · rw [c] at a2
        have this : gD d y ≠ gD d x := h _ a2 k2
        rw [gD_of3 hn, gD_of3 hm] at this
        exact fun q => this q.symm
    refine ⟨key hm, ?_⟩
    rw [gD_of3 hn, gD_of3 hm]
    omega
  refine ⟨⟨⟨r, (b.sub r 0 b.rt).1, (ml r).mpr ⟨key b.rt, by rw [gD_of3 b.rt]; rfl⟩⟩, fun x hx => ?_, fun x h1 h2 => ?_, fun x y hx a => ?_, fun x y hx a => ?_, al, ar, pl.nodup_iff.mpr (b.nd.filter _), pr.nodup_iff.mpr (b.nd.filter _)⟩, (ml r).mpr ⟨key b.rt, by rw [gD_of3 b.rt]; rfl⟩, fun S s0 st x hx => ?_⟩
  · have hk : x ∈ d.map (·.1) := by
      rcases hx with hx | hx
      · exact ((ml x).mp hx).1
      · exact ((mr x).mp hx).1
    obtain ⟨n, hn⟩ := key_look hk
    exact (b.sub x n hn).1
  · have := ((ml x).mp h1).2
    have := ((mr x).mp h2).2
    omega
  · obtain ⟨hk, e⟩ := (ml x).mp hx
    obtain ⟨h1, h2⟩ := nx x y hk a
    exact (mr y).mpr ⟨h1, by omega⟩
  · obtain ⟨hk, e⟩ := (mr x).mp hx
    obtain ⟨h1, h2⟩ := nx x y hk a
    exact (ml y).mpr ⟨h1, by omega⟩
  · have hk : x ∈ d.map (·.1) := by
      rcases hx with hx | hx
      · exact ((ml x).mp hx).1
      · exact ((mr x).mp hx).1
    obtain ⟨n, hn⟩ := key_look hk
    have gen : ∀ (m : Nat) x, lookK d x = some (m : Int) → S x := fun m => by
      induction m using Nat.strongRecOn with
      | _ m ih =>
        intro x hx
        by_cases c : m = 0
        · subst c
          rw [b.zr x hx]
          exact s0
        · obtain ⟨u, m2, au, hu, lt⟩ := b.dn x _ hx (by omega)
          have m0 := (D.ms hu).2
          obtain ⟨m', rfl⟩ : ∃ m' : Nat, m2 = (m' : Int) := ⟨m2.toNat, by omega⟩
          exact st u x (ih m' (by omega) u hu) au.sym
    have n0 := (D.ms hn).2
    obtain ⟨n', rfl⟩ : ∃ n' : Nat, n = (n' : Int) := ⟨n.toNat, by omega⟩
    exact gen n' x hn
section
variable {P : Program} {w : World} {K : PySem.W.Frag} {mg : Str → Option Value} {base : Heap} {C CS CW CC : Addr}
abbrev NYtwosides : List Str := ["web", "distances", "left", "right", "place"]
theorem scYtwosides : FnScope NYtwosides ["web"] (defScope s_two_sides) := ⟨rfl, rfl, rfl, by decide +kernel, rfl, by decide +kernel, by decide +kernel⟩
theorem y_twosides (T : Blt mg) (F : Has K mg "_two_sides" s_two_sides) (YPARTSF : C8.Cal P w K mg base 5 "parts" (Y.spZ (yPartsF K CW)) []) (YLEVEL : C8.Cal P w K mg base 2 "level_tie" (Y.spZ (yLevel K CW)) []) : C8.Cal P w K mg base 6 "_two_sides" (Y.spZ (yTwoSides K CW)) [] := by
  refine calF F (fun f fd F => F.binds (ps := ["web"]) fun _ _ _ _ _ _ us hl => match us, hl with | [_], _ => rfl) scYtwosides (fun vs H Q E h => zlen (fun as P XP hc => by obtain ⟨_, rfl, _⟩ := hc; rfl) h) (fun f cdv A outer s H vs Q E hr h => ?_)
  have hu := hu_of hr
  refine ⟨_, (pss_cons (ps_for PassesOwn.never rfl (pi_list (C8.pe_c YPARTSF hr (by decide) rfl (pa_cons (pv 0) pa_nil))) (pg_name (i := 1) scYtwosides.nd rfl (Or.inr rfl))
        (pss_one (ps_if (pt_cmpR op_isN (C8.pe_c YLEVEL hr (by decide) rfl (pa_cons (pv 0) (pa_cons (pv 1) pa_nil))) pe_non (nomark _)) (pss_cons (ps_lock_either (ps_setLc (i := 2) (own := [("place", 4)]) (g := gName 4) rfl scYtwosides.nd rfl rfl (sw_true rfl rfl rfl (by decide +kernel)) (pi_keys (pv 1)) (blkOk_by (own := [("place", 4)]) (N := NYtwosides) (sc := defScope s_two_sides) (by decide +kernel)) (fun _ _ _ _ _ => (pg_name (i := 4) scYtwosides.nd rfl (Or.inl rfl))) (fun _ _ _ _ _ => pts_one (pt_cmpR op_eq (pe_op op_odd1 (pe_dget hu (pv 1) (pv 4) (fun _ _ => rfl)) pe_int) pe_int (nomark _))) (fun _ _ _ _ _ => (pv 4))))
      (pss_cons (ps_lock_either (ps_setLc (i := 3) (own := [("place", 4)]) (g := gName 4) rfl scYtwosides.nd rfl rfl (sw_true rfl rfl rfl (by decide +kernel)) (pi_keys (pv 1)) (blkOk_by (own := [("place", 4)]) (N := NYtwosides) (sc := defScope s_two_sides) (by decide +kernel)) (fun _ _ _ _ _ => (pg_name (i := 4) scYtwosides.nd rfl (Or.inl rfl))) (fun _ _ _ _ _ => pts_one (pt_cmpR op_eq (pe_op op_odd1 (pe_dget hu (pv 1) (pv 4) (fun _ _ => rfl)) pe_int) pe_int (nomark _))) (fun _ _ _ _ _ => (pv 4))))
      (pss_one (ps_ret (pe_tup (pa_cons pe_str (pa_cons (pe_callTy call_tuple_of (by rfl) T.b_tuple (by decide +kernel) (pa_cons (pe_callB Own.cr_sortS (by rfl) T.b_sorted (by decide +kernel) (pa_cons (pv 2) pa_nil)) pa_nil)) (pa_cons (pe_callTy call_tuple_of (by rfl) T.b_tuple (by decide +kernel) (pa_cons (pe_callB Own.cr_sortS (by rfl) T.b_sorted (by decide +kernel) (pa_cons (pv 3) pa_nil)) pa_nil)) pa_nil)))))))) pss_nil)))
      (pss_one (ps_ret pe_non))), zrun h ?_⟩
  rintro as P XP ⟨z, rfl, wz, hp⟩ hl
  obtain ⟨p0, rfl⟩ := len1 hl
  refine ⟨4, rfl, by decide, ?_⟩
  refine blk_seq (blk_for (vs := [1]) (ei_list (EvR.share (O := oL K (tDk kS tInt)) (ev_call0 (ea_cons (ev_var rfl (ea_nil ⟨fun _ => rfl, all1 trivial, z, rfl, wz, fun ds PR _ => ?_⟩)))))))
  refine ⟨(fun i G' => ∃ s1, (∀ d ∈ ds.take i, ∃ e n, e ∈ z.us ∧ lookK d e.1 = some n ∧ lookK d e.2 = some n) ∧ G' = ⟨true, [.sh (yWeb K CW) z, s1, .un, .un, .un], [some p0]⟩), ⟨_, fun d h => absurd h (by simp), rfl⟩, ?_, ?_⟩
  · rintro i d _ hd ⟨s1, hn, rfl⟩
    obtain ⟨r, n0, D, hr0, hb⟩ := PR.fs i d hd
    obtain ⟨L, b⟩ := D.b
    have dl := b.len
    have z40 := wz.p.no.hi
    have first : ∀ {l rr : List Str}, (∀ e ∈ z.us, hasK d e.1 = true → gD d e.1 ≠ gD d e.2) → l.Perm ((d.map (·.1)).filter fun x => decide (gD d x % 2 = 0)) → rr.Perm ((d.map (·.1)).filter fun x => decide (gD d x % 2 = 1)) → Own.AscS l → Own.AscS rr → TwoR z (some (.sd "sides" l rr)) := fun {l rr} h0 pl pr al ar => by
      obtain ⟨S, m, c⟩ := sides_of D h0 pl pr al ar
      refine .yes l rr S ⟨r, n0, hr0, m, fun x hx => ?_, c⟩
      rintro ⟨y, hy, ne⟩
      obtain ⟨d2, h1, h2⟩ := hb x hx
      obtain ⟨r2, D2⟩ := PR.one (List.mem_of_mem_take h1)
      exact ne (one_in D2 (hn d2 h1) wz hy h2)
    refine tg_name (by decide) (free_of rfl) (blk_wipe [1] (blk_if (et_b (ev_op (ro_isO nnPr) (ev_call0 (ea_cons (ev_var rfl (ea_cons (ev_var (t := tDk kS tInt) (x := d) rfl (ea_nil ⟨fun _ => rfl, allc trivial (all1 trivial), z, d, rfl, ⟨wz, r, D⟩, fun o ho _ => ev_c (t := tNon) (x := ()) (fun _ _ => rfl) ⟨fun h => ?_, fun h => ?_⟩⟩))))))))))
    · cases ho with
      | yes e n h1 h2 h3 => cases h
      | no h0 =>
        have step : ∀ (k : Int) (i : Nat) (x : Str) (ys : List Str), (d.map (·.1))[i]? = some x → ys = ((d.map (·.1)).take i).filter (fun x => decide (gD d x % 2 = k)) → (decide (gD d x % 2 = k) = true → ys ++ [x] = ((d.map (·.1)).take (i + 1)).filter fun x => decide (gD d x % 2 = k)) ∧ (decide (gD d x % 2 = k) = false → ys = ((d.map (·.1)).take (i + 1)).filter fun x => decide (gD d x % 2 = k)) := fun k i x ys hx e => by
          subst e
          rw [filter_snoc hx]
          exact ⟨fun q => by rw [if_pos q], fun q => by rw [if_neg (by rw [q]; decide), List.append_nil]⟩
        have lk : ∀ x, x ∈ d.map (·.1) → lookK d x = some (gD d x) ∧ 0 ≤ gD d x := fun x hx => by
          obtain ⟨n, hn⟩ := key_look hx
          have := (b.sub x n hn).2.1
          rw [gD_of3 hn]
          exact ⟨hn, this⟩
        refine blk_seq (blk_lockA (blk_set (t := tLs K tStr) (EvR.share (O := oL K tStr) (ev_lcD (K := K) (u := tStr) (vs := [4]) kyS (fun i ys => ys = ((d.map (·.1)).take i).filter fun x => decide (gD d x % 2 = 0)) (ap_var (i := 1) (t := tDk kS tInt) (x := d) rfl rfl) (fits40 (by omega)) ?_ rfl ?_ ?_))))
        · intro i hi
          rw [List.mem_singleton] at hi; subst hi; exact free_of rfl
        · intro i x ys hx e
          obtain ⟨s1, s2⟩ := step 0 i x ys hx e
          obtain ⟨k1, k2⟩ := lk x (List.mem_of_getElem? hx)
          exact tg_name (by decide) (free_of rfl) (et_b (ev_op ro_eqI (ev_op ro_odd (ev_dget kyS (ev_var (t := tDk kS tInt) (x := d) rfl (ev_var rfl ⟨_, k1, ev_c (t := tInt) (fun _ _ => rfl) ⟨⟨k2, rfl⟩, ev_c (t := tInt) (fun _ _ => rfl) ⟨fun h => ev_var rfl (s1 h), fun h => s2 h⟩⟩⟩))))))
        rintro lf rfl
        refine ⟨rfl, ?_⟩
        refine blk_seq (blk_lockA (blk_set (t := tLs K tStr) (EvR.share (O := oL K tStr) (ev_lcD (K := K) (u := tStr) (vs := [4]) kyS (fun i ys => ys = ((d.map (·.1)).take i).filter fun x => decide (gD d x % 2 = 1)) (ap_var (i := 1) (t := tDk kS tInt) (x := d) rfl rfl) (fits40 (by omega)) ?_ rfl ?_ ?_))))
        · intro i hi
          rw [List.mem_singleton] at hi; subst hi; exact free_of rfl
        · intro i x ys hx e
          obtain ⟨s1, s2⟩ := step 1 i x ys hx e
          obtain ⟨k1, k2⟩ := lk x (List.mem_of_getElem? hx)
          exact tg_name (by decide) (free_of rfl) (et_b (ev_op ro_eqI (ev_op ro_odd (ev_dget kyS (ev_var (t := tDk kS tInt) (x := d) rfl (ev_var rfl ⟨_, k1, ev_c (t := tInt) (fun _ _ => rfl) ⟨⟨k2, rfl⟩, ev_c (t := tInt) (fun _ _ => rfl) ⟨fun h => ev_var rfl (s1 h), fun h => s2 h⟩⟩⟩))))))
        rintro rt rfl
        refine ⟨rfl, ?_⟩
        have full : (d.map (·.1)).take d.length = d.map (·.1) := List.take_of_length_le (by rw [List.length_map]; exact Nat.le_refl _)
        rw [full]
        refine blk_ret (Ev.as (t := tT3 K tStr (tTu K tStr) (tTu K tStr)) (u := tOpt (tFlt K)) (fun x => some (.sd x.1 x.2.1 x.2.2)) (ev_t3 (ev_c (t := tStr) (fun _ _ => rfl) (ev_cb rc_tupL (EvR.share (O := oL K tStr) (ev_cb rc_sortS (ev_var (t := tLs K tStr) rfl ⟨fun h => (nomatch h), fun l pl al => ?_⟩)))))) (fun _ _ _ _ r => r))
        refine ⟨fun h => (nomatch h), ev_cb rc_tupL (EvR.share (O := oL K tStr) (ev_cb rc_sortS (ev_var (t := tLs K tStr) rfl ⟨fun h => (nomatch h), fun rr pr ar => ⟨fun h => (nomatch h), ?_⟩⟩)))⟩
        exact fin0 [_] _ (hp _ (first h0 pl pr al ar))
    · cases ho with
      | no h0 => cases h
      | yes e n h1 h2 h3 =>
        refine blk_next ⟨_, ?_, rfl⟩
        rw [take_more hd]
        intro d2 hd2
        rcases List.mem_append.mp hd2 with hd2 | hd2
        · exact hn d2 hd2
        · rw [List.mem_singleton] at hd2
          rw [hd2]
          exact ⟨e, n, h1, h2, h3⟩
  · rintro _ ⟨s1, hn, rfl⟩
    rw [List.take_length] at hn
    exact blk_ret (ev_c (t := tOpt (tFlt K)) (x := none) (fun _ _ => rfl) (fin0 [_] _ (hp none (.no (one_of PR hn wz)))))
abbrev NYfaultof : List Str := ["web", "x", "idle", "halves", "place"]
theorem scYfaultof : FnScope NYfaultof ["web", "x"] (defScope s_fault_of) := ⟨rfl, rfl, rfl, by decide +kernel, rfl, by decide +kernel, by decide +kernel⟩
theorem y_faultof (T : Blt mg) (F : Has K mg "fault_of" s_fault_of) (YNEEDANS : C8.Cal P w K mg base 5 "_need_answer" (Y.spZ (yNeedAns K CW)) []) (YIDLE : C8.Cal P w K mg base 5 "_idle" (Y.spZ (yIdle K CW)) []) (YPLACES : C8.Met P w K mg base 1 CW "places" (Y.spZ (ctPlaces K CW)) []) (YINSIDE : C8.Met P w K mg base 8 CW "inside" (Y.spZ (yInside K CW)) []) (YTWOSIDES : C8.Cal P w K mg base 6 "_two_sides" (Y.spZ (yTwoSides K CW)) []) : C8.Cal P w K mg base 9 "fault_of" (Y.spZ (yFaultOf K CW)) [] := by
  refine calF F (fun f fd F => F.binds (ps := ["web", "x"]) fun _ _ _ _ _ _ us hl => match us, hl with | [_, _], _ => rfl) scYfaultof (fun vs H Q E h => zlen (fun as P XP hc => by obtain ⟨_, _, rfl, _⟩ := hc; rfl) h) (fun f cdv A outer s H vs Q E hr h => ?_)
  have hu := hu_of hr
  refine ⟨_, (pss_cons (ps_expr (C8.pe_c YNEEDANS hr (by decide) rfl (pa_cons (pv 0) (pa_cons (pv 1) pa_nil))))
      (pss_cons (ps_set (i := 2) scYfaultof.nd rfl (Or.inl rfl) (C8.pe_c YIDLE hr (by decide) rfl (pa_cons (pv 0) (pa_cons (pv 1) pa_nil))))
      (pss_cons (ps_if (pt_truth (pv 2) (by intro _; rfl)) (pss_one (ps_ret (pe_tup (pa_cons pe_str (pa_cons (pe_ix ix_list (pv 2) pe_int (fun _ _ => rfl)) pa_nil))))) pss_nil)
      (pss_cons (ps_setLc (i := 3) (own := [("place", 4)]) (g := gName 4) rfl scYfaultof.nd rfl rfl (sw_true rfl rfl rfl (by decide +kernel)) (pi_list (C8.pe_mt0 YPLACES hr (by decide) (pv 0))) (blkOk_by (own := [("place", 4)]) (N := NYfaultof) (sc := defScope s_fault_of) (by decide +kernel)) (fun _ _ _ _ _ => (pg_name (i := 4) scYfaultof.nd rfl (Or.inl rfl))) (fun _ _ _ _ _ => pts_one (pt_cmpR op_eq (pe_dget hu (pv 1) (pv 4) (fun _ _ => rfl)) pe_int (nomark _))) (fun _ _ _ _ _ => (pv 4)))
      (pss_one (ps_ret (pe_ifExp (pt_truth (pv 3) (by intro _; rfl)) (C8.pe_c YTWOSIDES hr (by decide) rfl (pa_cons (C8.pe_mt YINSIDE hr (by decide) (pv 0) (pa_cons (pv 3) pa_nil)) pa_nil)) pe_non))))))), zrun h ?_⟩
  rintro as P XP ⟨z, d, rfl, ⟨wz, A⟩, hp⟩ hl
  obtain ⟨p0, p1, rfl⟩ := len2 hl
  refine ⟨3, rfl, by decide, ?_⟩
  have z40 := wz.p.no.hi
  refine blk_seq (blk_drop (ev_call0 (ea_cons (ev_var rfl (ea_cons (ev_var rfl (ea_nil ⟨fun _ => rfl, allc trivial (all1 trivial), z, d, rfl, ⟨wz, A⟩, fun _ => ?_⟩)))))))
  refine blk_seq (blk_setO (O := oL K tStr) (ev_call0 (ea_cons (ev_var rfl (ea_cons (ev_var rfl (ea_nil ⟨fun _ => rfl, allc trivial (all1 trivial), z, d, rfl, ⟨wz, A⟩, fun _ => ⟨rfl, blk_frz 2 rfl ?_⟩⟩)))))))
  refine blk_seq (blk_if (et_truth trL (ev_var (t := tLs K tStr) (x := idleL z d) rfl ⟨fun h => ?_, fun h => blk_next ?_⟩)))
  · cases e : idleL z d with
    | nil => rw [e] at h; cases h
    | cons k ks =>
      exact blk_ret (Ev.as (t := tPr K) (u := tOpt (tFlt K)) (fun x => some (.pl x.1 x.2)) (ev_t2 (ev_c (t := tStr) (fun _ _ => rfl) (ev_op ro_ixL (ev_var (t := tLs K tStr) (x := k :: ks) (by rw [← e]; rfl) (ev_c (t := tInt) (fun _ _ => rfl) ⟨k, at_ofN (j := 0) rfl rfl, fin0 [_, _] _ (hp _ (.idle k ks e))⟩))))) (fun _ _ _ _ r => r))
  have i0 : idleL z d = [] := by
    have : (idleL z d).isEmpty = true := by simpa using h
    exact List.isEmpty_iff.mp this
  refine blk_seq (blk_set (t := tLs K tStr) (EvR.share (O := oL K tStr) (ev_lc (K := K) (u := tStr) (vs := [4]) (ei_list (ev_meth0 (instYW (by decide)) (ev_var rfl (ea_nil ⟨fun _ => rfl, all1 trivial, z, rfl, fun _ => ?_⟩)))))))
  refine ⟨(fun i ys => ys = (z.ms.take i).filter fun x => decide (gD d x = 1)), fits40 (by omega), ?_, rfl, ?_, ?_⟩
  · intro i hi
    rw [List.mem_singleton] at hi; subst hi; exact free_of rfl
  · rintro i x ys hx rfl
    have xm := List.mem_of_getElem? hx
    refine tg_name (by decide) (free_of rfl) (et_b (ev_op ro_eqI (ev_dget kyS (ev_var (t := tDk kS tInt) (x := d) rfl (ev_var rfl ⟨_, (A.r x xm).1, ev_c (t := tInt) (fun _ _ => rfl) ⟨fun h1 => ev_var rfl ?_, fun h1 => ?_⟩⟩)))))
    · show _ = _
      rw [filter_snoc hx, if_pos h1]
    · show _ = _
      rw [filter_snoc hx, if_neg (by rw [show decide (gD d x = 1) = false from h1]; decide), List.append_nil]
  rintro ys rfl
  rw [List.take_length]
  refine ⟨rfl, ?_⟩
  refine blk_norm ⟨true, [.sh (yWeb K CW) z, .sh (tDk kS tInt) d, .sh (tLs K tStr) (idleL z d), .sh (tLs K tStr) (halfL z d), .un], [some p0, some p1]⟩ rfl ?_
  refine blk_ret (ev_if (et_truth trL (ev_var (t := tLs K tStr) (x := halfL z d) rfl ⟨fun h1 => ?_, fun h1 => ?_⟩)))
  · have hne : halfL z d ≠ [] := fun q => by rw [q] at h1; cases h1
    refine ev_call0 (ea_cons (ev_meth0 (instYW (by decide)) (ev_var rfl (ea_cons (ev_var (t := tLs K tStr) (x := halfL z d) rfl (ea_nil ⟨fun _ => rfl, allc trivial (all1 trivial), z, halfL z d, rfl, ⟨wz, hne, wz.p.no.nd.filter _, fun s hs => (List.mem_filter.mp hs).1⟩, fun r R _ => ?_⟩))))))
    exact ea_nil ⟨fun _ => rfl, all1 trivial, r, rfl, R.wf, fun o ho _ => fin0 [_, _] _ (hp o (.half r o i0 hne R ho))⟩
  · have he : halfL z d = [] := by
      have : (halfL z d).isEmpty = true := by simpa using h1
      exact List.isEmpty_iff.mp this
    exact ev_c (t := tOpt (tFlt K)) (x := none) (fun _ _ => rfl) (fin0 [_, _] _ (hp none (.whole i0 he)))
abbrev NYpricesfor : List Str := ["web", "x"]
theorem scYpricesfor : FnScope NYpricesfor ["web", "x"] (defScope s_prices_for) := ⟨rfl, rfl, rfl, by decide +kernel, rfl, by decide +kernel, by decide +kernel⟩
theorem y_pricesfor (T : Blt mg) (F : Has K mg "prices_for" s_prices_for) (YNEEDANS : C8.Cal P w K mg base 5 "_need_answer" (Y.spZ (yNeedAns K CW)) []) (YIDLE : C8.Cal P w K mg base 5 "_idle" (Y.spZ (yIdle K CW)) []) (YBPRICES : C8.Cal P w K mg base 5 "_prices" (Y.spZ (yBPrices K CW)) []) : C8.Cal P w K mg base 6 "prices_for" (Y.spZ (yPricesFor K CW)) [] := by
  refine calF F (fun f fd F => F.binds (ps := ["web", "x"]) fun _ _ _ _ _ _ us hl => match us, hl with | [_, _], _ => rfl) scYpricesfor (fun vs H Q E h => zlen (fun as P XP hc => by obtain ⟨_, _, rfl, _⟩ := hc; rfl) h) (fun f cdv A outer s H vs Q E hr h => ?_)
  have hu := hu_of hr
  refine ⟨_, (pss_cons (ps_expr (C8.pe_c YNEEDANS hr (by decide) rfl (pa_cons (pv 0) (pa_cons (pv 1) pa_nil))))
      (pss_cons (ps_if (pt_truthK (K := K) rfl (C8.pe_c YIDLE hr (by decide) rfl (pa_cons (pv 0) (pa_cons (pv 1) pa_nil))) (by intro _; rfl)) (pss_one (ps_ret pe_non)) pss_nil)
      (pss_one (ps_ret (C8.pe_c YBPRICES hr (by decide) rfl (pa_cons (pv 0) (pa_cons (pv 1) pa_nil))))))), zrun h ?_⟩
  rintro as P XP ⟨z, d, rfl, ⟨wz, A⟩, hp⟩ hl
  obtain ⟨p0, p1, rfl⟩ := len2 hl
  refine ⟨0, rfl, by decide, ?_⟩
  refine blk_seq (blk_drop (ev_call0 (ea_cons (ev_var rfl (ea_cons (ev_var rfl (ea_nil ⟨fun _ => rfl, allc trivial (all1 trivial), z, d, rfl, ⟨wz, A⟩, fun _ => ?_⟩)))))))
  refine blk_seq (blk_if (et_truth trL (EvR.share (O := oL K tStr) (ev_call0 (ea_cons (ev_var rfl (ea_cons (ev_var rfl (ea_nil ⟨fun _ => rfl, allc trivial (all1 trivial), z, d, rfl, ⟨wz, A⟩, fun _ => ⟨fun h => ?_, fun h => blk_next ?_⟩⟩)))))))))
  · have h : (idleL z d).isEmpty = false := by simpa using h
    rw [h] at hp
    exact blk_ret (ev_nonO (O := oD kS tInt) (fin0 [_, _] _ hp))
  · have h : (idleL z d).isEmpty = true := by simpa using h
    rw [h] at hp
    exact blk_ret (ev_someO (O := oD kS tInt) (ev_call0 (ea_cons (ev_var rfl (ea_cons (ev_var rfl (ea_nil ⟨fun _ => rfl, allc trivial (all1 trivial), z, d, rfl, ⟨wz, A⟩, fun _ => fin0 [_, _] _ hp⟩)))))))
abbrev NYonlyfor : List Str := ["web", "x"]
end
end KK
end

section
set_option maxRecDepth 100000
set_option maxHeartbeats 4000000
namespace KK
open PySem PySem.Spec PyProof.Rows L2 Y
/-! what is no answer -/
def justA : Option (List (Key × V)) → List Str → Bool
  | none, _ => false
  | some d, ns => decide ((d.length : Int) = ns.length) && ns.all fun x => hasK d (Sum.inr x)
def NotAns (ns : List Str) (o : Option (List (Key × V))) : Prop := justA o ns = false ∨ ∃ d x v, o = some d ∧ x ∈ ns ∧ lookK d (Sum.inr x : Key) = some v ∧ inLH v 0 2 = false
abbrev yJustV (K : PySem.W.Frag) : Y.CT Bool := ⟨true, .sh tBl, fun as P _ => ∃ o ns, as = [.sh (tAD K) o, .sh (tLs K tStr) ns] ∧ ns.length ≤ 1000 ∧ ∀ os, P os (justA o ns)⟩
abbrev yValsN (K : PySem.W.Frag) : Y.CT Bool := ⟨true, .sh tBl, fun as P _ => ∃ o ns, as = [.sh (tAD K) o, .sh (tLs K tStr) ns] ∧ (ns.length ≤ 1000 ∧ NotAns ns o) ∧ ∀ os, P os false⟩
abbrev yIsAnsN (K : PySem.W.Frag) (CW : Addr) : Y.CT Bool := ⟨true, .sh tBl, fun as P _ => ∃ z o, as = [.sh (yWeb K CW) z, .sh (tAD K) o] ∧ (WfZ z ∧ NotAns z.ms o) ∧ ∀ os, P os false⟩
/-- raises NoAnswer -/
abbrev yNaX {ρ : Type} (r : Y.Rt ρ) (K : PySem.W.Frag) (CW CA : Addr) : Y.CT ρ := ⟨true, r, fun as _ XP => ∃ z o, as = [.sh (yWeb K CW) z, .sh (tAD K) o] ∧ (WfZ z ∧ NotAns z.ms o) ∧ ∀ os, XP os ⟨CA, none⟩⟩
abbrev yRefN (K : PySem.W.Frag) (CW : Addr) : Y.CT Bool := ⟨true, .sh tBl, fun as P _ => ∃ z o, as = [.sh (yWeb K CW) z, .sh (tAD K) o] ∧ (WfZ z ∧ NotAns z.ms o) ∧ ∀ os, P os true⟩
section
variable {P : Program} {w : World} {K : PySem.W.Frag} {mg : Str → Option Value} {base : Heap} {C CS CW CC CA : Addr}
theorem y_justV (T : Blt mg) (F : Has K mg "has_just" s_has_just) : C8.Cal P w K mg base 1 "has_just" (Y.spZ (yJustV K)) [] := by
  refine calF F (fun f fd F => F.binds (ps := ["value", "keys"]) fun _ _ _ _ _ _ us hl => match us, hl with | [_, _], _ => rfl) scYhasjust (fun vs H Q E h => zlen (fun as P XP hc => by obtain ⟨_, _, rfl, _⟩ := hc; rfl) h) (fun f cdv A outer s H vs Q E hr h => ?_)
  have hu := hu_of hr
  refine ⟨_, (pss_one (ps_ret (pe_and (pe_callB call_isi (by rfl) T.b_isinstance (by decide +kernel) (pa_cons (pv 0) (pa_cons (pe_bltn (v := .ty "dict") (by rfl) T.b_dict (by decide +kernel) rfl) pa_nil))) (pe_and (pe_cmpR op_eq (pe_callB call_lenD (by rfl) T.b_len PySem.boot_len (pa_cons (pv 0) pa_nil)) (pe_callB call_len (by rfl) T.b_len PySem.boot_len (pa_cons (pv 1) pa_nil)) (nomark _)) (pe_one (pe_callB (cr_all rfl) (by rfl) T.b_all (by decide +kernel) (pa_cons (pe_lc (own := [("key", 2)]) (g := gName 2) (tt := tYes) rfl scYhasjust.nd (pi_list (pv 1)) (blkOk_by (own := [("key", 2)]) (N := NYhasjust) (sc := defScope s_has_just) (by decide +kernel)) (fun _ _ _ _ _ => (pg_name (i := 2) scYhasjust.nd rfl (Or.inl rfl))) (fun _ _ _ _ _ => pts_nil) (fun _ _ _ _ _ => (pe_cmp (pc_din hu (pv 2) (pv 0)) rfl))) pa_nil))))))), zrun h ?_⟩
  rintro as P XP ⟨o, ns, rfl, h1000, hp⟩ hl
  obtain ⟨p0, p1, rfl⟩ := len2 hl
  refine ⟨1, rfl, by decide, ?_⟩
  refine blk_ret (ev_and (ev_isAD (ev_var (t := tAD K) (x := o) rfl ⟨fun h => ?_, fun h => ?_⟩)))
  rotate_left
  · cases o with
    | some d => cases h
    | none => exact fin0 [_, _] _ hp
  cases o with
  | none => cases h
  | some d =>
  refine ev_and (ev_op ro_eqI (ev_cb rc_lenD (ev_varAD (d := d) rfl ⟨fun _ => rfl, ev_cb rc_lenL (ev_var rfl ⟨fun h => (nomatch h), fun h1 => ?_, fun h1 => ?_⟩)⟩)))
  · refine ev_cb rc_all (EvR.share (O := oL K tBl) (ev_lc (K := K) (vs := [2]) (ei_list (ev_var rfl ⟨(fun i ys => ys = (ns.take i).map fun x => hasK d (Sum.inr x)), fits40 h1000, ?_, rfl, ?_, ?_⟩))))
    · intro i hi
      rw [List.mem_singleton] at hi; subst hi; exact free_of rfl
    · rintro i x ys hx rfl
      refine tg_name (by decide) (free_of rfl) (et_yes ⟨fun _ => ev_din kyK (ev_Ks (ev_var rfl (ev_varAD (d := d) rfl ?_))), fun h => (nomatch h)⟩)
      show (ns.take i).map _ ++ [hasK d (Sum.inr x)] = (ns.take (i + 1)).map _
      rw [List.take_succ, hx, List.map_append]
      rfl
    · rintro ys rfl
      refine ⟨fun h => (nomatch h), ?_⟩
      refine fin0 [_, _] _ fun os => ?_
      have := hp os
      have h1 : decide ((d.length : Int) = ns.length) = true := h1
      have this : P os (decide ((d.length : Int) = ns.length) && ns.all fun x => hasK d (Sum.inr x)) := this
      rw [h1, Bool.true_and] at this
      rw [List.take_of_length_le (Nat.le_refl _), List.all_map]
      exact this
  · refine fin0 [_, _] _ fun os => ?_
    have := hp os
    have h1 : decide ((d.length : Int) = ns.length) = false := h1
    have this : P os (decide ((d.length : Int) = ns.length) && ns.all fun x => hasK d (Sum.inr x)) := this
    rw [h1, Bool.false_and] at this
    exact this
theorem y_valsN (T : Blt mg) (F : Has K mg "has_values" s_has_values) (YJUST : C8.Cal P w K mg base 1 "has_just" (Y.spZ (yJustV K)) []) (YBET : C8.Cal P w K mg base 2 "is_between" (Y.spZ (yBetV K)) []) : C8.Cal P w K mg base 3 "has_values" (Y.spZ (yValsN K)) [] := by
  refine calF F (fun f fd F => F.binds (ps := ["value", "names"]) fun _ _ _ _ _ _ us hl => match us, hl with | [_, _], _ => rfl) scYhasvalues (fun vs H Q E h => zlen (fun as P XP hc => by obtain ⟨_, _, rfl, _⟩ := hc; rfl) h) (fun f cdv A outer s H vs Q E hr h => ?_)
  have hu := hu_of hr
  refine ⟨_, (pss_one (ps_ret (pe_and (C8.pe_c YJUST hr (by decide) rfl (pa_cons (pv 0) (pa_cons (pv 1) pa_nil))) (pe_one (pe_callB (cr_all rfl) (by rfl) T.b_all (by decide +kernel) (pa_cons (pe_lc (own := [("name", 2)]) (g := gName 2) (tt := tYes) rfl scYhasvalues.nd (pi_list (pv 1)) (blkOk_by (own := [("name", 2)]) (N := NYhasvalues) (sc := defScope s_has_values) (by decide +kernel)) (fun _ _ _ _ _ => (pg_name (i := 2) scYhasvalues.nd rfl (Or.inl rfl))) (fun _ _ _ _ _ => pts_nil) (fun _ _ _ _ _ => (C8.pe_c YBET hr (by decide) rfl (pa_cons (pe_dget hu (pv 0) (pv 2) (fun _ _ => rfl)) (pa_cons pe_int (pa_cons pe_int pa_nil)))))) pa_nil)))))), zrun h ?_⟩
  rintro as P XP ⟨o, ns, rfl, ⟨h1000, hn⟩, hp⟩ hl
  obtain ⟨p0, p1, rfl⟩ := len2 hl
  refine ⟨1, rfl, by decide, ?_⟩
  refine blk_ret (ev_and (ev_call0 (ea_cons (ev_var rfl (ea_cons (ev_var rfl (ea_nil ⟨fun _ => rfl, allc trivial (all1 trivial), o, ns, rfl, h1000, fun _ => ⟨fun h => ?_, fun h => fin0 [_, _] _ hp⟩⟩)))))))
  obtain ⟨d, x0, v0, rfl, hx0, l0, b0⟩ : ∃ d x v, o = some d ∧ x ∈ ns ∧ lookK d (Sum.inr x : Key) = some v ∧ inLH v 0 2 = false := by
    rcases hn with h2 | h2
    · rw [h2] at h; cases h
    · exact h2
  have h : (decide ((d.length : Int) = ns.length) && ns.all fun x => hasK d (Sum.inr x)) = true := h
  rw [Bool.and_eq_true, List.all_eq_true] at h
  let g : Str → Bool := fun x => inLH ((lookK d (Sum.inr x : Key)).getD .non) 0 2
  refine ev_cb rc_all (EvR.share (O := oL K tBl) (ev_lc (K := K) (vs := [2]) (ei_list (ev_var rfl ⟨(fun i ys => ys = (ns.take i).map g), fits40 h1000, ?_, rfl, ?_, ?_⟩))))
  · intro i hi
    rw [List.mem_singleton] at hi; subst hi; exact free_of rfl
  · rintro i x ys hx rfl
    obtain ⟨v, lv⟩ : ∃ v, lookK d (Sum.inr x : Key) = some v := Option.isSome_iff_exists.mp (h.2 x (List.mem_of_getElem? hx))
    refine tg_name (by decide) (free_of rfl) (et_yes ⟨fun _ => ev_call0 (ea_cons (ev_dget kyK (ev_varAD (d := d) rfl (ev_Ks (ev_var rfl ⟨_, lv, ea_cons (ev_c (t := tInt) (fun _ _ => rfl) (ea_cons (ev_c (t := tInt) (fun _ _ => rfl) (ea_nil ⟨fun h => (nomatch h), allc trivial (allc trivial (all1 trivial)), _, _, _, rfl, fun _ => ?_⟩))))⟩))))), fun h => (nomatch h)⟩)
    have e : g x = inLH v 0 2 := by
      show inLH ((lookK d (Sum.inr x : Key)).getD .non) 0 2 = _
      rw [lv]
      rfl
    show (ns.take i).map g ++ [inLH v 0 2] = (ns.take (i + 1)).map g
    rw [List.take_succ, hx, List.map_append, ← e]
    rfl
  · rintro ys rfl
    refine ⟨fun h => (nomatch h), ?_⟩
    have : ((ns.take ns.length).map g).all id = false := by
      rw [List.take_length, Bool.eq_false_iff]
      intro ha
      have := List.all_eq_true.mp ha (g x0) (List.mem_map_of_mem hx0)
      have e : g x0 = inLH v0 0 2 := by
        show inLH ((lookK d (Sum.inr x0 : Key)).getD .non) 0 2 = _
        rw [l0]
        rfl
      have this : g x0 = true := this
      rw [e, b0] at this
      cases this
    rw [this]
    exact fin0 [_, _] _ hp
theorem y_isansN (T : Blt mg) (F : Has K mg "is_answer" s_is_answer) (YVALS : C8.Cal P w K mg base 3 "has_values" (Y.spZ (yValsN K)) []) (YPLACES : C8.Met P w K mg base 1 CW "places" (Y.spZ (ctPlaces K CW)) []) (YTIES : C8.Met P w K mg base 1 CW "ties" (Y.spZ (ctTies K CW)) []) : C8.Cal P w K mg base 4 "is_answer" (Y.spZ (yIsAnsN K CW)) [] := by
  refine calF F (fun f fd F => F.binds (ps := ["web", "x"]) fun _ _ _ _ _ _ us hl => match us, hl with | [_, _], _ => rfl) scYisanswer (fun vs H Q E h => zlen (fun as P XP hc => by obtain ⟨_, _, rfl, _⟩ := hc; rfl) h) (fun f cdv A outer s H vs Q E hr h => ?_)
  have hu := hu_of hr
  refine ⟨_, (pss_one (ps_ret (pe_and (C8.pe_c YVALS hr (by decide) rfl (pa_cons (pv 1) (pa_cons (C8.pe_mt0 YPLACES hr (by decide) (pv 0)) pa_nil))) (pe_one (pe_callB (cr_all rfl) (by rfl) T.b_all (by decide +kernel) (pa_cons (pe_lc (own := [("a", 2), ("b", 3)]) (g := gTup K 2 (gCons (gName 2) (gCons (gName 3) gNil))) (tt := tYes) rfl scYisanswer.nd (pi_list (C8.pe_mt0 YTIES hr (by decide) (pv 0))) (blkOk_by (own := [("a", 2), ("b", 3)]) (N := NYisanswer) (sc := defScope s_is_answer) (by decide +kernel)) (fun _ _ _ _ _ => (pg_tup rfl (pgs_cons (pg_name (i := 2) scYisanswer.nd rfl (Or.inl rfl)) (pgs_cons (pg_name (i := 3) scYisanswer.nd rfl (Or.inl rfl)) pgs_nil)))) (fun _ _ _ _ _ => pts_nil) (fun _ _ _ _ _ => (pe_cmpR op_ge (pe_op op_add (pe_dget hu (pv 1) (pv 2) (fun _ _ => rfl)) (pe_dget hu (pv 1) (pv 3) (fun _ _ => rfl))) pe_int (nomark _)))) pa_nil)))))), zrun h ?_⟩
  rintro as P XP ⟨z, o, rfl, ⟨wf, hn⟩, hp⟩ hl
  obtain ⟨p0, p1, rfl⟩ := len2 hl
  refine ⟨2, rfl, by decide, ?_⟩
  have h40 := wf.p.no.hi
  exact blk_ret (ev_and (ev_call0 (ea_cons (ev_var rfl (ea_cons (ev_meth0 (instYW (by decide)) (ev_var rfl (ea_nil ⟨fun _ => rfl, all1 trivial, z, rfl, fun _ => ea_nil ⟨fun _ => rfl, allc trivial (all1 trivial), o, z.ms, rfl, ⟨by omega, hn⟩, fun _ => ⟨fun h => (nomatch h), fun _ => fin0 [_, _] _ hp⟩⟩⟩))))))))
abbrev NYneedanswerN : List Str := ["web", "x"]
theorem scYneedanswerN : FnScope NYneedanswerN ["web", "x"] (defScope s_need_answer) := ⟨rfl, rfl, rfl, by decide +kernel, rfl, by decide +kernel, by decide +kernel⟩
theorem y_needN (T : Blt mg) (F : Has K mg "_need_answer" s_need_answer) (YISANS : C8.Cal P w K mg base 4 "is_answer" (Y.spZ (yIsAnsN K CW)) []) (ENoAnswer : ErrN K mg "NoAnswer" CA) : Own.CalX P w K mg base 5 "_need_answer" (Y.spZ (yNaX (.sh tNon) K CW CA)) := by
  refine fnY F (fun f fd F => F.binds (ps := ["web", "x"]) fun _ _ _ _ _ _ us hl => match us, hl with | [_, _], _ => rfl) scYneedanswerN (fun vs H Q E h => zlen (fun as P XP hc => by obtain ⟨_, _, rfl, _⟩ := hc; rfl) h) (fun f cdv A outer s H vs Q E hr h => ?_)
  have hu := hu_of hr
  refine ⟨_, (pss_one (ps_if (pt_not (pt_val (C8.pe_c YISANS hr (by decide) rfl (pa_cons (pv 0) (pa_cons (pv 1) pa_nil))))) (pss_one (Own.ps_raise0 rfl ENoAnswer.q ENoAnswer.gC ENoAnswer.kC ENoAnswer.exC ENoAnswer.tyC (takes_of rfl rfl rfl rfl))) pss_nil)), zrun h ?_⟩
  rintro as P XP ⟨z, o, rfl, ⟨wf, hn⟩, hp⟩ hl
  obtain ⟨p0, p1, rfl⟩ := len2 hl
  refine ⟨0, rfl, by decide, ?_⟩
  refine blk_if (et_not (et_b (ev_call0 (ea_cons (ev_var rfl (ea_cons (ev_var rfl (ea_nil ⟨fun _ => rfl, allc trivial (all1 trivial), z, o, rfl, ⟨wf, hn⟩, fun _ => ⟨fun _ => ?_, fun h => (nomatch h)⟩⟩))))))))
  exact blk_raise0 (fin0 [_, _] _ hp)
abbrev NYpricesforN : List Str := ["web", "x"]
theorem scYpricesforN : FnScope NYpricesforN ["web", "x"] (defScope s_prices_for) := ⟨rfl, rfl, rfl, by decide +kernel, rfl, by decide +kernel, by decide +kernel⟩
theorem y_pricesN (T : Blt mg) (F : Has K mg "prices_for" s_prices_for) (YNEEDN : Own.CalX P w K mg base 5 "_need_answer" (Y.spZ (yNaX (.sh tNon) K CW CA))) (YIDLE : C8.Cal P w K mg base 5 "_idle" (Y.spZ (yIdle K CW)) []) (YBPRICES : C8.Cal P w K mg base 5 "_prices" (Y.spZ (yBPrices K CW)) []) : Own.CalX P w K mg base 6 "prices_for" (Y.spZ (yNaX (.sh (tOpt (tDk kS tInt))) K CW CA)) := by
  refine fnY F (fun f fd F => F.binds (ps := ["web", "x"]) fun _ _ _ _ _ _ us hl => match us, hl with | [_, _], _ => rfl) scYpricesforN (fun vs H Q E h => zlen (fun as P XP hc => by obtain ⟨_, _, rfl, _⟩ := hc; rfl) h) (fun f cdv A outer s H vs Q E hr h => ?_)
  have hu := hu_of hr
  refine ⟨_, (pss_cons (ps_expr (Own.pe_cxS YNEEDN hr (by decide) (takes_of rfl rfl rfl rfl) rfl (pa_cons (pv 0) (pa_cons (pv 1) pa_nil))))
      (pss_cons (ps_if (pt_truthK (K := K) rfl (C8.pe_c YIDLE hr (by decide) rfl (pa_cons (pv 0) (pa_cons (pv 1) pa_nil))) (by intro _; rfl)) (pss_one (ps_ret pe_non)) pss_nil)
      (pss_one (ps_ret (C8.pe_c YBPRICES hr (by decide) rfl (pa_cons (pv 0) (pa_cons (pv 1) pa_nil))))))), zrun h ?_⟩
  rintro as P XP ⟨z, o, rfl, ⟨wf, hn⟩, hp⟩ hl
  obtain ⟨p0, p1, rfl⟩ := len2 hl
  refine ⟨0, rfl, by decide, ?_⟩
  exact blk_seq (blk_drop (r := .sh tNon) (ev_void (ev_call (ea_cons (ev_var rfl (ea_cons (ev_var rfl (ea_nil ⟨fun _ => rfl, allc trivial (all1 trivial), fun _ _ => False, _, ⟨z, o, rfl, ⟨wf, hn⟩, fun _ => fin0 [_, _] _ hp⟩, fun _ _ h => h, fun _ _ h => h⟩))))))))
abbrev NYfaultofN : List Str := ["web", "x", "idle", "halves", "place"]
theorem scYfaultofN : FnScope NYfaultofN ["web", "x"] (defScope s_fault_of) := ⟨rfl, rfl, rfl, by decide +kernel, rfl, by decide +kernel, by decide +kernel⟩
theorem y_faultN (T : Blt mg) (F : Has K mg "fault_of" s_fault_of) (YNEEDN : Own.CalX P w K mg base 5 "_need_answer" (Y.spZ (yNaX (.sh tNon) K CW CA))) (YIDLE : C8.Cal P w K mg base 5 "_idle" (Y.spZ (yIdle K CW)) []) (YPLACES : C8.Met P w K mg base 1 CW "places" (Y.spZ (ctPlaces K CW)) []) (YINSIDE : C8.Met P w K mg base 8 CW "inside" (Y.spZ (yInside K CW)) []) (YTWOSIDES : C8.Cal P w K mg base 6 "_two_sides" (Y.spZ (yTwoSides K CW)) []) :
    Own.CalX P w K mg base 9 "fault_of" (Y.spZ (yNaX (.sh (tOpt (tFlt K))) K CW CA)) := by
  refine fnY F (fun f fd F => F.binds (ps := ["web", "x"]) fun _ _ _ _ _ _ us hl => match us, hl with | [_, _], _ => rfl) scYfaultofN (fun vs H Q E h => zlen (fun as P XP hc => by obtain ⟨_, _, rfl, _⟩ := hc; rfl) h) (fun f cdv A outer s H vs Q E hr h => ?_)
  have hu := hu_of hr
  refine ⟨_, (pss_cons (ps_expr (Own.pe_cxS YNEEDN hr (by decide) (takes_of rfl rfl rfl rfl) rfl (pa_cons (pv 0) (pa_cons (pv 1) pa_nil))))
      (pss_cons (ps_set (i := 2) scYfaultofN.nd rfl (Or.inl rfl) (C8.pe_c YIDLE hr (by decide) rfl (pa_cons (pv 0) (pa_cons (pv 1) pa_nil))))
      (pss_cons (ps_if (pt_truth (pv 2) (by intro _; rfl)) (pss_one (ps_ret (pe_tup (pa_cons pe_str (pa_cons (pe_ix ix_list (pv 2) pe_int (fun _ _ => rfl)) pa_nil))))) pss_nil)
      (pss_cons (ps_setLc (i := 3) (own := [("place", 4)]) (g := gName 4) rfl scYfaultofN.nd rfl rfl (sw_true rfl rfl rfl (by decide +kernel)) (pi_list (C8.pe_mt0 YPLACES hr (by decide) (pv 0))) (blkOk_by (own := [("place", 4)]) (N := NYfaultofN) (sc := defScope s_fault_of) (by decide +kernel)) (fun _ _ _ _ _ => (pg_name (i := 4) scYfaultofN.nd rfl (Or.inl rfl))) (fun _ _ _ _ _ => pts_one (pt_cmpR op_eq (pe_dget hu (pv 1) (pv 4) (fun _ _ => rfl)) pe_int (nomark _))) (fun _ _ _ _ _ => (pv 4)))
      (pss_one (ps_ret (pe_ifExp (pt_truth (pv 3) (by intro _; rfl)) (C8.pe_c YTWOSIDES hr (by decide) rfl (pa_cons (C8.pe_mt YINSIDE hr (by decide) (pv 0) (pa_cons (pv 3) pa_nil)) pa_nil)) pe_non))))))), zrun h ?_⟩
  rintro as P XP ⟨z, o, rfl, ⟨wf, hn⟩, hp⟩ hl
  obtain ⟨p0, p1, rfl⟩ := len2 hl
  refine ⟨3, rfl, by decide, ?_⟩
  exact blk_seq (blk_drop (r := .sh tNon) (ev_void (ev_call (ea_cons (ev_var rfl (ea_cons (ev_var rfl (ea_nil ⟨fun _ => rfl, allc trivial (all1 trivial), fun _ _ => False, _, ⟨z, o, rfl, ⟨wf, hn⟩, fun _ => fin0 [_, _] _ hp⟩, fun _ _ h => h, fun _ _ h => h⟩))))))))
abbrev NYonlyforN : List Str := ["web", "x"]
theorem scYonlyforN : FnScope NYonlyforN ["web", "x"] (defScope s_only_for) := ⟨rfl, rfl, rfl, by decide +kernel, rfl, by decide +kernel, by decide +kernel⟩
theorem y_onlyN (T : Blt mg) (F : Has K mg "only_for" s_only_for) (YFAULTN : Own.CalX P w K mg base 9 "fault_of" (Y.spZ (yNaX (.sh (tOpt (tFlt K))) K CW CA))) (YBPRICES : C8.Cal P w K mg base 5 "_prices" (Y.spZ (yBPrices K CW)) []) : Own.CalX P w K mg base 10 "only_for" (Y.spZ (yNaX (.sh (tOpt (tDk kS tInt))) K CW CA)) := by
  refine fnY F (fun f fd F => F.binds (ps := ["web", "x"]) fun _ _ _ _ _ _ us hl => match us, hl with | [_, _], _ => rfl) scYonlyforN (fun vs H Q E h => zlen (fun as P XP hc => by obtain ⟨_, _, rfl, _⟩ := hc; rfl) h) (fun f cdv A outer s H vs Q E hr h => ?_)
  have hu := hu_of hr
  refine ⟨_, (pss_cons (ps_if (pt_cmpR op_notN (Own.pe_cxS YFAULTN hr (by decide) (takes_of rfl rfl rfl rfl) rfl (pa_cons (pv 0) (pa_cons (pv 1) pa_nil))) pe_non (nomark _)) (pss_one (ps_ret pe_non)) pss_nil)
      (pss_one (ps_ret (C8.pe_c YBPRICES hr (by decide) rfl (pa_cons (pv 0) (pa_cons (pv 1) pa_nil)))))), zrun h ?_⟩
  rintro as P XP ⟨z, o, rfl, ⟨wf, hn⟩, hp⟩ hl
  obtain ⟨p0, p1, rfl⟩ := len2 hl
  refine ⟨0, rfl, by decide, ?_⟩
  exact blk_seq (blk_if (et_b (ev_op (ro_notO (nnF (K := K))) (ev_void (ev_call (ea_cons (ev_var rfl (ea_cons (ev_var rfl (ea_nil ⟨fun _ => rfl, allc trivial (all1 trivial), fun _ _ => False, _, ⟨z, o, rfl, ⟨wf, hn⟩, fun _ => fin0 [_, _] _ hp⟩, fun _ _ h => h, fun _ _ h => h⟩))))))))))
abbrev NYLrefused44 : List Str := ["_law_web_here", "_law_x", "_law_found"]
theorem scYLrefused44 : FnScope NYLrefused44 ["_law_web_here", "_law_x"] (defScope s_law_refused) := ⟨rfl, rfl, rfl, by decide +kernel, rfl, by decide +kernel, by decide +kernel⟩
theorem y_refN (T : Blt mg) (F : Has K mg "_law_refused" s_law_refused) (ENoAnswer : ErrN K mg "NoAnswer" CA) (H1 : PySem.W.exmOne K (.ref CA) (.ref CA) = some true) (YPRICESN : Own.CalX P w K mg base 6 "prices_for" (Y.spZ (yNaX (.sh (tOpt (tDk kS tInt))) K CW CA))) (YONLYN : Own.CalX P w K mg base 10 "only_for" (Y.spZ (yNaX (.sh (tOpt (tDk kS tInt))) K CW CA)))
    (YFAULTN : Own.CalX P w K mg base 9 "fault_of" (Y.spZ (yNaX (.sh (tOpt (tFlt K))) K CW CA))) : C8.Cal P w K mg base 11 "_law_refused" (Y.spZ (yRefN K CW)) [] := by
  refine calF F (fun f fd F => F.binds (ps := ["_law_web_here", "_law_x"]) fun _ _ _ _ _ _ us hl => match us, hl with | [_, _], _ => rfl) scYLrefused44 (fun vs H Q E h => zlen (fun as P XP hc => by obtain ⟨_, _, rfl, _⟩ := hc; rfl) h) (fun f cdv A outer s H vs Q E hr h => ?_)
  have hu := hu_of hr
  refine ⟨_, (pss_cons (ps_set (i := 2) scYLrefused44.nd rfl (Or.inl rfl) pe_int)
      (pss_cons (Own.ps_try_ap (Wo := fun _ _ _ _ => False) rfl rfl scYLrefused44.nd takes0 (fun W pn xe tk _ => (pss_one (ps_expr (Own.pe_cxS YPRICESN hr (by decide) tk rfl (pa_cons (pv 0) (pa_cons (pv 1) pa_nil))))))
        (.bare ⟨rfl, by decide, Or.inl ENoAnswer.gC⟩ (fun a oe cls d pn hz hf => (pss_one (ps_set (i := 2) scYLrefused44.nd rfl (Or.inl rfl) (pe_op op_add (pv 2) pe_int))))
        .nil))
      (pss_cons (Own.ps_try_ap (Wo := fun _ _ _ _ => False) rfl rfl scYLrefused44.nd takes0 (fun W pn xe tk _ => (pss_one (ps_expr (Own.pe_cxS YONLYN hr (by decide) tk rfl (pa_cons (pv 0) (pa_cons (pv 1) pa_nil))))))
        (.bare ⟨rfl, by decide, Or.inl ENoAnswer.gC⟩ (fun a oe cls d pn hz hf => (pss_one (ps_set (i := 2) scYLrefused44.nd rfl (Or.inl rfl) (pe_op op_add (pv 2) pe_int))))
        .nil))
      (pss_cons (Own.ps_try_ap (Wo := fun _ _ _ _ => False) rfl rfl scYLrefused44.nd takes0 (fun W pn xe tk _ => (pss_one (ps_expr (Own.pe_cxS YFAULTN hr (by decide) tk rfl (pa_cons (pv 0) (pa_cons (pv 1) pa_nil))))))
        (.bare ⟨rfl, by decide, Or.inl ENoAnswer.gC⟩ (fun a oe cls d pn hz hf => (pss_one (ps_set (i := 2) scYLrefused44.nd rfl (Or.inl rfl) (pe_op op_add (pv 2) pe_int))))
        .nil))
      (pss_one (ps_ret (pe_cmpR op_eq (pv 2) pe_int (nomark _)))))))), zrun h ?_⟩
  rintro as P XP ⟨z, o, rfl, ⟨wf, hn⟩, hp⟩ hl
  obtain ⟨p0, p1, rfl⟩ := len2 hl
  refine ⟨1, rfl, by decide, ?_⟩
  refine blk_seq (blk_set (t := tInt) (ev_c (t := tInt) (fun _ _ => rfl) ⟨rfl, ?_⟩))
  refine blk_seq (blk_try (xp := fun G e => e = ⟨CA, none⟩ ∧ G = ⟨true, [.sh (yWeb K CW) z, .sh (tAD K) o, .sh tInt 0], [some p0, some p1]⟩) (fun E => ?_) ?_)
  · exact blk_drop (r := .sh tNon) (ev_void (ev_call (ea_cons (ev_var rfl (ea_cons (ev_var rfl (ea_nil ⟨fun _ => rfl, allc trivial (all1 trivial), fun _ _ => False, _, ⟨z, o, rfl, ⟨wf, hn⟩, fun _ => ⟨rfl, rfl⟩⟩, fun _ _ h => h, fun _ _ h => h⟩)))))))
  rintro _ e ⟨rfl, rfl⟩
  refine catc_bare H1 fun _ _ => blk_set (t := tInt) (ev_op ro_I0 (ev_var rfl (ev_c (t := tInt) (fun _ _ => rfl) ⟨rfl, ?_⟩)))
  refine blk_seq (blk_try (xp := fun G e => e = ⟨CA, none⟩ ∧ G = ⟨true, [.sh (yWeb K CW) z, .sh (tAD K) o, .sh tInt (0 + 1)], [some p0, some p1]⟩) (fun E => ?_) ?_)
  · exact blk_drop (r := .sh tNon) (ev_void (ev_call (ea_cons (ev_var rfl (ea_cons (ev_var rfl (ea_nil ⟨fun _ => rfl, allc trivial (all1 trivial), fun _ _ => False, _, ⟨z, o, rfl, ⟨wf, hn⟩, fun _ => ⟨rfl, rfl⟩⟩, fun _ _ h => h, fun _ _ h => h⟩)))))))
  rintro _ e ⟨rfl, rfl⟩
  refine catc_bare H1 fun _ _ => blk_set (t := tInt) (ev_op ro_I0 (ev_var rfl (ev_c (t := tInt) (fun _ _ => rfl) ⟨rfl, ?_⟩)))
  refine blk_seq (blk_try (xp := fun G e => e = ⟨CA, none⟩ ∧ G = ⟨true, [.sh (yWeb K CW) z, .sh (tAD K) o, .sh tInt (0 + 1 + 1)], [some p0, some p1]⟩) (fun E => ?_) ?_)
  · exact blk_drop (r := .sh tNon) (ev_void (ev_call (ea_cons (ev_var rfl (ea_cons (ev_var rfl (ea_nil ⟨fun _ => rfl, allc trivial (all1 trivial), fun _ _ => False, _, ⟨z, o, rfl, ⟨wf, hn⟩, fun _ => ⟨rfl, rfl⟩⟩, fun _ _ h => h, fun _ _ h => h⟩)))))))
  rintro _ e ⟨rfl, rfl⟩
  refine catc_bare H1 fun _ _ => blk_set (t := tInt) (ev_op ro_I0 (ev_var rfl (ev_c (t := tInt) (fun _ _ => rfl) ⟨rfl, ?_⟩)))
  exact blk_ret (ev_op ro_eqI (ev_var rfl (ev_c (t := tInt) (fun _ _ => rfl) (fin0 [_, _] _ hp))))
end
end KK
end

section
set_option maxRecDepth 100000
set_option maxHeartbeats 4000000
namespace KK
open PySem PySem.Spec PyProof.Rows L2 Y
/-! prices by partners: the answer is best, and the only one where no part of halves has two sides -/
theorem pick {f : Str → Int} {x : Str} : ∀ {ns : List Str}, ns.Nodup → x ∈ ns → (ns.map fun y => if x = y then f y else 0).sum = f x
  | [], _, h => by cases h
  | a :: ns, nd, h => by
    rw [List.nodup_cons] at nd
    rw [List.map_cons, List.sum_cons]
    by_cases c : x = a
    · subst c
      rw [if_pos rfl, sum_zero fun y hy => if_neg fun e => nd.1 (by rw [e]; exact hy)]
      omega
    · rw [if_neg c, pick nd.2 ((List.mem_cons.mp h).resolve_left c)]
      omega
/-- what stands at the ends of ties, counted by places -/
theorem swap (w : Str × Str → Int) (y : Str → Int) {ns : List Str} (nd : ns.Nodup) : ∀ {us : List (Str × Str)}, (∀ e ∈ us, e.1 ∈ ns ∧ e.2 ∈ ns) → (ns.map fun x => y x * (us.map fun e => (if e.1 = x then w e else 0) + (if e.2 = x then w e else 0)).sum).sum = (us.map fun e => w e * (y e.1 + y e.2)).sum
  | [], _ => by
    rw [sum_zero fun x _ => by simp]
    rfl
  | e :: us, h => by
    have ih := swap w y nd (us := us) fun e he => h e (List.mem_cons_of_mem _ he)
    obtain ⟨m1, m2⟩ := h e List.mem_cons_self
    rw [List.map_cons, List.sum_cons, ← ih]
    have s : (ns.map fun x => y x * ((e :: us).map fun e => (if e.1 = x then w e else 0) + (if e.2 = x then w e else 0)).sum).sum = (ns.map fun x => ((if e.1 = x then w e * y x else 0) + (if e.2 = x then w e * y x else 0)) + y x * (us.map fun e => (if e.1 = x then w e else 0) + (if e.2 = x then w e else 0)).sum).sum := sum_congr fun x _ => by
      rw [List.map_cons, List.sum_cons, Int.mul_add]
      congr 1
      rw [Int.mul_add, Int.mul_comm (y x), Int.mul_comm (y x)]
      by_cases c1 : e.1 = x <;> by_cases c2 : e.2 = x <;> simp [c1, c2]
    rw [s, sum_add, sum_add, pick (f := fun x => w e * y x) nd m1, pick (f := fun x => w e * y x) nd m2, Int.mul_add]
/-- the price of a tie -/
def wT (d : List (Str × Int)) (e : Str × Str) : Int := if gD d e.1 + gD d e.2 = 2 then 2 else 0
def cA (d : List (Str × Int)) (x : Str) (us : List (Str × Str)) : Nat := (((us.filter fun e => decide (e.2 = x)).map (·.1)).filter fun o => decide (gD d x + gD d o = 2)).length
def cB (d : List (Str × Int)) (x : Str) (us : List (Str × Str)) : Nat := (((us.filter fun e => decide (e.1 = x)).map (·.2)).filter fun o => decide (gD d x + gD d o = 2)).length
theorem cA_cons (d : List (Str × Int)) (x : Str) (e : Str × Str) (us : List (Str × Str)) : cA d x (e :: us) = cA d x us + if e.2 = x ∧ gD d e.1 + gD d e.2 = 2 then 1 else 0 := by
  unfold cA
  by_cases c : e.2 = x
  · rw [List.filter_cons_of_pos (by rw [decide_eq_true c]), List.map_cons]
    by_cases q : gD d e.1 + gD d e.2 = 2
    · rw [List.filter_cons_of_pos (by rw [← c]; exact decide_eq_true (by omega)), List.length_cons, if_pos ⟨c, q⟩]
    · rw [List.filter_cons_of_neg (by rw [← c]; simp; omega), if_neg fun z => q z.2]
      rfl
  · rw [List.filter_cons_of_neg (by rw [decide_eq_false c]; decide), if_neg fun z => c z.1]
    rfl
theorem cB_cons (d : List (Str × Int)) (x : Str) (e : Str × Str) (us : List (Str × Str)) : cB d x (e :: us) = cB d x us + if e.1 = x ∧ gD d e.1 + gD d e.2 = 2 then 1 else 0 := by
  unfold cB
  by_cases c : e.1 = x
  · rw [List.filter_cons_of_pos (by rw [decide_eq_true c]), List.map_cons]
    by_cases q : gD d e.1 + gD d e.2 = 2
    · rw [List.filter_cons_of_pos (by rw [← c]; exact decide_eq_true (by omega)), List.length_cons, if_pos ⟨c, q⟩]
    · rw [List.filter_cons_of_neg (by rw [← c]; simp; omega), if_neg fun z => q z.2]
      rfl
  · rw [List.filter_cons_of_neg (by rw [decide_eq_false c]; decide), if_neg fun z => c z.1]
    rfl
theorem wT_if (d : List (Str × Int)) (e : Str × Str) (p : Prop) [Decidable p] : (if p then wT d e else 0) = if p ∧ gD d e.1 + gD d e.2 = 2 then 2 else 0 := by
  unfold wT
  by_cases c : p <;> by_cases q : gD d e.1 + gD d e.2 = 2
  · rw [if_pos c, if_pos q, if_pos ⟨c, q⟩]
  · rw [if_pos c, if_neg q, if_neg fun z => q z.2]
  · rw [if_neg c, if_neg fun z => c z.1]
  · rw [if_neg c, if_neg fun z => c z.1]
theorem count (d : List (Str × Int)) (x : Str) : ∀ us : List (Str × Str), (us.map fun e => (if e.1 = x then wT d e else 0) + (if e.2 = x then wT d e else 0)).sum = 2 * (cA d x us : Int) + 2 * (cB d x us : Int)
  | [] => rfl
  | e :: us => by
    have ih := count d x us
    rw [List.map_cons, List.sum_cons, ih, cA_cons, cB_cons, wT_if, wT_if]
    by_cases hA : e.1 = x ∧ gD d e.1 + gD d e.2 = 2 <;> by_cases hB : e.2 = x ∧ gD d e.1 + gD d e.2 = 2
    · rw [if_pos hA, if_pos hB, if_pos hA, if_pos hB]; omega
    · rw [if_pos hA, if_neg hB, if_pos hA, if_neg hB]; omega
    · rw [if_neg hA, if_pos hB, if_neg hA, if_pos hB]; omega
    · rw [if_neg hA, if_neg hB, if_neg hA, if_neg hB]; omega
theorem count_par {z : WebZ} {d : List (Str × Int)} {x : Str} : (z.us.map fun e => (if e.1 = x then wT d e else 0) + (if e.2 = x then wT d e else 0)).sum = 2 * ((parL z d x).length : Int) := by
  rw [count]
  unfold parL nearL cA cB
  rw [List.filter_append, List.length_append]
  omega
/-- the web with the prices by partners -/
structure BackW (z r : WebZ) (d : List (Str × Int)) : Prop where
  wf : WfZ r
  ms : r.ms = z.ms
  us : r.us = z.us
  pr : ∀ x ∈ z.ms, prW r x = bpr z d x
theorem back_cost {z : WebZ} {d : List (Str × Int)} (wz : WfZ z) (y : Str → Int) : (z.ms.map fun x => 2 * (bpr z d x * y x)).sum = (z.us.map fun e => wT d e * (y e.1 + y e.2)).sum + (z.ms.map fun x => if gD d x = 0 then 2 * y x else 0).sum := by
  rw [← swap (wT d) y wz.p.no.nd fun e he => ⟨(wz.p.to.ok e he).a, (wz.p.to.ok e he).b⟩, ← sum_add]
  refine sum_congr fun x _ => ?_
  rw [count_par]
  unfold bpr
  by_cases c : gD d x = 0
  · rw [if_pos c, if_pos c, Int.add_mul, Int.mul_add, Int.one_mul]
    congr 1
    rw [← Int.mul_assoc, Int.mul_comm (y x)]
  · rw [if_neg c, if_neg c, Int.add_zero, Int.add_zero, ← Int.mul_assoc, Int.mul_comm (y x)]
/-- each price is at least 1 where nobody is idle -/
theorem bpr_pos {z : WebZ} {d : List (Str × Int)} (wz : WfZ z) (A : AnsD z d) (i0 : idleL z d = []) {x : Str} (hx : x ∈ z.ms) : 1 ≤ bpr z d x ∧ bpr z d x ≤ 1000 := by
  have dr := (A.r x hx).2
  have up : ((parL z d x).length : Int) ≤ 800 := by
    have h0 := List.length_filter_le (fun o => decide (gD d x + gD d o = 2)) (nearL z x)
    have h3 : (nearL z x).length ≤ 800 := by
      unfold nearL
      rw [List.length_append, List.length_map, List.length_map]
      have h1 := List.length_filter_le (fun e : Str × Str => decide (e.2 = x)) z.us
      have h2 := List.length_filter_le (fun e : Str × Str => decide (e.1 = x)) z.us
      have := wz.p.to.hi
      omega
    unfold parL
    omega
  unfold bpr
  by_cases c : gD d x = 0
  · rw [if_pos c]
    omega
  · rw [if_neg c]
    have hp : parL z d x ≠ [] := fun e => by
      have : x ∈ idleL z d := List.mem_filter.mpr ⟨hx, by rw [e, decide_eq_true (show 0 < gD d x by omega)]; rfl⟩
      rw [i0] at this
      cases this
    have := List.length_pos_iff.mpr hp
    omega
end KK
end

section
set_option maxRecDepth 100000
set_option maxHeartbeats 4000000
namespace KK
open PySem PySem.Spec PyProof.Rows L2 Y
/-! the law's tidied answers -/
theorem adj_iff2 {z : WebZ} {p : List Str × List (Str × Str) × List (Str × Int)} (M : Mat z p) {x y : Str} : Adj z x y ↔ (x, y) ∈ p.2.1 ∨ (y, x) ∈ p.2.1 := by
  unfold Adj
  rw [M.pu.mem_iff, List.mem_map]
  constructor
  · rintro ⟨q, hq, e⟩
    rcases ordP_eq2 e with c | c
    · exact .inl (by rw [← c]; exact hq)
    · exact .inr (by rw [← c]; exact hq)
  · rintro (h | h)
    · exact ⟨_, h, rfl⟩
    · exact ⟨_, h, ordP_swap _ _⟩
def nr1 (x : Str) (e : Str × Str) : List Str := if e.1 = x then [e.2] else if e.2 = x then [e.1] else []
def nrL (ts : List (Str × Str)) (x : Str) : List Str := ts.flatMap (nr1 x)
theorem nr_len (x : Str) : ∀ ts : List (Str × Str), (nrL ts x).length ≤ ts.length
  | [] => Nat.le_refl _
  | e :: ts => by
    have ih := nr_len x ts
    unfold nrL at ih ⊢
    rw [List.flatMap_cons, List.length_append, List.length_cons]
    have : (nr1 x e).length ≤ 1 := by
      unfold nr1
      split
      · exact Nat.le_refl _
      · split
        · exact Nat.le_refl _
        · exact Nat.zero_le _
    omega
theorem nr_mem {ts : List (Str × Str)} {x y : Str} : y ∈ nrL ts x ↔ ((x, y) ∈ ts ∨ ((y, x) ∈ ts ∧ y ≠ x)) ∨ ((y, x) ∈ ts ∧ y = x) := by
  unfold nrL
  rw [List.mem_flatMap]
  constructor
  · rintro ⟨e, he, h⟩
    unfold nr1 at h
    by_cases c : e.1 = x
    · rw [if_pos c, List.mem_singleton] at h
      subst c
      subst h
      exact .inl (.inl he)
    · rw [if_neg c] at h
      by_cases c2 : e.2 = x
      · rw [if_pos c2, List.mem_singleton] at h
        subst c2
        subst h
        exact .inl (.inr ⟨he, c⟩)
      · rw [if_neg c2] at h
        cases h
  · rintro ((h | ⟨h, ne⟩) | ⟨h, e⟩)
    · exact ⟨_, h, by unfold nr1; rw [if_pos rfl]; exact List.mem_singleton_self _⟩
    · exact ⟨_, h, by unfold nr1; rw [if_neg ne, if_pos rfl]; exact List.mem_singleton_self _⟩
    · subst e
      exact ⟨_, h, by unfold nr1; rw [if_pos rfl]; exact List.mem_singleton_self _⟩
theorem nr_adj {z : WebZ} {p : List Str × List (Str × Str) × List (Str × Int)} (M : Mat z p) {x y : Str} : y ∈ nrL p.2.1 x ↔ Adj z x y := by
  rw [nr_mem, adj_iff2 M]
  constructor
  · rintro ((h | ⟨h, _⟩) | ⟨h, _⟩)
    · exact .inl h
    · exact .inr h
    · exact .inr h
  · rintro (h | h)
    · exact .inl (.inl h)
    · by_cases c : y = x
      · exact .inr ⟨h, c⟩
      · exact .inl (.inr ⟨h, c⟩)
def loneB (d : List (Str × Int)) (ts : List (Str × Str)) (x : Str) : Bool := !decide (gD d x = 0) && ((nrL ts x).filter fun o => decide (gD d o = 2 - gD d x)).isEmpty
theorem lone_idle {z : WebZ} {p : List Str × List (Str × Str) × List (Str × Int)} {d : List (Str × Int)} (M : Mat z p) (A : AnsD z d) {x : Str} (hx : x ∈ z.ms) : loneB d p.2.1 x = true ↔ x ∈ idleL z d := by
  have r := (A.r x hx).2
  unfold loneB idleL
  rw [Bool.and_eq_true, List.mem_filter, Bool.and_eq_true, List.isEmpty_iff, List.isEmpty_iff, List.filter_eq_nil_iff]
  have e1 : (!decide (gD d x = 0)) = true ↔ gD d x ≠ 0 := by simp
  rw [e1, decide_eq_true_iff]
  have e2 : (∀ a ∈ nrL p.2.1 x, ¬ decide (gD d a = 2 - gD d x) = true) ↔ parL z d x = [] := by
    unfold parL
    rw [List.filter_eq_nil_iff]
    constructor
    · intro h a ha q
      have q := of_decide_eq_true q
      exact h a ((nr_adj M).mpr ((near_adj M.wf hx).mp ha)) (decide_eq_true (by omega))
    · intro h a ha q
      have q := of_decide_eq_true q
      exact h a ((near_adj M.wf hx).mpr ((nr_adj M).mp ha)) (decide_eq_true (by omega))
  rw [e2]
  constructor
  · rintro ⟨h1, h2⟩
    exact ⟨hx, by omega, h2⟩
  · rintro ⟨_, h1, h2⟩
    exact ⟨by omega, h2⟩
theorem put_keysB {d : List (Str × Int)} {a : Str} {v : Int} (h : a ∈ d.map (·.1)) : (putZ d a v).map (·.1) = d.map (·.1) := by
  unfold putZ
  have : hasK d a = true := by rw [Y.hasK_mem]; exact decide_eq_true h
  rw [this, if_pos rfl, List.map_map]
  refine List.map_congr_left fun e _ => ?_
  show (if e.1 = a then (e.1, v) else e).1 = e.1
  split <;> rfl
theorem gD_put4 {d : List (Str × Int)} {a u : Str} {v : Int} : gD (putZ d a v) u = if a = u then v else gD d u := by
  unfold gD
  rw [look_put3]
  split <;> rfl
structure AnsP (ns : List Str) (ts : List (Str × Str)) (d : List (Str × Int)) : Prop where
  pm : (d.map (·.1)).Perm ns
  r : ∀ x ∈ ns, lookK d x = some (gD d x) ∧ 0 ≤ gD d x ∧ gD d x ≤ 2
  t : ∀ e ∈ ts, 2 ≤ gD d e.1 + gD d e.2
theorem AnsP.ansD {z : WebZ} {p : List Str × List (Str × Str) × List (Str × Int)} {d : List (Str × Int)} (M : Mat z p) (A : AnsP p.1 p.2.1 d) : AnsD z d := ⟨A.pm.trans M.pm.symm, fun x hx => A.r x (M.pm.mem_iff.mp hx), fun e he => by
  obtain ⟨q, hq, rfl⟩ := List.mem_map.mp (M.pu.mem_iff.mp he)
  have := A.t q hq
  rcases ordP_cases q with c | c <;> rw [c]
  · exact this
  · show 2 ≤ gD d q.2 + gD d q.1
    omega⟩
/-- a lone place has a lower value, too -/
theorem lower {ns : List Str} {ts : List (Str × Str)} {d : List (Str × Int)} {x : Str} (nd : ns.Nodup) (to : ∀ e ∈ ts, TieOk ns e) (A : AnsP ns ts d) (hx : x ∈ ns) (h : loneB d ts x = true) : AnsP ns ts (putZ d x (gD d x - 1)) ∧ (ns.map (gD (putZ d x (gD d x - 1)))).sum = (ns.map (gD d)).sum - 1 := by
  unfold loneB at h
  rw [Bool.and_eq_true, List.isEmpty_iff, List.filter_eq_nil_iff] at h
  obtain ⟨h1, h2⟩ := h
  have h1 : gD d x ≠ 0 := by simpa using h1
  have xk : x ∈ d.map (·.1) := A.pm.mem_iff.mpr hx
  have rx := (A.r x hx).2
  have n1 : ∀ e ∈ ts, e.1 = x → gD d e.2 ≠ 2 - gD d x := fun e he c q => h2 e.2 (nr_mem.mpr (.inl (.inl (by rw [← c]; exact he)))) (decide_eq_true q)
  have n2 : ∀ e ∈ ts, e.2 = x → gD d e.1 ≠ 2 - gD d x := fun e he c q => by
    have ne := (to e he).ne
    exact h2 e.1 (nr_mem.mpr (.inl (.inr ⟨by rw [← c]; exact he, fun z => ne (z.trans c.symm)⟩))) (decide_eq_true q)
  refine ⟨⟨by rw [put_keysB xk]; exact A.pm, fun y hy => ?_, fun e he => ?_⟩, ?_⟩
  · have r := A.r y hy
    rw [gD_put4]
    by_cases c : x = y
    · rw [if_pos c]
      refine ⟨by rw [look_put3, if_pos c], by omega, by omega⟩
    · rw [if_neg c]
      exact ⟨by rw [look_put3, if_neg c]; exact r.1, r.2⟩
  · have t := A.t e he
    have ne := (to e he).ne
    rw [gD_put4, gD_put4]
    by_cases c1 : x = e.1
    · have c2 : ¬ x = e.2 := fun q => ne (c1.symm.trans q)
      rw [if_pos c1, if_neg c2]
      have := n1 e he c1.symm
      rw [← c1] at t
      omega
    · rw [if_neg c1]
      by_cases c2 : x = e.2
      · rw [if_pos c2]
        have := n2 e he c2.symm
        rw [← c2] at t
        omega
      · rw [if_neg c2]
        exact t
  · have s : (ns.map (gD (putZ d x (gD d x - 1)))).sum = (ns.map fun y => gD d y + if x = y then -1 else 0).sum := sum_congr fun y _ => by
      rw [gD_put4]
      by_cases c : x = y
      · rw [if_pos c, if_pos c, ← c]
        omega
      · rw [if_neg c, if_neg c]
        omega
    rw [s, sum_add, pick (f := fun _ => -1) nd hx]
    omega
abbrev yLNear (K : PySem.W.Frag) : Y.CT (List Str) := ⟨true, .ow (oL K tStr), fun as P _ => ∃ x ts, as = [.sh tStr x, .sh (tLs K (tPr K)) ts] ∧ ts.length ≤ 400 ∧ ∀ os, P os (nrL ts x)⟩
abbrev yLone (K : PySem.W.Frag) : Y.CT Bool := ⟨true, .sh tBl, fun as P _ => ∃ d x ts, as = [.sh (tDk kS tInt) d, .sh tStr x, .sh (tLs K (tPr K)) ts] ∧ (ts.length ≤ 400 ∧ lookK d x = some (gD d x) ∧ ∀ o ∈ nrL ts x, lookK d o = some (gD d o)) ∧ ∀ os, P os (loneB d ts x)⟩
abbrev yTidied (K : PySem.W.Frag) : Y.CT (List (Str × Int)) := ⟨true, .ow (oD kS tInt), fun as P _ => ∃ d ns ts, as = [.sh (tDk kS tInt) d, .sh (tLs K tStr) ns, .sh (tLs K (tPr K)) ts] ∧ (ns.Nodup ∧ ns.length ≤ 40 ∧ ts.length ≤ 400 ∧ (∀ e ∈ ts, TieOk ns e) ∧ AnsP ns ts d) ∧ ∀ d2, (d2.map (·.1) = d.map (·.1) ∧ AnsP ns ts d2 ∧ ∀ x ∈ ns, loneB d2 ts x = false) → ∀ os, P os d2⟩
abbrev yArePr (K : PySem.W.Frag) : Y.CT Bool := ⟨true, .sh tBl, fun as P _ => ∃ d ns, as = [.sh (tDk kS tInt) d, .sh (tLs K tStr) ns] ∧ (d.length = ns.length ∧ ∀ x ∈ ns, lookK d x = some (gD d x) ∧ 1 ≤ gD d x ∧ gD d x ≤ 10 ^ 30) ∧ ∀ os, P os true⟩
section
variable {P : Program} {w : World} {K : PySem.W.Frag} {mg : Str → Option Value} {base : Heap} {C CS CW CC : Addr}
abbrev NYLnearB : List Str := ["_law_place", "_law_ties_here", "_law_found", "_law_a", "_law_b"]
theorem scYLnearB : FnScope NYLnearB ["_law_place", "_law_ties_here"] (defScope s_law_near) := ⟨rfl, rfl, rfl, by decide +kernel, rfl, by decide +kernel, by decide +kernel⟩
theorem y_lnear (T : Blt mg) (F : Has K mg "_law_near" s_law_near) : C8.Cal P w K mg base 1 "_law_near" (Y.spZ (yLNear K)) [] := by
  refine calF F (fun f fd F => F.binds (ps := ["_law_place", "_law_ties_here"]) fun _ _ _ _ _ _ us hl => match us, hl with | [_, _], _ => rfl) scYLnearB (fun vs H Q E h => zlen (fun as P XP hc => by obtain ⟨_, _, rfl, _⟩ := hc; rfl) h) (fun f cdv A outer s H vs Q E hr h => ?_)
  have hu := hu_of hr
  refine ⟨_, (pss_cons (ps_set (i := 2) scYLnearB.nd rfl (Or.inl rfl) (pe_lst pa_nil))
      (pss_cons (ps_for PassesOwn.never rfl (pi_list (pv 1)) (pg_tup rfl (pgs_cons (pg_name (i := 3) scYLnearB.nd rfl (Or.inl rfl)) (pgs_cons (pg_name (i := 4) scYLnearB.nd rfl (Or.inl rfl)) pgs_nil)))
        (pss_one (ps_if (pt_cmpR op_eq (pv 3) (pv 0) (nomark _)) (pss_one (ps_expr (pe_bm PySem.F.plainAttrs_list PySem.F.slot_list_append PySem.F.type_list_append mt_append (pv 2) (pa_cons (pv 4) pa_nil)))) (pss_one (ps_if (pt_cmpR op_eq (pv 4) (pv 0) (nomark _)) (pss_one (ps_expr (pe_bm PySem.F.plainAttrs_list PySem.F.slot_list_append PySem.F.type_list_append mt_append (pv 2) (pa_cons (pv 3) pa_nil)))) pss_nil)))))
      (pss_one (ps_ret (pv 2))))), zrun h ?_⟩
  rintro as P XP ⟨x, ts, rfl, hl, hp⟩ hl
  obtain ⟨p0, p1, rfl⟩ := len2 hl
  refine ⟨3, rfl, by decide, ?_⟩
  refine blk_seq (blk_setO (O := oL K tStr) (ev_list (K := K) (t := tStr) (es_nil ⟨Nat.le_of_ble_eq_true rfl, rfl, ?_⟩)))
  refine blk_seq (blk_for (vs := [3, 4]) (ei_list (ev_var (t := tLs K (tPr K)) (x := ts) rfl ⟨(fun i G' => ∃ s3 s4, G' = ⟨true, [.sh tStr x, .sh (tLs K (tPr K)) ts, .ow (oL K tStr) (nrL (ts.take i) x), s3, s4], [some p0, some p1]⟩), ⟨_, _, rfl⟩, ?_, ?_⟩)))
  · rintro i e _ he ⟨s3, s4, rfl⟩
    have nx : nrL (ts.take (i + 1)) x = nrL (ts.take i) x ++ nr1 x e := by
      unfold nrL
      rw [take_more he, List.flatMap_append]
      simp
    have nl : (nrL (ts.take i) x).length ≤ 400 := by
      have := nr_len x (ts.take i)
      rw [List.length_take] at this
      omega
    refine tg_tup2 (tg_name (by decide) (free_of rfl) (tg_name (by decide) (free_of rfl) (blk_wipe [3, 4] (blk_if (et_b (ev_op ro_eqS (ev_var rfl (ev_var rfl ⟨fun h => ?_, fun h => ?_⟩))))))))
    · have h : e.1 = x := of_decide_eq_true h
      refine blk_append (pt_var (i := 2) rfl (by decide)) (ev_var rfl ⟨fits40 (by omega), .un, .un, ?_⟩)
      rw [nx]
      unfold nr1
      rw [if_pos h]
      rfl
    · have h : ¬ e.1 = x := of_decide_eq_false h
      refine blk_if (et_b (ev_op ro_eqS (ev_var rfl (ev_var rfl ⟨fun h2 => ?_, fun h2 => blk_next ⟨.un, .un, ?_⟩⟩))))
      · have h2 : e.2 = x := of_decide_eq_true h2
        refine blk_append (pt_var (i := 2) rfl (by decide)) (ev_var rfl ⟨fits40 (by omega), .un, .un, ?_⟩)
        rw [nx]
        unfold nr1
        rw [if_neg h, if_pos h2]
        rfl
      · have h2 : ¬ e.2 = x := of_decide_eq_false h2
        rw [nx]
        unfold nr1
        rw [if_neg h, if_neg h2, List.append_nil]
        rfl
  · rintro _ ⟨s3, s4, rfl⟩
    rw [List.take_length]
    exact blk_ret (ev_give (i := 2) rfl (fin0 [_, _] _ hp))
abbrev NYLisloneB : List Str := ["_law_x", "_law_place", "_law_ties_here", "_law_other"]
theorem scYLisloneB : FnScope NYLisloneB ["_law_x", "_law_place", "_law_ties_here"] (defScope s_law_is_lone) := ⟨rfl, rfl, rfl, by decide +kernel, rfl, by decide +kernel, by decide +kernel⟩
theorem y_lone (T : Blt mg) (F : Has K mg "_law_is_lone" s_law_is_lone) (YLNEAR : C8.Cal P w K mg base 1 "_law_near" (Y.spZ (yLNear K)) []) : C8.Cal P w K mg base 2 "_law_is_lone" (Y.spZ (yLone K)) [] := by
  refine calF F (fun f fd F => F.binds (ps := ["_law_x", "_law_place", "_law_ties_here"]) fun _ _ _ _ _ _ us hl => match us, hl with | [_, _, _], _ => rfl) scYLisloneB (fun vs H Q E h => zlen (fun as P XP hc => by obtain ⟨_, _, _, rfl, _⟩ := hc; rfl) h) (fun f cdv A outer s H vs Q E hr h => ?_)
  have hu := hu_of hr
  refine ⟨_, (pss_cons (ps_if (pt_cmpR op_eq (pe_dget hu (pv 0) (pv 1) (fun _ _ => rfl)) pe_int (nomark _)) (pss_one (ps_ret pe_bl)) pss_nil)
      (pss_one (ps_ret (pe_cmpR op_eq (pe_callB call_len (by rfl) T.b_len PySem.boot_len (pa_cons (pe_lc (own := [("_law_other", 3)]) (g := gName 3) rfl scYLisloneB.nd (pi_list (C8.pe_c YLNEAR hr (by decide) rfl (pa_cons (pv 1) (pa_cons (pv 2) pa_nil)))) (blkOk_by (own := [("_law_other", 3)]) (N := NYLisloneB) (sc := defScope s_law_is_lone) (by decide +kernel)) (fun _ _ _ _ _ => (pg_name (i := 3) scYLisloneB.nd rfl (Or.inl rfl))) (fun _ _ _ _ _ => pts_one (pt_cmpR op_eq (pe_dget hu (pv 0) (pv 3) (fun _ _ => rfl)) (pe_op op_sub pe_int (pe_dget hu (pv 0) (pv 1) (fun _ _ => rfl))) (nomark _))) (fun _ _ _ _ _ => (pv 3))) pa_nil)) pe_int (nomark _))))), zrun h ?_⟩
  rintro as P XP ⟨d, x, ts, rfl, ⟨tl, lx, ho⟩, hp⟩ hl
  obtain ⟨p0, p1, p2, rfl⟩ := len3 hl
  refine ⟨1, rfl, by decide, ?_⟩
  refine blk_seq (blk_if (et_b (ev_op ro_eqI (ev_dget kyS (ev_var (t := tDk kS tInt) (x := d) rfl (ev_var rfl ⟨_, lx, ev_c (t := tInt) (fun _ _ => rfl) ⟨fun h => ?_, fun h => blk_next ?_⟩⟩))))))
  · unfold loneB at hp
    rw [show decide (gD d x = 0) = true from h] at hp
    exact blk_ret (ev_c (t := tBl) (fun _ _ => rfl) (fin0 [_, _, _] _ hp))
  have nl := nr_len x ts
  refine blk_ret (ev_op ro_eqI (ev_cb rc_lenL (EvR.share (O := oL K tStr) (ev_lc (K := K) (u := tStr) (vs := [3]) (ei_list (EvR.share (O := oL K tStr) (ev_call0 (ea_cons (ev_var rfl (ea_cons (ev_var rfl (ea_nil ⟨fun _ => rfl, allc trivial (all1 trivial), x, ts, rfl, tl, fun _ => ?_⟩))))))))))) )
  refine ⟨(fun i ys => ys = ((nrL ts x).take i).filter fun o => decide (gD d o = 2 - gD d x)), fits40 (by omega), ?_, rfl, ?_, ?_⟩
  · intro i hi
    rw [List.mem_singleton] at hi; subst hi; exact free_of rfl
  · rintro i o ys hx rfl
    refine tg_name (by decide) (free_of rfl) (et_b (ev_op ro_eqI (ev_dget kyS (ev_var (t := tDk kS tInt) (x := d) rfl (ev_var rfl ⟨_, ho o (List.mem_of_getElem? hx), ev_op ro_I0 (ev_c (t := tInt) (fun _ _ => rfl) (ev_dget kyS (ev_var (t := tDk kS tInt) (x := d) rfl (ev_var rfl ⟨_, lx, ⟨fun h1 => ev_var rfl ?_, fun h1 => ?_⟩⟩))))⟩)))))
    · show _ = _
      rw [filter_snoc hx, if_pos h1]
    · show _ = _
      rw [filter_snoc hx, if_neg (by rw [show decide (gD d o = 2 - gD d x) = false from h1]; decide), List.append_nil]
  · rintro ys rfl
    rw [List.take_length]
    refine ⟨fun h => (nomatch h), ev_c (t := tInt) (fun _ _ => rfl) ?_⟩
    have e : decide ((((nrL ts x).filter fun o => decide (gD d o = 2 - gD d x)).length : Int) = 0) = loneB d ts x := by
      unfold loneB
      rw [show decide (gD d x = 0) = false from h]
      cases (nrL ts x).filter fun o => decide (gD d o = 2 - gD d x) with
      | nil => rfl
      | cons a l =>
        rw [List.length_cons]
        exact decide_eq_false (by omega)
    dsimp only
    rw [e]
    exact fin0 [_, _, _] _ hp
abbrev NYLtidiedB : List Str := ["_law_x", "_law_places_here", "_law_ties_here", "_law_found", "_law_turn", "_law_moved", "_law_place"]
theorem scYLtidiedB : FnScope NYLtidiedB ["_law_x", "_law_places_here", "_law_ties_here"] (defScope s_law_tidied) := ⟨rfl, rfl, rfl, by decide +kernel, rfl, by decide +kernel, by decide +kernel⟩
theorem y_tidied (T : Blt mg) (F : Has K mg "_law_tidied" s_law_tidied) (YLONE : C8.Cal P w K mg base 2 "_law_is_lone" (Y.spZ (yLone K)) []) : C8.Cal P w K mg base 3 "_law_tidied" (Y.spZ (yTidied K)) [] := by
  refine calF F (fun f fd F => F.binds (ps := ["_law_x", "_law_places_here", "_law_ties_here"]) fun _ _ _ _ _ _ us hl => match us, hl with | [_, _, _], _ => rfl) scYLtidiedB (fun vs H Q E h => zlen (fun as P XP hc => by obtain ⟨_, _, _, rfl, _⟩ := hc; rfl) h) (fun f cdv A outer s H vs Q E hr h => ?_)
  have hu := hu_of hr
  refine ⟨_, (pss_cons (ps_set (i := 3) scYLtidiedB.nd rfl (Or.inl rfl) (pe_callTy Own.call_dict_dK (by rfl) T.b_dict (by decide +kernel) (pa_cons (pv 0) pa_nil)))
      (pss_cons (ps_for PassesOwn.never rfl (pi_range1 rfl T.b_range (pa_cons (pe_op op_add (pe_op op_mul pe_int (pe_callB call_len (by rfl) T.b_len PySem.boot_len (pa_cons (pv 1) pa_nil))) pe_int) pa_nil)) (pg_name (i := 4) scYLtidiedB.nd rfl (Or.inl rfl))
        (pss_cons (ps_set (i := 5) scYLtidiedB.nd rfl (Or.inl rfl) pe_int)
      (pss_cons (ps_for PassesOwn.never rfl (pi_list (pv 1)) (pg_name (i := 6) scYLtidiedB.nd rfl (Or.inl rfl))
        (pss_one (ps_if (pt_val (C8.pe_c YLONE hr (by decide) rfl (pa_cons (pv 3) (pa_cons (pv 6) (pa_cons (pv 2) pa_nil))))) (pss_cons (ps_dput hu (pv 3) (pv 6) (pe_op op_sub (pe_dget hu (pv 3) (pv 6) (fun _ _ => rfl)) pe_int) rfl)
      (pss_one (ps_set (i := 5) scYLtidiedB.nd rfl (Or.inl rfl) (pe_op op_add (pv 5) pe_int)))) pss_nil)))
      (pss_one (ps_if (pt_cmpR op_eq (pv 5) pe_int (nomark _)) (pss_one ps_break) pss_nil)))))
      (pss_one (ps_ret (pv 3))))), zrun h ?_⟩
  rintro as P XP ⟨d, ns, ts, rfl, ⟨nd, n40, tl, to, A⟩, hp⟩ hl
  obtain ⟨p0, p1, p2, rfl⟩ := len3 hl
  refine ⟨4, rfl, by decide, ?_⟩
  have sumb : ∀ {d : List (Str × Int)}, AnsP ns ts d → 0 ≤ (ns.map (gD d)).sum ∧ (ns.map (gD d)).sum ≤ 2 * (ns.length : Int) := fun {d} A => by
    have gen : ∀ l : List Str, (∀ x ∈ l, x ∈ ns) → 0 ≤ (l.map (gD d)).sum ∧ (l.map (gD d)).sum ≤ 2 * (l.length : Int) := fun l => by
      induction l with
      | nil => intro _; simp
      | cons x l ih =>
        intro h
        have r := (A.r x (h x List.mem_cons_self)).2
        have := ih fun y hy => h y (List.mem_cons_of_mem _ hy)
        rw [List.map_cons, List.sum_cons, List.length_cons]
        omega
    exact gen ns fun x hx => hx
  have nrn : ∀ x o, o ∈ nrL ts x → o ∈ ns := fun x o ho => by
    rcases nr_mem.mp ho with (h | ⟨h, _⟩) | ⟨h, _⟩
    · exact (to _ h).b
    · exact (to _ h).a
    · exact (to _ h).a
  refine blk_seq (blk_setO (O := oD kS tInt) (ev_cb rc_dictD (ev_var (t := tDk kS tInt) (x := d) rfl ⟨fun h => (nomatch h), rfl, ?_⟩)))
  refine blk_seq (blk_for (vs := [4]) (ei_range1 (ev_op ro_I0 (ev_op ro_I (ev_c (t := tInt) (fun _ _ => rfl) (ev_cb rc_lenL (ev_var (t := tLs K tStr) (x := ns) rfl ⟨fun h => (nomatch h), .inl ⟨by decide, by decide⟩, ev_c (t := tInt) (fun _ _ => rfl) ⟨⟨by omega, by omega⟩, ?_⟩⟩)))))))
  refine ⟨(fun i G' => ∃ d2 s4 s5 s6, (d2.map (·.1) = d.map (·.1) ∧ AnsP ns ts d2 ∧ (ns.map (gD d2)).sum + (i : Int) ≤ 2 * (ns.length : Int)) ∧ G' = ⟨true, [.sh (tDk kS tInt) d, .sh (tLs K tStr) ns, .sh (tLs K (tPr K)) ts, .ow (oD kS tInt) d2, s4, s5, s6], [some p0, some p1, some p2]⟩), ⟨d, _, _, _, ⟨rfl, A, by have := (sumb A).2; omega⟩, rfl⟩, ?_, ?_⟩
  · rintro i k _ hk ⟨d2, s4, s5, s6, ⟨k2, A2, sm⟩, rfl⟩
    refine tg_name (by decide) (free_of rfl) (blk_wipe [4, 5, 6] (blk_seq (blk_set (t := tInt) (ev_c (t := tInt) (fun _ _ => rfl) ⟨rfl, ?_⟩))))
    refine blk_seq (blk_for (vs := [6]) (ei_list (ev_var (t := tLs K tStr) (x := ns) rfl ⟨(fun j G' => ∃ d3 mv s6, (d3.map (·.1) = d.map (·.1) ∧ AnsP ns ts d3 ∧ 0 ≤ mv ∧ (ns.map (gD d3)).sum + mv = (ns.map (gD d2)).sum ∧ (mv = 0 → d3 = d2 ∧ ∀ x ∈ ns.take j, loneB d2 ts x = false)) ∧ G' = ⟨true, [.sh (tDk kS tInt) d, .sh (tLs K tStr) ns, .sh (tLs K (tPr K)) ts, .ow (oD kS tInt) d3, .sh tInt k, .sh tInt mv, s6], [some p0, some p1, some p2]⟩), ⟨d2, 0, _, ⟨k2, A2, by decide, by omega, fun _ => ⟨rfl, fun x h => absurd h (by simp)⟩⟩, rfl⟩, ?_, ?_⟩)))
    · rintro j x _ hx ⟨d3, mv, s6, ⟨k3, A3, m0, se, mz⟩, rfl⟩
      have xm : x ∈ ns := List.mem_of_getElem? hx
      have l3 : d3.length ≤ 40 := by
        have := A3.pm.length_eq
        rw [List.length_map] at this
        omega
      refine tg_name (by decide) (free_of rfl) (blk_wipe [6] (blk_if (et_view (et_b (ev_call0 (ea_cons (ev_var (t := tDk kS tInt) (x := d3) rfl (ea_cons (ev_var rfl (ea_cons (ev_var (t := tLs K (tPr K)) (x := ts) rfl (ea_nil ⟨fun _ => rfl, allc trivial (allc trivial (all1 trivial)), d3, x, ts, rfl, ⟨tl, (A3.r x xm).1, fun o ho => (A3.r o (nrn x o ho)).1⟩, fun _ => ⟨fun h => ?_, fun h => ?_⟩⟩))))))))))) )
      · obtain ⟨A4, s4⟩ := lower nd to A3 xm h
        refine blk_seq (blk_dput kyS (pt_var (i := 3) rfl (by decide)) (ev_view (r := .sh tInt) flI (ev_op ro_I0 (ev_dget kyS (ev_var (t := tDk kS tInt) (x := d3) rfl (ev_var rfl ⟨_, (A3.r x xm).1, ev_c (t := tInt) (fun _ _ => rfl) (ev_var rfl ⟨fits40 (by omega), ?_⟩)⟩))))))
        refine blk_set (t := tInt) (ev_op ro_I0 (ev_var rfl (ev_c (t := tInt) (fun _ _ => rfl) ⟨rfl, _, _, _, ⟨?_, A4, by omega, by omega, fun q => by omega⟩, rfl⟩)))
        rw [put_keysB (A3.pm.mem_iff.mpr xm)]
        exact k3
      · refine blk_next ⟨_, _, _, ⟨k3, A3, m0, se, fun q => ⟨(mz q).1, fun y hy => ?_⟩⟩, rfl⟩
        rw [take_more hx] at hy
        rcases List.mem_append.mp hy with hy | hy
        · exact (mz q).2 y hy
        · rw [List.mem_singleton] at hy
          rw [hy, ← (mz q).1]
          exact h
    · rintro _ ⟨d3, mv, s6, ⟨k3, A3, m0, se, mz⟩, rfl⟩
      rw [List.take_length] at mz
      refine blk_if (et_b (ev_op ro_eqI (ev_var rfl (ev_c (t := tInt) (fun _ _ => rfl) ⟨fun h => ?_, fun h => ?_⟩))))
      · have h : mv = 0 := of_decide_eq_true h
        obtain ⟨e3, nl⟩ := mz h
        subst e3
        exact blk_break (blk_ret (ev_give (i := 3) rfl (fin0 [_, _, _] _ (hp d3 ⟨k3, A3, nl⟩))))
      · have h : ¬ mv = 0 := of_decide_eq_false h
        exact blk_next ⟨_, _, _, _, ⟨k3, A3, by omega⟩, rfl⟩
  · rintro _ ⟨d2, s4, s5, s6, ⟨k2, A2, sm⟩, rfl⟩
    exfalso
    rw [rangeZ_len] at sm
    have := (sumb A2).1
    omega
abbrev NYLarepricesB : List Str := ["_law_told", "_law_places_here", "_law_place"]
theorem scYLarepricesB : FnScope NYLarepricesB ["_law_told", "_law_places_here"] (defScope s_law_are_prices) := ⟨rfl, rfl, rfl, by decide +kernel, rfl, by decide +kernel, by decide +kernel⟩
theorem y_arepr (T : Blt mg) (F : Has K mg "_law_are_prices" s_law_are_prices) (YLINT : C8.Cal P w K mg base 1 "_law_is_integer" (Y.spZ yLint) []) : C8.Cal P w K mg base 2 "_law_are_prices" (Y.spZ (yArePr K)) [] := by
  refine calF F (fun f fd F => F.binds (ps := ["_law_told", "_law_places_here"]) fun _ _ _ _ _ _ us hl => match us, hl with | [_, _], _ => rfl) scYLarepricesB (fun vs H Q E h => zlen (fun as P XP hc => by obtain ⟨_, _, rfl, _⟩ := hc; rfl) h) (fun f cdv A outer s H vs Q E hr h => ?_)
  have hu := hu_of hr
  refine ⟨_, (pss_cons (ps_if (PW.pt (pw_or (pt_not (pt_val (pe_callB call_isi (by rfl) T.b_isinstance (by decide +kernel) (pa_cons (pv 0) (pa_cons (pe_bltn (v := .ty "dict") (by rfl) T.b_dict (by decide +kernel) rfl) pa_nil))))) (pw_or1 (pt_cmpR op_ne (pe_callB call_lenD (by rfl) T.b_len PySem.boot_len (pa_cons (pv 0) pa_nil)) (pe_callB call_len (by rfl) T.b_len PySem.boot_len (pa_cons (pv 1) pa_nil)) (nomark _))))) (pss_one (ps_ret pe_bl)) pss_nil)
      (pss_cons (ps_for PassesOwn.never rfl (pi_list (pv 1)) (pg_name (i := 2) scYLarepricesB.nd rfl (Or.inl rfl))
        (pss_cons (ps_if (PW.pt (pw_or (pt_cmp (pc_dnotin hu (pv 2) (pv 0))) (pw_or1 (pt_not (pt_val (C8.pe_c YLINT hr (by decide) rfl (pa_cons (pe_dget hu (pv 0) (pv 2) (fun _ _ => rfl)) pa_nil))))))) (pss_one (ps_ret pe_bl)) pss_nil)
      (pss_one (ps_if (PW.pt (pw_or (pt_cmpR op_lt (pe_dget hu (pv 0) (pv 2) (fun _ _ => rfl)) pe_int (nomark _)) (pw_or1 (pt_cmpR op_gt (pe_dget hu (pv 0) (pv 2) (fun _ _ => rfl)) (pe_op op_pow pe_int pe_int) (nomark _))))) (pss_one (ps_ret pe_bl)) pss_nil))))
      (pss_one (ps_ret pe_bl)))), zrun h ?_⟩
  rintro as P XP ⟨d, ns, rfl, ⟨hl, hd⟩, hp⟩ hl
  obtain ⟨p0, p1, rfl⟩ := len2 hl
  refine ⟨1, rfl, by decide, ?_⟩
  refine blk_seq (blk_if (et_or (et_not (et_b (ev_isi (A := "dict") (b := true) (fun W H v x ok _ r => ty_dK r) (by decide +kernel) (ev_var (t := tDk kS tInt) (x := d) rfl ⟨rfl, fun h => (nomatch h), fun _ => ?_⟩))))))
  refine et_b (ev_op ro_neI (ev_cb rc_lenD (ev_var rfl ⟨fun _ => rfl, ev_cb rc_lenL (ev_var (t := tLs K tStr) (x := ns) rfl ⟨fun h => (nomatch h), fun h => ?_, fun _ => blk_next ?_⟩)⟩)))
  · have h : (d.length : Int) ≠ ns.length := of_decide_eq_false (by simpa using h)
    omega
  refine blk_seq (blk_for (vs := [2]) (ei_list (ev_var (t := tLs K tStr) (x := ns) rfl ⟨(fun i G' => ∃ s2, G' = ⟨true, [.sh (tDk kS tInt) d, .sh (tLs K tStr) ns, s2], [some p0, some p1]⟩), ⟨_, rfl⟩, ?_, ?_⟩)))
  · rintro i x _ hx ⟨s2, rfl⟩
    obtain ⟨lk, i1, i2⟩ := hd x (List.mem_of_getElem? hx)
    refine tg_name (by decide) (free_of rfl) (blk_wipe [2] (blk_seq (blk_if (et_or (et_b (ev_dnotin kyS (ev_var rfl (ev_var (t := tDk kS tInt) (x := d) rfl ⟨fun h => ?_, fun _ => ?_⟩))))))))
    · have : hasK d x = true := by show (lookK d x).isSome = true; rw [lk]; rfl
      rw [this] at h
      cases h
    refine et_not (et_b (ev_call0 (ea_cons (ev_dget kyS (ev_var (t := tDk kS tInt) (x := d) rfl (ev_var rfl ⟨_, lk, ea_nil ⟨fun h => (nomatch h), all1 trivial, gD d x, rfl, fun _ => ⟨fun h => (nomatch h), fun _ => blk_next ?_⟩⟩⟩))))))
    refine blk_if (et_or (et_b (ev_op ro_B0 (ev_dget kyS (ev_var (t := tDk kS tInt) (x := d) rfl (ev_var rfl ⟨_, lk, ev_c (t := tInt) (fun _ _ => rfl) ⟨fun h => ?_, fun _ => ?_⟩⟩))))))
    · have h := of_decide_eq_true h
      omega
    refine et_b (ev_op ro_B0 (ev_dget kyS (ev_var (t := tDk kS tInt) (x := d) rfl (ev_var rfl ⟨_, lk, ev_op ro_I (ev_c (t := tInt) (fun _ _ => rfl) (ev_c (t := tInt) (fun _ _ => rfl) ⟨⟨by decide, by decide, by decide⟩, ⟨fun h => ?_, fun _ => blk_next ⟨_, rfl⟩⟩⟩))⟩))))
    have h := of_decide_eq_true h
    have h : (10 : Int) ^ 30 < gD d x := h
    omega
  · rintro _ ⟨s2, rfl⟩
    exact blk_ret (ev_c (t := tBl) (fun _ _ => rfl) (fin0 [_, _] _ hp))
end
end KK
end

section
set_option maxRecDepth 100000
set_option maxHeartbeats 4000000
namespace KK
open PySem PySem.Spec PyProof.Rows L2 Y
/-! the second family: ties by all pairs, webs of a few places -/
abbrev yWeb2 (K : PySem.W.Frag) : Y.CT (List Str × List (Str × Str) × List (Str × Int)) := ⟨true, .sh (yParts2 K), fun as P _ => ∃ xs m, as = [.sh (tScr K) xs, .sh tInt m] ∧ (xs.length ≤ 1000 ∧ 1 ≤ m ∧ m ≤ 20) ∧ ∀ r, (PtsZ r ∧ r.2.2.map (·.1) = r.1 ∧ (r.1.length : Int) ≤ m) → ∀ os, P os r⟩
structure TsI (ns : List Str) (i j : Nat) (ts : List (Str × Str)) : Prop where
  ok : ∀ p ∈ ts, TieOk ns p
  nd : (ts.map ordP).Nodup
  at_ : ∀ p ∈ ts, ∃ a b : Nat, b < a ∧ (a < i ∨ (a = i ∧ b < j)) ∧ ∃ x y, ns[a]? = some x ∧ ns[b]? = some y ∧ ordP p = ordP (x, y)
  ln : 2 * ts.length + i ≤ i * i + 2 * j
theorem TsI.up {ns : List Str} {i j : Nat} {ts : List (Str × Str)} (h : TsI ns i j ts) : TsI ns i (j + 1) ts := ⟨h.ok, h.nd, fun p hp => by
  obtain ⟨a, b, h1, h2, h3⟩ := h.at_ p hp
  exact ⟨a, b, h1, by omega, h3⟩, by have := h.ln; omega⟩
theorem TsI.next {ns : List Str} {i : Nat} {ts : List (Str × Str)} (h : TsI ns i i ts) : TsI ns (i + 1) 0 ts := ⟨h.ok, h.nd, fun p hp => by
  obtain ⟨a, b, h1, h2, h3⟩ := h.at_ p hp
  exact ⟨a, b, h1, by omega, h3⟩, by
  have := h.ln
  have : (i + 1) * (i + 1) = i * i + 2 * i + 1 := by rw [Nat.add_mul, Nat.mul_add]; omega
  omega⟩
theorem TsI.add {ns : List Str} {i j : Nat} {ts : List (Str × Str)} {x y : Str} {p : Str × Str} (h : TsI ns i j ts) (nd : ns.Nodup) (hx : ns[i]? = some x) (hy : ns[j]? = some y) (hj : j < i) (e : p = (x, y) ∨ p = (y, x)) : TsI ns i (j + 1) (ts ++ [p]) := by
  have ep : ordP p = ordP (x, y) := by
    rcases e with e | e <;> rw [e]
    exact ordP_swap x y
  have ne : x ≠ y := fun q => by
    subst q
    have := (List.getElem?_inj (List.getElem?_eq_some_iff.mp hx).1 nd).mp (hx.trans hy.symm)
    omega
  have to : TieOk ns p := by
    rcases e with e | e <;> rw [e]
    · exact ⟨List.mem_of_getElem? hx, List.mem_of_getElem? hy, ne⟩
    · exact ⟨List.mem_of_getElem? hy, List.mem_of_getElem? hx, fun q => ne q.symm⟩
  refine ⟨fun q hq => ?_, ?_, fun q hq => ?_, ?_⟩
  · rcases List.mem_append.mp hq with hq | hq
    · exact h.ok q hq
    · rw [List.mem_singleton] at hq
      rw [hq]
      exact to
  · rw [List.map_append, List.nodup_append]
    refine ⟨h.nd, List.nodup_cons.mpr ⟨by simp, List.nodup_nil⟩, fun a ha b hb eab => ?_⟩
    obtain ⟨q, hq, rfl⟩ := List.mem_map.mp ha
    have hb : b = ordP p := by simpa using hb
    obtain ⟨a2, b2, h1, h2, x2, y2, g1, g2, g3⟩ := h.at_ q hq
    rw [hb, ep, g3] at eab
    exact ordP_ne nd g1 g2 hx hy h1 hj (by omega) eab
  · rcases List.mem_append.mp hq with hq | hq
    · obtain ⟨a, b, h1, h2, h3⟩ := h.at_ q hq
      exact ⟨a, b, h1, by omega, h3⟩
    · rw [List.mem_singleton] at hq
      exact ⟨i, j, hj, by omega, x, y, hx, hy, by rw [hq]; exact ep⟩
  · have := h.ln
    rw [List.length_append]
    show 2 * (ts.length + 1) + i ≤ i * i + 2 * (j + 1)
    omega
section
variable {P : Program} {w : World} {K : PySem.W.Frag} {mg : Str → Option Value} {base : Heap} {C CS CW CC : Addr}
abbrev NYLties2 : List Str := ["_law_stream_here", "_law_places_here", "_law_part", "_law_ties_here", "_law_a", "_law_b"]
theorem scYLties2 : FnScope NYLties2 ["_law_stream_here", "_law_places_here", "_law_part"] (defScope s_law_ties) := ⟨rfl, rfl, rfl, by decide +kernel, rfl, by decide +kernel, by decide +kernel⟩
theorem y_ties2 (T : Blt mg) (F : Has K mg "_law_ties" s_law_ties) (YDRAW : C8.Cal P w K mg base 1 "_law_draw" (Y.spZ yDraw) []) : C8.Cal P w K mg base 2 "_law_ties" (Y.spZ (yTies2 K)) [] := by
  refine calF F (fun f fd F => F.binds (ps := ["_law_stream_here", "_law_places_here", "_law_part"]) fun _ _ _ _ _ _ us hl => match us, hl with | [_, _, _], _ => rfl) scYLties2 (fun vs H Q E h => zlen (fun as P XP hc => by obtain ⟨_, _, rfl, _⟩ := hc; rfl) h) (fun f cdv A outer s H vs Q E hr h => ?_)
  have hu := hu_of hr
  refine ⟨_, (pss_cons (ps_set (i := 3) scYLties2.nd rfl (Or.inl rfl) (pe_lst pa_nil))
      (pss_cons (ps_for PassesOwn.never rfl (pi_range1 rfl T.b_range (pa_cons (pe_callB call_len (by rfl) T.b_len PySem.boot_len (pa_cons (pv 1) pa_nil)) pa_nil)) (pg_name (i := 4) scYLties2.nd rfl (Or.inl rfl))
        (pss_one (ps_for PassesOwn.never rfl (pi_range1 rfl T.b_range (pa_cons (pv 4) pa_nil)) (pg_name (i := 5) scYLties2.nd rfl (Or.inl rfl))
        (pss_one (ps_if (pt_cmpR op_eq (C8.pe_c YDRAW hr (by decide) rfl (pa_cons (pv 0) (pa_cons (pv 2) pa_nil))) pe_int (nomark _)) (pss_one (ps_if (pt_cmpR op_eq (C8.pe_c YDRAW hr (by decide) rfl (pa_cons (pv 0) (pa_cons pe_int pa_nil))) pe_int (nomark _)) (pss_one (ps_expr (pe_bm PySem.F.plainAttrs_list PySem.F.slot_list_append PySem.F.type_list_append mt_append (pv 3) (pa_cons (pe_tup (pa_cons (pe_ix ix_list (pv 1) (pv 4) (fun _ _ => rfl)) (pa_cons (pe_ix ix_list (pv 1) (pv 5) (fun _ _ => rfl)) pa_nil))) pa_nil)))) (pss_one (ps_expr (pe_bm PySem.F.plainAttrs_list PySem.F.slot_list_append PySem.F.type_list_append mt_append (pv 3) (pa_cons (pe_tup (pa_cons (pe_ix ix_list (pv 1) (pv 5) (fun _ _ => rfl)) (pa_cons (pe_ix ix_list (pv 1) (pv 4) (fun _ _ => rfl)) pa_nil))) pa_nil)))))) pss_nil)))))
      (pss_one (ps_ret (pv 3))))), zrun h ?_⟩
  rintro as P XP ⟨ns, pt, rfl, ⟨n40, nd, t1, t2⟩, hp⟩ hl
  obtain ⟨p0, p1, p2, rfl⟩ := len3 hl
  refine ⟨3, rfl, by decide, ?_⟩
  refine blk_seq (blk_setO (O := oL K (tPr K)) (ev_list (K := K) (t := tPr K) (es_nil ⟨Nat.le_of_ble_eq_true rfl, rfl, ?_⟩)))
  refine blk_seq (blk_for (vs := [4]) (ei_range1 (ev_cb rc_lenL (ev_var (t := tLs K tStr) (x := ns) rfl ⟨fun h => (nomatch h), ⟨by omega, by omega⟩, (fun i G' => ∃ ts s5, TsI ns i 0 ts ∧ G' = ⟨true, [.sh tStm (), .sh (tLs K tStr) ns, .sh tInt pt, .ow (oL K (tPr K)) ts, .un, s5], [some p0, some p1, some p2]⟩), ⟨[], _, ⟨fun p h => absurd h (by simp), List.nodup_nil, fun p h => absurd h (by simp), by simp⟩, rfl⟩, ?_, ?_⟩))))
  · rintro i k _ hk ⟨ts, s5, hI, rfl⟩
    obtain ⟨rfl, hi⟩ := rangeZ_get hk
    have hi : i < ns.length := by omega
    have gi : ns[i]? = some ns[i] := List.getElem?_eq_getElem hi
    refine tg_name (by decide) (free_of rfl) (blk_wipe [4, 5] (blk_for (vs := [5]) (ei_range1 (ev_var rfl ⟨⟨by omega, by omega⟩, (fun j G' => ∃ ts s5, TsI ns i j ts ∧ G' = ⟨true, [.sh tStm (), .sh (tLs K tStr) ns, .sh tInt pt, .ow (oL K (tPr K)) ts, .sh tInt (0 + (i : Int)), s5], [some p0, some p1, some p2]⟩), ⟨ts, _, hI, rfl⟩, ?_, ?_⟩))))
    · rintro j k _ hk ⟨ts, s5, hI, rfl⟩
      obtain ⟨rfl, hj⟩ := rangeZ_get hk
      have hj : j < i := by omega
      have gj : ns[j]? = some ns[j] := List.getElem?_eq_getElem (by omega)
      have tb : ts.length ≤ 999 := by
        have := hI.ln
        have : i * i ≤ 40 * 40 := Nat.mul_le_mul (by omega) (by omega)
        omega
      refine tg_name (by decide) (free_of rfl) (blk_wipe [5] (blk_if (et_b (ev_op ro_eqI (ev_draw rfl (ev_var rfl ⟨⟨by omega, t2⟩, fun r a1 b1 => ev_c (t := tInt) (fun _ _ => rfl) ⟨fun _ => ?_, fun _ => blk_next ⟨ts, _, hI.up, rfl⟩⟩⟩))))))
      refine blk_if (et_b (ev_op ro_eqI (ev_draw rfl (ev_c (t := tInt) (fun _ _ => rfl) ⟨⟨by decide, by decide⟩, fun r2 a2 b2 => ev_c (t := tInt) (fun _ _ => rfl) ⟨fun _ => ?_, fun _ => ?_⟩⟩))))
      · exact blk_append (pt_var (i := 3) rfl (by decide)) (ev_t2 (ev_op ro_ixL (ev_var (t := tLs K tStr) (x := ns) rfl (ev_var rfl ⟨ns[i], at_ofN (j := i) (by omega) gi, ev_op ro_ixL (ev_var (t := tLs K tStr) (x := ns) rfl (ev_var rfl ⟨ns[j], at_ofN (j := j) (by omega) gj, fits40 (by omega), _, _, hI.add nd gi gj hj (.inl rfl), rfl⟩))⟩))))
      · exact blk_append (pt_var (i := 3) rfl (by decide)) (ev_t2 (ev_op ro_ixL (ev_var (t := tLs K tStr) (x := ns) rfl (ev_var rfl ⟨ns[j], at_ofN (j := j) (by omega) gj, ev_op ro_ixL (ev_var (t := tLs K tStr) (x := ns) rfl (ev_var rfl ⟨ns[i], at_ofN (j := i) (by omega) gi, fits40 (by omega), _, _, hI.add nd gi gj hj (.inr rfl), rfl⟩))⟩))))
    · rintro _ ⟨ts, s5, hI, rfl⟩
      rw [rangeZ_len] at hI
      rw [show ((0 + (i : Int)) - 0).toNat = i by omega] at hI
      exact ⟨ts, _, hI.next, rfl⟩
  rintro _ ⟨ts, s5, hI, rfl⟩
  rw [rangeZ_len] at hI
  rw [show ((ns.length : Int) - 0).toNat = ns.length by omega] at hI
  have := hI.ln
  exact blk_ret (ev_give (i := 3) rfl (fin0 [_, _, _] _ (hp ts ⟨hI.ok, hI.nd, by omega⟩)))
abbrev NYLweb2 : List Str := ["_law_script", "_law_most", "_law_first", "_law_many", "_law_part", "_law_kind", "_law_places_here", "_law_ties_here"]
theorem scYLweb2 : FnScope NYLweb2 ["_law_script", "_law_most"] (defScope s_law_web) := ⟨rfl, rfl, rfl, by decide +kernel, rfl, by decide +kernel, by decide +kernel⟩
theorem y_web2 (T : Blt mg) (F : Has K mg "_law_web" s_law_web) (YSTREAM : C8.Cal P w K mg base 1 "_law_stream" (Y.spZ (yStream K)) []) (YDRAW : C8.Cal P w K mg base 1 "_law_draw" (Y.spZ yDraw) []) (YPLACES2 : C8.Cal P w K mg base 3 "_law_places" (Y.spZ (yPlaces2 K)) []) (YTIES2 : C8.Cal P w K mg base 2 "_law_ties" (Y.spZ (yTies2 K)) []) (YPRICES2 : C8.Cal P w K mg base 2 "_law_prices" (Y.spZ (yPrices2 K)) []) : C8.Cal P w K mg base 4 "_law_web" (Y.spZ (yWeb2 K)) [] := by
  refine calF F (fun f fd F => F.binds (ps := ["_law_script", "_law_most"]) fun _ _ _ _ _ _ us hl => match us, hl with | [_, _], _ => rfl) scYLweb2 (fun vs H Q E h => zlen (fun as P XP hc => by obtain ⟨_, _, rfl, _⟩ := hc; rfl) h) (fun f cdv A outer s H vs Q E hr h => ?_)
  have hu := hu_of hr
  refine ⟨_, (pss_cons (ps_set (i := 2) scYLweb2.nd rfl (Or.inl rfl) (C8.pe_c YSTREAM hr (by decide) rfl (pa_cons (pv 0) (pa_cons pe_int pa_nil))))
      (pss_cons (ps_set (i := 3) scYLweb2.nd rfl (Or.inl rfl) (pe_op op_add pe_int (C8.pe_c YDRAW hr (by decide) rfl (pa_cons (pv 2) (pa_cons (pv 1) pa_nil)))))
      (pss_cons (ps_set (i := 4) scYLweb2.nd rfl (Or.inl rfl) (pe_op op_add pe_int (C8.pe_c YDRAW hr (by decide) rfl (pa_cons (pv 2) (pa_cons pe_int pa_nil)))))
      (pss_cons (ps_set (i := 5) scYLweb2.nd rfl (Or.inl rfl) (C8.pe_c YDRAW hr (by decide) rfl (pa_cons (pv 2) (pa_cons pe_int pa_nil))))
      (pss_cons (ps_set (i := 6) scYLweb2.nd rfl (Or.inl rfl) (C8.pe_c YPLACES2 hr (by decide) rfl (pa_cons (C8.pe_c YSTREAM hr (by decide) rfl (pa_cons (pv 0) (pa_cons pe_int pa_nil))) (pa_cons (pv 3) pa_nil))))
      (pss_cons (ps_set (i := 7) scYLweb2.nd rfl (Or.inl rfl) (C8.pe_c YTIES2 hr (by decide) rfl (pa_cons (C8.pe_c YSTREAM hr (by decide) rfl (pa_cons (pv 0) (pa_cons pe_int pa_nil))) (pa_cons (pv 6) (pa_cons (pv 4) pa_nil)))))
      (pss_one (ps_ret (pe_lst (pa_cons (pv 6) (pa_cons (pv 7) (pa_cons (C8.pe_c YPRICES2 hr (by decide) rfl (pa_cons (C8.pe_c YSTREAM hr (by decide) rfl (pa_cons (pv 0) (pa_cons pe_int pa_nil))) (pa_cons (pv 6) (pa_cons (pv 5) pa_nil)))) pa_nil)))))))))))), zrun h ?_⟩
  rintro as P XP ⟨xs, m, rfl, ⟨hxs, m1, m2⟩, hp⟩ hl
  obtain ⟨p0, p1, rfl⟩ := len2 hl
  refine ⟨6, rfl, by decide, ?_⟩
  have big : m < 2 ^ 200 := by
    have : (20 : Int) < 2 ^ 200 := by decide
    omega
  refine blk_seq (blk_set (ev_call0 (ea_cons (ev_var rfl (ea_cons (ev_c (t := tInt) (fun _ _ => rfl) (ea_nil ⟨fun h => (nomatch h), allc trivial (all1 trivial), xs, 0, rfl, ⟨hxs, by decide, by decide⟩, fun _ => ⟨rfl, ?_⟩⟩)))))))
  refine blk_seq (blk_set (ev_op ro_I0 (ev_c (t := tInt) (fun _ _ => rfl) (ev_draw rfl (ev_var rfl ⟨⟨by omega, big⟩, fun r1 a1 b1 => ⟨rfl, ?_⟩⟩)))))
  have b1 : r1 < m := b1
  refine blk_seq (blk_set (ev_op ro_I0 (ev_c (t := tInt) (fun _ _ => rfl) (ev_draw rfl (ev_c (t := tInt) (fun _ _ => rfl) ⟨⟨by decide, by decide⟩, fun r2 a2 b2 => ⟨rfl, ?_⟩⟩)))))
  have b2 : r2 < 4 := b2
  refine blk_seq (blk_set (ev_draw rfl (ev_c (t := tInt) (fun _ _ => rfl) ⟨⟨by decide, by decide⟩, fun r3 a3 b3 => ⟨rfl, ?_⟩⟩)))
  refine blk_seq (blk_setO (O := oL K tStr) (ev_call0 (ea_cons (ev_call0 (ea_cons (ev_var rfl (ea_cons (ev_c (t := tInt) (fun _ _ => rfl) (ea_nil ⟨fun h => (nomatch h), allc trivial (all1 trivial), xs, 1, rfl, ⟨hxs, by decide, by decide⟩, fun _ => ?_⟩)))))))))
  refine ea_cons (ev_var rfl (ea_nil ⟨fun h => (nomatch h), allc trivial (all1 trivial), 1 + r1, rfl, ⟨by omega, by omega⟩, fun ns ⟨hl, hnd, hok⟩ _ => ⟨rfl, blk_frz 6 rfl ?_⟩⟩))
  refine blk_seq (blk_setO (O := oL K (tPr K)) (ev_call0 (ea_cons (ev_call0 (ea_cons (ev_var rfl (ea_cons (ev_c (t := tInt) (fun _ _ => rfl) (ea_nil ⟨fun h => (nomatch h), allc trivial (all1 trivial), xs, 2, rfl, ⟨hxs, by decide, by decide⟩, fun _ => ?_⟩)))))))))
  refine ea_cons (ev_var (t := tLs K tStr) (x := ns) rfl (ea_cons (ev_var rfl (ea_nil ⟨fun _ => rfl, allc trivial (allc trivial (all1 trivial)), ns, 1 + r2, rfl, ⟨by omega, hnd, by omega, ?_⟩, fun ts ⟨hto, htn, htl⟩ _ => ⟨rfl, blk_frz 7 rfl ?_⟩⟩))))
  · have : (5 : Int) < 2 ^ 200 := by decide
    omega
  refine blk_ret (ev_l3 (ev_var (t := tLs K tStr) (x := ns) rfl (ev_var (t := tLs K (tPr K)) (x := ts) rfl (EvR.share (O := oD kS tInt) (ev_call0 (ea_cons (ev_call0 (ea_cons (ev_var rfl (ea_cons (ev_c (t := tInt) (fun _ _ => rfl) (ea_nil ⟨fun h => (nomatch h), allc trivial (all1 trivial), xs, 3, rfl, ⟨hxs, by decide, by decide⟩, fun _ => ?_⟩))))))))))))
  refine ea_cons (ev_var (t := tLs K tStr) (x := ns) rfl (ea_cons (ev_var rfl (ea_nil ⟨fun _ => rfl, allc trivial (allc trivial (all1 trivial)), ns, r3, rfl, ⟨by omega, hnd⟩, fun ps ⟨hk, hpo⟩ _ => ?_⟩))))
  have l20 : ns.length ≤ 20 := by omega
  have : ns.length * ns.length ≤ 20 * 20 := Nat.mul_le_mul l20 l20
  refine fin0 [_, _] _ (hp (ns, ts, ps) ⟨⟨⟨by show 1 ≤ ns.length; omega, by show ns.length ≤ 40; omega, hnd, hok⟩, ⟨hto, htn, by show ts.length ≤ 400; omega⟩, ?_, hpo⟩, hk, ?_⟩)
  · show (ps.map (·.1)).Perm ns
    rw [hk]
  · show (ns.length : Int) ≤ m
    omega
end
end KK
end

section
set_option maxRecDepth 100000
set_option maxHeartbeats 4000000
namespace KK
open PySem PySem.Spec PyProof.Rows L2 Y
/-! the second family: all rows, sums, all answers -/
def rowsL (t : Nat) : Nat → List (List Int)
  | 0 => [[]]
  | n + 1 => (rowsL t n).flatMap fun r => (List.range t).map fun v : Nat => r ++ [(v : Int)]
theorem flat_len {α β : Type} {f : α → List β} {m : Nat} : ∀ {xs : List α}, (∀ x ∈ xs, (f x).length = m) → (xs.flatMap f).length = xs.length * m
  | [], _ => by simp
  | x :: xs, h => by
    rw [List.flatMap_cons, List.length_append, h x (by simp), flat_len fun y hy => h y (List.mem_cons_of_mem _ hy), List.length_cons, Nat.add_mul]
    omega
theorem rowsL_len (t : Nat) : ∀ n, (rowsL t n).length = t ^ n
  | 0 => rfl
  | n + 1 => by
    show ((rowsL t n).flatMap _).length = _
    rw [flat_len (m := t) fun r _ => by rw [List.length_map, List.length_range], rowsL_len t n]
    rfl
theorem rowsL_in {t : Nat} : ∀ {n : Nat} {r : List Int}, r ∈ rowsL t n → r.length = n ∧ ∀ v ∈ r, 0 ≤ v ∧ v < t
  | 0, r, h => by
    have h : r = [] := by simpa [rowsL] using h
    subst h
    exact ⟨rfl, fun v h => absurd h (by simp)⟩
  | n + 1, r, h => by
    obtain ⟨q, hq, h⟩ := List.mem_flatMap.mp h
    obtain ⟨v, hv, rfl⟩ := List.mem_map.mp h
    obtain ⟨h1, h2⟩ := rowsL_in hq
    have hv := List.mem_range.mp hv
    refine ⟨by rw [List.length_append, h1]; rfl, fun u hu => ?_⟩
    rcases List.mem_append.mp hu with hu | hu
    · exact h2 u hu
    · rw [List.mem_singleton] at hu
      omega
def answersL (ns : List Str) (ts : List (Str × Str)) : List (List (Str × Int)) := ((rowsL 3 ns.length).map fun r => ns.zip r).filter (ansK ns ts)
abbrev yRows2 (K : PySem.W.Frag) : Y.CT (List (List Int)) := ⟨true, .sh (tLs K (tLs K tInt)), fun as P _ => ∃ n t : Nat, as = [.sh tInt (n : Int), .sh tInt (t : Int)] ∧ (t ^ n ≤ 1000 ∧ 1 ≤ t ∧ t ≤ 9 ∧ n ≤ 40) ∧ ∀ os, P os (rowsL t n)⟩
abbrev yAnswers2 (K : PySem.W.Frag) : Y.CT (List (List (Str × Int))) := ⟨true, .sh (tLs K (tDk kS tInt)), fun as P _ => ∃ ns ts, as = [.sh (tLs K tStr) ns, .sh (tLs K (tPr K)) ts] ∧ (ns.length ≤ 6 ∧ ns.Nodup ∧ ∀ e ∈ ts, e.1 ∈ ns ∧ e.2 ∈ ns) ∧ ∀ os, P os (answersL ns ts)⟩
section
variable {P : Program} {w : World} {K : PySem.W.Frag} {mg : Str → Option Value} {base : Heap} {C CS CW CC : Addr}
abbrev NYLrows2 : List Str := ["_law_many", "_law_top", "_law_rows_here", "_law_k", "_law_longer", "_law_row", "_law_value"]
theorem scYLrows2 : FnScope NYLrows2 ["_law_many", "_law_top"] (defScope s_law_rows) := ⟨rfl, rfl, rfl, by decide +kernel, rfl, by decide +kernel, by decide +kernel⟩
theorem y_rows2 (T : Blt mg) (F : Has K mg "_law_rows" s_law_rows) : C8.Cal P w K mg base 1 "_law_rows" (Y.spZ (yRows2 K)) [] := by
  refine calF F (fun f fd F => F.binds (ps := ["_law_many", "_law_top"]) fun _ _ _ _ _ _ us hl => match us, hl with | [_, _], _ => rfl) scYLrows2 (fun vs H Q E h => zlen (fun as P XP hc => by obtain ⟨_, _, rfl, _⟩ := hc; rfl) h) (fun f cdv A outer s H vs Q E hr h => ?_)
  have hu := hu_of hr
  refine ⟨_, (pss_cons (ps_set (i := 2) scYLrows2.nd rfl (Or.inl rfl) (pe_lst (pa_cons (pe_lst pa_nil) pa_nil)))
      (pss_cons (ps_for PassesOwn.never rfl (pi_range1 rfl T.b_range (pa_cons (pv 0) pa_nil)) (pg_name (i := 3) scYLrows2.nd rfl (Or.inl rfl))
        (pss_cons (ps_set (i := 4) scYLrows2.nd rfl (Or.inl rfl) (pe_lst pa_nil))
      (pss_cons (ps_for PassesOwn.never rfl (pi_list (pv 2)) (pg_name (i := 5) scYLrows2.nd rfl (Or.inl rfl))
        (pss_one (ps_for PassesOwn.never rfl (pi_range1 rfl T.b_range (pa_cons (pv 1) pa_nil)) (pg_name (i := 6) scYLrows2.nd rfl (Or.inl rfl))
        (pss_one (ps_expr (pe_bm PySem.F.plainAttrs_list PySem.F.slot_list_append PySem.F.type_list_append mt_append (pv 4) (pa_cons (pe_op op_cat (pv 5) (pe_lst (pa_cons (pv 6) pa_nil))) pa_nil)))))))
      (pss_one (ps_set (i := 2) scYLrows2.nd rfl (Or.inl rfl) (pv 4))))))
      (pss_one (ps_ret (pv 2))))), zrun h ?_⟩
  rintro as P XP ⟨n, t, rfl, ⟨hb, t1, t9, n40⟩, hp⟩ hl
  obtain ⟨p0, p1, rfl⟩ := len2 hl
  refine ⟨5, rfl, by decide, ?_⟩
  refine blk_seq (blk_set (t := tLs K (tLs K tInt)) (EvR.share (O := oL K (tLs K tInt)) (ev_list (K := K) (t := tLs K tInt) (es_cons (EvR.share (O := oL K tInt) (ev_list (K := K) (t := tInt) (es_nil ⟨Nat.le_of_ble_eq_true rfl, es_nil ⟨Nat.le_of_ble_eq_true rfl, rfl, ?_⟩⟩)))))))
  refine blk_seq (blk_for (vs := [3]) (ei_range1 (ev_var rfl ⟨⟨by omega, by omega⟩, (fun i G' => ∃ s4 s5 s6, G' = ⟨true, [.sh tInt (n : Int), .sh tInt (t : Int), .sh (tLs K (tLs K tInt)) (rowsL t i), .un, s4, s5, s6], [some p0, some p1]⟩), ⟨_, _, _, rfl⟩, ?_, ?_⟩)))
  · rintro i k _ hk ⟨s4, s5, s6, rfl⟩
    obtain ⟨rfl, hi⟩ := rangeZ_get hk
    have hi : i < n := by omega
    have lb : (rowsL t i).length * t ≤ 1000 := by
      rw [rowsL_len]
      exact Nat.le_trans (Nat.pow_le_pow_right t1 (show i + 1 ≤ n by omega)) hb
    refine tg_name (by decide) (free_of rfl) (blk_wipe [3, 4, 5, 6] (blk_seq (blk_setO (O := oL K (tLs K tInt)) (ev_list (K := K) (t := tLs K tInt) (es_nil ⟨Nat.le_of_ble_eq_true rfl, rfl, ?_⟩)))))
    refine blk_seq (blk_for (vs := [5]) (ei_list (ev_var (t := tLs K (tLs K tInt)) (x := rowsL t i) rfl ⟨(fun j G' => ∃ ls s5 s6, ls = ((rowsL t i).take j).flatMap (fun r => (List.range t).map fun v : Nat => r ++ [(v : Int)]) ∧ G' = ⟨true, [.sh tInt (n : Int), .sh tInt (t : Int), .sh (tLs K (tLs K tInt)) (rowsL t i), .sh tInt (0 + (i : Int)), .ow (oL K (tLs K tInt)) ls, s5, s6], [some p0, some p1]⟩), ⟨[], _, _, rfl, rfl⟩, ?_, ?_⟩)))
    · rintro j r _ hr ⟨_, s5, s6, rfl, rfl⟩
      have hj : j < (rowsL t i).length := (List.getElem?_eq_some_iff.mp hr).1
      have rl := (rowsL_in (List.mem_of_getElem? hr)).1
      have fl : (((rowsL t i).take j).flatMap (fun r => (List.range t).map fun v : Nat => r ++ [(v : Int)])).length = j * t := by
        rw [flat_len (m := t) fun r _ => by rw [List.length_map, List.length_range], List.length_take, Nat.min_eq_left (by omega)]
      have jt : j * t + t ≤ 1000 := by
        have : (j + 1) * t ≤ (rowsL t i).length * t := Nat.mul_le_mul_right _ hj
        rw [Nat.add_mul] at this
        omega
      refine tg_name (by decide) (free_of rfl) (blk_wipe [5, 6] (blk_for (vs := [6]) (ei_range1 (ev_var rfl ⟨⟨by omega, by omega⟩, (fun l G' => ∃ ls s6, ls = ((rowsL t i).take j).flatMap (fun r => (List.range t).map fun v : Nat => r ++ [(v : Int)]) ++ ((List.range t).take l).map (fun v : Nat => r ++ [(v : Int)]) ∧ G' = ⟨true, [.sh tInt (n : Int), .sh tInt (t : Int), .sh (tLs K (tLs K tInt)) (rowsL t i), .sh tInt (0 + (i : Int)), .ow (oL K (tLs K tInt)) ls, .sh (tLs K tInt) r, s6], [some p0, some p1]⟩), ⟨_, _, (List.append_nil _).symm, rfl⟩, ?_, ?_⟩))))
      · rintro l k _ hk ⟨_, s6, rfl, rfl⟩
        obtain ⟨rfl, hl⟩ := rangeZ_get hk
        have hl : l < t := by omega
        refine tg_name (by decide) (free_of rfl) (blk_wipe [6] (blk_append (pt_var (i := 4) rfl (by decide)) (EvR.share (O := oL K tInt) (ev_op ro_cat (ev_var (t := tLs K tInt) (x := r) rfl (EvR.share (O := oL K tInt) (ev_list (K := K) (t := tInt) (es_cons (ev_var rfl (es_nil ⟨Nat.le_of_ble_eq_true rfl, Nat.le_of_lt (fits40 ?_), fits40 ?_, _, _, ?_, rfl⟩))))))))))
        · rw [rl]
          show i + 1 ≤ 1000
          omega
        · rw [List.length_append, fl, List.length_map, List.length_take, List.length_range]
          omega
        · rw [List.append_assoc, take_more (l := List.range t) (i := l) (x := l) (by rw [List.getElem?_range hl]), List.map_append]
          rw [show (0 : Int) + (l : Int) = (l : Int) by omega]
          rfl
      · rintro _ ⟨_, s6, rfl, rfl⟩
        refine ⟨_, _, _, ?_, rfl⟩
        rw [rangeZ_len, take_more hr, List.flatMap_append]
        rw [show ((t : Int) - 0).toNat = t by omega, show (List.range t).take t = List.range t from List.take_of_length_le (by rw [List.length_range]; exact Nat.le_refl _)]
        simp
    rintro _ ⟨_, s5, s6, rfl, rfl⟩
    rw [List.take_length]
    exact blk_frz 4 rfl (blk_set (ev_var (t := tLs K (tLs K tInt)) (x := rowsL t (i + 1)) rfl ⟨rfl, _, _, _, rfl⟩))
  rintro _ ⟨s4, s5, s6, rfl⟩
  rw [rangeZ_len, show ((n : Int) - 0).toNat = n by omega]
  exact blk_ret (ev_var rfl (fin0 [_, _] _ hp))
abbrev NYLanswers2 : List Str := ["_law_places_here", "_law_ties_here", "_law_found", "_law_row", "_law_x", "_law_k"]
theorem scYLanswers2 : FnScope NYLanswers2 ["_law_places_here", "_law_ties_here"] (defScope s_law_answers) := ⟨rfl, rfl, rfl, by decide +kernel, rfl, by decide +kernel, by decide +kernel⟩
theorem y_answers2 (T : Blt mg) (F : Has K mg "_law_answers" s_law_answers) (YROWS : C8.Cal P w K mg base 1 "_law_rows" (Y.spZ (yRows2 K)) []) (YLISANS : C8.Cal P w K mg base 2 "_law_is_answer" (Y.spZ (yLisans K)) []) : C8.Cal P w K mg base 3 "_law_answers" (Y.spZ (yAnswers2 K)) [] := by
  refine calF F (fun f fd F => F.binds (ps := ["_law_places_here", "_law_ties_here"]) fun _ _ _ _ _ _ us hl => match us, hl with | [_, _], _ => rfl) scYLanswers2 (fun vs H Q E h => zlen (fun as P XP hc => by obtain ⟨_, _, rfl, _⟩ := hc; rfl) h) (fun f cdv A outer s H vs Q E hr h => ?_)
  have hu := hu_of hr
  refine ⟨_, (pss_cons (ps_set (i := 2) scYLanswers2.nd rfl (Or.inl rfl) (pe_lst pa_nil))
      (pss_cons (ps_for PassesOwn.never rfl (pi_list (C8.pe_c YROWS hr (by decide) rfl (pa_cons (pe_callB call_len (by rfl) T.b_len PySem.boot_len (pa_cons (pv 0) pa_nil)) (pa_cons pe_int pa_nil)))) (pg_name (i := 3) scYLanswers2.nd rfl (Or.inl rfl))
        (pss_cons (ps_set (i := 4) scYLanswers2.nd rfl (Or.inl rfl) pe_dnewK)
      (pss_cons (ps_for PassesOwn.never rfl (pi_range1 rfl T.b_range (pa_cons (pe_callB call_len (by rfl) T.b_len PySem.boot_len (pa_cons (pv 0) pa_nil)) pa_nil)) (pg_name (i := 5) scYLanswers2.nd rfl (Or.inl rfl))
        (pss_one (ps_dput hu (pv 4) (pe_ix ix_list (pv 0) (pv 5) (fun _ _ => rfl)) (pe_ix ix_list (pv 3) (pv 5) (fun _ _ => rfl)) rfl)))
      (pss_one (ps_if (pt_val (C8.pe_c YLISANS hr (by decide) rfl (pa_cons (pv 4) (pa_cons (pv 0) (pa_cons (pv 1) pa_nil))))) (pss_one (ps_expr (pe_bm PySem.F.plainAttrs_list PySem.F.slot_list_append PySem.F.type_list_append mt_append (pv 2) (pa_cons (pv 4) pa_nil)))) pss_nil)))))
      (pss_one (ps_ret (pv 2))))), zrun h ?_⟩
  rintro as P XP ⟨ns, ts, rfl, ⟨n6, nd, ht⟩, hp⟩ hl
  obtain ⟨p0, p1, rfl⟩ := len2 hl
  refine ⟨4, rfl, by decide, ?_⟩
  have pw : 3 ^ ns.length ≤ 1000 := Nat.le_trans (Nat.pow_le_pow_right (by decide) n6) (by decide)
  refine blk_seq (blk_setO (O := oL K (tDk kS tInt)) (ev_list (K := K) (t := tDk kS tInt) (es_nil ⟨Nat.le_of_ble_eq_true rfl, rfl, ?_⟩)))
  refine blk_seq (blk_for (vs := [3]) (ei_list (ev_call0 (ea_cons (ev_cb rc_lenL (ev_var (t := tLs K tStr) (x := ns) rfl ⟨fun h => (nomatch h), ea_cons (ev_c (t := tInt) (fun _ _ => rfl) (ea_nil ⟨fun _ => rfl, allc trivial (all1 trivial), ns.length, 3, rfl, ⟨pw, by decide, by decide, by omega⟩, fun _ => ?_⟩))⟩))))))
  refine ⟨(fun i G' => ∃ ls s3 s4 s5, ls = (((rowsL 3 ns.length).take i).map fun r => ns.zip r).filter (ansK ns ts) ∧ G' = ⟨true, [.sh (tLs K tStr) ns, .sh (tLs K (tPr K)) ts, .ow (oL K (tDk kS tInt)) ls, s3, s4, s5], [some p0, some p1]⟩), ⟨[], _, _, _, rfl, rfl⟩, ?_, ?_⟩
  · rintro i r _ hr ⟨_, s3, s4, s5, rfl, rfl⟩
    have rl := (rowsL_in (List.mem_of_getElem? hr)).1
    have hi : i < (rowsL 3 ns.length).length := (List.getElem?_eq_some_iff.mp hr).1
    rw [rowsL_len] at hi
    refine tg_name (by decide) (free_of rfl) (blk_wipe [3, 4, 5] (blk_seq (blk_setO (ev_dnew kS tInt ⟨rfl, ?_⟩))))
    refine blk_seq (blk_for (vs := [5]) (ei_range1 (ev_cb rc_lenL (ev_var (t := tLs K tStr) (x := ns) rfl ⟨fun h => (nomatch h), ⟨by omega, by omega⟩, (fun j G' => ∃ d s5, d = (ns.zip r).take j ∧ G' = ⟨true, [.sh (tLs K tStr) ns, .sh (tLs K (tPr K)) ts, .ow (oL K (tDk kS tInt)) ((((rowsL 3 ns.length).take i).map fun r => ns.zip r).filter (ansK ns ts)), .sh (tLs K tInt) r, .ow (oD kS tInt) d, s5], [some p0, some p1]⟩), ⟨[], _, rfl, rfl⟩, ?_, ?_⟩))))
    · rintro j k _ hk ⟨_, s5, rfl, rfl⟩
      obtain ⟨rfl, hj⟩ := rangeZ_get hk
      have hj : j < ns.length := by omega
      have g1 : ns[j]? = some ns[j] := List.getElem?_eq_getElem hj
      have g2 : r[j]? = some (r[j]'(by omega)) := List.getElem?_eq_getElem _
      have gz : (ns.zip r)[j]? = some (ns[j], r[j]'(by omega)) := by
        rw [List.getElem?_zip_eq_some]
        exact ⟨g1, g2⟩
      refine tg_name (by decide) (free_of rfl) (blk_wipe [5] (blk_dput kyS (pt_var (i := 4) rfl (by decide)) (ev_op ro_ixL (ev_var (t := tLs K tInt) (x := r) rfl (ev_var rfl ⟨_, at_ofN (j := j) (by omega) g2, ev_op ro_ixL (ev_var (t := tLs K tStr) (x := ns) rfl (ev_var rfl ⟨_, at_ofN (j := j) (by omega) g1, fits40 ?_, _, _, ?_, rfl⟩))⟩)))))
      · rw [List.length_take, List.length_zip]; omega
      · rw [putZ_new, take_more gz]
        rw [show ((ns.zip r).take j).map (·.1) = ns.take j by rw [List.map_take, List.map_fst_zip (by omega)]]
        exact not_taken nd g1
    rintro _ ⟨_, s5, rfl, rfl⟩
    refine blk_frz 4 rfl ?_
    have e0 : (ns.zip r).take (rangeZ 0 (ns.length : Int)).length = ns.zip r := List.take_of_length_le (by rw [rangeZ_len, List.length_zip]; omega)
    rw [e0]
    have tm := take_more hr
    refine blk_if (et_b (ev_call0 (ea_cons (ev_var (t := tDk kS tInt) (x := ns.zip r) rfl (ea_cons (ev_var (t := tLs K tStr) (x := ns) rfl (ea_cons (ev_var (t := tLs K (tPr K)) (x := ts) rfl (ea_nil ⟨fun _ => rfl, allc trivial (allc trivial (all1 trivial)), ns.zip r, ns, ts, rfl, ht, fun _ => ⟨fun h => ?_, fun h => blk_next ⟨_, _, _, _, ?_, rfl⟩⟩⟩)))))))))
    · refine blk_append (pt_var (i := 2) rfl (by decide)) (ev_var (t := tDk kS tInt) (x := ns.zip r) rfl ⟨fits40 ?_, _, _, _, _, ?_, rfl⟩)
      · have := List.length_filter_le (ansK ns ts) (((rowsL 3 ns.length).take i).map fun r => ns.zip r)
        rw [List.length_map, List.length_take] at this
        omega
      · rw [tm, List.map_append, List.filter_append]
        simp [h]
    · rw [tm, List.map_append, List.filter_append]
      simp [h]
  rintro _ ⟨_, s3, s4, s5, rfl, rfl⟩
  rw [List.take_length]
  exact blk_frz 2 rfl (blk_ret (ev_var (t := tLs K (tDk kS tInt)) (x := answersL ns ts) rfl (fin0 [_, _] _ hp)))
end
end KK
end

section
set_option maxRecDepth 100000
set_option maxHeartbeats 4000000
namespace KK
open PySem PySem.Spec PyProof.Rows L2 Y
/-! the law's look for a part of halves with two sides -/
structure ShiftR (ns : List Str) (ts : List (Str × Str)) (d : List (Str × Int)) (s : Str → Int) : Prop where
  r : ∀ x ∈ ns, gD d x = 1 → 0 ≤ s x ∧ s x ≤ 2
  m : ∃ x ∈ ns, gD d x = 1 ∧ 0 < s x
  t : ∀ e ∈ ts, gD d e.1 = 1 → gD d e.2 = 1 → s e.1 + s e.2 = 0 ∨ s e.1 + s e.2 = 3
def hvL (d : List (Str × Int)) : List Str := (d.map (·.1)).filter fun x => decide (gD d x = 1)
def innL (ts : List (Str × Str)) (d : List (Str × Int)) : List (Str × Str) := ts.filter fun e => decide (gD d e.1 = 1) && decide (gD d e.2 = 1)
def badT (sh : List (Str × Int)) (e : Str × Str) : Bool := !decide (gD sh e.1 + gD sh e.2 ∈ ([0, 3] : List Int))
def goodR (ts : List (Str × Str)) (d : List (Str × Int)) (r : List Int) : Bool := decide (0 < (r.filter fun v => decide (0 < v)).length) && ((innL ts d).filter (badT ((hvL d).zip r))).isEmpty
abbrev yLoneP (K : PySem.W.Frag) : Y.CT (List Str) := ⟨true, .ow (oL K tStr), fun as P _ => ∃ d ns ts, as = [.sh (tDk kS tInt) d, .sh (tLs K tStr) ns, .sh (tLs K (tPr K)) ts] ∧ (ns.length ≤ 40 ∧ ts.length ≤ 400 ∧ (∀ e ∈ ts, TieOk ns e) ∧ AnsP ns ts d) ∧ ∀ ys, (ys.Perm ns ∧ Own.AscS ys) → ∀ os, P os (ys.filter (loneB d ts))⟩
abbrev yFlatP (K : PySem.W.Frag) : Y.CT Bool := ⟨true, .sh tBl, fun as P _ => ∃ d ns ts, as = [.sh (tDk kS tInt) d, .sh (tLs K (tPr K)) ts] ∧ (ns.Nodup ∧ ns.length ≤ 6 ∧ ts.length ≤ 400 ∧ (∀ e ∈ ts, TieOk ns e) ∧ AnsP ns ts d) ∧ ∀ b, (b = true ↔ ∃ s, ShiftR ns ts d s) → ∀ os, P os b⟩
section
variable {P : Program} {w : World} {K : PySem.W.Frag} {mg : Str → Option Value} {base : Heap} {C CS CW CC : Addr}
abbrev NYLloneplacesB : List Str := ["_law_x", "_law_places_here", "_law_ties_here", "_law_place"]
theorem scYLloneplacesB : FnScope NYLloneplacesB ["_law_x", "_law_places_here", "_law_ties_here"] (defScope s_law_lone_places) := ⟨rfl, rfl, rfl, by decide +kernel, rfl, by decide +kernel, by decide +kernel⟩
theorem y_lonep (T : Blt mg) (F : Has K mg "_law_lone_places" s_law_lone_places) (YLONE : C8.Cal P w K mg base 2 "_law_is_lone" (Y.spZ (yLone K)) []) : C8.Cal P w K mg base 3 "_law_lone_places" (Y.spZ (yLoneP K)) [] := by
  refine calF F (fun f fd F => F.binds (ps := ["_law_x", "_law_places_here", "_law_ties_here"]) fun _ _ _ _ _ _ us hl => match us, hl with | [_, _, _], _ => rfl) scYLloneplacesB (fun vs H Q E h => zlen (fun as P XP hc => by obtain ⟨_, _, _, rfl, _⟩ := hc; rfl) h) (fun f cdv A outer s H vs Q E hr h => ?_)
  have hu := hu_of hr
  refine ⟨_, (pss_one (ps_ret (pe_lc (own := [("_law_place", 3)]) (g := gName 3) rfl scYLloneplacesB.nd (pi_list (pe_callB Own.cr_sortS (by rfl) T.b_sorted (by decide +kernel) (pa_cons (pv 1) pa_nil))) (blkOk_by (own := [("_law_place", 3)]) (N := NYLloneplacesB) (sc := defScope s_law_lone_places) (by decide +kernel)) (fun _ _ _ _ _ => (pg_name (i := 3) scYLloneplacesB.nd rfl (Or.inl rfl))) (fun _ _ _ _ _ => pts_one (pt_val (C8.pe_c YLONE hr (by decide) rfl (pa_cons (pv 0) (pa_cons (pv 3) (pa_cons (pv 2) pa_nil)))))) (fun _ _ _ _ _ => (pv 3))))), zrun h ?_⟩
  rintro as P XP ⟨d, ns, ts, rfl, ⟨n40, tl, to, A⟩, hp⟩ hl
  obtain ⟨p0, p1, p2, rfl⟩ := len3 hl
  refine ⟨1, rfl, by decide, ?_⟩
  have nrn : ∀ x o, o ∈ nrL ts x → o ∈ ns := fun x o ho => by
    rcases nr_mem.mp ho with (h | ⟨h, _⟩) | ⟨h, _⟩
    · exact (to _ h).b
    · exact (to _ h).a
    · exact (to _ h).a
  refine blk_ret (ev_lc (K := K) (u := tStr) (vs := [3]) (ei_list (EvR.share (O := oL K tStr) (ev_cb rc_sortS (ev_var (t := tLs K tStr) (x := ns) rfl ⟨fun h => (nomatch h), fun ys py ay => ?_⟩)))))
  refine ⟨(fun i zs => zs = (ys.take i).filter (loneB d ts)), fits40 (by rw [py.length_eq]; omega), ?_, rfl, ?_, ?_⟩
  · intro i hi
    rw [List.mem_singleton] at hi; subst hi; exact free_of rfl
  · rintro i x zs hx rfl
    have xn := py.mem_iff.mp (List.mem_of_getElem? hx)
    refine tg_name (by decide) (free_of rfl) (et_b (ev_call0 (ea_cons (ev_var (t := tDk kS tInt) (x := d) rfl (ea_cons (ev_var rfl (ea_cons (ev_var (t := tLs K (tPr K)) (x := ts) rfl (ea_nil ⟨fun _ => rfl, allc trivial (allc trivial (all1 trivial)), d, x, ts, rfl, ⟨tl, (A.r x xn).1, fun o ho => (A.r o (nrn x o ho)).1⟩, fun _ => ⟨fun h => ev_var rfl ?_, fun h => ?_⟩⟩)))))))))
    · show _ = _
      rw [filter_snoc hx, if_pos h]
    · show _ = _
      rw [filter_snoc hx, if_neg (by rw [h]; decide), List.append_nil]
  · rintro zs rfl
    rw [List.take_length]
    exact fin0 [_, _, _] _ (hp ys ⟨py, ay⟩)
end
end KK
end

section
set_option maxRecDepth 100000
set_option maxHeartbeats 4000000
namespace KK
open PySem PySem.Spec PyProof.Rows L2 Y
theorem ans_in2 {z : WebZ} {p : List Str × List (Str × Str) × List (Str × Int)} {d : List (Str × Int)} (M : Mat z p) (hd : d ∈ answersL p.1 p.2.1) : AnsD z d := by
  obtain ⟨h1, h2⟩ := List.mem_filter.mp hd
  obtain ⟨r, hr, rfl⟩ := List.mem_map.mp h1
  have rl := (rowsL_in hr).1
  unfold ansK at h2
  rw [Bool.and_eq_true, Bool.and_eq_true] at h2
  obtain ⟨_, h3, h4⟩ := h2
  have h3 := List.all_eq_true.mp h3
  have h4 := List.all_eq_true.mp h4
  refine AnsP.ansD M ⟨?_, fun x hx => ?_, fun e he => of_decide_eq_true (h4 e he)⟩
  · rw [List.map_fst_zip (by omega)]
  · have := h3 x hx
    rw [Bool.and_eq_true, Bool.and_eq_true] at this
    exact ⟨has_look this.1, of_decide_eq_true this.2.1, of_decide_eq_true this.2.2⟩
theorem back_sum {z : WebZ} {d y : List (Str × Int)} : ((bprL z d).map fun e => e.2 * gD y e.1).sum = (z.ms.map fun x => bpr z d x * gD y x).sum := by
  unfold bprL atD
  rw [List.map_map]
  rfl
end KK
end

section
set_option maxRecDepth 100000
set_option maxHeartbeats 4000000
namespace KK
open PySem PySem.Spec PyProof.Rows L2 Y
theorem back_le {z : WebZ} {d : List (Str × Int)} (wz : WfZ z) (A : AnsD z d) {y : Str → Int} (y0 : ∀ x ∈ z.ms, 0 ≤ y x) (yt : ∀ e ∈ z.us, 2 ≤ y e.1 + y e.2) : (z.ms.map fun x => bpr z d x * gD d x).sum ≤ (z.ms.map fun x => bpr z d x * y x).sum := by
  have c1 := back_cost (d := d) wz (gD d)
  have c2 := back_cost (d := d) wz y
  have s1 : (z.ms.map fun x => 2 * (bpr z d x * gD d x)).sum = 2 * (z.ms.map fun x => bpr z d x * gD d x).sum := sum_mul 2 (fun x => bpr z d x * gD d x) z.ms
  have s2 : (z.ms.map fun x => 2 * (bpr z d x * y x)).sum = 2 * (z.ms.map fun x => bpr z d x * y x).sum := sum_mul 2 (fun x => bpr z d x * y x) z.ms
  have z0 : (z.ms.map fun x => if gD d x = 0 then 2 * gD d x else 0).sum = 0 := sum_zero fun x _ => by
    split
    · rename_i h
      rw [h]
      rfl
    · rfl
  have p0 : 0 ≤ (z.ms.map fun x => if gD d x = 0 then 2 * y x else 0).sum := by
    have := sum_le' (f := fun _ : Str => (0 : Int)) (g := fun x => if gD d x = 0 then 2 * y x else 0) (l := z.ms) fun x hx => by
      have := y0 x hx
      split <;> omega
    rw [sum_zero (f := fun _ : Str => (0 : Int)) fun _ _ => rfl] at this
    exact this
  have t1 : (z.us.map fun e => wT d e * (gD d e.1 + gD d e.2)).sum ≤ (z.us.map fun e => wT d e * (y e.1 + y e.2)).sum := sum_le' fun e he => by
    have := yt e he
    unfold wT
    split
    · rename_i h
      rw [h]
      omega
    · omega
  omega
theorem anyD_len (d : List (Str × Int)) : (anyD d).length = d.length := List.length_map _
theorem anyD_keys (d : List (Str × Int)) : (anyD d).map (·.1) = (d.map (·.1)).map (Sum.inr : Str → Key) := by
  unfold anyD
  rw [List.map_map, List.map_map]
  rfl
theorem look_putV {d : List (Key × V)} {k : Key} {v : V} (h : hasK d k = true) : lookK (putZ d k v) k = some v := by
  unfold putZ
  rw [if_pos h]
  induction d with
  | nil => cases h
  | cons e l ih =>
    rw [List.map_cons]
    unfold lookK
    by_cases c : e.1 = k
    · rw [if_pos c, List.find?_cons_of_pos (by exact decide_eq_true c)]
      rfl
    · rw [if_neg c, List.find?_cons_of_neg (by simpa using c)]
      refine ih ?_
      unfold hasK lookK at h
      rw [List.find?_cons_of_neg (by simpa using c)] at h
      exact h
section
variable {P : Program} {w : World} {K : PySem.W.Frag} {mg : Str → Option Value} {base : Heap} {C CS CW CC : Addr}
abbrev NYlaw : List Str := ["_law_script", "_law_places_here", "_law_ties_here", "_law_prices_here", "_law_stream_here", "_law_tidy", "_law_x", "_law_web_here", "_law_other", "_law_lone", "_law_answers_here", "_law_asked", "_law_passed", "_law_told", "_law_own", "_law_bad", "_law_y"]
theorem scYlaw : FnScope NYlaw ["_law_script"] (defScope s_law) := ⟨rfl, rfl, rfl, by decide +kernel, rfl, by decide +kernel, by decide +kernel⟩
theorem y_law44 (T : Blt mg) (F : Has K mg "law" s_law) (YSTREAM : C8.Cal P w K mg base 1 "_law_stream" (Y.spZ (yStream K)) []) (YDRAW : C8.Cal P w K mg base 1 "_law_draw" (Y.spZ yDraw) []) (YWEB2 : C8.Cal P w K mg base 4 "_law_web" (Y.spZ (yWeb2 K)) [])
    (CMAKE : C8.Mak P w K mg base 4 "Web" CW (spInit K CW) []) (YDRAWNA : C8.Cal P w K mg base 2 "_law_drawn_answer" (Y.spZ (yDrawnA K)) []) (YTIDIED : C8.Cal P w K mg base 3 "_law_tidied" (Y.spZ (yTidied K)) []) (YAREPR : C8.Cal P w K mg base 2 "_law_are_prices" (Y.spZ (yArePr K)) []) (YWP : C8.Met P w K mg base 7 CW "with_price" (Y.spZ (yWithPrice K CW)) [])
    (YLONEP : C8.Cal P w K mg base 3 "_law_lone_places" (Y.spZ (yLoneP K)) []) (YANSWERS : C8.Cal P w K mg base 3 "_law_answers" (Y.spZ (yAnswers2 K)) []) (YTURNED : C8.Cal P w K mg base 1 "_law_turned" (Y.spZ (yTurned K)) [])
    (YPRICESFOR : C8.Cal P w K mg base 6 "prices_for" (Y.spZ (yPricesFor K CW)) []) (YLSUM : C8.Cal P w K mg base 1 "_law_sum" (Y.spZ (yLsum K)) []) (YREFN : C8.Cal P w K mg base 11 "_law_refused" (Y.spZ (yRefN K CW)) []) :
    ∃ f fd, Fun K "law" "law" s_law f fd ∧ mg "law" = some (.ref f) ∧ FnOk P w K mg base CX0 12 f fd ["_law_script"] (Y.spZ (yLaw K)) := by
  refine calG F scYlaw (fun vs H Q E h => zlen (fun as P XP hc => by obtain ⟨_, rfl, _⟩ := hc; rfl) h) (fun f cdv A outer s H vs Q E hr h => ?_)
  have hu := hu_of hr
  refine ⟨_, (pss_cons (ps_asg (C8.pe_c YWEB2 hr (by decide) rfl (pa_cons (pv 0) (pa_cons pe_int pa_nil))) (pg_unl rfl (pgs_cons (pg_name (i := 1) scYlaw.nd rfl (Or.inl rfl)) (pgs_cons (pg_name (i := 2) scYlaw.nd rfl (Or.inl rfl)) (pgs_cons (pg_name (i := 3) scYlaw.nd rfl (Or.inl rfl)) pgs_nil)))))
      (pss_cons (ps_set (i := 4) scYlaw.nd rfl (Or.inl rfl) (C8.pe_c YSTREAM hr (by decide) rfl (pa_cons (pv 0) (pa_cons pe_int pa_nil))))
      (pss_cons (ps_set (i := 5) scYlaw.nd rfl (Or.inl rfl) (C8.pe_c YDRAW hr (by decide) rfl (pa_cons (pv 4) (pa_cons pe_int pa_nil))))
      (pss_cons (ps_set (i := 6) scYlaw.nd rfl (Or.inl rfl) (C8.pe_c YDRAWNA hr (by decide) rfl (pa_cons (pv 4) (pa_cons (pv 1) (pa_cons (pv 2) pa_nil)))))
      (pss_cons (ps_if (pt_cmpR op_eq (pv 5) pe_int (nomark _)) (pss_one (ps_set (i := 6) scYlaw.nd rfl (Or.inl rfl) (C8.pe_c YTIDIED hr (by decide) rfl (pa_cons (pv 6) (pa_cons (pv 1) (pa_cons (pv 2) pa_nil)))))) pss_nil)
      (pss_cons (ps_set (i := 7) scYlaw.nd rfl (Or.inl rfl) (C8.pe_mk CMAKE hr (by decide) rfl (pa_cons (pe_callTy call_tuple_of (by rfl) T.b_tuple (by decide +kernel) (pa_cons (pv 1) pa_nil)) (pa_cons (pe_callTy call_list_of (by rfl) T.b_list (by decide +kernel) (pa_cons (pv 2) pa_nil)) (pa_cons (pe_callTy Own.call_dict_dK (by rfl) T.b_dict (by decide +kernel) (pa_cons (pv 3) pa_nil)) pa_nil)))))
      (pss_cons (ps_set (i := 8) scYlaw.nd rfl (Or.inl rfl) (C8.pe_mt YWP hr (by decide) (pv 7) (pa_cons (pe_ix ix_list (pv 1) pe_int (fun _ _ => rfl)) (pa_cons (pe_op op_add pe_int (C8.pe_c YDRAW hr (by decide) rfl (pa_cons (pv 4) (pa_cons (pe_op op_pow pe_int pe_int) pa_nil)))) pa_nil))))
      (pss_cons (ps_set (i := 9) scYlaw.nd rfl (Or.inl rfl) (C8.pe_c YLONEP hr (by decide) rfl (pa_cons (pv 6) (pa_cons (pv 1) (pa_cons (pv 2) pa_nil)))))
      (pss_cons (ps_set (i := 10) scYlaw.nd rfl (Or.inl rfl) (C8.pe_c YANSWERS hr (by decide) rfl (pa_cons (pv 1) (pa_cons (pv 2) pa_nil))))
      (pss_cons (ps_for PassesOwn.never rfl (pi_list (pe_lst (pa_cons (pv 7) (pa_cons (pv 8) (pa_cons (pv 7) pa_nil))))) (pg_name (i := 11) scYlaw.nd rfl (Or.inl rfl))
        (pss_cons (ps_set (i := 12) scYlaw.nd rfl (Or.inl rfl) (C8.pe_c YTURNED hr (by decide) rfl (pa_cons (pv 6) pa_nil)))
      (pss_cons (ps_set (i := 13) scYlaw.nd rfl (Or.inr rfl) (C8.pe_c YPRICESFOR hr (by decide) rfl (pa_cons (pv 11) (pa_cons (pv 12) pa_nil))))
      (pss_cons (ps_if (PW.pt (pw_or (pt_cmpR op_ne (pe_cmpR op_isN (pv 13) pe_non (nomark _)) (pe_cmpR op_gt (pe_callB call_len (by rfl) T.b_len PySem.boot_len (pa_cons (pv 9) pa_nil)) pe_int (nomark _)) (nomark _)) (pw_or1 (pt_cmpR (Own.op_ne_dictS (Nat.lt_of_succ_lt hu)) (pv 12) (pv 6) (nomark _))))) (pss_one (ps_ret pe_bl)) pss_nil)
      (pss_one (ps_if (pt_cmpR op_notN (pv 13) pe_non (nomark _)) (pss_cons (ps_if (pt_not (pt_val (C8.pe_c YAREPR hr (by decide) rfl (pa_cons (pv 13) (pa_cons (pv 1) pa_nil))))) (pss_one (ps_ret pe_bl)) pss_nil)
      (pss_cons (ps_set (i := 14) scYlaw.nd rfl (Or.inr rfl) (C8.pe_c YLSUM hr (by decide) rfl (pa_cons (pv 6) (pa_cons (pv 13) pa_nil))))
      (pss_cons (ps_if (pt_cmpR op_gt (pe_callB call_len (by rfl) T.b_len PySem.boot_len (pa_cons (pe_lc (own := [("_law_y", 16)]) (g := gName 16) rfl scYlaw.nd (pi_list (pv 10)) (blkOk_by (own := [("_law_y", 16)]) (N := NYlaw) (sc := defScope s_law) (by decide +kernel)) (fun _ _ _ _ _ => (pg_name (i := 16) scYlaw.nd rfl (Or.inl rfl))) (fun _ _ _ _ _ => pts_one (pt_cmpR op_lt (C8.pe_c YLSUM hr (by decide) rfl (pa_cons (pv 16) (pa_cons (pv 13) pa_nil))) (pv 14) (nomark _))) (fun _ _ _ _ _ => (pv 16))) pa_nil)) pe_int (nomark _)) (pss_one (ps_ret pe_bl)) pss_nil)
      (pss_one (ps_expr (pe_dclear (pv 13))))))) pss_nil))))))
      (pss_cons (ps_set (i := 15) scYlaw.nd rfl (Or.inl rfl) (pe_callTy Own.call_dict_dK (by rfl) T.b_dict (by decide +kernel) (pa_cons (pv 6) pa_nil)))
      (pss_cons (ps_dput hu (pv 15) (pe_ix ix_list (pv 1) (pe_un un_neg pe_int) (fun _ _ => rfl)) (pe_ix ix_list (pe_lst (pa_cons pe_int (pa_cons (pe_un un_neg pe_int) (pa_cons pe_non (pa_cons pe_bl pa_nil))))) (C8.pe_c YDRAW hr (by decide) rfl (pa_cons (pv 4) (pa_cons pe_int pa_nil))) (fun _ _ => rfl)) rfl)
      (pss_one (ps_ret (pe_and (C8.pe_c YREFN hr (by decide) rfl (pa_cons (pv 7) (pa_cons (pv 15) pa_nil))) (pe_and (C8.pe_c YREFN hr (by decide) rfl (pa_cons (pv 7) (pa_cons (pe_callTy call_list_of (by rfl) T.b_list (by decide +kernel) (pa_cons (pv 1) pa_nil)) pa_nil))) (pe_one (C8.pe_c YREFN hr (by decide) rfl (pa_cons (pv 7) (pa_cons pe_dnewK pa_nil)))))))))))))))))))), zrun h ?_⟩
  rintro as P XP ⟨xs, rfl, hxs, hp⟩ hl
  obtain ⟨p0, rfl⟩ := len1 hl
  refine ⟨16, rfl, by decide, ?_⟩
  refine blk_seq (blk_asg (vs := [1, 2, 3]) (t := yParts2 K) (ev_call0 (ea_cons (ev_var rfl (ea_cons (ev_c (t := tInt) (fun _ _ => rfl) (ea_nil ⟨fun _ => rfl, allc trivial (all1 trivial), xs, 6, rfl, ⟨hxs, by decide, by decide⟩, fun p ⟨pz, ks, pl⟩ _ => ?_⟩)))))))
  refine tg_unl3 (tg_name (by decide) (free_of rfl) (tg_name (by decide) (free_of rfl) (tg_name (by decide) (free_of rfl) ?_)))
  have n6 : p.1.length ≤ 6 := by omega
  have nd : p.1.Nodup := pz.no.nd
  have n1 : 1 ≤ p.1.length := pz.no.lo
  refine blk_seq (blk_set (ev_call0 (ea_cons (ev_var rfl (ea_cons (ev_c (t := tInt) (fun _ _ => rfl) (ea_nil ⟨fun h => (nomatch h), allc trivial (all1 trivial), xs, 4, rfl, ⟨hxs, by decide, by decide⟩, fun _ => ⟨rfl, ?_⟩⟩)))))))
  refine blk_seq (blk_set (ev_draw rfl (ev_c (t := tInt) (fun _ _ => rfl) ⟨⟨by decide, by decide⟩, fun td a1 b1 => ⟨rfl, ?_⟩⟩)))
  refine blk_seq (blk_set (t := tDk kS tInt) (EvR.share (O := oD kS tInt) (ev_call0 (ea_cons (ev_var rfl (ea_cons (ev_var (t := tLs K tStr) (x := p.1) rfl (ea_cons (ev_var (t := tLs K (tPr K)) (x := p.2.1) rfl (ea_nil ⟨fun _ => rfl, allc trivial (allc trivial (all1 trivial)), p.1, p.2.1, rfl, ⟨by omega, nd, pz.to.ok⟩, fun d0 D _ => ⟨rfl, ?_⟩⟩))))))))))
  have A0 : AnsP p.1 p.2.1 d0 := ⟨by rw [D.ks], fun x hx => ⟨keys_look (by rw [D.ks]; exact hx), D.r x hx⟩, D.t⟩
  refine blk_cut (fun G' => ∃ d, AnsP p.1 p.2.1 d ∧ G' = ⟨true, [.sh (tScr K) xs, .sh (tLs K tStr) p.1, .sh (tLs K (tPr K)) p.2.1, .sh (tDk kS tInt) p.2.2, .sh tStm (), .sh tInt td, .sh (tDk kS tInt) d, .un, .un, .un, .un, .un, .un, .un, .un, .un, .un], [some p0]⟩) (blk_if (et_b (ev_op ro_eqI (ev_var rfl (ev_c (t := tInt) (fun _ _ => rfl) ⟨fun _ => ?_, fun _ => blk_next ⟨d0, A0, rfl⟩⟩))))) ?_
  · exact blk_set (t := tDk kS tInt) (EvR.share (O := oD kS tInt) (ev_call0 (ea_cons (ev_var rfl (ea_cons (ev_var (t := tLs K tStr) (x := p.1) rfl (ea_cons (ev_var (t := tLs K (tPr K)) (x := p.2.1) rfl (ea_nil ⟨fun _ => rfl, allc trivial (allc trivial (all1 trivial)), d0, p.1, p.2.1, rfl, ⟨nd, by omega, pz.to.hi, pz.to.ok, A0⟩, fun d ⟨_, AP, _⟩ _ => ⟨rfl, d, AP, rfl⟩⟩)))))))))
  rintro _ ⟨d, AP, rfl⟩
  refine blk_seq (blk_set (t := yWeb K CW) (ev_mkWeb (ea_cons (t := tTu K tStr) (ev_cb rc_tupL (ev_var (t := tLs K tStr) (x := p.1) rfl ⟨fun h => (nomatch h), ?_⟩)))))
  refine ea_cons (t := tLs K (tPr K)) (EvR.share (O := oL K (tPr K)) (ev_cb rc_listL (ev_var (t := tLs K (tPr K)) (x := p.2.1) rfl ⟨fun h => (nomatch h), ?_⟩)))
  refine ea_cons (t := tDk kS tInt) (EvR.share (O := oD kS tInt) (ev_cb rc_dictD (ev_var (t := tDk kS tInt) (x := p.2.2) rfl ⟨fun h => (nomatch h), ea_nil ⟨rfl, p, rfl, pz, fun z hz => ⟨rfl, ?_⟩⟩⟩)))
  have M := mat_web hz.1 pz hz.2
  have wz := M.wf
  have A : AnsD z d := AP.ansD M
  have z40 := wz.p.no.hi
  have dl : d.length = p.1.length := by rw [A.ln]; exact M.pm.length_eq
  have at0 : atI p.1 0 = some p.1[0] := at_ofN (j := 0) rfl (List.getElem?_eq_getElem n1)
  have m0 : p.1[0] ∈ p.1 := List.getElem_mem n1
  refine blk_seq (blk_set (t := yWeb K CW) (ev_meth0 (instYW (by decide)) (ev_var (t := yWeb K CW) rfl (ea_cons (ev_op ro_ixL (ev_var (t := tLs K tStr) (x := p.1) rfl (ev_c (t := tInt) (fun _ _ => rfl) ⟨_, at0, ea_cons (ev_op ro_I0 (ev_c (t := tInt) (fun _ _ => rfl) (ev_draw rfl (ev_op ro_I (ev_c (t := tInt) (fun _ _ => rfl) (ev_c (t := tInt) (fun _ _ => rfl) ⟨⟨by decide, by decide, by decide⟩, ⟨by decide, by decide⟩, fun r9 a9 b9 => ?_⟩))))))⟩)))))))
  have b9 : r9 < 10 ^ 30 := b9
  refine ea_nil ⟨fun _ => rfl, allc trivial (allc trivial (all1 trivial)), z, p.1[0], 1 + r9, rfl, ⟨M.pm.mem_iff.mpr m0, by omega, by omega⟩, fun z2 h2 _ => ⟨rfl, ?_⟩⟩
  obtain ⟨_, i2, g2, wo2⟩ := h2
  have M2 := M.price g2 (show 1 ≤ 1 + r9 by omega) (show 1 + r9 ≤ 10 ^ 30 by omega) wo2
  refine blk_seq (blk_set (t := tLs K tStr) (EvR.share (O := oL K tStr) (ev_call0 (ea_cons (ev_var rfl (ea_cons (ev_var (t := tLs K tStr) (x := p.1) rfl (ea_cons (ev_var (t := tLs K (tPr K)) (x := p.2.1) rfl (ea_nil ⟨fun _ => rfl, allc trivial (allc trivial (all1 trivial)), d, p.1, p.2.1, rfl, ⟨by omega, pz.to.hi, pz.to.ok, AP⟩, fun ys ⟨py, ay⟩ _ => ⟨rfl, ?_⟩⟩))))))))))
  refine blk_seq (blk_set (t := tLs K (tDk kS tInt)) (ev_call0 (ea_cons (ev_var (t := tLs K tStr) (x := p.1) rfl (ea_cons (ev_var (t := tLs K (tPr K)) (x := p.2.1) rfl (ea_nil ⟨fun _ => rfl, allc trivial (all1 trivial), p.1, p.2.1, rfl, ⟨n6, nd, fun e he => ⟨(pz.to.ok e he).a, (pz.to.ok e he).b⟩⟩, fun _ => ⟨rfl, ?_⟩⟩)))))))
  have al : (answersL p.1 p.2.1).length ≤ 1000 := by
    unfold answersL
    refine Nat.le_trans (List.length_filter_le _ _) ?_
    rw [List.length_map, rowsL_len]
    exact Nat.le_trans (Nat.pow_le_pow_right (by decide) n6) (by decide)
  obtain ⟨lo, elo⟩ : ∃ lo, lo = ys.filter (loneB d p.2.1) := ⟨_, rfl⟩
  refine blk_norm ⟨true, [.sh (tScr K) xs, .sh (tLs K tStr) p.1, .sh (tLs K (tPr K)) p.2.1, .sh (tDk kS tInt) p.2.2, .sh tStm (), .sh tInt td, .sh (tDk kS tInt) d, .sh (yWeb K CW) z, .sh (yWeb K CW) z2, .sh (tLs K tStr) lo, .sh (tLs K (tDk kS tInt)) (answersL p.1 p.2.1), .un, .un, .un, .un, .un, .un], [some p0]⟩ (by rw [elo]; rfl) ?_
  have ndx : (d.map (·.1)).Nodup := A.kn wz
  refine blk_seq (blk_for (vs := [11]) (ei_list (EvR.share (O := oL K (yWeb K CW)) (ev_list (K := K) (t := yWeb K CW) (es_cons (ev_var rfl (es_cons (ev_var rfl (es_cons (ev_var rfl (es_nil ⟨Nat.le_of_ble_eq_true rfl, ?_⟩)))))))))))
  refine ⟨(fun i G' => G' = ⟨true, [.sh (tScr K) xs, .sh (tLs K tStr) p.1, .sh (tLs K (tPr K)) p.2.1, .sh (tDk kS tInt) p.2.2, .sh tStm (), .sh tInt td, .sh (tDk kS tInt) d, .sh (yWeb K CW) z, .sh (yWeb K CW) z2, .sh (tLs K tStr) lo, .sh (tLs K (tDk kS tInt)) (answersL p.1 p.2.1), .un, .un, .un, .un, .un, .un], [some p0]⟩), rfl, ?_, ?_⟩
  · rintro i zq _ hq rfl
    obtain ⟨q, MQ⟩ : ∃ q, Mat zq (p.1, p.2.1, q) := by
      have hm := List.mem_of_getElem? hq
      rcases List.mem_cons.mp hm with rfl | hm
      · exact ⟨_, M⟩
      rcases List.mem_cons.mp hm with rfl | hm
      · exact ⟨_, M2⟩
      rw [List.mem_singleton] at hm
      subst hm
      exact ⟨_, M⟩
    have wq := MQ.wf
    have AQ : AnsD zq d := AP.ansD MQ
    have AR := AQ.rev wq
    refine tg_name (by decide) (free_of rfl) (blk_wipe [11, 12, 13, 14, 16] (blk_seq (blk_set (t := tDk kS tInt) (EvR.share (O := oD kS tInt) (ev_call0 (ea_cons (ev_var rfl (ea_nil ⟨fun _ => rfl, all1 trivial, d, rfl, ⟨ndx, by omega⟩, fun _ => ⟨rfl, ?_⟩⟩))))))))
    refine blk_seq (blk_setO (O := oOpt (oD kS tInt)) (ev_call0 (ea_cons (ev_var rfl (ea_cons (ev_var rfl (ea_nil ⟨fun _ => rfl, allc trivial (all1 trivial), zq, d.reverse, rfl, ⟨wq, AR⟩, fun _ => ⟨rfl, ?_⟩⟩)))))))
    have lk : LikeD d.reverse d := ⟨by rw [List.length_reverse], fun e he => look_ix ndx (List.mem_reverse.mp he)⟩
    have lone : (idleL zq d.reverse).isEmpty = !decide (((lo.length : Int)) > 0) := by
      have ei : idleL zq d.reverse = idleL zq d := by
        have g : ∀ x ∈ zq.ms, gD d.reverse x = gD d x := fun x hx => rev_gD AQ wq hx
        have ep : ∀ x ∈ zq.ms, parL zq d.reverse x = parL zq d x := fun x hx => by
          unfold parL
          refine List.filter_congr fun o ho => ?_
          rw [g x hx, g o (Adj.ends wq ((near_adj wq hx).mp ho)).2.1]
        unfold idleL
        exact List.filter_congr fun x hx => by rw [g x hx, ep x hx]
      rw [ei]
      by_cases c : lo.length = 0
      · have e0 : idleL zq d = [] := by
          rw [elo, List.length_eq_zero_iff, List.filter_eq_nil_iff] at c
          refine List.eq_nil_iff_forall_not_mem.mpr fun x hx => ?_
          have xm : x ∈ zq.ms := (List.mem_filter.mp hx).1
          exact c x (py.mem_iff.mpr (MQ.pm.mem_iff.mp xm)) ((lone_idle MQ AQ xm).mpr hx)
        rw [e0, decide_eq_false (by omega)]
        rfl
      · have e0 : idleL zq d ≠ [] := fun h => c (by
          rw [elo, List.length_eq_zero_iff, List.filter_eq_nil_iff]
          intro x hx q
          have xm : x ∈ zq.ms := MQ.pm.mem_iff.mpr (py.mem_iff.mp hx)
          have := (lone_idle MQ AQ xm).mp q
          rw [h] at this
          cases this)
        rw [decide_eq_true (by omega)]
        cases h : idleL zq d with
        | nil => exact absurd h e0
        | cons a l => rfl
    cases i0 : (idleL zq d.reverse).isEmpty with
    | false =>
      rw [i0] at lone
      have gt : decide ((lo.length : Int) > 0) = true := by simpa using lone.symm
      refine blk_norm ⟨true, [.sh (tScr K) xs, .sh (tLs K tStr) p.1, .sh (tLs K (tPr K)) p.2.1, .sh (tDk kS tInt) p.2.2, .sh tStm (), .sh tInt td, .sh (tDk kS tInt) d, .sh (yWeb K CW) z, .sh (yWeb K CW) z2, .sh (tLs K tStr) lo, .sh (tLs K (tDk kS tInt)) (answersL p.1 p.2.1), .sh (yWeb K CW) zq, .sh (tDk kS tInt) d.reverse, .ow (oOpt (oD kS tInt)) none, .un, .un, .un], [some p0]⟩ rfl ?_
      refine blk_seq (blk_if (et_view (et_or (et_b (ev_op ro_neB (ev_op (ro_isO nnD) (ev_var (t := tOpt (tDk kS tInt)) (x := none) rfl (ev_c (t := tNon) (x := ()) (fun _ _ => rfl) (ev_op ro_B0 (ev_cb rc_lenL (ev_var (t := tLs K tStr) (x := lo) rfl ⟨fun h => (nomatch h), ev_c (t := tInt) (fun _ _ => rfl) ⟨fun h => ?_, fun _ => ?_⟩⟩)))))))))))
      · rw [gt] at h
        cases h
      refine et_b (ev_op ro_neDI (ev_var (t := tDk kS tInt) (x := d.reverse) rfl (ev_var (t := tDk kS tInt) (x := d) rfl ⟨lk, fun h => (nomatch h), fun _ => blk_next ?_⟩)))
      exact blk_if (et_view (et_b (ev_op (ro_notO nnD) (ev_var (t := tOpt (tDk kS tInt)) (x := none) rfl (ev_c (t := tNon) (x := ()) (fun _ _ => rfl) ⟨fun h => (nomatch h), fun _ => blk_next rfl⟩)))))
    | true =>
      rw [i0] at lone
      have gt : decide ((lo.length : Int) > 0) = false := by simpa using lone.symm
      have i0 : idleL zq d.reverse = [] := List.isEmpty_iff.mp i0
      obtain ⟨bp, ebp⟩ : ∃ bp, bp = bprL zq d.reverse := ⟨_, rfl⟩
      have bl : bp.length = p.1.length := by rw [ebp]; unfold bprL; rw [atD_len]; exact MQ.pm.length_eq
      have bnd : (bp.map (·.1)).Nodup := by rw [ebp]; unfold bprL; rw [atD_keys]; exact wq.p.no.nd
      have bkey : ∀ e ∈ bp, e.1 ∈ zq.ms := fun e he => by
        rw [ebp] at he
        obtain ⟨x, hx, rfl⟩ := List.mem_map.mp he
        exact hx
      have bk : ∀ x ∈ p.1, lookK bp x = some (gD bp x) ∧ 1 ≤ gD bp x ∧ gD bp x ≤ 10 ^ 30 := fun x hx => by
        have xm := MQ.pm.mem_iff.mpr hx
        have lx : lookK bp x = some (bpr zq d.reverse x) := by rw [ebp]; exact look_atD xm
        have := bpr_pos wq AR i0 xm
        have : (1000 : Int) ≤ 10 ^ 30 := by decide
        rw [gD_of3 lx]
        exact ⟨lx, by omega, by omega⟩
      refine blk_norm ⟨true, [.sh (tScr K) xs, .sh (tLs K tStr) p.1, .sh (tLs K (tPr K)) p.2.1, .sh (tDk kS tInt) p.2.2, .sh tStm (), .sh tInt td, .sh (tDk kS tInt) d, .sh (yWeb K CW) z, .sh (yWeb K CW) z2, .sh (tLs K tStr) lo, .sh (tLs K (tDk kS tInt)) (answersL p.1 p.2.1), .sh (yWeb K CW) zq, .sh (tDk kS tInt) d.reverse, .ow (oOpt (oD kS tInt)) (some bp), .un, .un, .un], [some p0]⟩ (by rw [ebp]; rfl) ?_
      refine blk_seq (blk_if (et_view (et_or (et_b (ev_op ro_neB (ev_op (ro_isO nnD) (ev_var (t := tOpt (tDk kS tInt)) (x := some bp) rfl (ev_c (t := tNon) (x := ()) (fun _ _ => rfl) (ev_op ro_B0 (ev_cb rc_lenL (ev_var (t := tLs K tStr) (x := lo) rfl ⟨fun h => (nomatch h), ev_c (t := tInt) (fun _ _ => rfl) ⟨fun h => ?_, fun _ => ?_⟩⟩)))))))))))
      · rw [gt] at h
        cases h
      refine et_b (ev_op ro_neDI (ev_var (t := tDk kS tInt) (x := d.reverse) rfl (ev_var (t := tDk kS tInt) (x := d) rfl ⟨lk, fun h => (nomatch h), fun _ => blk_next ?_⟩)))
      refine blk_if (et_view (et_b (ev_op (ro_notO nnD) (ev_var (t := tOpt (tDk kS tInt)) (x := some bp) rfl (ev_c (t := tNon) (x := ()) (fun _ _ => rfl) ⟨fun _ => ?_, fun h => (nomatch h)⟩)))))
      refine blk_reO (i := 13) (O := oOpt (oD kS tInt)) (O' := oD kS tInt) (x := some bp) (y := bp) rfl (fun p W H v h => h) ?_
      refine blk_norm ⟨true, [.sh (tScr K) xs, .sh (tLs K tStr) p.1, .sh (tLs K (tPr K)) p.2.1, .sh (tDk kS tInt) p.2.2, .sh tStm (), .sh tInt td, .sh (tDk kS tInt) d, .sh (yWeb K CW) z, .sh (yWeb K CW) z2, .sh (tLs K tStr) lo, .sh (tLs K (tDk kS tInt)) (answersL p.1 p.2.1), .sh (yWeb K CW) zq, .sh (tDk kS tInt) d.reverse, .ow (oD kS tInt) bp, .un, .un, .un], [some p0]⟩ rfl ?_
      refine blk_seq (blk_if (et_view (et_not (et_b (ev_call0 (ea_cons (ev_var (t := tDk kS tInt) (x := bp) rfl (ea_cons (ev_var (t := tLs K tStr) (x := p.1) rfl (ea_nil ⟨fun _ => rfl, allc trivial (all1 trivial), bp, p.1, rfl, ⟨bl, bk⟩, fun _ => ⟨fun h => (nomatch h), fun _ => blk_next ?_⟩⟩))))))))))
      have su : ∀ {a : List (Str × Int)}, AnsD zq a → (bp.map (·.1)).Nodup ∧ (∀ e ∈ bp, lookK a e.1 = some (gD a e.1) ∧ 0 ≤ gD a e.1 ∧ gD a e.1 ≤ 2) ∧ bp.length ≤ 1000 := fun A => ⟨bnd, fun e he => A.r e.1 (bkey e he), by omega⟩
      refine blk_seq (blk_set (t := tInt) (ev_view (r := .sh tInt) flI (ev_call0 (ea_cons (ev_var (t := tDk kS tInt) (x := d) rfl (ea_cons (ev_var (t := tDk kS tInt) (x := bp) rfl (ea_nil ⟨fun h => (nomatch h), allc trivial (all1 trivial), d, bp, rfl, su AQ, fun _ => ⟨rfl, ?_⟩⟩))))))))
      obtain ⟨ow, eow⟩ : ∃ ow, ow = (bp.map fun e => e.2 * gD d e.1).sum := ⟨_, rfl⟩
      refine blk_norm ⟨true, [.sh (tScr K) xs, .sh (tLs K tStr) p.1, .sh (tLs K (tPr K)) p.2.1, .sh (tDk kS tInt) p.2.2, .sh tStm (), .sh tInt td, .sh (tDk kS tInt) d, .sh (yWeb K CW) z, .sh (yWeb K CW) z2, .sh (tLs K tStr) lo, .sh (tLs K (tDk kS tInt)) (answersL p.1 p.2.1), .sh (yWeb K CW) zq, .sh (tDk kS tInt) d.reverse, .ow (oD kS tInt) bp, .sh tInt ow, .un, .un], [some p0]⟩ (by rw [eow]; rfl) ?_
      have best : ∀ y ∈ answersL p.1 p.2.1, ¬ (bp.map fun e => e.2 * gD y e.1).sum < ow := fun y hy lt => by
        have Ay := ans_in2 MQ hy
        have g : ∀ x ∈ zq.ms, gD d.reverse x = gD d x := fun x hx => rev_gD AQ wq hx
        rw [eow, ebp, back_sum, back_sum] at lt
        have e2 : (zq.ms.map fun x => bpr zq d.reverse x * gD d x).sum = (zq.ms.map fun x => bpr zq d.reverse x * gD d.reverse x).sum := sum_congr fun x hx => by rw [g x hx]
        rw [e2] at lt
        have := back_le wq AR (y := gD y) (fun x hx => (Ay.r x hx).2.1) Ay.t
        omega
      refine blk_seq (blk_if (et_view (et_b (ev_op ro_B0 (ev_cb rc_lenL (EvR.share (O := oL K (tDk kS tInt)) (ev_lc (K := K) (u := tDk kS tInt) (vs := [16]) (ei_list (ev_var (t := tLs K (tDk kS tInt)) (x := answersL p.1 p.2.1) rfl ⟨(fun _ ys => ys = []), fits40 al, ?_, rfl, ?_, ?_⟩)))))))))
      · intro i hi
        rw [List.mem_singleton] at hi; subst hi; exact free_of rfl
      · rintro j y ys hy rfl
        have ym := List.mem_of_getElem? hy
        refine tg_name (by decide) (free_of rfl) (et_b (ev_op ro_B0 (ev_call0 (ea_cons (ev_var rfl (ea_cons (ev_var (t := tDk kS tInt) (x := bp) rfl (ea_nil ⟨fun h => (nomatch h), allc trivial (all1 trivial), y, bp, rfl, su (ans_in2 MQ ym), fun _ => ev_var rfl ⟨fun h2 => ?_, fun _ => rfl⟩⟩))))))))
        exact absurd (of_decide_eq_true h2) (best y ym)
      rintro ys rfl
      refine ⟨fun h => (nomatch h), ev_c (t := tInt) (fun _ _ => rfl) ⟨fun h => absurd h (by decide), fun _ => blk_next ?_⟩⟩
      exact blk_dclear (pt_var (i := 13) rfl (by decide)) rfl
  rintro _ rfl
  refine blk_seq (blk_setO (O := oD kS tInt) (ev_cb rc_dictD (ev_var (t := tDk kS tInt) (x := d) rfl ⟨fun h => (nomatch h), ⟨rfl, ?_⟩⟩)))
  refine blk_reO (i := 15) (O := oD kS tInt) (O' := oD kK (tV K)) (x := d) (y := anyD d) rfl own_anyD ?_
  have ln : p.1[p.1.length - 1]? = some p.1[p.1.length - 1] := List.getElem?_eq_getElem (by omega)
  obtain ⟨xl, exl⟩ : ∃ xl, xl = p.1[p.1.length - 1] := ⟨_, rfl⟩
  rw [← exl] at ln
  have mxl : xl ∈ p.1 := List.mem_of_getElem? ln
  refine blk_seq (blk_dput kyK (pt_var (i := 15) rfl (by decide)) (ev_op ro_ixL (EvR.share (O := oL K (tV K)) (ev_list (K := K) (t := tV K) (es_cons (ev_Vi (ev_c (t := tInt) (fun _ _ => rfl) (es_cons (ev_Vi (ev_neg (ev_c (t := tInt) (fun _ _ => rfl) (es_cons (ev_Vn (ev_c (t := tNon) (x := ()) (fun _ _ => rfl) (es_cons (ev_Vb (ev_c (t := tBl) (fun _ _ => rfl) (es_nil ⟨Nat.le_of_ble_eq_true rfl, ?_⟩))))))))))))))))))
  refine ev_view (r := .sh tInt) flI (ev_draw rfl (ev_c (t := tInt) (fun _ _ => rfl) ⟨⟨by decide, by decide⟩, fun r8 a8 b8 => ?_⟩))
  obtain ⟨bv, ebv, hbv⟩ := at_in (xs := [V.int 3, V.int (-1), V.non, V.bl true]) (i := r8) a8 (by exact b8)
  have bad : inLH bv 0 2 = false := by
    rcases List.mem_cons.mp hbv with rfl | h
    · rfl
    rcases List.mem_cons.mp h with rfl | h
    · rfl
    rcases List.mem_cons.mp h with rfl | h
    · rfl
    rw [List.mem_singleton] at h
    subst h
    rfl
  refine ⟨bv, ebv, ev_Ks (ev_op ro_ixL (ev_var (t := tLs K tStr) (x := p.1) rfl (ev_neg (ev_c (t := tInt) (fun _ _ => rfl) ⟨xl, ?_, fits40 (by rw [anyD_len]; omega), ?_⟩))))⟩
  · unfold atI
    have : ixN p.1.length (-1) = some (p.1.length - 1) := by
      unfold ixN
      rw [if_neg (by omega), if_pos (by omega)]
      congr 1
      omega
    show (ixN p.1.length (-1)).bind _ = _
    rw [this]
    exact ln
  obtain ⟨bd, ebd⟩ : ∃ bd, bd = putZ (anyD d) (Sum.inr xl : Key) bv := ⟨_, rfl⟩
  refine blk_frz 15 rfl ?_
  refine blk_norm ⟨true, [.sh (tScr K) xs, .sh (tLs K tStr) p.1, .sh (tLs K (tPr K)) p.2.1, .sh (tDk kS tInt) p.2.2, .sh tStm (), .sh tInt td, .sh (tDk kS tInt) d, .sh (yWeb K CW) z, .sh (yWeb K CW) z2, .sh (tLs K tStr) lo, .sh (tLs K (tDk kS tInt)) (answersL p.1 p.2.1), .un, .un, .un, .un, .sh (tDk kK (tV K)) bd, .un], [some p0]⟩ (by rw [ebd]; rfl) ?_
  have nb : NotAns z.ms (some bd) := .inr ⟨bd, xl, bv, rfl, M.pm.mem_iff.mpr mxl, by
    rw [ebd]
    refine look_putV ?_
    rw [Y.hasK_mem]
    have h : (Sum.inr xl : Key) ∈ (anyD d).map (·.1) := by
      rw [anyD_keys]
      exact List.mem_map_of_mem (A.pm.mem_iff.mpr (M.pm.mem_iff.mpr mxl))
    simpa using h, bad⟩
  have nn : NotAns z.ms none := .inl rfl
  have ne : NotAns z.ms (some []) := .inl (by
    have := wz.p.no.lo
    show (decide ((0 : Int) = (z.ms.length : Int)) && _) = false
    rw [decide_eq_false (by omega)]
    rfl)
  refine blk_ret (ev_and (ev_call0 (ea_cons (ev_var rfl (ea_cons (t := tAD K) (ev_someAD (ev_var (t := tDk kK (tV K)) (x := bd) rfl (ea_nil ⟨fun _ => rfl, allc trivial (all1 trivial), z, some bd, rfl, ⟨wz, nb⟩, fun _ => ⟨fun _ => ?_, fun h => (nomatch h)⟩⟩))))))))
  refine ev_and (ev_call0 (ea_cons (ev_var rfl (ea_cons (t := tAD K) (ev_lsAD (t := tStr) (EvR.share (O := oL K tStr) (ev_cb rc_listL (ev_var (t := tLs K tStr) (x := p.1) rfl ⟨fun h => (nomatch h), ea_nil ⟨fun _ => rfl, allc trivial (all1 trivial), z, none, rfl, ⟨wz, nn⟩, fun _ => ⟨fun _ => ?_, fun h => (nomatch h)⟩⟩⟩))))))))
  exact ev_call0 (ea_cons (ev_var rfl (ea_cons (t := tAD K) (ev_someAD (EvR.share (O := oD kK (tV K)) (ev_dnew kK (tV K) (ea_nil ⟨fun _ => rfl, allc trivial (all1 trivial), z, some [], rfl, ⟨wz, ne⟩, fun _ => fin0 [_] _ hp⟩)))))))
end
end KK
end

section
set_option maxRecDepth 100000
set_option maxHeartbeats 4000000
namespace KK
open PySem PySem.Spec PyProof.Rows L2 Z
theorem fun_of {K : PySem.W.Frag} {x qual : Str} {st : Stmt} {f : Addr} {fd : FuncData} (F : FunD K x qual (defArgs st) (defBody st) (defScope st) [] [] f fd) : Fun K x qual st f fd := by
  obtain ⟨⟨oc, od, dV, kV, doc, pm, an, cdv, ct, osl, e, lk, hcd, hD, _⟩, kp⟩ := F
  rcases hD with ⟨_, rfl⟩ | ⟨z, _⟩
  · exact ⟨⟨oc, od, kV, doc, pm, an, cdv, ct, osl, e, lk, hcd⟩, kp⟩
  · exact absurd rfl z
theorem has_of {K : PySem.W.Frag} {h : Heap} {mg : Str → Option Value} {x : Str} {st : Stmt} (X : K.In h) (G : h.Ns mainGlobals mg) (g : (He.Fa.glo x).ok K = true) (F : ∃ fd, FunD K x x (defArgs st) (defBody st) (defScope st) [] [] (He.ga K x) fd) : Has K mg x st := by
  obtain ⟨fd, F⟩ := F
  exact ⟨_, fd, fun_of F, He.glo_ok X G g⟩
theorem hasM_of {K : PySem.W.Frag} {m qual : Str} {st : Stmt} (g : (He.Fa.meth "Web" m).ok K = true) (F : ∃ fd, FunD K m qual (defArgs st) (defBody st) (defScope st) [] [] (He.ma K (He.ga K "Web") m) fd) : HasM K (He.ga K "Web") m qual st := by
  obtain ⟨fd, F⟩ := F
  exact ⟨_, fd, fun_of F, He.meth_ok g⟩
theorem facts {w : World} {K : PySem.W.Frag} {h : Heap} {mg : Str → Option Value} {f : Addr} (X : K.In h) (G : h.Ns mainGlobals mg) (hfa : mg ("law" : Str) = some (.ref f)) (c : OwnH.SaysO "/claim/cut.py" fa fn er K) (ck : KK.ck K = true) :
    ∃ fd : FuncData, (∀ (s : Shared) (v : Value), BindsTo s fd ⟨[v], []⟩ [("_law_script", v)]) ∧ ∀ base : Heap, K.In base → base.Ns mainGlobals mg → FnOk PySem.Challenge.rw_halfpicked_k44_prices_for_an_answer.prog w K mg base CX0 12 f fd ["_law_script"] (Y.spZ (yLaw K)) := by
  have fr : ∀ (i : Nat) (x : Str), fa[i]? = some (.free x) → mg x = none := fun i x e => He.free_ok X G (c.d.fact i (f := .free x) e)
  have T : Blt mg := ⟨fr 4 _ rfl, fr 5 _ rfl, fr 6 _ rfl, fr 7 _ rfl, fr 8 _ rfl, fr 9 _ rfl, fr 10 _ rfl, fr 11 _ rfl, fr 12 _ rfl, fr 13 _ rfl, fr 14 _ rfl, fr 15 _ rfl⟩
  have g1 := He.int_ok X G (c.d.fact 0 (f := .int "MOST_PLACES" 40) rfl)
  have g2 := He.int_ok X G (c.d.fact 1 (f := .int "MOST_TIES" 400) rfl)
  have g3 := He.int_ok X G (c.d.fact 2 (f := .int "LONGEST_NAME" 8) rfl)
  have g4 := He.int_ok X G (c.d.fact 3 (f := .int "GREATEST_PRICE" (10 ^ 30)) rfl)
  have W : WebC K mg (He.ga K "Web") := ⟨He.cls_ok (c.d.fact 17 (f := .cls "Web") rfl), He.noat_ok (c.d.fact 18 (f := .noat "Web" "_prices") rfl), He.noat_ok (c.d.fact 19 (f := .noat "Web" "_ties") rfl), He.glo_ok X G (c.d.fact 16 (f := .glo "Web") rfl)⟩
  have FI : ∃ f fd, Fun K "__init__" "Web.__init__" s_Web_init f fd ∧ Mk K (He.ga K "Web") f := by
    obtain ⟨fd, F⟩ := c.d.def_ 46 rfl
    exact ⟨_, fd, fun_of F, He.mkr_ok (c.d.fact 20 (f := .mkr "Web") rfl)⟩
  obtain ⟨wb1, wb3⟩ := Bool.and_eq_true_iff.mp ck

  have INS : C8.InsC K (He.ga K "Web") := OwnQ.ins_ok W.cl wb3
  obtain ⟨fd, FL⟩ := c.d.def_ 45 rfl
  have F_is_integer : Has K mg "is_integer" s_is_integer := has_of X G (c.d.fact 31 (f := .glo "is_integer") rfl) (c.d.def_ 0 rfl)
  have F_is_between : Has K mg "is_between" s_is_between := has_of X G (c.d.fact 32 (f := .glo "is_between") rfl) (c.d.def_ 1 rfl)
  have F_is_price : Has K mg "is_price" s_is_price := has_of X G (c.d.fact 33 (f := .glo "is_price") rfl) (c.d.def_ 2 rfl)
  have F_is_name : Has K mg "is_name" s_is_name := has_of X G (c.d.fact 34 (f := .glo "is_name") rfl) (c.d.def_ 3 rfl)
  have F_is_among : Has K mg "is_among" s_is_among := has_of X G (c.d.fact 35 (f := .glo "is_among") rfl) (c.d.def_ 4 rfl)
  have F_has_just : Has K mg "has_just" s_has_just := has_of X G (c.d.fact 36 (f := .glo "has_just") rfl) (c.d.def_ 5 rfl)
  have F_has_values : Has K mg "has_values" s_has_values := has_of X G (c.d.fact 37 (f := .glo "has_values") rfl) (c.d.def_ 6 rfl)
  have F_in_order : Has K mg "in_order" s_in_order := has_of X G (c.d.fact 38 (f := .glo "in_order") rfl) (c.d.def_ 7 rfl)
  have F_names_fault : Has K mg "names_fault" s_names_fault := has_of X G (c.d.fact 39 (f := .glo "names_fault") rfl) (c.d.def_ 8 rfl)
  have F_price_fault : Has K mg "price_fault" s_price_fault := has_of X G (c.d.fact 40 (f := .glo "price_fault") rfl) (c.d.def_ 9 rfl)
  have F_is_answer : Has K mg "is_answer" s_is_answer := has_of X G (c.d.fact 41 (f := .glo "is_answer") rfl) (c.d.def_ 10 rfl)
  have F_parts : Has K mg "parts" s_parts := has_of X G (c.d.fact 42 (f := .glo "parts") rfl) (c.d.def_ 11 rfl)
  have F_level_tie : Has K mg "level_tie" s_level_tie := has_of X G (c.d.fact 43 (f := .glo "level_tie") rfl) (c.d.def_ 12 rfl)
  have F__distances : Has K mg "_distances" s_distances := has_of X G (c.d.fact 44 (f := .glo "_distances") rfl) (c.d.def_ 13 rfl)
  have F_prices_for : Has K mg "prices_for" s_prices_for := has_of X G (c.d.fact 45 (f := .glo "prices_for") rfl) (c.d.def_ 14 rfl)
  have F_only_for : Has K mg "only_for" s_only_for := has_of X G (c.d.fact 46 (f := .glo "only_for") rfl) (c.d.def_ 15 rfl)
  have F_fault_of : Has K mg "fault_of" s_fault_of := has_of X G (c.d.fact 47 (f := .glo "fault_of") rfl) (c.d.def_ 16 rfl)
  have F__need_answer : Has K mg "_need_answer" s_need_answer := has_of X G (c.d.fact 48 (f := .glo "_need_answer") rfl) (c.d.def_ 17 rfl)
  have F__partners : Has K mg "_partners" s_partners := has_of X G (c.d.fact 49 (f := .glo "_partners") rfl) (c.d.def_ 18 rfl)
  have F__idle : Has K mg "_idle" s_idle := has_of X G (c.d.fact 50 (f := .glo "_idle") rfl) (c.d.def_ 19 rfl)
  have F__prices : Has K mg "_prices" s_prices := has_of X G (c.d.fact 51 (f := .glo "_prices") rfl) (c.d.def_ 20 rfl)
  have F__two_sides : Has K mg "_two_sides" s_two_sides := has_of X G (c.d.fact 52 (f := .glo "_two_sides") rfl) (c.d.def_ 21 rfl)
  have F__web_of : Has K mg "_web_of" s_web_of := has_of X G (c.d.fact 53 (f := .glo "_web_of") rfl) (c.d.def_ 22 rfl)
  have F__is_tie : Has K mg "_is_tie" s_is_tie := has_of X G (c.d.fact 54 (f := .glo "_is_tie") rfl) (c.d.def_ 23 rfl)
  have F__tie_fault : Has K mg "_tie_fault" s_tie_fault := has_of X G (c.d.fact 55 (f := .glo "_tie_fault") rfl) (c.d.def_ 24 rfl)
  have F__law_stream : Has K mg "_law_stream" s_law_stream := has_of X G (c.d.fact 56 (f := .glo "_law_stream") rfl) (c.d.def_ 25 rfl)
  have F__law_draw : Has K mg "_law_draw" s_law_draw := has_of X G (c.d.fact 57 (f := .glo "_law_draw") rfl) (c.d.def_ 26 rfl)
  have F__law_name : Has K mg "_law_name" s_law_name := has_of X G (c.d.fact 58 (f := .glo "_law_name") rfl) (c.d.def_ 27 rfl)
  have F__law_places : Has K mg "_law_places" s_law_places := has_of X G (c.d.fact 59 (f := .glo "_law_places") rfl) (c.d.def_ 28 rfl)
  have F__law_prices : Has K mg "_law_prices" s_law_prices := has_of X G (c.d.fact 60 (f := .glo "_law_prices") rfl) (c.d.def_ 29 rfl)
  have F__law_ties : Has K mg "_law_ties" s_law_ties := has_of X G (c.d.fact 61 (f := .glo "_law_ties") rfl) (c.d.def_ 30 rfl)
  have F__law_web : Has K mg "_law_web" s_law_web := has_of X G (c.d.fact 62 (f := .glo "_law_web") rfl) (c.d.def_ 31 rfl)
  have F__law_rows : Has K mg "_law_rows" s_law_rows := has_of X G (c.d.fact 63 (f := .glo "_law_rows") rfl) (c.d.def_ 32 rfl)
  have F__law_is_integer : Has K mg "_law_is_integer" s_law_is_integer := has_of X G (c.d.fact 64 (f := .glo "_law_is_integer") rfl) (c.d.def_ 33 rfl)
  have F__law_is_answer : Has K mg "_law_is_answer" s_law_is_answer := has_of X G (c.d.fact 65 (f := .glo "_law_is_answer") rfl) (c.d.def_ 34 rfl)
  have F__law_sum : Has K mg "_law_sum" s_law_sum := has_of X G (c.d.fact 66 (f := .glo "_law_sum") rfl) (c.d.def_ 35 rfl)
  have F__law_answers : Has K mg "_law_answers" s_law_answers := has_of X G (c.d.fact 67 (f := .glo "_law_answers") rfl) (c.d.def_ 36 rfl)
  have F__law_drawn_answer : Has K mg "_law_drawn_answer" s_law_drawn_answer := has_of X G (c.d.fact 68 (f := .glo "_law_drawn_answer") rfl) (c.d.def_ 37 rfl)
  have F__law_near : Has K mg "_law_near" s_law_near := has_of X G (c.d.fact 69 (f := .glo "_law_near") rfl) (c.d.def_ 38 rfl)
  have F__law_is_lone : Has K mg "_law_is_lone" s_law_is_lone := has_of X G (c.d.fact 70 (f := .glo "_law_is_lone") rfl) (c.d.def_ 39 rfl)
  have F__law_lone_places : Has K mg "_law_lone_places" s_law_lone_places := has_of X G (c.d.fact 71 (f := .glo "_law_lone_places") rfl) (c.d.def_ 40 rfl)
  have F__law_tidied : Has K mg "_law_tidied" s_law_tidied := has_of X G (c.d.fact 72 (f := .glo "_law_tidied") rfl) (c.d.def_ 41 rfl)
  have F__law_are_prices : Has K mg "_law_are_prices" s_law_are_prices := has_of X G (c.d.fact 73 (f := .glo "_law_are_prices") rfl) (c.d.def_ 42 rfl)
  have F__law_refused : Has K mg "_law_refused" s_law_refused := has_of X G (c.d.fact 74 (f := .glo "_law_refused") rfl) (c.d.def_ 43 rfl)
  have F__law_turned : Has K mg "_law_turned" s_law_turned := has_of X G (c.d.fact 75 (f := .glo "_law_turned") rfl) (c.d.def_ 44 rfl)
  have F_law : Has K mg "law" s_law := has_of X G (c.d.fact 76 (f := .glo "law") rfl) (c.d.def_ 45 rfl)
  have M_places : HasM K (He.ga K "Web") "places" "Web.places" s_Web_places := hasM_of (c.d.fact 21 (f := .meth "Web" "places") rfl) (c.d.def_ 47 rfl)
  have M_ties : HasM K (He.ga K "Web") "ties" "Web.ties" s_Web_ties := hasM_of (c.d.fact 22 (f := .meth "Web" "ties") rfl) (c.d.def_ 48 rfl)
  have M_near : HasM K (He.ga K "Web") "near" "Web.near" s_Web_near := hasM_of (c.d.fact 23 (f := .meth "Web" "near") rfl) (c.d.def_ 49 rfl)
  have M_with_price : HasM K (He.ga K "Web") "with_price" "Web.with_price" s_Web_with_price := hasM_of (c.d.fact 24 (f := .meth "Web" "with_price") rfl) (c.d.def_ 50 rfl)
  have M_inside : HasM K (He.ga K "Web") "inside" "Web.inside" s_Web_inside := hasM_of (c.d.fact 25 (f := .meth "Web" "inside") rfl) (c.d.def_ 51 rfl)
  have M__need : HasM K (He.ga K "Web") "_need" "Web._need" s_Web_need := hasM_of (c.d.fact 26 (f := .meth "Web" "_need") rfl) (c.d.def_ 52 rfl)
  have M__part : HasM K (He.ga K "Web") "_part" "Web._part" s_Web_part := hasM_of (c.d.fact 27 (f := .meth "Web" "_part") rfl) (c.d.def_ 53 rfl)
  have hlaw : f = He.ga K "law" := by
    have := hfa.symm.trans (He.glo_ok X G (c.d.fact 76 (f := .glo "law") rfl))
    cases this
    rfl
  subst hlaw
  refine ⟨fd, fun s v => FunD.bindsA (ps := ["_law_script"]) FL (fun _ _ _ _ _ _ us hl => match us, hl with | [_], _ => rfl) s [v] rfl, fun base _ _ => ?_⟩
  have YSTREAM := y_stream (z_stream (P := PySem.Challenge.rw_halfpicked_k44_prices_for_an_answer.prog) (w := w) (base := base) T F__law_stream)
  have ZDRAW := z_draw (P := PySem.Challenge.rw_halfpicked_k44_prices_for_an_answer.prog) (w := w) (base := base) T F__law_draw
  have YDRAW := y_draw ZDRAW
  have YNAME2 := y_name2 T F__law_name YDRAW
  have YPLACES2 := y_places2 T F__law_places YNAME2
  have YTIES2 := y_ties2 T F__law_ties YDRAW
  have YPRICES2 := y_prices2 T F__law_prices YDRAW
  have YWEB2 := y_web2 T F__law_web YSTREAM YDRAW YPLACES2 YTIES2 YPRICES2
  have CISNAME := c_isname (P := PySem.Challenge.rw_halfpicked_k44_prices_for_an_answer.prog) (w := w) (base := base) T g3 F_is_name
  have CNAMESF := c_namesf T g1 F_names_fault CISNAME
  have CAMONG := c_among (P := PySem.Challenge.rw_halfpicked_k44_prices_for_an_answer.prog) (w := w) (base := base) T F_is_among
  have CISTIE := c_istie T F__is_tie CAMONG
  have CINORDER := c_order (P := PySem.Challenge.rw_halfpicked_k44_prices_for_an_answer.prog) (w := w) (base := base) T F_in_order
  have CTIEF := c_tief T g2 F__tie_fault CISTIE CINORDER
  have CHASJUST := c_just (P := PySem.Challenge.rw_halfpicked_k44_prices_for_an_answer.prog) (w := w) (base := base) T F_has_just
  have CISINT := c_isint (P := PySem.Challenge.rw_halfpicked_k44_prices_for_an_answer.prog) (w := w) (base := base) T F_is_integer
  have CISBET := c_between (P := PySem.Challenge.rw_halfpicked_k44_prices_for_an_answer.prog) (w := w) (base := base) T F_is_between CISINT
  have CPRICEF := c_pricef T g4 F_price_fault CHASJUST CISBET
  have CMAKE := c_init T W FI CNAMESF CTIEF CPRICEF CINORDER
  have YDRAWNA := y_drawna T F__law_drawn_answer YDRAW
  have YLNEAR := y_lnear (P := PySem.Challenge.rw_halfpicked_k44_prices_for_an_answer.prog) (w := w) (base := base) T F__law_near
  have YLONE := y_lone T F__law_is_lone YLNEAR
  have YTIDIED := y_tidied T F__law_tidied YLONE
  have YLINT := y_lint (P := PySem.Challenge.rw_halfpicked_k44_prices_for_an_answer.prog) (w := w) (base := base) T F__law_is_integer
  have YAREPR := y_arepr T F__law_are_prices YLINT
  have CNEED := c_need T W M__need CAMONG
  have CISPRICE := c_isprice T g4 F_is_price CISBET
  have CWEBOF := c_webof T F__web_of CMAKE
  have CWP := c_withprice T W M_with_price CNEED CISPRICE CWEBOF
  have YWP := y_withprice (z_withprice CWP)
  have YLONEP := y_lonep T F__law_lone_places YLONE
  have YROWS2 := y_rows2 (P := PySem.Challenge.rw_halfpicked_k44_prices_for_an_answer.prog) (w := w) (base := base) T F__law_rows
  have YLISANS := y_lisans T F__law_is_answer YLINT
  have YANSWERS2 := y_answers2 T F__law_answers YROWS2 YLISANS
  have YTURNED := y_turned (P := PySem.Challenge.rw_halfpicked_k44_prices_for_an_answer.prog) (w := w) (base := base) T F__law_turned
  have YJUST := y_just (P := PySem.Challenge.rw_halfpicked_k44_prices_for_an_answer.prog) (w := w) (base := base) T F_has_just
  have YINT := y_int (P := PySem.Challenge.rw_halfpicked_k44_prices_for_an_answer.prog) (w := w) (base := base) T F_is_integer
  have YBETC := y_bet T F_is_between YINT
  have YVALS := y_vals T F_has_values YJUST YBETC
  have CPLACES := c_places (P := PySem.Challenge.rw_halfpicked_k44_prices_for_an_answer.prog) (w := w) (base := base) T W M_places
  have YPLACES := y_places CPLACES
  have CTIES := c_ties (P := PySem.Challenge.rw_halfpicked_k44_prices_for_an_answer.prog) (w := w) (base := base) T W M_ties
  have YTIES := y_ties CTIES
  have YISANS := y_isans T F_is_answer YVALS YPLACES YTIES
  have YNEEDANS := y_needans T F__need_answer YISANS
  have YAMONG := y_among (P := PySem.Challenge.rw_halfpicked_k44_prices_for_an_answer.prog) (w := w) (base := base) T F_is_among
  have YNEED := y_need T W M__need YAMONG
  have YNEAR := y_near T W M_near YNEED
  have YPARTN := y_partn T F__partners YNEAR
  have YIDLE := y_idle T F__idle YPLACES YPARTN
  have YBPRICES := y_bprices T F__prices YPLACES YPARTN
  have YPRICESFOR := y_pricesfor T F_prices_for YNEEDANS YIDLE YBPRICES
  have YLSUM := y_lsum (P := PySem.Challenge.rw_halfpicked_k44_prices_for_an_answer.prog) (w := w) (base := base) T F__law_sum
  have EN_NoAnswer := errN_of (He.exc_ok (c.d.fact 28 (f := .exc "NoAnswer") rfl)) (He.glo_ok X G (c.d.fact 30 (f := .glo "NoAnswer") rfl))
  have EXT_NoAnswer__NoAnswer := He.exm_ok (c.d.fact 29 (f := .exm "NoAnswer" "NoAnswer" true) rfl)
  have YJUSTV := y_justV (P := PySem.Challenge.rw_halfpicked_k44_prices_for_an_answer.prog) (w := w) (base := base) T F_has_just
  have YINTV := y_intV (P := PySem.Challenge.rw_halfpicked_k44_prices_for_an_answer.prog) (w := w) (base := base) T F_is_integer
  have YBETV := y_betV T F_is_between YINTV
  have YVALSN := y_valsN T F_has_values YJUSTV YBETV
  have YISANSN := y_isansN T F_is_answer YVALSN YPLACES YTIES
  have YNEEDN := y_needN T F__need_answer YISANSN EN_NoAnswer
  have YPRICESN := y_pricesN T F_prices_for YNEEDN YIDLE YBPRICES
  have CPART := c_part T W M__part CWEBOF
  have YWPART := y_wpart (z_part CPART)
  have YINSIDE := y_inside T W M_inside YNEED YWPART
  have YDISTS := y_dists T F__distances YNEAR
  have YPARTSF := y_partsf T F_parts YPLACES YDISTS
  have YLEVEL := y_level T F_level_tie YTIES
  have YTWOSIDES := y_twosides T F__two_sides YPARTSF YLEVEL
  have YFAULTN := y_faultN T F_fault_of YNEEDN YIDLE YPLACES YINSIDE YTWOSIDES
  have YONLYN := y_onlyN T F_only_for YFAULTN YBPRICES
  have YREFN := y_refN T F__law_refused EN_NoAnswer EXT_NoAnswer__NoAnswer YPRICESN YONLYN YFAULTN
  obtain ⟨f', fd', F', hm, ok⟩ := y_law44 T F_law YSTREAM YDRAW YWEB2 CMAKE YDRAWNA YTIDIED YAREPR YWP YLONEP YANSWERS2 YTURNED YPRICESFOR YLSUM YREFN
  have ef : f' = He.ga K "law" := by
    have := hm.symm.trans hfa
    cases this
    rfl
  subst ef
  have efd : fd' = fd := by
    obtain ⟨oc, od, kV, doc, pm, an, cdv, ct, osl, _, lk, _⟩ := F'.ex
    obtain ⟨oc2, od2, dV2, kV2, doc2, pm2, an2, cdv2, ct2, osl2, _, lk2, _⟩ := FL.ex
    have e := lk.symm.trans lk2
    injection e with e
    injection e with _ _ e _
    injection e
  subst efd
  exact ok
end KK
open PySem PySem.W PySem.Calls PyProof.Rows
theorem PySem.Challenge.cw_halfpicked_k44_prices_for_an_answer_holds : PySem.Challenge.rw_halfpicked_k44_prices_for_an_answer.Holds := by
  w_on; o_law
  refine HandSHeadRun.head_any (r := OpenLaw.row PySem.Challenge.rw_halfpicked_k44_prices_for_an_answer) (q := view (OpenLaw.row PySem.Challenge.rw_halfpicked_k44_prices_for_an_answer).prog [68]) (H := KK.hk) (ob := KK.ob) (M := 12000) (loose := KK.looseA ++ KK.looseB ++ KK.looseC) (d := HandSHeadRun.topDef (OpenLaw.row PySem.Challenge.rw_halfpicked_k44_prices_for_an_answer).prog 68) (kwd := []) KK.ob_eq
    (by kernel_rfl) (fun s => by kernel_rfl) KK.run (by kernel_rfl) (by kernel_rfl) (by kernel_rfl) (by rfl) (by first | assumption | decide +kernel) (by decide +kernel) ⟨rfl, rfl, rfl, rfl, rfl, by decide +kernel⟩ ?hw ?hc
  case hw => w_witness2
  case hc =>
    refine L2.walk_ofE (l := PySem.Challenge.rw_halfpicked_k44_prices_for_an_answer) (n := 63) (k := 12) (x := "_law_script") (CX := L2.CX0) rfl (by decide) (by kernel_rfl) ⟨rfl, by decide, by decide⟩ ?F (fun _ _ _ _ z => z)
    intro w mg fa h Y G hmg0
    obtain ⟨K, KX, c, ck⟩ := Y
    have hmg : mg ("law" : PySem.Str) = some (.ref fa) := by
      have e : (HandSHeadRun.topDef (OpenLaw.row PySem.Challenge.rw_halfpicked_k44_prices_for_an_answer).prog 68).name = ("law" : PySem.Str) := by kernel_rfl
      rw [← e]
      exact hmg0
    obtain ⟨fd, hb, hF⟩ := KK.facts (w := w) KX G hmg c ck
    exact ⟨K, fd, Y.spZ (KK.yLaw K), KX, hb, fun H a ns hl _ hS => KK.spY_law (Nat.le_trans hl (by decide)) hS, hF⟩
end
