import PyProof.Rows.All
import Wide.All
import OpenK.AllK
import Wide.FinOn
import HandS.ForMost
import HandS.SortInts
import HandS.Wide
import HandS.IsInst
import HandS.Codes
import HandS.DictComp
import HandS.Conv
import HandS.DictTup
import HandS.Walk
import PySem.Challenge.RW_halfpicked_k09_worth_by_hand
import KE.KExcSuper
import HandS.ForExc
import HandS.ExcField
import HandS.ExcSuper
import HandS.HeadHook1
import HandS.HeadHook2
import HandS.Defaults
import HandS.SlotsOwn
import PyProof.InstNe
import HandS.Head0
import HandS.Head1
import HandS.Head2
import HandS.HeadEnd
import KE.GoesMore
import HandS.More
import HandS.Deep
import HandS.DictEq
import KE.KEqDict
import HandS.WordsDict
import HandS.Evl
import HandS.TupAny
import HandS.Style
import HandS.WideBits
import HandS.Finally
import HandS.Text
import PyProof.TupleOfGen
import KE.KDictList
import PyProof.DictUpdate
import PyProof.DictDisplay
import HandS.Dict
import HandS.Star
import HandS.TryMany
import HandS.ExcOwn
import KE.KDictZip
import KE.KDictKeyed
import KE.KTurns
import HandS.Iter
import HandS.Call
import HandS.TupLen
import PyProof.Rows.InDataRows
import HandS.Flow
import HandS.Property
import HandS.NoneIn
import HandS.Zip
import KE.KRevSl
set_option Elab.async false
set_option linter.all false
section
set_option maxRecDepth 100000
set_option maxHeartbeats 4000000
namespace Own
open PySem PySem.Spec PyProof.Rows L2 SrtO
/-! ### the order of texts and of pairs of texts -/
def ltS (x y : Str) : Bool := decide (x.cps.toList < y.cps.toList)
def ltP (p q : Str × Str) : Bool := if p.1 = q.1 then ltS p.2 q.2 else ltS p.1 q.1
theorem ltS_irr (x : Str) : ltS x x = false := decide_eq_false (List.lt_irrefl _)
theorem ltS_asym {x y : Str} (h : ltS x y = true) : ltS y x = false := by
  have h1 := of_decide_eq_true h
  exact decide_eq_false fun h2 => List.lt_irrefl _ (List.lt_trans h1 h2)
theorem cps_ext {x y : Str} (h : x.cps.toList = y.cps.toList) : x = y := by
  obtain ⟨x⟩ := x
  obtain ⟨y⟩ := y
  have h' : x.toList = y.toList := h
  rw [Array.toList_inj.mp h']
theorem ltS_tri {x y : Str} (h1 : ltS x y = false) (h2 : ltS y x = false) : x = y := by
  have a := of_decide_eq_false h1
  have b := of_decide_eq_false h2
  exact cps_ext (List.le_antisymm (List.not_lt.mp b) (List.not_lt.mp a))
theorem ltS_trans {x y z : Str} (h1 : ltS x y = true) (h2 : ltS y z = true) : ltS x z = true :=
  decide_eq_true (List.lt_trans (of_decide_eq_true h1) (of_decide_eq_true h2))
theorem ltS_tot {x y : Str} (h : x ≠ y) : ltS x y = true ∨ ltS y x = true := by
  cases h1 : ltS x y with
  | true => exact .inl rfl
  | false =>
    cases h2 : ltS y x with
    | true => exact .inr rfl
    | false => exact absurd (ltS_tri h1 h2) h
theorem swoS : Swo ltS := by
  refine ⟨fun x y h => ltS_asym h, fun x y z h1 h2 => ?_⟩
  cases h3 : ltS z x with
  | false => rfl
  | true =>
    by_cases e : x = y
    · subst e
      rw [h3] at h2
      cases h2
    · rcases ltS_tot e with q | q
      · have := ltS_trans h3 q
        rw [h2] at this
        cases this
      · rw [h1] at q
        cases q
theorem ltP_asym {p q : Str × Str} (h : ltP p q = true) : ltP q p = false := by
  unfold ltP at h ⊢
  by_cases e : p.1 = q.1
  · rw [if_pos e] at h
    rw [if_pos e.symm]
    exact ltS_asym h
  · rw [if_neg e] at h
    rw [if_neg fun z => e z.symm]
    exact ltS_asym h
theorem swoP : Swo ltP := by
  refine ⟨fun x y h => ltP_asym h, fun x y z h1 h2 => ?_⟩
  unfold ltP at h1 h2 ⊢
  by_cases e1 : z.1 = x.1
  · rw [if_pos e1]
    by_cases e2 : y.1 = x.1
    · rw [if_pos e2] at h1
      rw [if_pos (e1.trans e2.symm)] at h2
      exact swoS.tr _ _ _ h1 h2
    · rw [if_neg e2] at h1
      rw [if_neg fun q => e2 (q.symm.trans e1), e1] at h2
      exact absurd (ltS_tri h1 h2) e2
  · rw [if_neg e1]
    by_cases e2 : y.1 = x.1
    · rw [if_neg fun q => e1 (q.trans e2), e2] at h2
      exact h2
    · rw [if_neg e2] at h1
      by_cases e3 : z.1 = y.1
      · rw [e3]
        exact h1
      · rw [if_neg e3] at h2
        exact swoS.tr _ _ _ h1 h2
/-- in ascending order -/
def AscS (l : List Str) : Prop := l.Pairwise fun x y => ltS y x = false
def AscP (l : List (Str × Str)) : Prop := l.Pairwise fun x y => ltP y x = false
/-! ### sorted of a list or a tuple, by an order -/
section
variable {prog : Program} {w : World} {A : Around} {E : Value → Shared → Prop} {s : Shared}
theorem sorted_seq_ord {it : Addr} {T : String} {o : Obj} {vs : List Value} {n : Nat} {ltv : Value → Value → Bool} {Q : Value → Shared → Prop} (O : Swo ltv) (hT : T = "list" ∨ T = "tuple") (ho : s.heap.get? it = some o) (hc : o.cls = .type T)
    (hd : o.data = .seq vs.toArray n) (hz : vs.length ≤ sizeLine)
    (hS : 2 ≤ vs.length → ∀ (h₁ : Heap) (a : Addr), h₁.get? a = some (seqObj "list" vs.toArray 0) → (∀ b o, s.heap.get? b = some o → b ≠ a ∧ h₁.get? b = some o) → SortableO prog w A.in1.in1 { s with heap := h₁ } a vs ltv)
    (h : ∀ (h' : Heap) (out : List Value), Srtd ltv out → Stb ltv out vs → (∀ b o, s.heap.get? b = some o → h'.get? b = some o) → Q (.ref h'.objs.size) { s with heap := sortedHeap (h'.push (seqObj "list" vs.toArray 0)) h'.objs.size vs out.toArray }) :
    wpAny (model prog w) A (call (.builtin "sorted") [.ref it]) Q E s := by
  refine Calls.call_function_entry kind_sorted plain_sorted entry_sorted (args_sorted1 _) ?_
  unfold Builtin.«sorted»
  refine wpAny_bind (m := checkCount "sorted" 1 1 _) (wpAny_pure ?_)
  refine wpAny_bind (wpAny_collect_seq (items := vs.toArray) it hT ho hc hd (fun h' hk => ?_) (by simpa using hz))
  rw [show vs.toArray.toList = vs by simp]
  refine wpAny_bind (wpAny_newList ?_ hz)
  have hoL : (h'.push (seqObj "list" vs.toArray 0)).get? h'.objs.size = some (seqObj "list" vs.toArray 0) := Heap.get?_push_size _ rfl
  have keep : ∀ b o, s.heap.get? b = some o → b ≠ h'.objs.size ∧ (h'.push (seqObj "list" vs.toArray 0)).get? b = some o := fun b o q => ⟨Nat.ne_of_lt (Heap.lt_size (hk b o q)), Heap.get?_push_of_some _ (hk b o q)⟩
  show wpAny _ _ _ _ _ { s with heap := h'.push (seqObj "list" vs.toArray 0) }
  refine wpAny_bind (wpAny_holding (wpAny_call_entry slot_list_sort ⟨_, hoL, rfl⟩ entry_list_sort (list_sort_ord (s := { s with heap := h'.push (seqObj "list" vs.toArray 0) }) O hoL hz (fun h2 => hS h2 _ _ hoL keep) fun out hs hb => ⟨_, rfl, ?_⟩) (args_list_sort _)))
  exact wpAny_pure ⟨_, rfl, h h' out hs hb hk⟩
/-! ### texts -/
def sv : Value → Str
  | .str x _ => x
  | _ => ⟨#[]⟩
theorem swo_sv : Swo fun v u => ltS (sv v) (sv u) := ⟨fun x y => swoS.asym _ _, fun x y z => swoS.tr _ _ _⟩
theorem strs_sortable {a : Addr} {vs : List Value} {ss : List Str} (hS : StrsAre vs ss) (h2 : 2 ≤ vs.length) : SortableO prog w A s a vs fun v u => ltS (sv v) (sv u) := by
  intro h' _
  refine ⟨oneType', fun Q E hq => ?_, fun p q hm hm' => ?_⟩
  · match vs, hS, h2 with
    | v1 :: v2 :: rest, hS, _ =>
      rw [keyKind_strs hS]
      exact wpAny_pure hq
    | [], _, h => exact absurd h (by decide)
    | [v], _, h => exact absurd h (by simp)
  · obtain ⟨x, t, e⟩ := hS.all _ hm
    obtain ⟨y, u, e'⟩ := hS.all _ hm'
    show wpAny (model prog w) A (keyLt' oneType' p.1 q.1) (fun r s' => s' = _ ∧ r = ltS (sv p.1) (sv q.1)) (fun _ _ => False) _
    rw [e, e', keyLt'_oneType]
    exact oneLt_str ⟨rfl, rfl⟩
/-! ### pairs of texts -/
def IsTS (h : Heap) (v : Value) (x y : Str) : Prop := ∃ a o t u n, v = .ref a ∧ h.get? a = some o ∧ o.cls = .type "tuple" ∧ o.data = .seq #[.str x t, .str y u] n
theorem IsTS.keeps {h h' : Heap} {v : Value} {x y : Str} (p : IsTS h v x y) (k : ∀ b o, h.get? b = some o → o.cls = .type "tuple" → h'.get? b = some o) : IsTS h' v x y := by
  obtain ⟨a, o, t, u, n, e, ho, hc, hd⟩ := p
  exact ⟨a, o, t, u, n, e, k _ _ ho hc, hc, hd⟩
theorem firstsS {h : Heap} : ∀ {vs : List Value}, (∀ v ∈ vs, ∃ x y, IsTS h v x y) → ∃ fs : List Value, PySem.W.KatTups h vs fs ∧ fs.length = vs.length ∧ ∀ f ∈ fs, ∃ x t, f = Value.str x t
  | [], _ => ⟨[], PySem.W.KatTups.nil, rfl, fun _ hm => by simp at hm⟩
  | v :: vs, hp => by
    obtain ⟨fs, h1, h2, h3⟩ := firstsS (vs := vs) fun v' hm => hp v' (List.mem_cons_of_mem _ hm)
    obtain ⟨x, y, a, o, t, u, n, e, ho, hc, hd⟩ := hp v (List.mem_cons_self ..)
    subst e
    refine ⟨.str x t :: fs, PySem.W.KatTups.cons ho hc hd rfl h1, by rw [List.length_cons, List.length_cons, h2], fun f hm => ?_⟩
    rcases List.mem_cons.mp hm with rfl | hm
    · exact ⟨x, t, rfl⟩
    · exact h3 f hm
theorem tsCmp {vs : List Value} {k : Value → Str × Str} (hp : ∀ v ∈ vs, IsTS s.heap v (k v).1 (k v).2) : Cmp prog w A s (tuples' true) (fun p => p.1 ∈ vs) (lt2 fun v u => ltP (k v) (k u)) := by
  intro p q hm hm'
  have h1 := hp _ hm
  have h2 := hp _ hm'
  show wpAny (model prog w) A (keyLt' (tuples' true) p.1 q.1) (fun r s' => s' = s ∧ r = ltP (k p.1) (k q.1)) (fun _ _ => False) s
  unfold ltP
  generalize (k p.1).1 = x at h1 ⊢
  generalize (k p.1).2 = y at h1 ⊢
  generalize (k q.1).1 = x' at h2 ⊢
  generalize (k q.1).2 = y' at h2 ⊢
  obtain ⟨a, o, t, u, n, e, ho, hc, hd⟩ := h1
  obtain ⟨a', o', t', u', n', e', ho', hc', hd'⟩ := h2
  rw [e, e']
  refine PySem.W.kat_lt ho hd ho' hd' ?_
  show PySem.W.KatLex prog w A true (decide (2 < 2)) _ [(.str x t, .str x' t'), (.str y u, .str y' u')] 0 s
  refine PySem.W.kat_cons (wpAny_eqBool_str ?_)
  refine PySem.W.kat_go (fun e1 => ?_) (fun e1 => ?_)
  · have ex : x = x' := by simpa using e1
    refine PySem.W.kat_yes (PySem.W.kat_cons (wpAny_eqBool_str ?_))
    refine PySem.W.kat_go (fun e2 => ?_) (fun e2 => ?_)
    · have ey : y = y' := by simpa using e2
      have e3 : (if x = x' then ltS y y' else ltS x x') = false := by rw [if_pos ex, ey, ltS_irr]
      exact PySem.W.kat_yes (PySem.W.kat_nil ⟨rfl, e3.symm⟩)
    · have e3 : (if x = x' then ltS y y' else ltS x x') = ltS y y' := if_pos ex
      refine PySem.W.kat_no (PySem.W.kat_one _ _ (PyProof.Rows.lt_str ?_))
      exact (show s = s ∧ decide (y.cps.toList < y'.cps.toList) = (if x = x' then ltS y y' else ltS x x') from ⟨rfl, e3.symm⟩)
  · have ex : ¬ x = x' := by simpa using e1
    have e3 : (if x = x' then ltS y y' else ltS x x') = ltS x x' := if_neg ex
    exact PySem.W.kat_no (oneLt_str ⟨rfl, e3.symm⟩)
theorem ts_sortable {a : Addr} {vs : List Value} {k : Value → Str × Str} (h0 : 0 < vs.length) (hp : ∀ v ∈ vs, IsTS s.heap v (k v).1 (k v).2) (ha : ∀ o, s.heap.get? a = some o → o.cls ≠ .type "tuple") : SortableO prog w A s a vs fun v u => ltP (k v) (k u) := by
  intro h' keep
  have hp' : ∀ v ∈ vs, IsTS h' v (k v).1 (k v).2 := fun v hm => (hp v hm).keeps fun b o e c => keep b o (fun z => by subst z; exact ha o e c) e
  obtain ⟨fs, h1, h2, h3⟩ := firstsS fun v hm => ⟨_, _, hp' v hm⟩
  refine ⟨tuples' true, fun Q E hq => ?_, tsCmp hp'⟩
  refine PySem.W.kat_kind (T := .type "str") h1 (by omega) (fun f hm => ?_) (by rfl) ?_
  · obtain ⟨x, t, rfl⟩ := h3 f hm
    exact PySem.W.Looks.now
  · have e : (Value.type "str" != Value.type "tuple") = true := by first | decide +kernel | rfl | decide
    rw [e]
    exact hq
end

/-! ### the rules -/
def tieV (H : Hp) : V → Str × Str
  | .ref a => match H a with
    | some (.tup [.str x, .str y]) => (x, y)
    | _ => (⟨#[]⟩, ⟨#[]⟩)
  | _ => (⟨#[]⟩, ⟨#[]⟩)
theorem tieV_of {H : Hp} {t : Addr} {x y : Str} (h : H t = some (.tup [.str x, .str y])) : tieV H (.ref t) = (x, y) := by
  simp only [tieV, h]
def rSortS (K : PySem.W.Frag) : List V → Hp → VK → Prop := fun vs H Q => ∃ (a : Addr) (ss : List Str), vs = [V.ref a] ∧ (SqL K H a (ss.map V.str) ∨ SqT K H a (ss.map V.str)) ∧
  ∀ (ys : List Str) (p : Addr), ys.Perm ss → AscS ys → H p = none → Q (.ref p) (upd H p (.lst (ys.map V.str)))
def rSortT (K : PySem.W.Frag) : List V → Hp → VK → Prop := fun vs H Q => ∃ (a : Addr) (xs : List V), vs = [V.ref a] ∧ (SqL K H a xs ∨ SqT K H a xs) ∧ (∀ x ∈ xs, ∃ t a b, x = V.ref t ∧ H t = some (.tup [.str a, .str b])) ∧
  ∀ (ys : List V) (p : Addr), ys.Perm xs → AscP (ys.map (tieV H)) → H p = none → Q (.ref p) (upd H p (.lst ys))
section
variable {X : Cx}
theorem seq_at {pins : List (Addr × Obj)} {σ : L2.St} {H : Hp} {s : Shared} {a : Addr} {xs : List V} (I : Inv X pins σ H s) (h : SqL X.K H a xs ∨ SqT X.K H a xs) :
    ∃ (T : String) (o : Obj) (its : List Value) (n : Nat), (T = "list" ∨ T = "tuple") ∧ s.heap.get? a = some o ∧ o.cls = .type T ∧ o.data = .seq its.toArray n ∧ Vals xs its ∧ xs.length ≤ sizeLine := by
  rcases h with h | h
  · obtain ⟨its, rv, hl, hz⟩ := I.list h
    obtain ⟨o, ho, hc, n, hd⟩ := hl.isList
    exact ⟨"list", o, its, n, .inl rfl, ho, hc, hd, rv, hz⟩
  · obtain ⟨its, rv, ⟨o, ho, hc, n, hd⟩, hz⟩ := I.tuple h
    exact ⟨"tuple", o, its, n, .inr rfl, ho, hc, hd, rv, hz⟩
theorem vals_strs : ∀ {us : List Value}, (∀ v ∈ us, ∃ x t, v = Value.str x t) → Vals ((us.map sv).map V.str) us
  | [], _ => .nil
  | u :: us, h => by
    obtain ⟨x, t, e⟩ := h u List.mem_cons_self
    subst e
    exact .cons ⟨t, rfl⟩ (vals_strs fun v hv => h v (List.mem_cons_of_mem _ hv))
theorem sv_strs : ∀ {vs : List Value} {ss : List Str}, StrsAre vs ss → vs.map sv = ss
  | _, _, .nil => rfl
  | _, _, .cons x t h => by
    rw [List.map_cons, sv_strs h]
    rfl
theorem cr_sortS : CallR X (.builtin "sorted") (rSortS X.K) := by
  intro pins s σ H vs us Q I r h
  obtain ⟨a, ss, rfl, hs, q⟩ := h
  obtain ⟨T, o, its, n, hT, ho, hc, hd, rv, hz⟩ := seq_at I hs
  rw [Vals.ref1 r]
  have hS := rv.strs
  refine sorted_seq_ord swo_sv hT ho hc hd (by rw [← rv.length]; exact hz) (fun h2 h₁ a' _ _ => strs_sortable hS h2) fun h' out h1 h2 hk => ?_
  have I1 : Inv X pins σ H { s with heap := h' } := I.kept (t' := s.toks) hk
  have hoL : (h'.push (seqObj "list" its.toArray 0)).get? h'.objs.size = some (seqObj "list" its.toArray 0) := Heap.get?_push_size _ rfl
  obtain ⟨ep, he'⟩ := PyProof.Rows.sortedHeap_at (vs := its) (out := out.toArray) hoL
  have hall : ∀ v ∈ out, ∃ x t, v = Value.str x t := fun v hv => hS.all v (h2.perm.mem_iff.mp hv)
  have hp : (out.map sv).Perm ss := by
    have := h2.perm.map sv
    rwa [sv_strs hS] at this
  have hlen : ((out.map sv).map V.str).length ≤ sizeLine := by
    rw [List.length_map, hp.length_eq]
    rw [List.length_map] at hz
    exact hz
  refine ⟨.ref h'.objs.size, upd H h'.objs.size (.lst ((out.map sv).map V.str)), I1.laid (t' := s.toks) (fun b u e => ?_) (Nat.le_refl _) ⟨hlen, out, ep, vals_strs hall, he'⟩, rfl, q _ _ hp (List.pairwise_map.mpr h1) (I1.hok.fresh (Nat.le_refl _))⟩
  have hb : b < h'.objs.size := Heap.lt_size e
  rw [PyProof.Rows.sortedHeap_old (Nat.ne_of_lt hb) (by rw [size_push']; exact Nat.lt_succ_of_lt hb)]
  exact Heap.get?_push_of_some _ e
theorem cr_sortT : CallR X (.builtin "sorted") (rSortT X.K) := by
  intro pins s σ H vs us Q I r h
  obtain ⟨a, xs, rfl, hs, hx, q⟩ := h
  obtain ⟨T, o, its, n, hT, ho, hc, hd, rv, hz⟩ := seq_at I hs
  rw [Vals.ref1 r]
  obtain ⟨e1, e2⟩ := refs_back rv fun x m => by
    obtain ⟨t, _, _, e, _⟩ := hx x m
    exact ⟨t, e⟩
  have hp : ∀ v ∈ its, IsTS s.heap v (tieV H (backV v)).1 (tieV H (backV v)).2 := fun v hv => by
    obtain ⟨t, rfl⟩ := e2 v hv
    have hm : V.ref t ∈ xs := by rw [e1]; exact List.mem_map.mpr ⟨_, hv, rfl⟩
    obtain ⟨t', x, y, e, ht⟩ := hx _ hm
    cases e
    have et : tieV H (backV (Value.ref t)) = (x, y) := tieV_of ht
    rw [et]
    obtain ⟨_, its2, r2, o, ho, hc, n, hd⟩ := I.hok _ _ ht
    obtain ⟨u1, u2, rfl, ri, rj⟩ := vals2 r2
    obtain ⟨t1, rfl⟩ := ri
    obtain ⟨t2, rfl⟩ := rj
    exact ⟨t, o, t1, t2, n, rfl, ho, hc, hd⟩
  refine sorted_seq_ord (ltv := fun v u => ltP (tieV H (backV v)) (tieV H (backV u))) ⟨fun x y => swoP.asym _ _, fun x y z => swoP.tr _ _ _⟩ hT ho hc hd (by rw [← rv.length]; exact hz) (fun h2 h₁ a' ha kk => ?_) fun h' out h1 h2 hk => ?_
  · refine ts_sortable (s := { s with heap := h₁ }) (by omega) (fun v hm => (hp v hm).keeps fun b o e _ => (kk b o e).2) fun o e => ?_
    have e' : some o = some (seqObj "list" its.toArray 0) := e.symm.trans ha
    cases e'
    intro c
    exact absurd (Value.type.inj c) (by decide)
  have I1 : Inv X pins σ H { s with heap := h' } := I.kept (t' := s.toks) hk
  have hoL : (h'.push (seqObj "list" its.toArray 0)).get? h'.objs.size = some (seqObj "list" its.toArray 0) := Heap.get?_push_size _ rfl
  obtain ⟨ep, he'⟩ := PyProof.Rows.sortedHeap_at (vs := its) (out := out.toArray) hoL
  have h3 : ∀ u ∈ out, ∃ a, u = Value.ref a := fun u hu => e2 u (h2.perm.mem_iff.mp hu)
  have hpm : (out.map backV).Perm xs := by
    rw [e1]
    exact h2.perm.map backV
  have hlen : (out.map backV).length ≤ sizeLine := by
    rw [hpm.length_eq]
    exact hz
  refine ⟨.ref h'.objs.size, upd H h'.objs.size (.lst (out.map backV)), I1.laid (t' := s.toks) (fun b u e => ?_) (Nat.le_refl _) ⟨hlen, out, ep, vals_back h3, he'⟩, rfl, q _ _ hpm ?_ (I1.hok.fresh (Nat.le_refl _))⟩
  · have hb : b < h'.objs.size := Heap.lt_size e
    rw [PyProof.Rows.sortedHeap_old (Nat.ne_of_lt hb) (by rw [size_push']; exact Nat.lt_succ_of_lt hb)]
    exact Heap.get?_push_of_some _ e
  · rw [List.map_map]
    exact List.pairwise_map.mpr h1
end
end Own
end

section
set_option maxRecDepth 100000
set_option maxHeartbeats 4000000
namespace KK
open PySem PySem.Spec PyProof.Rows L2
def top (i : Nat) : Stmt := PySem.Challenge.pw_halfpicked_k09_worth_by_hand.main.body.getD i (.Pass ⟨0, 0, 0, 0⟩)
abbrev s_is_integer : Stmt := top 6
abbrev s_is_between : Stmt := top 7
abbrev s_is_name : Stmt := top 8
abbrev s_is_among : Stmt := top 9
abbrev s_has_just : Stmt := top 10
abbrev s_in_order : Stmt := top 11
abbrev s_names_fault : Stmt := top 12
abbrev s_price_fault : Stmt := top 13
abbrev s_opposite : Stmt := top 25
abbrev s_sides : Stmt := top 28
abbrev s_tie_rows : Stmt := top 29
abbrev s_merged : Stmt := top 30
abbrev s_worth : Stmt := top 32
abbrev s_web_of : Stmt := top 35
abbrev s_is_tie : Stmt := top 36
abbrev s_tie_fault : Stmt := top 37
abbrev s_law_stream : Stmt := top 39
abbrev s_law_draw : Stmt := top 40
abbrev s_law_name : Stmt := top 41
abbrev s_law_amount : Stmt := top 42
abbrev s_law_pair : Stmt := top 43
abbrev s_law_is_integer : Stmt := top 44
abbrev s_law_names : Stmt := top 45
abbrev s_law_ring : Stmt := top 46
abbrev s_law_star : Stmt := top 47
abbrev s_law_all_tied : Stmt := top 48
abbrev s_law_apart : Stmt := top 49
abbrev s_law : Stmt := top 50
abbrev s_BadPlaces_init : Stmt := inClass (top 16) 0
abbrev s_BadTie_init : Stmt := inClass (top 17) 0
abbrev s_BadPrice_init : Stmt := inClass (top 18) 0
abbrev s_NoPlace_init : Stmt := inClass (top 19) 0
abbrev s_CommonPlace_init : Stmt := inClass (top 20) 0
abbrev s_TooMany_init : Stmt := inClass (top 21) 0
abbrev s_Flow_init : Stmt := inClass (top 23) 0
abbrev s_Flow_link : Stmt := inClass (top 23) 1
abbrev s_Flow_fill : Stmt := inClass (top 23) 3
abbrev s_Flow_reach : Stmt := inClass (top 23) 4
abbrev s_Flow_levels : Stmt := inClass (top 23) 5
abbrev s_Flow_fill_shortest : Stmt := inClass (top 23) 6
abbrev s_Flow_path : Stmt := inClass (top 23) 7
abbrev s_Flow_climb : Stmt := inClass (top 23) 8
abbrev s_Sides_init : Stmt := inClass (top 27) 0
abbrev s_Sides_answer : Stmt := inClass (top 27) 1
abbrev s_Sides_answer_with : Stmt := inClass (top 27) 2
abbrev s_Sides_least : Stmt := inClass (top 27) 6
abbrev s_Sides_node : Stmt := inClass (top 27) 8
abbrev s_Sides_read : Stmt := inClass (top 27) 9
abbrev s_Web_init : Stmt := inClass (top 34) 0
abbrev s_Web_places : Stmt := inClass (top 34) 1
abbrev s_Web_ties : Stmt := inClass (top 34) 2
abbrev s_Web_price : Stmt := inClass (top 34) 3
abbrev s_Web_len : Stmt := inClass (top 34) 6
abbrev s_Web_contains : Stmt := inClass (top 34) 7
abbrev s_Web_eq : Stmt := inClass (top 34) 8
abbrev s_Web_add : Stmt := inClass (top 34) 15
abbrev s_Web_need : Stmt := inClass (top 34) 16
/-! ### what the text has written -/
/-- a def of the top -/
def Has (K : PySem.W.Frag) (mg : Str → Option Value) (x : Str) (st : Stmt) : Prop := ∃ f fd, Fun K x x st f fd ∧ mg x = some (.ref f)
/-- a method -/
def HasM (K : PySem.W.Frag) (C : Addr) (m qual : Str) (st : Stmt) : Prop := ∃ f fd, Fun K m qual st f fd ∧ Meth K C m f
/-- an int of the top -/
structure GInt (mg : Str → Option Value) (x : Str) (i : Int) : Prop where
  ex : ∃ t, mg x = some (.int i t)
/-- the built-in names that nobody has bound -/
structure Blt (mg : Str → Option Value) : Prop where
  b_len : mg "len" = none
  b_isinstance : mg "isinstance" = none
  b_int : mg "int" = none
  b_str : mg "str" = none
  b_bool : mg "bool" = none
  b_list : mg "list" = none
  b_tuple : mg "tuple" = none
  b_dict : mg "dict" = none
  b_sorted : mg "sorted" = none
  b_all : mg "all" = none
  b_range : mg "range" = none
  b_enumerate : mg "enumerate" = none
section
variable {P : Program} {w : World} {K : PySem.W.Frag} {mg : Str → Option Value} {base : Heap}
theorem calF {x : Str} {st : Stmt} {N ps : List Str} {k : Nat} {sp : Sp} (F : Has K mg x st) (b : ∀ f fd, Fun K x x st f fd → Binds K fd ps []) (S : FnScope N ps (defScope st)) (len : ∀ vs H Q E, sp vs H Q E → vs.length = ps.length)
    (hbody : ∀ (f : Addr) (cdv : Value) (A : Around) (outer : List Env) (s : Shared) (H : Hp) (vs : List V) (Q : VK) (E : XK), Room k (A.deeper (envOfC x (defScope st) s.heap.objs.size f cdv)) → sp vs H Q E →
      ∃ t, PSs (cxOf CX0 P w K mg base N x (defScope st) f cdv A outer s H E).nox (defBody st) t ∧ t { nx := fun _ H' => Q .non H', rt := Q } (start N vs) H) : C8.Cal P w K mg base (k + 1) x sp [] := by
  obtain ⟨f, fd, F, hm⟩ := F
  exact ⟨f, fd, ps, [], F.ok S len (hbody f), hm, F.kp, b f fd F, .nil⟩
theorem metF {m qual : Str} {C : Addr} {st : Stmt} {N ps : List Str} {k : Nat} {sp : Sp} (c : Cls K C) (F : HasM K C m qual st) (b : ∀ f fd, Fun K m qual st f fd → Binds K fd ps []) (S : FnScope N ps (defScope st)) (len : ∀ vs H Q E, sp vs H Q E → vs.length = ps.length)
    (hbody : ∀ (f : Addr) (cdv : Value) (A : Around) (outer : List Env) (s : Shared) (H : Hp) (vs : List V) (Q : VK) (E : XK), Room k (A.deeper (envOfC qual (defScope st) s.heap.objs.size f cdv)) → sp vs H Q E →
      ∃ t, PSs (cxOf CX0 P w K mg base N qual (defScope st) f cdv A outer s H E).nox (defBody st) t ∧ t { nx := fun _ H' => Q .non H', rt := Q } (start N vs) H) : C8.Met P w K mg base (k + 1) C m sp [] := by
  obtain ⟨f, fd, F, hm⟩ := F
  exact ⟨f, fd, ps, [], c, hm, F.ok S len (hbody f), b f fd F, .nil⟩
end
/-! ### heaps -/
/-- all that stood stands, but what is at a -/
def But (a : Addr) (H H' : Hp) : Prop := ∀ b o, H b = some o → b ≠ a → H' b = some o
theorem But.trans {a : Addr} {H H1 H2 : Hp} (x : But a H H1) (y : But a H1 H2) : But a H H2 := fun b o h n => y b o (x b o h n) n
theorem But.of {a : Addr} {H H' : Hp} (x : Same H H') : But a H H' := fun b o h _ => x b o h
theorem But.upd {a : Addr} {H : Hp} {o : HO} : But a H (upd H a o) := fun b u h n => by rw [upd_ne n]; exact h
theorem Same.new {H : Hp} {p : Addr} {o : HO} (h : H p = none) : Same H (upd H p o) := fun a u e => by
  rw [upd_ne (ne_of_none e h)]
  exact e
theorem Same.seqT {K : PySem.W.Frag} {H H' : Hp} {a : Addr} {xs : List V} (e : Same H H') (h : SqT K H a xs) : SqT K H' a xs := by
  rcases h with (h | ⟨o, h⟩) | h
  · exact .inl (.inl (e _ _ h))
  · exact .inl (.inr ⟨o, e _ _ h⟩)
  · exact .inr h
theorem fits {n : Nat} (h : n ≤ 100000) : n ≤ sizeLine := Nat.le_trans h (by decide)
theorem fitsL {n : Nat} (h : n ≤ 100000) : n < sizeLine := Nat.lt_of_le_of_lt h (by decide)
/-! ### streams -/
def StrAt (H : Hp) (a : Addr) (m : Int) : Prop := ∃ c k : Int, H a = some (.lst [.int c, .int k]) ∧ 0 ≤ k ∧ k ≤ m
end KK
end

section
set_option maxRecDepth 100000
set_option maxHeartbeats 4000000
/-! an own error class whose __init__ says super().__init__(text) and stores its one argument -/
namespace PySem
namespace Err1
open PySem.W PySem.Calls PyProof.Rows PySem.HandSPX
def iA (fld : Str) (p1 p2 : Pos) : Arguments := { posonlyargs := [], args := [{ arg := "self", annotation := none, pos := p1 }, { arg := fld, annotation := none, pos := p2 }], vararg := none, kwonlyargs := [], kw_defaults := [], kwarg := none, defaults := [] }
/-- the text of such an __init__: its message, its places -/
structure EP where
  txt : Str
  k : Nat
  p1 : Pos
  p2 : Pos
  q0 : Pos
  q1 : Pos
  q2 : Pos
  q3 : Pos
  q4 : Pos
  q5 : Pos
  q6 : Pos
  q7 : Pos
  q8 : Pos
  q9 : Pos
abbrev sC (e : EP) : Expr := .Call (.Name "super" e.q0) [] [] e.q1
abbrev cC (e : EP) : Expr := .Call (.Attribute (sC e) "__init__" e.q2) [.Constant (.str e.txt) e.k e.q3] [] e.q4
def iB (fld : Str) (e : EP) : List Stmt := [.Expr (cC e) e.q5, .Assign [.Attribute (.Name "self" e.q6) fld e.q7] (.Name fld e.q8) e.q9]
def iS (fld : Str) : Scope := { kind := .function, names := [(PySem.Str.ofString "self", .local), (fld, .local), (PySem.Str.ofString "__class__", .free), (PySem.Str.ofString "super", .globalImplicit)], isGenerator := false, isCoroutine := false, more := [] }
/-- a name that may be such a field -/
structure FldOk (fld : Str) (e : EP) : Prop where
  bd : ∀ (qual : Str) (body : List Stmt) (doc pm : Value) (an : Option Addr) (cda ct : Value) (cc : Addr) (x v : Value), bindArgs (ksFn "__init__" qual (iA fld e.p1 e.p2) body (iS fld) .none .none doc pm an cda ct cc) ⟨[x, v], []⟩ = pure [(("self" : Str), x), (fld, v)]
  hx : ∀ env : Env, interactive env = false → swapsWith (cC e) none e.q5.line env = pure false
  he : ∀ env : Env, ∃ pl, eval (cC e) env = (do
      let ov ← attributeBase (sC e) "__init__" env (eval (sC e) env)
      standAt e.q2.atName
      let (f, first) ← holding [ov] (getMethod ov "__init__" pl)
      callWith e.q4 f first (backTo e.q4 (starEach [.Constant (.str e.txt) e.k e.q3] env)) [])
  s : ¬ fld = "self"
  c : ¬ fld = "__class__"
  u : ¬ fld = "super"
  d : (fld == ("__debug__" : Str)) = false
/-- what the written part says of the class at C, and of its __init__, at fI -/
structure ErrTxt (prog : Program) (K : Frag) (mg : Str → Option Value) (nm qual fld : Str) (e : EP) (C fI : Addr) : Prop where
  fo : FldOk fld e
  gC : mg nm = some (.ref C)
  gS : mg "super" = none
  top : (prog.main.scope.names.lookup ("super" : Str)).isSome = false
  cls : ∃ nm' q N bs bm sn sub ab col dd k0 k1 k2 k3 k5, K.lookup C = some (excClassObj nm' q C N bs bm true sn sub ab col dd k0 k1 k2 k3 k5 "ValueError.__new__") ∧ refsVE bm = true
  sa : findIn K (.ref C) "__setattr__" = some (some (.builtin "object.__setattr__"))
  noN : findIn K (.ref C) fld = some none
  iC : findIn K (.ref C) "__init__" = some (some (.ref fI))
  tC : typeIn K (.ref fI) = some (.type "function")
  kC : keepIn K (.ref C) = true
  exC : subIn K (.ref C) (.type "BaseException") = some true
  tyC : typeIn K (.ref C) = some (.type "type")
  hdC : hasDictIn K C = true
  veC : subIn K (.ref C) (.type "ValueError") = some true
  opq : nsIn K cStatics "thirdparty.any" = some none
  sup : ks_superIn K C C "__init__" = some (some (.builtin "ValueError.__init__"))
  fn : ∃ (oc : Value) (od : Option Addr) (doc pm : Value) (an : Option Addr) (cda : Addr) (ct : Value) (osl : Array (Option Value)) (cc : Addr),
    K.lookup fI = some ⟨oc, od, .func (ksFn "__init__" qual (iA fld e.p1 e.p2) (iB fld e) (iS fld) .none .none doc pm an (.ref cda) ct cc), osl⟩ ∧ codeIn K (.ref cda) qual = true ∧
    (∃ ccl cdd vs ccs tf, K.lookup cda = some ⟨ccl, cdd, .fields vs, ccs⟩ ∧ vs[2]? = some (.str prog.main.file tf)) ∧ ∃ cl cld csl, K.lookup cc = some ⟨cl, cld, .cell (some (.ref C)), csl⟩
section
variable {prog : Program} {w : World} {A : Around} {E : Value → Shared → Prop} {h : Heap} {g : Array GenState} {d : Drawn} {t : Nat} {os : OsState}
variable {nm q : Str} {C N : Addr} {bs bm : List Value} {hdct : Bool} {sn : List Str} {sub : List Value} {ab : Bool} {col : Option Bool} {dd : Option Addr} {k0 k1 k2 k3 k5 : Option Value}
end
/-- what __init__ leaves of a fresh exception at x -/
structure InitEnd (h h' : Heap) (x C dx t1 : Addr) (fld : Str) (v : Value) : Prop where
  keep : ∀ b o, b ≠ x → h.get? b = some o → h'.get? b = some o
  obj : h'.get? x = some { cls := .ref C, dict := some dx, data := .fields #[.ref t1, .none, .none, .none, .bool false, .none] }
  dbig : h.objs.size ≤ dx
  dne : dx ≠ x
  ns : h'.Ns1 dx (fun y => if y = fld then some v else none)
/-- a made one -/
structure OwnMade (h h' : Heap) (e C d : Addr) (fld : Str) (v : Value) : Prop where
  keep : ∀ b o, h.get? b = some o → h'.get? b = some o
  new : h.objs.size ≤ e
  obj : ∃ oe vs, h'.get? e = some oe ∧ oe.cls = .ref C ∧ oe.dict = some d ∧ oe.data = .fields vs ∧ vs[1]? = some .none
  dbig : h.objs.size ≤ d
  dne : d ≠ e
  ns : h'.Ns1 d (fun y => if y = fld then some v else none)
section
variable {prog : Program} {w : World} {A : Around} {E : Value → Shared → Prop} {R : Result → Shared → Prop} {s : Shared} {K : Frag} {mg : Str → Option Value} {nm qual fld : Str} {e : EP} {C fI : Addr}
end
end Err1
end PySem
namespace L2
open PySem PySem.Spec PyProof.Rows
section
variable {X : Cx} {C fI : Addr} {nm qual fld : Str} {ep : PySem.Err1.EP}
/-- Name(e) -/
def tMkErr (C : Addr) (fld : Str) (ta : TA) : St → Hp → XK → Prop := fun σ H Q => ta σ H fun vs H1 => ∃ v, vs = [v] ∧ ∀ d, H1 d = none → Q (.ref C) (some d) (upd H1 d (.xd [(fld, v)]))
/-- raise Name(e) -/
def tRaiseErr (C : Addr) (fld : Str) (W : WX) (ta : TA) : TS := fun _ σ H => tMkErr C fld ta σ H fun cls d H' => W cls d σ H'
end
end L2
end

section
set_option maxRecDepth 100000
set_option maxHeartbeats 4000000
/-! the head's facts: the kit's, and an own error class with a closed __init__ -/
namespace OwnH
open PySem PySem.Spec PyProof.Rows L2 He
def asO (g : Addr → Option Obj) (n : Nat) : List Addr := cStatics :: asD g n
/-- an own error class: its name, its __init__ -/
structure ErrD where
  name : Str
  qual : Str
  fld : Str
  ep : PySem.Err1.EP
abbrev FnC : Type := Option (Str × Str × Arguments × FuncBody × Scope × Addr × List Str × Addr × Value × Value)
def fnC (K : PySem.W.Frag) (p : Str × Option Str) : FnC := match K.lookup (fAd K p) with
  | some ⟨_, _, .func fd, _⟩ => some (fd.name, fd.qualname, fd.params, fd.body, fd.scope, fd.globals, fd.closure.map (·.1), fd.builtins, fd.defaults, fd.kwdefaults)
  | _ => none
def ErrD.at_ (d : ErrD) : Str × Option Str := (d.name, some "__init__")
def ErrD.val (d : ErrD) : FnC := some ("__init__", d.qual, PySem.Err1.iA d.fld d.ep.p1 d.ep.p2, .stmts (PySem.Err1.iB d.fld d.ep), PySem.Err1.iS d.fld, mainGlobals, ["__class__"], builtinsNs, .none, .none)
def clsB (K : PySem.W.Frag) (C : Addr) : Bool := match K.lookup C with
  | some ⟨.type "type", _, .cls cd, sl⟩ => (match cd.mro, sl.toList with
    | .ref C' :: bm, [_, _, _, _, some (.builtin n), _] => C' == C && (n == "ValueError.__new__" && (!cd.hasDel && (cd.hasDict && PySem.HandSPX.refsVE bm)))
    | _, _ => false)
  | _ => false
def codeB (file : Str) (K : PySem.W.Frag) (C : Addr) (fd : FuncData) (qual : Str) : Bool := match fd.code with
  | .ref cda => PySem.W.codeIn K (.ref cda) qual && ((match K.lookup cda with
    | some ⟨_, _, .fields vs, _⟩ => (match vs[2]? with
      | some (Value.str z _) => decide (z = file)
      | _ => false)
    | _ => false) && (match fd.closure with
    | [(_, cc)] => (match K.lookup cc with
      | some ⟨_, _, .cell (some (.ref C')), _⟩ => decide (C' = C)
      | _ => false)
    | _ => false))
  | _ => false
def initB (file : Str) (K : PySem.W.Frag) (C : Addr) (f : Addr) (qual : Str) : Bool := match K.lookup f with
  | some ⟨_, _, .func fd, _⟩ => codeB file K C fd qual
  | _ => false
def errB (file : Str) (K : PySem.W.Frag) (d : ErrD) : Bool :=
  eqO (PySem.W.nsIn K mainGlobals d.name) (some (some (.ref (ga K d.name)))) && (eqO (PySem.W.nsIn K mainGlobals "super") (some none) && (clsB K (ga K d.name) && (eqO (PySem.W.findIn K (.ref (ga K d.name)) "__setattr__") (some (some (.builtin "object.__setattr__"))) && (eqO (PySem.W.findIn K (.ref (ga K d.name)) d.fld) (some none) &&
  (eqO (PySem.W.findIn K (.ref (ga K d.name)) "__init__") (some (some (.ref (fAd K d.at_)))) && (decide (PySem.W.typeIn K (.ref (fAd K d.at_)) = some (.type "function")) && (PySem.W.keepIn K (.ref (ga K d.name)) && (decide (PySem.W.subIn K (.ref (ga K d.name)) (.type "BaseException") = some true) &&
  (decide (PySem.W.typeIn K (.ref (ga K d.name)) = some (.type "type")) && (PySem.W.hasDictIn K (ga K d.name) && (decide (PySem.W.subIn K (.ref (ga K d.name)) (.type "ValueError") = some true) && (eqO (PySem.W.nsIn K cStatics "thirdparty.any") (some none) &&
  (eqO (PySem.W.ks_superIn K (ga K d.name) (ga K d.name) "__init__") (some (some (.builtin "ValueError.__init__"))) && (initB file K (ga K d.name) (fAd K d.at_) d.qual && (xfB K (ga K d.name) && decide (PySem.W.exmOne K (.ref (ga K d.name)) (.ref (ga K d.name)) = some true))))))))))))))))
/-! ### the Hook -/
abbrev AlO : Type := AlD × Bool × List FnC
def obsO (file : Str) (n : Nat) (fa : List Fa) (fn : List DefD) (er : List ErrD) (g : Addr → Option Obj) : AlO := (obsD fa fn (frG g (asO g n)), er.all (fun d => errB file (frG g (asO g n)) d), er.map fun d => fnC (frG g (asO g n)) d.at_)
def valO (fn : List DefD) (er : List ErrD) : AlO := (valD fn, true, er.map ErrD.val)
structure SaysO (file : Str) (fa : List Fa) (fn : List DefD) (er : List ErrD) (K : PySem.W.Frag) : Prop where
  d : SaysD fa fn K
  b : er.all (fun d => errB file K d) = true
  e : (er.map fun d => fnC K d.at_) = er.map ErrD.val
def hookO (file : Str) (n : Nat) (fa : List Fa) (fn : List DefD) (er : List ErrD) : PySem.W.Hook where
  α := AlO
  obs := fun s => obsO file n fa fn er s.heap.get?
  val := fun _ => valO fn er
  says := fun _ h => ∃ K : PySem.W.Frag, K.In h ∧ SaysO file fa fn er K
  of := fun _ s e => ⟨_, frG_in, congrArg (fun z : AlO => z.1) e, congrArg (fun z : AlO => z.2.1) e, congrArg (fun z : AlO => z.2.2) e⟩
  keeps := fun _ _ _ ⟨K, hK, c⟩ k => ⟨K, PySem.W.Frag.In.keeps hK k, c⟩
end OwnH
end

section
set_option maxRecDepth 100000
set_option maxHeartbeats 4000000
/-! x in o, len(o) where the class of o has its own __contains__, __len__ -/
namespace Own
open PySem PySem.Spec PyProof.Rows L2
section
variable {X : Cx} {k : Nat} {f C : Addr} {fd : FuncData} {ps : List Str} {sp : Sp}
/-- what is asked: the promise of the method, a truth value handed back -/
def rInO (C : Addr) (sp : Sp) (neg : Bool) : R2 := fun x y H Q => ∃ a dx fs, y = .ref a ∧ H a = some (.ins C dx fs) ∧ sp [.ref a, x] H (fun r H' => ∃ b, r = .bl b ∧ Q (.bl (if neg then !b else b)) H') E0
def rLenO (C : Addr) (sp : Sp) : List V → Hp → VK → Prop := fun xs H Q => ∃ a dx fs, xs = [.ref a] ∧ H a = some (.ins C dx fs) ∧ sp [.ref a] H (fun r H' => ∃ n : Int, r = .int n ∧ 0 ≤ n ∧ n < 2 ^ 63 ∧ Q (.int n) H') E0
end
end Own
namespace Own
open PySem PySem.Spec PyProof.Rows L2
section
variable {X : Cx}
/-- k in d, as an operation on values -/
theorem op_in_dict (hu : X.A.units + 1 < cLine) : OpR X (compareOp .In) (fun x y H Q => ∃ a o, y = .ref a ∧ DGet H a x o ∧ Q (.bl o.isSome) H) := by
  intro pins s σ H x y v u Q I rx ry h
  obtain ⟨a, o, rfl, g, q⟩ := h
  obtain rfl : u = Value.ref a := ry
  exact d_in hu I g rx fun s3 I3 => ⟨.bl o.isSome, H, I3, rfl, q⟩
/-- either of two readings -/
theorem op_or {f : Value → Value → Sem Value} {r1 r2 : R2} (h1 : OpR X f r1) (h2 : OpR X f r2) : OpR X f (fun x y H Q => r1 x y H Q ∨ r2 x y H Q) := by
  intro pins s σ H x y v u Q I rx ry h
  rcases h with h | h
  · exact h1 pins s σ H x y v u Q I rx ry h
  · exact h2 pins s σ H x y v u Q I rx ry h
def rInAny (K : PySem.W.Frag) : R2 := fun x y H Q => rIn K false x y H Q ∨ ∃ a o, y = .ref a ∧ DGet H a x o ∧ Q (.bl o.isSome) H
theorem op_inAny (hu : X.A.units + 1 < cLine) : OpR X (compareOp .In) (rInAny X.K) := op_or op_in_seq (op_in_dict hu)
end
end Own
end

section
set_option maxRecDepth 100000
set_option maxHeartbeats 4000000
/-! x + y, x == y where the class of both has its own __add__, __eq__ -/
namespace Own
open PySem PySem.Spec PyProof.Rows L2
section
variable {X : Cx} {CX : CXT} {k : Nat} {f C : Addr} {fd : FuncData} {ps : List Str} {sp : Sp} {E : XK}
def rOpO (C : Addr) (sp : Sp) (E : XK) : R2 := fun x y H Q => ∃ a dx fs b dy gs, x = .ref a ∧ y = .ref b ∧ H a = some (.ins C dx fs) ∧ H b = some (.ins C dy gs) ∧ sp [x, y] H Q E
end
end Own
end

section
set_option maxRecDepth 100000
set_option maxHeartbeats 4000000
/-! x != y where the class of both has its own __eq__ and no __ne__ -/
namespace Own
open PySem PySem.Spec PyProof.Rows L2
def eqClsB (K : PySem.W.Frag) (C : Addr) (f : Addr) : Bool := match K.lookup C with
  | some ⟨.type "type", _, .cls cd, sl⟩ => (match cd.mro, sl.toList with
    | [.ref C', .type o], [_, _, _, _, some (.builtin _), _] => C' == C && (o == "object" && (!cd.hasDel && (PySem.W.nsOkIn K cd.ns && (decide (PySem.W.nsIn K cd.ns "__eq__" = some (some (.ref f))) && decide (PySem.W.nsIn K cd.ns "__ne__" = some none)))))
    | _, _ => false)
  | _ => false
section
variable {X : Cx} {k : Nat} {f C : Addr} {fd : FuncData} {ps : List Str} {sp : Sp} {E : XK}
/-- what is asked: the promise of __eq__, a truth value handed back -/
def rNeO (C : Addr) (sp : Sp) (E : XK) : R2 := fun x y H Q => ∃ a dx fs b dy gs, x = .ref a ∧ y = .ref b ∧ H a = some (.ins C dx fs) ∧ H b = some (.ins C dy gs) ∧ sp [x, y] H (fun r H' => ∃ c, r = .bl c ∧ Q (.bl (!c)) H') E
end
end Own
end

section
set_option maxRecDepth 100000
set_option maxHeartbeats 4000000
/-! the head's facts, with a look of one's own at the written part -/
namespace OwnQ
open PySem PySem.Spec PyProof.Rows L2 He OwnH
abbrev AlQ : Type := AlO × Bool
def obsQ (file : Str) (n : Nat) (fa : List Fa) (fn : List DefD) (er : List ErrD) (ck : PySem.W.Frag → Bool) (g : Addr → Option Obj) : AlQ := (obsO file n fa fn er g, ck (frG g (asO g n)))
def hookQ (file : Str) (n : Nat) (fa : List Fa) (fn : List DefD) (er : List ErrD) (ck : PySem.W.Frag → Bool) : PySem.W.Hook where
  α := AlQ
  obs := fun s => obsQ file n fa fn er ck s.heap.get?
  val := fun _ => (valO fn er, true)
  says := fun _ h => ∃ K : PySem.W.Frag, K.In h ∧ SaysO file fa fn er K ∧ ck K = true
  of := fun _ s e => ⟨_, frG_in, ⟨congrArg (fun z : AlQ => z.1.1) e, congrArg (fun z : AlQ => z.1.2.1) e, congrArg (fun z : AlQ => z.1.2.2) e⟩, congrArg (fun z : AlQ => z.2) e⟩
  keeps := fun _ _ _ ⟨K, hK, c⟩ k => ⟨K, PySem.W.Frag.In.keeps hK k, c⟩
def insB (K : PySem.W.Frag) (C : Addr) : Bool := decide (PySem.W.findIn K (.ref C) "__class__" = some (some (.builtin "object.__class__"))) && (decide (PySem.W.specialIn K (.builtin "object.__class__") "__get__" = some (some (.builtin "getset_descriptor.__get__"))) &&
  (decide (PySem.W.takesIn K (.builtin "object.__class__") = some true) && (decide (PySem.W.mroIn K C (.type "object") = some true) && decide (PySem.W.kitOne K (.ref C) (.ref C) = some true))))
theorem ins_ok {K : PySem.W.Frag} {C : Addr} (c : Cls K C) (h : insB K C = true) : C8.InsC K C := by
  unfold insB at h
  simp only [Bool.and_eq_true, decide_eq_true_eq] at h
  exact ⟨c, h.1, h.2.1, h.2.2.1, h.2.2.2.1, h.2.2.2.2⟩
/-- what the class has that is compared by its own __eq__ -/
def webB (K : PySem.W.Frag) : Bool := Own.eqClsB K (ga K "Web") (ma K (ga K "Web") "__eq__") && (PySem.W.notFirst K (ga K "Web") (.ref (ga K "Web")) && insB K (ga K "Web"))
end OwnQ
end

section
set_option maxRecDepth 100000
set_option maxHeartbeats 4000000
/-! the head's facts, looked at through a literal list of addresses (no search of the heap) -/
namespace OwnL
open PySem PySem.Spec PyProof.Rows L2 He OwnH OwnQ
def obsW (file : Str) (fa : List Fa) (fn : List DefD) (er : List ErrD) (ck : PySem.W.Frag → Bool) (K : PySem.W.Frag) : AlQ := ((obsD fa fn K, er.all (fun d => errB file K d), er.map fun d => fnC K d.at_), ck K)
def obsL (file : Str) (as : List Addr) (fa : List Fa) (fn : List DefD) (er : List ErrD) (ck : PySem.W.Frag → Bool) (g : Addr → Option Obj) : AlQ := obsW file fa fn er ck (frG g as)
def hookL (file : Str) (as : List Addr) (fa : List Fa) (fn : List DefD) (er : List ErrD) (ck : PySem.W.Frag → Bool) : PySem.W.Hook where
  α := AlQ
  obs := fun s => obsL file as fa fn er ck s.heap.get?
  val := fun _ => (valO fn er, true)
  says := fun _ h => ∃ K : PySem.W.Frag, K.In h ∧ SaysO file fa fn er K ∧ ck K = true
  of := fun _ s e => ⟨_, frG_in, ⟨congrArg (fun z : AlQ => z.1.1) e, congrArg (fun z : AlQ => z.1.2.1) e, congrArg (fun z : AlQ => z.1.2.2) e⟩, congrArg (fun z : AlQ => z.2) e⟩
  keeps := fun _ _ _ ⟨K, hK, c⟩ k => ⟨K, PySem.W.Frag.In.keeps hK k, c⟩
theorem obsL_eq {file : Str} {as : List Addr} {fa : List Fa} {fn : List DefD} {er : List ErrD} {ck : PySem.W.Frag → Bool} {g : Addr → Option Obj} {s : Shared} (h : ∀ a, g a = s.heap.get? a) : obsL file as fa fn er ck g = (hookL file as fa fn er ck).obs s := by
  have e : g = s.heap.get? := funext h
  rw [e] <;> rfl
end OwnL
end

section
set_option maxRecDepth 100000
set_option maxHeartbeats 0
namespace KK
open PySem PySem.Spec PyProof.Rows L2
def looseA : List Str := ["_wall", "__name__", "MOST_PLACES", "MOST_TIES", "LONGEST_NAME", "GREATEST_PRICE", "is_integer", "is_between", "is_name", "is_among", "has_just", "in_order", "names_fault", "price_fault", "HalfError"]
def looseB : List Str := ["BadPlaces", "BadTie", "BadPrice", "NoPlace", "CommonPlace", "TooMany", "Flow", "opposite", "Sides", "sides", "tie_rows", "merged", "worth", "Web", "_web_of"]
def looseC : List Str := ["_is_tie", "_tie_fault", "_law_stream", "_law_draw", "_law_name", "_law_amount", "_law_pair", "_law_is_integer", "_law_names", "_law_ring", "_law_star", "_law_all_tied", "_law_apart"]
def fn : List He.DefD := [
  ⟨("is_integer", none), "is_integer", "is_integer", defArgs s_is_integer, defBody s_is_integer, defScope s_is_integer, [], []⟩,
  ⟨("is_between", none), "is_between", "is_between", defArgs s_is_between, defBody s_is_between, defScope s_is_between, [], []⟩,
  ⟨("is_name", none), "is_name", "is_name", defArgs s_is_name, defBody s_is_name, defScope s_is_name, [], []⟩,
  ⟨("is_among", none), "is_among", "is_among", defArgs s_is_among, defBody s_is_among, defScope s_is_among, [], []⟩,
  ⟨("has_just", none), "has_just", "has_just", defArgs s_has_just, defBody s_has_just, defScope s_has_just, [], []⟩,
  ⟨("in_order", none), "in_order", "in_order", defArgs s_in_order, defBody s_in_order, defScope s_in_order, [], []⟩,
  ⟨("names_fault", none), "names_fault", "names_fault", defArgs s_names_fault, defBody s_names_fault, defScope s_names_fault, [], []⟩,
  ⟨("price_fault", none), "price_fault", "price_fault", defArgs s_price_fault, defBody s_price_fault, defScope s_price_fault, [], []⟩,
  ⟨("opposite", none), "opposite", "opposite", defArgs s_opposite, defBody s_opposite, defScope s_opposite, [], []⟩,
  ⟨("sides", none), "sides", "sides", defArgs s_sides, defBody s_sides, defScope s_sides, [], []⟩,
  ⟨("tie_rows", none), "tie_rows", "tie_rows", defArgs s_tie_rows, defBody s_tie_rows, defScope s_tie_rows, [], []⟩,
  ⟨("worth", none), "worth", "worth", defArgs s_worth, defBody s_worth, defScope s_worth, [], []⟩,
  ⟨("_is_tie", none), "_is_tie", "_is_tie", defArgs s_is_tie, defBody s_is_tie, defScope s_is_tie, [], []⟩,
  ⟨("_tie_fault", none), "_tie_fault", "_tie_fault", defArgs s_tie_fault, defBody s_tie_fault, defScope s_tie_fault, [], []⟩,
  ⟨("_law_stream", none), "_law_stream", "_law_stream", defArgs s_law_stream, defBody s_law_stream, defScope s_law_stream, [], []⟩,
  ⟨("_law_draw", none), "_law_draw", "_law_draw", defArgs s_law_draw, defBody s_law_draw, defScope s_law_draw, [], []⟩,
  ⟨("_law_name", none), "_law_name", "_law_name", defArgs s_law_name, defBody s_law_name, defScope s_law_name, [], []⟩,
  ⟨("_law_amount", none), "_law_amount", "_law_amount", defArgs s_law_amount, defBody s_law_amount, defScope s_law_amount, [], []⟩,
  ⟨("_law_pair", none), "_law_pair", "_law_pair", defArgs s_law_pair, defBody s_law_pair, defScope s_law_pair, [], []⟩,
  ⟨("_law_is_integer", none), "_law_is_integer", "_law_is_integer", defArgs s_law_is_integer, defBody s_law_is_integer, defScope s_law_is_integer, [], []⟩,
  ⟨("_law_names", none), "_law_names", "_law_names", defArgs s_law_names, defBody s_law_names, defScope s_law_names, [], []⟩,
  ⟨("_law_ring", none), "_law_ring", "_law_ring", defArgs s_law_ring, defBody s_law_ring, defScope s_law_ring, [], []⟩,
  ⟨("_law_star", none), "_law_star", "_law_star", defArgs s_law_star, defBody s_law_star, defScope s_law_star, [], []⟩,
  ⟨("_law_all_tied", none), "_law_all_tied", "_law_all_tied", defArgs s_law_all_tied, defBody s_law_all_tied, defScope s_law_all_tied, [], []⟩,
  ⟨("_law_apart", none), "_law_apart", "_law_apart", defArgs s_law_apart, defBody s_law_apart, defScope s_law_apart, [], []⟩,
  ⟨("law", none), "law", "law", defArgs s_law, defBody s_law, defScope s_law, [], []⟩,
  ⟨("Web", some "__init__"), "__init__", "Web.__init__", defArgs s_Web_init, defBody s_Web_init, defScope s_Web_init, [], []⟩,
  ⟨("Web", some "places"), "places", "Web.places", defArgs s_Web_places, defBody s_Web_places, defScope s_Web_places, [], []⟩,
  ⟨("Web", some "ties"), "ties", "Web.ties", defArgs s_Web_ties, defBody s_Web_ties, defScope s_Web_ties, [], []⟩,
  ⟨("Web", some "price"), "price", "Web.price", defArgs s_Web_price, defBody s_Web_price, defScope s_Web_price, [], []⟩,
  ⟨("Web", some "_need"), "_need", "Web._need", defArgs s_Web_need, defBody s_Web_need, defScope s_Web_need, [], []⟩,
  ⟨("Flow", some "__init__"), "__init__", "Flow.__init__", defArgs s_Flow_init, defBody s_Flow_init, defScope s_Flow_init, [], []⟩,
  ⟨("Flow", some "link"), "link", "Flow.link", defArgs s_Flow_link, defBody s_Flow_link, defScope s_Flow_link, [], []⟩,
  ⟨("Flow", some "fill"), "fill", "Flow.fill", defArgs s_Flow_fill, defBody s_Flow_fill, defScope s_Flow_fill, [], []⟩,
  ⟨("Flow", some "_levels"), "_levels", "Flow._levels", defArgs s_Flow_levels, defBody s_Flow_levels, defScope s_Flow_levels, [], []⟩,
  ⟨("Flow", some "_fill_shortest"), "_fill_shortest", "Flow._fill_shortest", defArgs s_Flow_fill_shortest, defBody s_Flow_fill_shortest, defScope s_Flow_fill_shortest, [], []⟩,
  ⟨("Flow", some "_path"), "_path", "Flow._path", defArgs s_Flow_path, defBody s_Flow_path, defScope s_Flow_path, [], []⟩,
  ⟨("Flow", some "_climb"), "_climb", "Flow._climb", defArgs s_Flow_climb, defBody s_Flow_climb, defScope s_Flow_climb, [], []⟩,
  ⟨("Sides", some "__init__"), "__init__", "Sides.__init__", defArgs s_Sides_init, defBody s_Sides_init, defScope s_Sides_init, [], []⟩,
  ⟨("Sides", some "_node"), "_node", "Sides._node", defArgs s_Sides_node, defBody s_Sides_node, defScope s_Sides_node, [], []⟩]
def fa : List He.Fa := [.int "MOST_PLACES" 40, .int "MOST_TIES" 400, .int "LONGEST_NAME" 8, .int "GREATEST_PRICE" (10 ^ 30), .free "len", .free "isinstance", .free "int", .free "str", .free "bool", .free "list", .free "tuple", .free "dict", .free "sorted", .free "all", .free "range", .free "enumerate", .free "min", .free "sum", .glo "Web", .cls "Web", .noat "Web" "_prices", .noat "Web" "_ties", .mkr "Web", .meth "Web" "places", .meth "Web" "ties", .meth "Web" "price", .meth "Web" "_need", .glo "Flow", .cls "Flow", .noat "Flow" "_heads", .noat "Flow" "_rooms", .noat "Flow" "_leaving", .mkr "Flow", .meth "Flow" "link", .meth "Flow" "fill", .meth "Flow" "_levels", .meth "Flow" "_fill_shortest", .meth "Flow" "_path", .meth "Flow" "_climb", .glo "Sides", .cls "Sides", .noat "Sides" "_numbers", .noat "Sides" "_source", .noat "Sides" "_sink", .noat "Sides" "_flow", .noat "Sides" "_arcs", .noat "Sides" "total", .mkr "Sides", .meth "Sides" "_node", .glo "is_integer", .glo "is_between", .glo "is_name", .glo "is_among", .glo "has_just", .glo "in_order", .glo "names_fault", .glo "price_fault", .glo "opposite", .glo "sides", .glo "tie_rows", .glo "worth", .glo "_is_tie", .glo "_tie_fault", .glo "_law_stream", .glo "_law_draw", .glo "_law_name", .glo "_law_amount", .glo "_law_pair", .glo "_law_is_integer", .glo "_law_names", .glo "_law_ring", .glo "_law_star", .glo "_law_all_tied", .glo "_law_apart", .glo "law"]

def er : List OwnH.ErrD := []
abbrev ck : PySem.W.Frag → Bool := (fun K => PySem.W.selfFirst K (He.ga K "Web") && OwnQ.insB K (He.ga K "Web"))
abbrev R : PySem.W.OpenRow := PySem.W.OpenLaw.row PySem.Challenge.rw_halfpicked_k09_worth_by_hand
def asL : List Addr := [2, 3, 6, 4, 21, 28, 35, 40, 47, 52, 59, 66, 73, 83, 105, 126, 147, 168, 189, 210, 279, 290, 368, 377, 382, 387, 394, 527, 538, 545, 552, 559, 566, 573, 580, 587, 594, 601, 606, 611, 618, 623, 630, 0, 20, 27, 34, 39, 46, 51, 58, 65, 72, 82, 104, 125, 146, 167, 188, 209, 278, 289, 367, 376, 381, 386, 393, 526, 537, 544, 551, 558, 565, 572, 579, 586, 593, 600, 605, 610, 617, 622, 629, 15, 16, 17, 18, 19, 22, 23, 24, 25, 26, 29, 30, 31, 32, 33, 36, 37, 38, 41, 42, 43, 44, 45, 48, 49, 50, 53, 54, 55, 56, 57, 60, 61, 62, 63, 64, 67, 68, 69, 70, 71, 81, 84, 102, 103, 123, 124, 144, 145, 165, 166, 186, 187, 207, 208, 224, 231, 238, 245, 250, 257, 262, 269, 276, 277, 280, 281, 284, 285, 286, 287, 288, 302, 309, 316, 323, 330, 337, 344, 351, 358, 365, 366, 369, 370, 373, 374, 375, 378, 379, 380, 383, 384, 385, 388, 389, 390, 391, 392, 406, 413, 420, 427, 434, 441, 448, 455, 462, 469, 476, 483, 491, 498, 505, 510, 517, 524, 525, 528, 529, 532, 533, 534, 535, 536, 539, 540, 541, 542, 543, 546, 547, 548, 549, 550, 553, 554, 555, 556, 557, 560, 561, 562, 563, 564, 567, 568, 569, 570, 571, 574, 575, 576, 577, 578, 581, 582, 583, 584, 585, 588, 589, 590, 591, 592, 595, 596, 597, 598, 599, 602, 603, 604, 607, 608, 609, 612, 613, 614, 615, 616, 619, 620, 621, 624, 625, 626, 627, 628, 101, 90, 122, 111, 143, 132, 164, 153, 185, 174, 206, 195, 223, 230, 237, 244, 249, 256, 261, 268, 275, 301, 308, 315, 322, 329, 336, 343, 350, 357, 364, 405, 412, 419, 426, 433, 440, 447, 454, 461, 468, 475, 482, 490, 484, 497, 504, 509, 516, 523, 96, 97, 98, 99, 100, 117, 118, 119, 120, 121, 138, 139, 140, 141, 142, 159, 160, 161, 162, 163, 180, 181, 182, 183, 184, 201, 202, 203, 204, 205, 220, 221, 222, 225, 226, 227, 228, 229, 232, 233, 234, 235, 236, 239, 240, 241, 242, 243, 246, 247, 248, 251, 252, 253, 254, 255, 258, 259, 260, 263, 264, 265, 266, 267, 270, 271, 272, 273, 274, 298, 299, 300, 303, 304, 305, 306, 307, 310, 311, 312, 313, 314, 317, 318, 319, 320, 321, 324, 325, 326, 327, 328, 331, 332, 333, 334, 335, 338, 339, 340, 341, 342, 345, 346, 347, 348, 349, 352, 353, 354, 355, 356, 359, 360, 361, 362, 363, 402, 403, 404, 407, 408, 409, 410, 411, 414, 415, 416, 417, 418, 421, 422, 423, 424, 425, 428, 429, 430, 431, 432, 435, 436, 437, 438, 439, 442, 443, 444, 445, 446, 449, 450, 451, 452, 453, 456, 457, 458, 459, 460, 463, 464, 465, 466, 467, 470, 471, 472, 473, 474, 477, 478, 479, 480, 481, 485, 486, 487, 488, 489, 492, 493, 494, 495, 496, 499, 500, 501, 502, 503, 506, 507, 508, 511, 512, 513, 514, 515, 518, 519, 520, 521, 522]
abbrev hk : PySem.W.Hook := OwnL.hookL "/claim/cut.py" asL fa fn er ck
def ob (s : PySem.W.SharedT) : OwnQ.AlQ := OwnL.obsL "/claim/cut.py" asL fa fn er ck (HandSHeadRun.getT s)
theorem ob_eq (s : PySem.W.SharedT) : ob s = hk.obs s.abs := OwnL.obsL_eq (HandSHeadRun.getT_eq s)
theorem opt3 {σ α β γ : Type _} {m : Option σ} {A : σ → α} {B : σ → β} {C : σ → γ} {a : α} {b : β} {c : γ} (h1 : m.map A = some a) (h2 : m.map B = some b) (h3 : m.map C = some c) : m.map (fun s => (A s, B s, C s)) = some (a, b, c) := by
  cases m with
  | none => cases h1
  | some s =>
    have e1 : A s = a := Option.some.inj h1
    have e2 : B s = b := Option.some.inj h2
    have e3 : C s = c := Option.some.inj h3
    rw [← e1, ← e2, ← e3]
    rfl
section
open HandSHeadRun PySem.W
abbrev vw : Program := PySem.W.view R.prog [50]
theorem run1 (w : World) (os : OsState) : (endF (stepQ (denQ tabQ) R.prog w) 12000 R.prog w os).map (fun s => looksF R.prog (boot_heap w.params) s.abs) = some true := by
  kernel_rfl
theorem run2 (w : World) (os : OsState) : (endF (stepQ (denQ tabQ) R.prog w) 12000 R.prog w os).map (fun s => seenQ vw (looseA ++ looseB ++ looseC) (importedModules R.prog.main.body) (fun s => xlAt vw [] s && recOk R.toRowW.records s) s.abs) = some (openGood vw (looseA ++ looseB ++ looseC)) := by
  kernel_rfl
theorem run3 (w : World) (os : OsState) : (endF (stepQ (denQ tabQ) R.prog w) 12000 R.prog w os).map (fun s => ob s) = some (hk.val w) := by
  kernel_rfl
end
theorem run (w : World) : HandSHeadRun.RunEq R vw hk ob 12000 (looseA ++ looseB ++ looseC) w := fun os => opt3 (run1 w os) (run2 w os) (run3 w os)
end KK
end

section
set_option maxRecDepth 100000
set_option maxHeartbeats 4000000
namespace KK
open PySem PySem.Spec PyProof.Rows L2
/-! ### the law's stream and draw -/
def spStream (K : PySem.W.Frag) : Sp := fun vs H Q _ => ∃ (a : Addr) (ns : List Int) (j : Int), vs = [.ref a, .int j] ∧ SqL K H a (ns.map V.int) ∧ ns.length ≤ 1000 ∧ 0 ≤ j ∧ j ≤ 100 ∧ ∀ p c, H p = none → Q (.ref p) (upd H p (.lst [.int c, .int (1 + 101 * j)]))
def spDraw : Sp := fun vs H Q _ => ∃ (a : Addr) (n m : Int), vs = [.ref a, .int n] ∧ StrAt H a m ∧ m ≤ 1000000 ∧ 0 < n ∧ n < 2 ^ 200 ∧ ∀ r H', 0 ≤ r → r < n → But a H H' → StrAt H' a (m + 1) → Q (.int r) H'
theorem fm0 {i j : Int} (h : 0 < j) : 0 ≤ i.fmod j ∧ i.fmod j < j := by
  rw [Int.fmod_eq_emod_of_nonneg i (Int.le_of_lt h)]
  exact ⟨Int.emod_nonneg i (by omega), Int.emod_lt_of_pos i h⟩
theorem mulOk {i j : Int} (h : 0 < j) (h2 : j ≤ 2 ^ 64) : -(2 ^ 64) < i.fmod j ∧ i.fmod j < 2 ^ 64 := by
  have := fm0 (i := i) h
  omega
theorem log200 {n : Int} (h0 : 0 < n) (h : n < 2 ^ 200) : n.natAbs.log2 < 9000 := by
  have h1 : n.natAbs < 2 ^ 200 := by omega
  exact Nat.lt_trans (PySem.Flt.log2_lt_of (by decide) h1) (by decide)
section
variable {P : Program} {w : World} {K : PySem.W.Frag} {mg : Str → Option Value} {base : Heap}
abbrev NStream : List Str := ["_law_script", "_law_k", "_law_cell"]
theorem scStream : FnScope NStream ["_law_script", "_law_k"] (defScope s_law_stream) := ⟨rfl, rfl, rfl, by decide +kernel, rfl, by decide +kernel, by decide +kernel⟩
theorem c_stream (T : Blt mg) (F : Has K mg "_law_stream" s_law_stream) : C8.Cal P w K mg base 1 "_law_stream" (spStream K) [] := by
  refine calF F (fun f fd F => F.binds (ps := ["_law_script", "_law_k"]) fun _ _ _ _ _ _ us hl => match us, hl with | [_, _], _ => rfl) scStream (fun vs H Q E h => ?_) (fun f cdv A outer s H vs Q E hr h => ?_)
  · obtain ⟨a, ns, j, rfl, _⟩ := h
    rfl
  · obtain ⟨a, ns, j, rfl, hs, hn, h0, h1, k⟩ := h
    refine ⟨_, pss_cons (ps_set (i := 2) scStream.nd rfl (Or.inl rfl) pe_int)
      (pss_cons (ps_if (pt_cmpR op_lt (pv 1) (pe_callB call_len (by rfl) T.b_len PySem.boot_len (pa_cons (pv 0) pa_nil)) (nomark _)) (pss_one (ps_set (i := 2) scStream.nd rfl (Or.inl rfl) (pe_ix ix_list (pv 0) (pv 1) (fun _ _ => rfl)))) pss_nil)
      (pss_one (ps_ret (pe_lst (pa_cons (pv 2) (pa_cons (pe_op op_add pe_int (pe_op op_mul pe_int (pv 1))) pa_nil)))))), ?_⟩
    refine ⟨_, rfl, _, rfl, _, _, rfl, .inl ⟨_, hs, rfl⟩, _, _, rfl, rfl, _, rfl, ?_⟩
    refine ite2 (fun hlt => ?_) (fun hlt => ?_)
    · have hj : j < ((ns.map V.int).length : Int) := of_decide_eq_true hlt
      rw [List.length_map] at hj
      have hx : (ns.map V.int)[j.toNat]? = some (V.int (ns[j.toNat]'(by omega))) := by
        rw [List.getElem?_map, List.getElem?_eq_getElem (by omega)]
        rfl
      refine ⟨_, rfl, _, rfl, a, _, _, _, rfl, rfl, hs, at_of (j := j.toNat) (by omega) hx, ?_⟩
      exact ⟨_, rfl, _, rfl, _, _, rfl, rfl, .inl ⟨by decide, by decide⟩, _, _, rfl, rfl, (show 2 ≤ sizeLine from fits (by decide)), fun p hp => k p _ hp⟩
    · exact ⟨_, rfl, _, rfl, _, _, rfl, rfl, .inl ⟨by decide, by decide⟩, _, _, rfl, rfl, (show 2 ≤ sizeLine from fits (by decide)), fun p hp => k p _ hp⟩
abbrev NDraw : List Str := ["_law_stream_here", "_law_many", "_law_found", "_law_mixed"]
theorem scDraw : FnScope NDraw ["_law_stream_here", "_law_many"] (defScope s_law_draw) := ⟨rfl, rfl, rfl, by decide +kernel, rfl, by decide +kernel, by decide +kernel⟩
end
end KK
end

section
set_option maxRecDepth 100000
set_option maxHeartbeats 4000000
namespace KK
open PySem PySem.Spec PyProof.Rows L2
/-! ### names -/
def CsOk (l : List Nat) : Prop := ∀ c ∈ l, 97 ≤ c ∧ c ≤ 122
structure NameOk (x : Str) : Prop where
  lo : 1 ≤ x.cps.toList.length
  hi : x.cps.toList.length ≤ 8
  cs : CsOk x.cps.toList
theorem at_ofN {α : Type} {xs : List α} {z : Int} {j : Nat} {v : α} (e : z = (j : Int)) (h : xs[j]? = some v) : atI xs z = some v := by
  rw [e]
  exact atI_nat h
theorem cps_app (x y : Str) : (x ++ y).cps.toList = x.cps.toList ++ y.cps.toList := by
  have e : (x ++ y).cps = x.cps ++ y.cps := rfl
  rw [e, Array.toList_append]
theorem len_cps (x : Str) : x.length = x.cps.toList.length := by
  show x.cps.size = _
  rw [Array.length_toList]
theorem inV_strs (x : Str) (ys : List Str) : inV (.str x) (ys.map V.str) = decide (x ∈ ys) := by
  induction ys with
  | nil => rfl
  | cons y ys ih =>
    have e : inV (.str x) ((y :: ys).map V.str) = (eqV (.str y) (.str x) || inV (.str x) (ys.map V.str)) := rfl
    rw [e, ih]
    have e2 : eqV (.str y) (.str x) = decide (x = y) := by
      show (y == x) = decide (x = y)
      by_cases h : x = y
      · subst h; simp
      · rw [decide_eq_false h]
        exact beq_eq_false_iff_ne.mpr fun q => h q.symm
    rw [e2]
    by_cases h : x = y
    · subst h; simp
    · simp [h]
theorem flat_strs (ys : List Str) : (ys.map V.str).all flatV = true := by
  rw [List.all_eq_true]
  intro v hv
  obtain ⟨y, _, rfl⟩ := List.mem_map.mp hv
  rfl
/-- no more different things than places -/
theorem pigeon {α : Type} [DecidableEq α] : ∀ {xs ys : List α}, xs.Nodup → (∀ x ∈ xs, x ∈ ys) → xs.length ≤ ys.length
  | [], _, _, _ => Nat.zero_le _
  | x :: xs, ys, hn, hs => by
    have hx : x ∈ ys := hs x List.mem_cons_self
    have h1 := List.nodup_cons.mp hn
    have ih := pigeon (xs := xs) (ys := ys.erase x) h1.2 fun z hz => (List.mem_erase_of_ne (fun q => h1.1 (by rw [← q]; exact hz))).mpr (hs z (List.mem_cons_of_mem _ hz))
    rw [List.length_erase_of_mem hx] at ih
    have : 0 < ys.length := List.length_pos_of_mem hx
    rw [List.length_cons]
    omega
abbrev qzv (i : Nat) : Nat := if i = 0 then 113 else if i = 1 then 122 else 118
def two (i j : Nat) : Str := (⟨#[qzv i]⟩ : Str) ++ ⟨#[97 + j]⟩
theorem two_cps (i j : Nat) : (two i j).cps.toList = [qzv i, 97 + j] := by
  unfold two
  rw [cps_app] <;> rfl
theorem two_ok {i j : Nat} (h : j < 26) : NameOk (two i j) := by
  refine ⟨by rw [two_cps]; show 1 ≤ 2; decide, by rw [two_cps]; show 2 ≤ 8; decide, ?_⟩
  rw [two_cps]
  intro c hc
  rcases List.mem_cons.mp hc with rfl | hc
  · unfold qzv
    split
    · omega
    · split <;> omega
  · rcases List.mem_cons.mp hc with rfl | hc
    · omega
    · simp at hc
def allTwo : List Str := ((List.range 3).flatMap fun i => (List.range 26).map fun j => two i j)
theorem allTwo_nd : allTwo.Nodup := by
  have h : (allTwo.map fun x => x.cps.toList).Nodup := by decide +kernel
  unfold List.Nodup at h ⊢
  exact (List.pairwise_map.mp h).imp fun {x y} z e => z (by rw [e])
theorem allTwo_len : allTwo.length = 78 := by decide +kernel
theorem q_at : ∀ {i : Nat}, i < 3 → (PySem.Str.ofString "qzv").cps[i]? = some (qzv i)
  | 0, _ => by decide +kernel
  | 1, _ => by decide +kernel
  | 2, _ => by decide +kernel
theorem abc_all : ∀ j < 26, (PySem.Str.ofString "abcdefghijklmnopqrstuvwxyz").cps.toList[j]? = some (97 + j) := by decide +kernel
theorem abc_at {j : Nat} (h : j < 26) : (PySem.Str.ofString "abcdefghijklmnopqrstuvwxyz").cps[j]? = some (97 + j) := by
  have := abc_all j h
  rw [Array.getElem?_toList] at this
  exact this
theorem q_len : (PySem.Str.ofString "qzv").cps.size = 3 := by decide +kernel
theorem abc_len : (PySem.Str.ofString "abcdefghijklmnopqrstuvwxyz").cps.size = 26 := by decide +kernel
def spName (K : PySem.W.Frag) : Sp := fun vs H Q _ => ∃ (a u : Addr) (m : Int) (ys : List Str), vs = [.ref a, .ref u] ∧ StrAt H a m ∧ m ≤ 100000 ∧ u ≠ a ∧ (SqL K H u (ys.map V.str) ∨ SqT K H u (ys.map V.str)) ∧ ys.length ≤ 60 ∧
  ∀ x H', NameOk x → x ∉ ys → But a H H' → StrAt H' a (m + 9) → Q (.str x) H'
section
variable {P : Program} {w : World} {K : PySem.W.Frag} {mg : Str → Option Value} {base : Heap}
abbrev NLname : List Str := ["_law_stream_here", "_law_used", "_law_size", "_law_name_here", "_law_k", "_law_first", "_law_second"]
theorem scLname : FnScope NLname ["_law_stream_here", "_law_used"] (defScope s_law_name) := ⟨rfl, rfl, rfl, by decide +kernel, rfl, by decide +kernel, by decide +kernel⟩
end
end KK
end

section
set_option maxRecDepth 100000
set_option maxHeartbeats 4000000
namespace KK
open PySem PySem.Spec PyProof.Rows L2
/-! ### amounts, pairs, parts -/
def spAmount : Sp := fun vs H Q _ => ∃ (a : Addr) (n m : Int), vs = [.ref a, .int n] ∧ StrAt H a m ∧ m ≤ 100000 ∧ ∀ r H', 1 ≤ r → r ≤ 10 ^ 30 → But a H H' → StrAt H' a (m + 2) → Q (.int r) H'
def spPair : Sp := fun vs H Q _ => ∃ (a : Addr) (x y : Str) (m : Int), vs = [.ref a, .str x, .str y] ∧ StrAt H a m ∧ m ≤ 100000 ∧
  ∀ t (p : Str × Str) H', (p = (x, y) ∨ p = (y, x)) → H t = none → But a H H' → StrAt H' a (m + 1) → H' t = some (.tup [.str p.1, .str p.2]) → Q (.ref t) H'
/-- an unordered pair -/
def ordP (p : Str × Str) : Str × Str := if Own.ltS p.2 p.1 = true then (p.2, p.1) else p
/-- the tuple that a value stands for -/
def IsTie (H : Hp) (x : V) (p : Str × Str) : Prop := ∃ t, x = .ref t ∧ H t = some (.tup [.str p.1, .str p.2])
theorem IsTie.same {H H' : Hp} {x : V} {p : Str × Str} (h : IsTie H x p) (b : Same H H') : IsTie H' x p := by
  obtain ⟨t, rfl, ht⟩ := h
  exact ⟨t, rfl, b _ _ ht⟩
/-- ties between the names -/
structure TieOk (ns : List Str) (p : Str × Str) : Prop where
  a : p.1 ∈ ns
  b : p.2 ∈ ns
  ne : p.1 ≠ p.2
/-- the values xs are the ties ts -/
def Ties (H : Hp) (xs : List V) (ts : List (Str × Str)) : Prop := Paired (IsTie H) xs ts
structure NsOk (ns : List Str) : Prop where
  lo : 1 ≤ ns.length
  hi : ns.length ≤ 40
  nd : ns.Nodup
  ok : ∀ x ∈ ns, NameOk x
structure TsOk (ns : List Str) (ts : List (Str × Str)) : Prop where
  ok : ∀ p ∈ ts, TieOk ns p
  nd : (ts.map ordP).Nodup
  hi : ts.length ≤ 400
def PrOk (ps : List Int) : Prop := ∀ p ∈ ps, 1 ≤ p ∧ p ≤ 10 ^ 30
def prK (ns : List Str) (ps : List Int) : List (Key × V) := (ns.zip ps).map fun e => (Sum.inr e.1, V.int e.2)
/-- prices of ns, in some order -/
def IsPr (H : Hp) (d : Addr) (ns : List Str) (ps : List Int) : Prop := ∃ kvs, H d = some (.dK kvs) ∧ kvs.Perm (prK ns ps)
structure PartsAt (H : Hp) (r pl tl d : Addr) (ns : List Str) (ps : List Int) (xs : List V) (ts : List (Str × Str)) : Prop where
  hr : H r = some (.lst [.ref pl, .ref tl, .ref d])
  hp : H pl = some (.tup (ns.map V.str))
  ht : H tl = some (.lst xs)
  hd : IsPr H d ns ps
  ti : Ties H xs ts
  nr : r ≠ tl
  pl : ps.length = ns.length
  no : NsOk ns
  to : TsOk ns ts
  po : PrOk ps
theorem paired_mono {α β : Type} {R S : α → β → Prop} : ∀ {xs : List α} {ys : List β}, Paired R xs ys → (∀ x y, R x y → S x y) → Paired S xs ys
  | _, _, .nil, _ => .nil
  | _, _, .cons r t, f => .cons (f _ _ r) (paired_mono t f)
theorem paired_app {α β : Type} {R : α → β → Prop} : ∀ {xs : List α} {ys : List β} {xs' : List α} {ys' : List β}, Paired R xs ys → Paired R xs' ys' → Paired R (xs ++ xs') (ys ++ ys')
  | _, _, _, _, .nil, h => h
  | _, _, _, _, .cons r t, h => .cons r (paired_app t h)
theorem paired_len {α β : Type} {R : α → β → Prop} {xs : List α} {ys : List β} (h : Paired R xs ys) : xs.length = ys.length := Paired.length h
/-- ties made so far, in the turns ahead of (i, j) -/
structure Made (ns : List Str) (i j : Nat) (ts : List (Str × Str)) : Prop where
  nd : (ts.map ordP).Nodup
  at_ : ∀ p ∈ ts, ∃ i' j' x y, j' < i' ∧ (i' < i ∨ (i' = i ∧ j' < j)) ∧ ns[i']? = some x ∧ ns[j']? = some y ∧ (p = (x, y) ∨ p = (y, x))
  len : ts.length ≤ i * i + j
section
variable {P : Program} {w : World} {K : PySem.W.Frag} {mg : Str → Option Value} {base : Heap}
abbrev NLamount : List Str := ["_law_stream_here", "_law_scale", "_law_kind"]
theorem scLamount : FnScope NLamount ["_law_stream_here", "_law_scale"] (defScope s_law_amount) := ⟨rfl, rfl, rfl, by decide +kernel, rfl, by decide +kernel, by decide +kernel⟩
abbrev NLpair : List Str := ["_law_stream_here", "_law_a", "_law_b"]
theorem scLpair : FnScope NLpair ["_law_stream_here", "_law_a", "_law_b"] (defScope s_law_pair) := ⟨rfl, rfl, rfl, by decide +kernel, rfl, by decide +kernel, by decide +kernel⟩
end
end KK
end

section
set_option maxRecDepth 100000
set_option maxHeartbeats 4000000
namespace KK
open PySem PySem.Spec PyProof.Rows L2
theorem But.free {a p : Addr} {H H' : Hp} (b : But a H H') (s : ∃ o, H' a = some o) (hp : H' p = none) : H p = none := by
  by_cases e : p = a
  · subst e
    obtain ⟨o, h⟩ := s
    rw [h] at hp
    cases hp
  · cases e2 : H p with
    | none => rfl
    | some o => rw [b _ _ e2 e] at hp; cases hp
theorem Ties.same {H H' : Hp} {xs : List V} {ts : List (Str × Str)} (h : Ties H xs ts) (b : Same H H') : Ties H' xs ts := paired_mono h fun _ _ z => z.same b
theorem Ties.upd {H : Hp} {xs : List V} {ts : List (Str × Str)} {p : Addr} {o : HO} (h : Ties H xs ts) (hp : ∀ t l, H t = some (.tup l) → t ≠ p) : Ties (upd H p o) xs ts :=
  paired_mono h fun _ _ z => by
    obtain ⟨t, rfl, ht⟩ := z
    exact ⟨t, rfl, by rw [upd_ne (hp _ _ ht)]; exact ht⟩
theorem prK_len (ns : List Str) (ps : List Int) (h : ps.length = ns.length) : (prK ns ps).length = ns.length := by
  unfold prK
  rw [List.length_map, List.length_zip, h, Nat.min_self]
theorem prK_nodup : ∀ {ns : List Str} {as : List Int}, ns.Nodup → ((prK ns as).map (·.1)).Nodup
  | [], _, _ => List.nodup_nil
  | n :: ns, [], _ => List.nodup_nil
  | n :: ns, a :: as, h => by
    have h1 := List.nodup_cons.mp h
    have ih := prK_nodup (as := as) h1.2
    unfold prK at ih ⊢
    rw [List.zip_cons_cons, List.map_cons, List.map_cons]
    refine List.nodup_cons.mpr ⟨fun hm => ?_, ih⟩
    obtain ⟨q, hq, e⟩ := List.mem_map.mp hm
    obtain ⟨z, hz, rfl⟩ := List.mem_map.mp hq
    have e2 : z.1 = n := Sum.inr.inj e
    exact h1.1 (by rw [← e2]; exact (List.of_mem_zip hz).1)
theorem valV_perm {ks ls : List (Key × V)} (p : ks.Perm ls) (nd : (ls.map (·.1)).Nodup) (k : Key) : valV ks k = valV ls k := by
  have nk : (ks.map (·.1)).Nodup := (p.map _).nodup_iff.mpr nd
  have one : ∀ {zs : List (Key × V)}, (zs.map (·.1)).Nodup → ∀ z ∈ zs, valV zs z.1 = some z.2 := by
    intro zs
    induction zs with
    | nil => intro _ z h; cases h
    | cons y ys ih =>
      intro h z hz
      rw [List.map_cons, List.nodup_cons] at h
      unfold valV
      rcases List.mem_cons.mp hz with rfl | hz
      · rw [List.find?_cons_of_pos (by exact decide_eq_true rfl)]
        rfl
      · rw [List.find?_cons_of_neg (by
          rw [decide_eq_true_eq]
          intro q
          exact h.1 (by rw [q]; exact List.mem_map.mpr ⟨z, hz, rfl⟩))]
        exact ih h.2 z hz
  cases e : valV ks k with
  | some v =>
    unfold valV at e
    obtain ⟨z, h1, h2⟩ := Option.map_eq_some_iff.mp e
    have h3 := of_decide_eq_true (List.find?_some (p := fun kv : Key × V => decide (kv.1 = k)) h1)
    have h4 := one nd z (p.mem_iff.mp (List.mem_of_find?_eq_some h1))
    rw [h3, h2] at h4
    exact h4.symm
  | none =>
    cases e2 : valV ls k with
    | none => rfl
    | some v =>
      exfalso
      unfold valV at e2
      obtain ⟨z, h1, h2⟩ := Option.map_eq_some_iff.mp e2
      have h3 := of_decide_eq_true (List.find?_some (p := fun kv : Key × V => decide (kv.1 = k)) h1)
      have h4 := one nk z (p.mem_iff.mpr (List.mem_of_find?_eq_some h1))
      rw [h3, e] at h4
      cases h4
theorem prK_none {ns : List Str} {ps : List Int} {x : Str} (h : x ∉ ns) : valV (prK ns ps) (Sum.inr x : Key) = none := by
  cases e : valV (prK ns ps) (Sum.inr x : Key) with
  | none => rfl
  | some v =>
    unfold valV at e
    cases e2 : (prK ns ps).find? (fun kv => decide (kv.1 = (Sum.inr x : Key))) with
    | none => rw [e2] at e; cases e
    | some p =>
      have hm := List.mem_of_find?_eq_some e2
      have hp := of_decide_eq_true (List.find?_some (p := fun kv : Key × V => decide (kv.1 = (Sum.inr x : Key))) e2)
      unfold prK at hm
      obtain ⟨q, hq, rfl⟩ := List.mem_map.mp hm
      have h3 : q.1 = x := Sum.inr.inj hp
      exact absurd (h3 ▸ (List.of_mem_zip hq).1) h
theorem prK_put {ns : List Str} {ps : List Int} {x : Str} {p : Int} (hl : ps.length = ns.length) (h : x ∉ ns) : putK (prK ns ps) (Sum.inr x : Key) (V.int p) = prK (ns ++ [x]) (ps ++ [p]) := by
  rw [putK_new _ (prK_none h)]
  unfold prK
  rw [List.zip_append (by rw [hl]), List.map_append]
  rfl
theorem take_more {α : Type} : ∀ {l : List α} {i : Nat} {x : α}, l[i]? = some x → l.take (i + 1) = l.take i ++ [x]
  | [], i, x, h => by simp at h
  | a :: l, 0, x, h => by
    have e : a = x := Option.some.inj h
    subst e
    rfl
  | a :: l, i + 1, x, h => by
    have ih := take_more (l := l) (i := i) (x := x) h
    show a :: l.take (i + 1) = a :: l.take i ++ [x]
    rw [ih]
    rfl
theorem not_taken {l : List Str} {i : Nat} {x : Str} (hn : l.Nodup) (h : l[i]? = some x) : x ∉ l.take i := fun hm => by
  obtain ⟨j, hj⟩ := List.getElem?_of_mem hm
  have hlt : j < i := by
    obtain ⟨h1, _⟩ := List.getElem?_eq_some_iff.mp hj
    rw [List.length_take] at h1
    omega
  rw [List.getElem?_take_of_lt hlt] at hj
  have := nd_ix hn h hj
  omega
def spParts (K : PySem.W.Frag) : Sp := fun vs H Q _ => ∃ (a : Addr) (lo hi m : Int), vs = [.ref a, .int lo, .int hi] ∧ StrAt H a m ∧ m ≤ 1000 ∧ 1 ≤ lo ∧ lo ≤ hi ∧ hi ≤ 19 ∧
  ∀ r pl tl d ns ps xs ts H', H r = none → H pl = none → H tl = none → H d = none → But a H H' → StrAt H' a (m + 4000) → PartsAt H' r pl tl d ns ps xs ts → lo ≤ (ns.length : Int) → (ns.length : Int) ≤ hi → Q (.ref r) H'
section
variable {P : Program} {w : World} {K : PySem.W.Frag} {mg : Str → Option Value} {base : Heap}
end
end KK
end

section
set_option maxRecDepth 100000
set_option maxHeartbeats 4000000
/-! enumerate of a tuple -/
namespace PySem
open Sem (wp)
open AutoSeq1 (wpAny_loadPart')
theorem meets_enumerate_newT (l : Addr) (items : Array Value) :
    Meets (Builtin.«enumerate.__new__» ⟨[.type "enumerate", .ref l], []⟩) (fun _ R s => s.heap.IsTuple l items ∧
      R (.ok (.ret (.ref (s.heap.push { cls := .type "tuple_iterator", data := .fields #[.ref l, .int 0 0] }).objs.size)))
        { s with heap := (s.heap.push { cls := .type "tuple_iterator", data := .fields #[.ref l, .int 0 0] }).push { cls := .type "enumerate", data := .fields #[.none, .bool false, .ref s.heap.objs.size, rawInt 0, .none, .none] } }) :=
  .of_wp fun prog w A R s h => by
    obtain ⟨hp, g, d, tk, os⟩ := s; obtain ⟨hL, h⟩ := h
    have hsub := sub_enumerate
    obtain ⟨ol, hl, hc, n, hd⟩ := id hL
    wp_walk using wpAny_loadPart' hl
    refine wpAny_stack_any fun st => wpAny_pure ?_
    split
    · rename_i c _ _ _ _ _
      cases (c == Value.type "enumerate")
      · wp_walk using wpAny_loadPart' hl, wpAny_pyIter_tuple hL
        exact ⟨_, rfl, h⟩
      · wp_walk using wpAny_loadPart' hl, wpAny_pyIter_tuple hL
        exact ⟨_, rfl, h⟩
    · wp_walk using wpAny_loadPart' hl, wpAny_pyIter_tuple hL
      exact ⟨_, rfl, h⟩
section
variable {prog : Program} {w : World} {A : Around} {E : Value → Shared → Prop} {s : Shared}
theorem call_enumerate_tuple {l : Addr} {items : Array Value} {Q : Value → Shared → Prop} (hL : s.heap.IsTuple l items)
    (h : ∀ h', IsEnum h' (s.heap.objs.size + 1) s.heap.objs.size 0 .none → h'.IsTupleIter s.heap.objs.size l 0 → h'.objs.size = s.heap.objs.size + 2 →
      (∀ b o, s.heap.get? b = some o → h'.get? b = some o) → Q (.ref (s.heap.objs.size + 1)) { s with heap := h' }) :
    wpAny (model prog w) A (call (.type "enumerate") [.ref l]) Q E s := by
  refine callType_new F.called_enumerate (by decide) (F.typeCall_enumerate_1 _) (F.newCall_enumerate_1 _) (fun obj => F.args_object_init_2 obj _) F.entry_enumerate_new
    (meets_enumerate_newT l items) ⟨hL, ?_⟩
  have hz : (s.heap.push { cls := .type "tuple_iterator", data := .fields #[.ref l, .int 0 0] }).objs.size = s.heap.objs.size + 1 := Heap.size_push ..
  show _ ∧ _
  rw [hz]
  have he : IsEnum ((s.heap.push { cls := .type "tuple_iterator", data := .fields #[.ref l, .int 0 0] }).push
      { cls := .type "enumerate", data := .fields #[.none, .bool false, .ref s.heap.objs.size, rawInt 0, .none, .none] }) (s.heap.objs.size + 1) s.heap.objs.size 0 .none := by
    have := Heap.get?_push_size (s.heap.push { cls := .type "tuple_iterator", data := .fields #[.ref l, .int 0 0] })
      (o := { cls := .type "enumerate", data := .fields #[.none, .bool false, .ref s.heap.objs.size, rawInt 0, .none, .none] }) rfl
    rw [hz] at this; exact this
  refine ⟨⟨_, he, rfl⟩, h _ he ⟨_, Heap.get?_push_of_some _ (Heap.get?_push_size _ rfl), rfl, rfl⟩ (by rw [Heap.size_push, hz]) fun b o x => Heap.get?_push_of_some _ (Heap.get?_push_of_some _ x)⟩
end
end PySem
namespace Own
open PySem PySem.Spec PyProof.Rows L2
/-- the tuple at a, each item in a new pair -/
def IteT (K : PySem.W.Frag) (a : Addr) : It :=
  ⟨fun i H => ∃ (xs : List V) (x : V), SqT K H a xs ∧ xs[i]? = some x, fun i H v H' => ∃ T x, v = .ref T ∧ H T = none ∧ H' = upd H T (.tup [.int (i : Nat), x]) ∧ ∀ xs, SqT K H a xs → xs[i]? = some x, fun i H => ∃ xs : List V, SqT K H a xs ∧ i = xs.length⟩
theorem turn_enumT {P : Program} {w : World} {K : PySem.W.Frag} {elts : List Expr} {kk : Nat} {tpos : Pos} (a e it : Addr) (its : Array Value) (hei : e ≠ it) (hea : e ≠ a) (hai : a ≠ it) :
    Turn P w K (.Tuple elts kk tpos) (IteT K a) [e, it] e (fun i h => (∃ old, IsEnum h e it ((i : Nat) : Int) old) ∧ h.IsTupleIter it a i) where
  mem := by simp
  obj := fun i h st b hb => by
    obtain ⟨⟨old, he⟩, ⟨o, ho, hc, hd⟩⟩ := st
    have e' : b = e ∨ b = it := by simpa using hb
    rcases e' with z | z
    · rw [z]; exact ⟨_, he, fun v q => nomatch q⟩
    · rw [z]; exact ⟨o, ho, fun v q => by rw [hd] at q; cases q⟩
  keep := fun i h h' st k => let ⟨⟨old, he⟩, hi⟩ := st; ⟨⟨old, k e (by simp) _ he⟩, hi.at fun o q => k it (by simp) o q⟩
  item := by
    intro X hP hw hK hc i pins s σ H E I hf st hg
    subst hP hw hK
    obtain ⟨⟨old, he⟩, hit⟩ := st
    obtain ⟨xs, x, hq, hx⟩ := hg
    obtain ⟨its, rv, p, hz⟩ := I.tuple hq
    obtain ⟨u, hu, ru⟩ := rv.get hx
    have hel : e < s.heap.objs.size := Heap.lt_size he
    have hil : it < s.heap.objs.size := by obtain ⟨_, q, _⟩ := hit; exact Heap.lt_size q
    have hlt : i < its.toArray.size := by
      rw [List.size_toArray]
      exact (List.getElem?_eq_some_iff.mp hu).1
    refine wpAny_pyNext_enum_itemD (Draws.tuple (A := X.A.in1) (I.ok.hd hc) it a hai its.toArray) he ⟨hit, p⟩ hlt hei (by simp [hei, hea]) fun v h' tk hv ho hit' hT hsz hk => ?_
    have ev : v = u := by
      have e1 : its[i]? = some v := by simpa using hv
      rw [hu] at e1
      exact (Option.some.inj e1).symm
    subst ev
    refine ⟨_, rfl, wpAny_letOwnedTupleGo_enum (s := { s with heap := h', toks := tk + 1 }) ho fun h'' he' sb => ?_⟩
    have hT2 : h''.get? s.heap.objs.size = some { cls := .type "tuple", data := .seq #[.int i tk, v] } := (sb.2 _ (Nat.ne_of_gt hel)).trans hT
    have new : ObjOk X.prog X.w (upd H s.heap.objs.size (.tup [.int (i : Nat), x])) h'' s.heap.objs.size (.tup [.int (i : Nat), x]) :=
      ⟨by show 2 ≤ sizeLine; decide, [.int i tk, v], .cons ⟨_, rfl⟩ (.cons ru .nil), ⟨_, hT2, rfl, _, rfl⟩⟩
    have I1 : Inv X pins σ (upd H s.heap.objs.size (.tup [.int (i : Nat), x])) { s with heap := h'', toks := tk + 1 } :=
      I.turnedNew (ch := [e, it]) (fun b ob hb q => (sb.2 b (fun z => hb (by simp [z]))).trans (hk b ob (fun z => hb (by simp [z])) (fun z => hb (by simp [z])) q)) hf (Nat.le_refl _) new
    refine ⟨.ref s.heap.objs.size, _, I1, rfl, ⟨_, x, rfl, I.hok.fresh (Nat.le_refl _), rfl, fun ys hy => by rw [I.tuple_inj hy hq]; exact hx⟩, ⟨⟨v, ?_⟩, hit'.1.at fun o q => (sb.2 it (Ne.symm hei)).trans q⟩, fun b hb => ?_⟩
    · have e1 : ((i + 1 : Nat) : Int) = (i : Int) + 1 := by omega
      rw [e1]; exact he'
    · have hb' : b < s.heap.objs.size := by
        have e' : b = e ∨ b = it := by simpa using hb
        rcases e' with z | z
        · rw [z]; exact hel
        · rw [z]; exact hil
      rw [upd_ne (Nat.ne_of_lt hb')]
      exact (hf b hb).1
  done := by
    intro X hP hw hK hc i pins s σ H E I hf st hg
    subst hP hw hK
    obtain ⟨⟨old, he⟩, hit⟩ := st
    obtain ⟨xs, hq, hx⟩ := hg
    obtain ⟨its, rv, p, hz⟩ := I.tuple hq
    obtain ⟨f0, f1, f2, f3, f4, f5⟩ := hf it (by simp)
    have hl : i = its.toArray.size := by rw [hx, rv.length]; simp
    subst hl
    exact wpAny_pyNext_enum_endD (Draws.tuple (A := X.A.in1) (I.ok.hd hc) it a hai its.toArray) he ⟨hit, p⟩ fun h' eb => ⟨rfl, I.turned (t' := s.toks) (fun b o hb q => eb b o hb q) f0 f1 f3 f4 f5⟩
  self := fun A i s Q E st h => let ⟨⟨_, he⟩, _⟩ := st; wpAny_pyIter_enum he h
def iEnumT (K : PySem.W.Frag) (ta : TA) : TI := fun σ H R => ta σ H fun vs H1 => ∃ a xs, vs = [.ref a] ∧ SqT K H1 a xs ∧ R (IteT K a) H1
theorem pi_enumT {X : Cx} {e : Expr} {ta : TA} {p pos tpos : Pos} {elts : List Expr} {kk : Nat} (hg : Gl X "enumerate") (hm : X.mg "enumerate" = none) (ha : PA X [e] ta) (hs : starEach [e] X.env = [(false, eval e X.env)] := by rfl) :
    PI X (.Tuple elts kk tpos) (.Call (.Name "enumerate" p) [e] [] pos) (iEnumT X.K ta) := by
  refine ⟨fun pins s σ H R I h => ?_⟩
  refine Call_ (ld_blt I hg hm boot_enumerate (PyProof.Rows.callWith_type1 (thn (ha.run pos pins s σ H _ I h) fun us s1 ⟨vs, H1, I1, r1, q1⟩ => ?_) hs rfl))
  obtain ⟨a, xs, ex, hq, q⟩ := q1
  subst ex
  cases r1 with
  | cons r rr =>
    cases rr
    cases r
    obtain ⟨its, rv, p', hz⟩ := I1.tuple hq
    have hal : a < s1.heap.objs.size := by obtain ⟨o, ho, _⟩ := p'; exact Heap.lt_size ho
    refine call_enumerate_tuple p' fun h' he hit hsz hk => wpAny_pyIter_enum he ?_
    have I2 : Inv X pins σ H1 { s1 with heap := h' } := I1.kept (t' := s1.toks) hk
    refine ⟨s1.heap.objs.size + 1, [s1.heap.objs.size + 1, s1.heap.objs.size], _, _, H1, rfl, I2, turn_enumT a (s1.heap.objs.size + 1) s1.heap.objs.size its.toArray (Nat.succ_ne_self _) (Nat.ne_of_gt (Nat.lt_succ_of_lt hal)) (Nat.ne_of_lt hal), ⟨⟨.none, he⟩, hit⟩, fun b hb => ?_, q⟩
    have e' : b = s1.heap.objs.size + 1 ∨ b = s1.heap.objs.size := by simpa using hb
    have hle : s1.heap.objs.size ≤ b := by
      rcases e' with z | z
      · rw [z]; exact Nat.le_add_right _ _
      · rw [z]; exact Nat.le_refl _
    exact I1.fpOk hle (I1.hok.fresh hle)
theorem walk_enumT {K : PySem.W.Frag} {a : Addr} {xs : List V} : Walk (IteT K a) xs.length (fun H => SqT K H a xs) (YPair (fun i => some (.int (i : Nat))) fun i => xs[i]?) :=
  ⟨fun i _ hi q => ⟨xs, xs[i], q, by simp [hi]⟩, fun _ q => ⟨xs, q, rfl⟩, fun i H v H' _ q y => by
    obtain ⟨T, x, e1, e2, e3, e4⟩ := y
    exact ⟨T, _, x, e1, e2, e3, rfl, e4 xs q⟩⟩
end Own
end

section
set_option maxRecDepth 100000
set_option maxHeartbeats 4000000
namespace Own
open PySem PySem.Spec PyProof.Rows L2
/-- a list or a tuple, whichever it is -/
def iLT (K : PySem.W.Frag) (te : TE) : TI := fun σ H R => iList K te σ H R ∨ iTup K te σ H R
theorem pi_lt {X : Cx} {tg e : Expr} {te : TE} (he : PE X e te) : PI X tg e (iLT X.K te) := by
  refine ⟨fun pins s σ H R I h => ?_⟩
  rcases h with h | h
  · exact (pi_list (tg := tg) he).run pins s σ H R I h
  · exact (pi_tup (tg := tg) he).run pins s σ H R I h
section
variable {P : Program} {w : World} {K : PySem.W.Frag} {mg : Str → Option Value} {base : Heap} {k : Nat} {x : Str} {sp1 sp2 : Sp} {dvs : List V}
/-- a promise that asks for more -/
theorem cal_of (c : C8.Cal P w K mg base k x sp1 dvs) (h : ∀ vs H Q E, sp2 vs H Q E → sp1 vs H Q E) : C8.Cal P w K mg base k x sp2 dvs := by
  obtain ⟨f, fd, ps, ds, F, hm, kp, b, d⟩ := c.ex
  exact ⟨f, fd, ps, ds, F.imp h, hm, kp, b, d⟩
end
section
variable {X : Cx} {C : Addr} {bmB : List Value} {B newId initId : String}
/-- raise E() -/
def tRaise0 (C : Addr) (W : WX) : TS := fun _ σ H => W (.ref C) none σ H
/-- a def that may raise, by its name -/
structure CalX (P : Program) (w : World) (K : PySem.W.Frag) (mg : Str → Option Value) (base : Heap) (k : Nat) (x : Str) (sp : Sp) : Prop where
  ex : ∃ (f : Addr) (fd : FuncData) (ps : List Str), FnOk P w K mg base (L2.CX P w) k f fd ps sp ∧ mg x = some (.ref f) ∧ PySem.W.keepIn K (.ref f) = true ∧ L2.Binds K fd ps []
end
/-! ### dicts told apart: values flat, or the same object -/
def sameB : V → Bool
  | .ref _ => true
  | v => flatB v
def rNeDR : R2 := fun x y H Q => ∃ a b ks ls, x = .ref a ∧ y = .ref b ∧ H a = some (.dK ks) ∧ H b = some (.dK ls) ∧ ks.length = ls.length ∧ (∀ p ∈ ks, valV ls p.1 = some p.2 ∧ sameB p.2 = true) ∧ Q (.bl false) H
/-- x != y, of what is the same or equal -/
def rNeSame (K : PySem.W.Frag) : R2 := fun x y H Q => rNe x y H Q ∨ rNeD K x y H Q ∨ rNeDR x y H Q
end Own
end

section
set_option maxRecDepth 100000
set_option maxHeartbeats 4000000
namespace KK
open PySem PySem.Spec PyProof.Rows L2
/-! ### the checks of values -/
def spIsInt (K : PySem.W.Frag) : Sp := fun vs H Q _ => ∃ (x : V) (t : String) (b1 b2 : Bool), vs = [x] ∧ TyX K H x (.type t) ∧ kitB t "int" = some b1 ∧ kitB t "bool" = some b2 ∧ Q (.bl (b1 && !b2)) H
def spBetween (K : PySem.W.Frag) : Sp := fun vs H Q _ => ∃ (x : V) (lo hi : Int) (t : String) (b1 b2 : Bool), vs = [x, .int lo, .int hi] ∧ TyX K H x (.type t) ∧ kitB t "int" = some b1 ∧ kitB t "bool" = some b2 ∧
  ((b1 && !b2) = true → ∃ i, x = .int i ∧ Q (.bl (decide (lo ≤ i ∧ i ≤ hi))) H) ∧ ((b1 && !b2) = false → Q (.bl false) H)
def nameB (x : Str) : Bool := (decide (1 ≤ x.cps.toList.length) && decide (x.cps.toList.length ≤ 8)) && x.cps.toList.all fun c => decide (97 ≤ c) && decide (c ≤ 122)
theorem nameB_ok {x : Str} (h : NameOk x) : nameB x = true := by
  unfold nameB
  rw [decide_eq_true h.lo, decide_eq_true h.hi, Bool.and_self, Bool.true_and, List.all_eq_true]
  intro c hc
  rw [decide_eq_true (h.cs c hc).1, decide_eq_true (h.cs c hc).2, Bool.and_self]
def spIsName (K : PySem.W.Frag) : Sp := fun vs H Q _ => ∃ (x : V) (t : String) (b : Bool), vs = [x] ∧ TyX K H x (.type t) ∧ kitB t "str" = some b ∧
  (b = true → ∃ s : Str, x = .str s ∧ s.length ≤ 100000 ∧ ∀ H', Same H H' → Q (.bl (nameB s)) H') ∧ (b = false → Q (.bl false) H)
def spAmong (K : PySem.W.Frag) : Sp := fun vs H Q _ => ∃ (x : V) (a : Addr) (t : String) (b : Bool), vs = [x, .ref a] ∧ TyX K H x (.type t) ∧ kitB t "str" = some b ∧ (b = false → Q (.bl false) H) ∧
  (b = true → ∃ s : Str, x = .str s ∧ ((∃ ns : List Str, (SqL K H a (ns.map V.str) ∨ SqT K H a (ns.map V.str)) ∧ Q (.bl (decide (s ∈ ns))) H) ∨ (∃ kvs : List (Key × V), Rd H a (.dK kvs) ∧ Q (.bl (valV kvs (Sum.inr s : Key)).isSome) H)))
def spJust (K : PySem.W.Frag) : Sp := fun vs H Q _ => ∃ (d k : Addr) (kvs : List (Key × V)) (ns : List Str), vs = [.ref d, .ref k] ∧ H d = some (.dK kvs) ∧ SqT K H k (ns.map V.str) ∧ kvs.length = ns.length ∧ ns.length ≤ 1000 ∧ (∀ x ∈ ns, (valV kvs (Sum.inr x : Key)).isSome = true) ∧
  ∀ H', Same H H' → Q (.bl true) H'
def spJustG (K : PySem.W.Frag) : Sp := fun vs H Q _ => ∃ (x : V) (k : Addr) (ns : List Str) (t : String) (b : Bool), vs = [x, .ref k] ∧ TyX K H x (.type t) ∧ kitB t "dict" = some b ∧ (SqL K H k (ns.map V.str) ∨ SqT K H k (ns.map V.str)) ∧ ns.length ≤ 1000 ∧
  (b = false → Q (.bl false) H) ∧ (b = true → ∃ d kvs, x = .ref d ∧ H d = some (.dK kvs) ∧ ∀ H', Same H H' → Q (.bl (decide (kvs.length = ns.length) && ns.all fun x => (valV kvs (Sum.inr x : Key)).isSome)) H')
def inOrd (p : Str × Str) : Str × Str := if Own.ltS p.2 p.1 = true then (p.2, p.1) else p
def spOrder : Sp := fun vs H Q _ => ∃ (a b : Str), vs = [.str a, .str b] ∧ ∀ p, H p = none → Q (.ref p) (upd H p (.tup [.str (ordP (a, b)).1, .str (ordP (a, b)).2]))
theorem one_lt (c d : Nat) : decide (([c] : List Nat) < [d]) = decide (c < d) := by
  by_cases h : c < d
  · rw [decide_eq_true h, decide_eq_true]
    exact List.Lex.rel h
  · rw [decide_eq_false h, decide_eq_false]
    intro z
    cases z with
    | rel q => exact h q
    | cons q => cases q
theorem a_cps : (PySem.Str.ofString "a").cps.toList = [97] := by decide +kernel
theorem z_cps : (PySem.Str.ofString "z").cps.toList = [122] := by decide +kernel
theorem one_cps (c : Nat) : (⟨#[c]⟩ : Str).cps.toList = [c] := rfl
section
variable {P : Program} {w : World} {K : PySem.W.Frag} {mg : Str → Option Value} {base : Heap}
abbrev Nisinteger : List Str := ["value"]
theorem scisinteger : FnScope Nisinteger ["value"] (defScope s_is_integer) := ⟨rfl, rfl, rfl, by decide +kernel, rfl, by decide +kernel, by decide +kernel⟩
theorem c_isint (T : Blt mg) (F : Has K mg "is_integer" s_is_integer) : C8.Cal P w K mg base 1 "is_integer" (spIsInt K) [] := by
  refine calF F (fun f fd F => F.binds (ps := ["value"]) fun _ _ _ _ _ _ us hl => match us, hl with | [_], _ => rfl) scisinteger (fun vs H Q E h => ?_) (fun f cdv A outer s H vs Q E hr h => ?_)
  · obtain ⟨x, t, b1, b2, rfl, _⟩ := h
    rfl
  · obtain ⟨x, t, b1, b2, rfl, ht, h1, h2, q⟩ := h
    refine ⟨_, (pss_one (ps_ret (pe_and (pe_callB call_isi (by rfl) T.b_isinstance (by decide +kernel) (pa_cons (pv 0) (pa_cons (pe_bltn (v := .ty "int") (by rfl) T.b_int (by decide +kernel) rfl) pa_nil))) (pe_one (pe_not (pe_callB call_isi (by rfl) T.b_isinstance (by decide +kernel) (pa_cons (pv 0) (pa_cons (pe_bltn (v := .ty "bool") (by rfl) T.b_bool (by decide +kernel) rfl) pa_nil)))))))), ?_⟩
    refine ⟨_, rfl, _, _, _, _, _, rfl, .ty "int", ht, kit_ty h1, _, rfl, ?_⟩
    cases b1 with
    | false =>
      refine iteF ?_
      exact q
    | true =>
      refine iteT ?_
      exact ⟨_, rfl, _, _, _, _, _, rfl, .ty "bool", ht, kit_ty h2, _, rfl, q⟩
abbrev Nisbetween : List Str := ["value", "low", "high"]
theorem scisbetween : FnScope Nisbetween ["value", "low", "high"] (defScope s_is_between) := ⟨rfl, rfl, rfl, by decide +kernel, rfl, by decide +kernel, by decide +kernel⟩
theorem c_between (T : Blt mg) (F : Has K mg "is_between" s_is_between) (CISINT : C8.Cal P w K mg base 1 "is_integer" (spIsInt K) []) : C8.Cal P w K mg base 2 "is_between" (spBetween K) [] := by
  refine calF F (fun f fd F => F.binds (ps := ["value", "low", "high"]) fun _ _ _ _ _ _ us hl => match us, hl with | [_, _, _], _ => rfl) scisbetween (fun vs H Q E h => ?_) (fun f cdv A outer s H vs Q E hr h => ?_)
  · obtain ⟨x, lo, hi, t, b1, b2, rfl, _⟩ := h
    rfl
  · obtain ⟨x, lo, hi, t, b1, b2, rfl, ht, h1, h2, q1, q2⟩ := h
    refine ⟨_, (pss_one (ps_ret (pe_and (C8.pe_c CISINT hr (by decide) rfl (pa_cons (pv 0) pa_nil)) (pe_one (pe_chain op_le op_le (pv 1) (pv 0) (pv 2)))))), ?_⟩
    refine ⟨_, rfl, x, t, b1, b2, rfl, ht, h1, h2, _, rfl, ?_⟩
    cases hb : (b1 && !b2) with
    | false =>
      refine iteF ?_
      exact q2 hb
    | true =>
      refine iteT ?_
      obtain ⟨i, rfl, q⟩ := q1 hb
      refine ⟨_, rfl, _, rfl, _, _, rfl, rfl, _, rfl, ?_⟩
      by_cases c1 : lo ≤ i
      · rw [decide_eq_true c1]
        refine iteT ?_
        refine ⟨_, rfl, _, _, rfl, rfl, ?_⟩
        have e : decide (lo ≤ i ∧ i ≤ hi) = decide (i ≤ hi) := by
          by_cases c2 : i ≤ hi
          · rw [decide_eq_true c2, decide_eq_true ⟨c1, c2⟩]
          · rw [decide_eq_false c2, decide_eq_false fun z => c2 z.2]
        rw [e] at q
        exact q
      · rw [decide_eq_false c1]
        refine iteF ?_
        rw [decide_eq_false fun z => c1 z.1] at q
        exact q
abbrev Nisname : List Str := ["value", "sign"]
theorem scisname : FnScope Nisname ["value"] (defScope s_is_name) := ⟨rfl, rfl, rfl, by decide +kernel, rfl, by decide +kernel, by decide +kernel⟩
theorem c_isname (T : Blt mg) (G_LONGEST_NAME : ∃ t, mg "LONGEST_NAME" = some (.int 8 t)) (F : Has K mg "is_name" s_is_name) : C8.Cal P w K mg base 1 "is_name" (spIsName K) [] := by
  refine calF F (fun f fd F => F.binds (ps := ["value"]) fun _ _ _ _ _ _ us hl => match us, hl with | [_], _ => rfl) scisname (fun vs H Q E h => ?_) (fun f cdv A outer s H vs Q E hr h => ?_)
  · obtain ⟨x, t, b, rfl, _⟩ := h
    rfl
  · obtain ⟨x, t, b, rfl, ht, h1, q1, q2⟩ := h
    obtain ⟨tk, hG⟩ := G_LONGEST_NAME
    have G_LONGEST_NAME : True ∧ _ := ⟨trivial, hG⟩
    refine ⟨_, (pss_cons (ps_if (PW.pt (pw_or (pt_not (pt_val (pe_callB call_isi (by rfl) T.b_isinstance (by decide +kernel) (pa_cons (pv 0) (pa_cons (pe_bltn (v := .ty "str") (by rfl) T.b_str (by decide +kernel) rfl) pa_nil))))) (pw_or1 (pt_not (pt_chain op_le op_le pe_int (pe_callB call_len_str (by rfl) T.b_len PySem.boot_len (pa_cons (pv 0) pa_nil)) (pe_glob (v := .int 8) rfl G_LONGEST_NAME.2 ⟨_, rfl⟩)))))) (pss_one (ps_ret pe_bl)) pss_nil)
      (pss_one (ps_ret (pe_callB (cr_all rfl) (by rfl) T.b_all (by decide +kernel) (pa_cons (pe_lc (own := [("sign", 1)]) (g := gName 1) (tt := tYes) rfl scisname.nd (pi_str (pv 0)) (blkOk_by (own := [("sign", 1)]) (N := Nisname) (sc := defScope s_is_name) (by decide +kernel)) (fun _ _ _ _ _ => (pg_name (i := 1) scisname.nd rfl (Or.inl rfl))) (fun _ _ _ _ _ => pts_nil) (fun _ _ _ _ _ => (pe_chain op_le_str op_le_str pe_str (pv 1) pe_str))) pa_nil))))), ?_⟩
    refine ⟨_, rfl, _, _, _, _, _, rfl, .ty "str", ht, kit_ty h1, _, rfl, ?_⟩
    cases b with
    | false =>
      refine iteT ?_
      exact q2 rfl
    | true =>
      refine iteF ?_
      obtain ⟨x, rfl, hx, q⟩ := q1 rfl
      have e1 : ((x.length : Nat) : Int) = (x.cps.toList.length : Int) := by rw [len_cps]
      refine ⟨_, rfl, _, rfl, fits hx, _, _, rfl, rfl, _, rfl, ?_⟩
      have hret : (decide (1 ≤ x.cps.toList.length) && decide (x.cps.toList.length ≤ 8)) = false → Q (.bl false) H := fun hf => by
        have := q H (Same.refl H)
        unfold nameB at this
        rw [hf, Bool.false_and] at this
        exact this
      by_cases c1 : (1 : Int) ≤ x.length
      · rw [decide_eq_true c1]
        refine iteT ?_
        refine ⟨_, _, rfl, rfl, _, rfl, ?_⟩
        by_cases c2 : (x.length : Int) ≤ 8
        · rw [decide_eq_true c2]
          refine iteF ?_
          refine ⟨_, rfl, _, rfl, fun D hD => lc_it (σ := [some (.str x), none]) (vs := [1]) walk_str (fun i H2 => Same H H2 ∧ H2 D = some (.lst (((x.cps.toList.take i).map fun c => decide (97 ≤ c) && decide (c ≤ 122)).map V.bl)))
            ⟨Same.new hD, upd_same⟩ (fun _ _ _ _ => True.intro) ?_ ?_⟩
          · rintro i v H2 H3 hi ⟨s2, h2⟩ ⟨rfl, c, ec, rfl⟩
            have ec' : x.cps.toList[i]? = some c := by rw [Array.getElem?_toList]; exact ec
            refine ⟨rfl, ?_⟩
            refine iteT (B := False) ?_
            have fin : ∀ b : Bool, b = (decide (97 ≤ c) && decide (c ≤ 122)) → ∃ acc, H3 D = some (.lst acc) ∧ acc.length < sizeLine ∧ Same H (upd H3 D (.lst (acc ++ [V.bl b]))) ∧ (upd H3 D (.lst (acc ++ [V.bl b]))) D = some (.lst (((x.cps.toList.take (i + 1)).map fun c => decide (97 ≤ c) && decide (c ≤ 122)).map V.bl)) := fun b hb => by
              refine ⟨_, h2, fitsL (by rw [List.length_map, List.length_map, List.length_take]; omega), fun b' o e => by rw [upd_ne (ne_of_none e hD)]; exact s2 _ _ e, ?_⟩
              rw [upd_same, take_more ec', List.map_append, List.map_append, hb]
              rfl
            refine ⟨_, rfl, _, _, rfl, rfl, _, rfl, ?_⟩
            rw [a_cps, one_cps, one_lt]
            by_cases c3 : c < 97
            · rw [decide_eq_true c3]
              refine iteF ?_
              refine fin false ?_
              rw [decide_eq_false (by omega : ¬ 97 ≤ c), Bool.false_and]
            · rw [decide_eq_false c3]
              refine iteT ?_
              refine ⟨_, _, rfl, rfl, ?_⟩
              rw [z_cps, one_cps, one_lt]
              refine fin _ ?_
              rw [decide_eq_true (by omega : 97 ≤ c), Bool.true_and]
              by_cases c4 : 122 < c
              · rw [decide_eq_true c4, decide_eq_false (by omega : ¬ c ≤ 122)]
                rfl
              · rw [decide_eq_false c4, decide_eq_true (by omega : c ≤ 122)]
                rfl
          · rintro H2 ⟨s2, h2⟩
            rw [List.take_of_length_le (by rw [Array.length_toList]; exact Nat.le_refl _)] at h2
            refine ⟨D, _, rfl, SqL.of h2, ?_⟩
            have := q H2 s2
            unfold nameB at this
            rw [decide_eq_true (by omega : 1 ≤ x.cps.toList.length), decide_eq_true (by omega : x.cps.toList.length ≤ 8), Bool.and_self, Bool.true_and] at this
            rw [List.all_map]
            exact this
        · rw [decide_eq_false c2]
          refine iteT ?_
          exact hret (by rw [decide_eq_false (by omega : ¬ x.cps.toList.length ≤ 8), Bool.and_false])
      · rw [decide_eq_false c1]
        refine iteF ?_
        exact ⟨_, rfl, iteT (hret (by rw [decide_eq_false (by omega : ¬ 1 ≤ x.cps.toList.length), Bool.false_and]))⟩
abbrev Nisamong : List Str := ["value", "names"]
theorem scisamong : FnScope Nisamong ["value", "names"] (defScope s_is_among) := ⟨rfl, rfl, rfl, by decide +kernel, rfl, by decide +kernel, by decide +kernel⟩
theorem c_among (T : Blt mg) (F : Has K mg "is_among" s_is_among) : C8.Cal P w K mg base 1 "is_among" (spAmong K) [] := by
  refine calF F (fun f fd F => F.binds (ps := ["value", "names"]) fun _ _ _ _ _ _ us hl => match us, hl with | [_, _], _ => rfl) scisamong (fun vs H Q E h => ?_) (fun f cdv A outer s H vs Q E hr h => ?_)
  · obtain ⟨x, a, t, b, rfl, _⟩ := h
    rfl
  · obtain ⟨x, a, t, b, rfl, ht, h1, q2, q1⟩ := h
    have hu := hu_of hr
    refine ⟨_, (pss_one (ps_ret (pe_and (pe_callB call_isi (by rfl) T.b_isinstance (by decide +kernel) (pa_cons (pv 0) (pa_cons (pe_bltn (v := .ty "str") (by rfl) T.b_str (by decide +kernel) rfl) pa_nil))) (pe_one (pe_cmpR (Own.op_inAny hu) (pv 0) (pv 1) (by rfl)))))), ?_⟩
    refine ⟨_, rfl, _, _, _, _, _, rfl, .ty "str", ht, kit_ty h1, _, rfl, ?_⟩
    cases b with
    | false =>
      refine iteF ?_
      exact q2 rfl
    | true =>
      refine iteT ?_
      obtain ⟨s, rfl, q⟩ := q1 rfl
      refine ⟨_, rfl, _, rfl, ?_⟩
      rcases q with ⟨ns, hs, q⟩ | ⟨kvs, hd, q⟩
      · refine .inl ⟨a, _, rfl, hs, rfl, flat_strs ns, ?_⟩
        show Q (.bl (inV (.str s) (ns.map V.str))) H
        rw [inV_strs]
        exact q
      · exact .inr ⟨a, _, rfl, .inl ⟨kvs, Sum.inr s, hd, rfl, rfl⟩, q⟩
abbrev Nhasjust : List Str := ["value", "keys", "key"]
theorem schasjust : FnScope Nhasjust ["value", "keys"] (defScope s_has_just) := ⟨rfl, rfl, rfl, by decide +kernel, rfl, by decide +kernel, by decide +kernel⟩
theorem c_justG (T : Blt mg) (F : Has K mg "has_just" s_has_just) : C8.Cal P w K mg base 1 "has_just" (spJustG K) [] := by
  refine calF F (fun f fd F => F.binds (ps := ["value", "keys"]) fun _ _ _ _ _ _ us hl => match us, hl with | [_, _], _ => rfl) schasjust (fun vs H Q E h => ?_) (fun f cdv A outer s H vs Q E hr h => ?_)
  · obtain ⟨x, k, ns, t, b, rfl, _⟩ := h
    rfl
  · obtain ⟨x, k, ns, t, b, rfl, ht, hb, hk, hl2, q0, q1⟩ := h
    have hu := hu_of hr
    refine ⟨_, (pss_one (ps_ret (pe_and (pe_callB call_isi (by rfl) T.b_isinstance (by decide +kernel) (pa_cons (pv 0) (pa_cons (pe_bltn (v := .ty "dict") (by rfl) T.b_dict (by decide +kernel) rfl) pa_nil))) (pe_and (pe_cmpR op_eq (pe_callB call_lenD (by rfl) T.b_len PySem.boot_len (pa_cons (pv 0) pa_nil)) (pe_callB call_len (by rfl) T.b_len PySem.boot_len (pa_cons (pv 1) pa_nil)) (nomark _)) (pe_one (pe_callB (cr_all rfl) (by rfl) T.b_all (by decide +kernel) (pa_cons (pe_lc (own := [("key", 2)]) (g := gName 2) (tt := tYes) rfl schasjust.nd (Own.pi_lt (pv 1)) (blkOk_by (own := [("key", 2)]) (N := Nhasjust) (sc := defScope s_has_just) (by decide +kernel)) (fun _ _ _ _ _ => (pg_name (i := 2) schasjust.nd rfl (Or.inl rfl))) (fun _ _ _ _ _ => pts_nil) (fun _ _ _ _ _ => (pe_cmp (pc_din hu (pv 2) (pv 0)) rfl))) pa_nil))))))), ?_⟩
    refine ⟨_, rfl, _, _, _, _, _, rfl, .ty "dict", ht, kit_ty hb, _, rfl, ?_⟩
    cases b with
    | false =>
      refine iteF ?_
      exact q0 rfl
    | true =>
      obtain ⟨d, kvs, rfl, hd, q⟩ := q1 rfl
      refine iteT ?_
      have hlen : LenV K (.ref k) H ns.length := by
        rcases hk with hk | hk
        · exact .inl ⟨_, hk, by rw [List.length_map]⟩
        · exact .inr ⟨_, hk, by rw [List.length_map]⟩
      refine ⟨_, rfl, d, kvs, rfl, hd, _, rfl, _, _, rfl, hlen, rfl, ?_⟩
      have e : decide (V.int (kvs.length : Int) = V.int (ns.length : Int)) = decide (kvs.length = ns.length) := by
        by_cases h : kvs.length = ns.length
        · rw [decide_eq_true h, h, decide_eq_true rfl]
        · rw [decide_eq_false h, decide_eq_false fun z => h (by have := V.int.inj z; omega)]
      rw [e]
      by_cases hl : kvs.length = ns.length
      · rw [decide_eq_true hl]
        refine ⟨_, rfl, iteT ?_⟩
        have turn : ∀ D, H D = none → ∀ i v H2, i < ns.length → (Same H H2 ∧ H2 D = some (.lst (((ns.take i).map fun x => (valV kvs (Sum.inr x : Key)).isSome).map V.bl))) → (ns.map V.str)[i]? = some v →
            ∃ acc, H2 D = some (.lst acc) ∧ acc.length < sizeLine ∧ ∃ o, DGet H2 d v o ∧ (Same H (upd H2 D (.lst (acc ++ [V.bl o.isSome]))) ∧ (upd H2 D (.lst (acc ++ [V.bl o.isSome]))) D = some (.lst (((ns.take (i + 1)).map fun x => (valV kvs (Sum.inr x : Key)).isSome).map V.bl))) := fun D hD i v H2 hi ⟨s2, h2⟩ hv => by
          rw [List.getElem?_map] at hv
          obtain ⟨x, hx, rfl⟩ := Option.map_eq_some_iff.mp hv
          refine ⟨_, h2, fitsL (by rw [List.length_map, List.length_map, List.length_take]; omega), _, DGet.k (k := Sum.inr x) (s2 _ _ hd), fun b' o e => by rw [upd_ne (ne_of_none e hD)]; exact s2 _ _ e, ?_⟩
          rw [upd_same, take_more hx, List.map_append, List.map_append]
          rfl
        have fin : ∀ D H2, Same H H2 → H2 D = some (.lst (((ns.take ns.length).map fun x => (valV kvs (Sum.inr x : Key)).isSome).map V.bl)) → ∃ (a : Addr) (xs : List Bool), ([V.ref D] : List V) = [.ref a] ∧ SqL K H2 a (xs.map V.bl) ∧ Q (.bl (xs.all id)) H2 := fun D H2 s2 h2 => by
          rw [List.take_of_length_le (Nat.le_refl _)] at h2
          refine ⟨D, _, rfl, SqL.of h2, ?_⟩
          have := q H2 s2
          rw [decide_eq_true hl, Bool.true_and] at this
          rw [List.all_map]
          exact this
        rcases hk with hk | hk
        · refine .inl ⟨_, rfl, k, rfl, ⟨_, hk⟩, fun D hD => lc_list (K := K) (a := k) (xs := ns.map V.str) (σ := [some (.ref d), some (.ref k), none]) (vs := [2]) (fun i H2 => Same H H2 ∧ H2 D = some (.lst (((ns.take i).map fun x => (valV kvs (Sum.inr x : Key)).isSome).map V.bl)))
            ⟨Same.new hD, upd_same⟩ (fun i H2 _ p => p.1.seq hk) ?_ ?_⟩
          · rintro i v H2 hi p2
            have hin : i < ns.length := by have := (List.getElem?_eq_some_iff.mp hi).1; rw [List.length_map] at this; exact this
            obtain ⟨acc, h1, h2, o, h3, h4⟩ := turn D hD i v H2 hin p2 hi
            refine ⟨rfl, ?_⟩
            refine iteT (B := False) ?_
            exact ⟨_, rfl, _, rfl, d, o, rfl, h3, acc, h1, h2, h4⟩
          · rintro H2 ⟨s2, h2⟩
            rw [List.length_map] at h2
            exact fin D H2 s2 h2
        · refine .inr ⟨_, rfl, k, rfl, ⟨_, hk⟩, fun D hD => lc_tup (K := K) (a := k) (xs := ns.map V.str) (σ := [some (.ref d), some (.ref k), none]) (vs := [2]) (fun i H2 => Same H H2 ∧ H2 D = some (.lst (((ns.take i).map fun x => (valV kvs (Sum.inr x : Key)).isSome).map V.bl)))
            ⟨Same.new hD, upd_same⟩ (fun i H2 _ p => Same.seqT p.1 hk) ?_ ?_⟩
          · rintro i v H2 hi p2
            have hin : i < ns.length := by have := (List.getElem?_eq_some_iff.mp hi).1; rw [List.length_map] at this; exact this
            obtain ⟨acc, h1, h2, o, h3, h4⟩ := turn D hD i v H2 hin p2 hi
            refine ⟨rfl, ?_⟩
            refine iteT (B := False) ?_
            exact ⟨_, rfl, _, rfl, d, o, rfl, h3, acc, h1, h2, h4⟩
          · rintro H2 ⟨s2, h2⟩
            rw [List.length_map] at h2
            exact fin D H2 s2 h2
      · rw [decide_eq_false hl]
        have := q H (Same.refl H)
        rw [decide_eq_false hl, Bool.false_and] at this
        exact ⟨_, rfl, iteF this⟩
theorem c_just (T : Blt mg) (F : Has K mg "has_just" s_has_just) : C8.Cal P w K mg base 1 "has_just" (spJust K) [] :=
  Own.cal_of (c_justG T F) fun vs H Q E h => by
    obtain ⟨d, k, kvs, ns, rfl, hd, hk, hl, hl2, hall, q⟩ := h
    refine ⟨.ref d, k, ns, "dict", true, rfl, .base (.dK hd), by decide +kernel, .inr hk, hl2, fun z => (by cases z), fun _ => ⟨d, kvs, rfl, hd, fun H' s => ?_⟩⟩
    rw [decide_eq_true hl, Bool.true_and, List.all_eq_true.mpr hall]
    exact q H' s
abbrev Ninorder : List Str := ["a", "b"]
theorem scinorder : FnScope Ninorder ["a", "b"] (defScope s_in_order) := ⟨rfl, rfl, rfl, by decide +kernel, rfl, by decide +kernel, by decide +kernel⟩
theorem c_order (T : Blt mg) (F : Has K mg "in_order" s_in_order) : C8.Cal P w K mg base 1 "in_order" spOrder [] := by
  refine calF F (fun f fd F => F.binds (ps := ["a", "b"]) fun _ _ _ _ _ _ us hl => match us, hl with | [_, _], _ => rfl) scinorder (fun vs H Q E h => ?_) (fun f cdv A outer s H vs Q E hr h => ?_)
  · obtain ⟨a, b, rfl, _⟩ := h
    rfl
  · obtain ⟨a, b, rfl, q⟩ := h
    refine ⟨_, (pss_one (ps_ret (pe_ifExp (pt_cmpR op_le_str (pv 0) (pv 1) (nomark _)) (pe_tup (pa_cons (pv 0) (pa_cons (pv 1) pa_nil))) (pe_tup (pa_cons (pv 1) (pa_cons (pv 0) pa_nil)))))), ?_⟩
    refine ⟨_, rfl, _, rfl, _, _, rfl, rfl, _, rfl, ?_⟩
    unfold ordP Own.ltS at q
    by_cases c : b.cps.toList < a.cps.toList
    · rw [decide_eq_true c]
      refine iteF ?_
      refine ⟨_, rfl, _, rfl, (show 2 ≤ sizeLine from fits (by decide)), fun p hp => ?_⟩
      have := q p hp
      rw [if_pos (decide_eq_true c)] at this
      exact this
    · rw [decide_eq_false c]
      refine iteT ?_
      refine ⟨_, rfl, _, rfl, (show 2 ≤ sizeLine from fits (by decide)), fun p hp => ?_⟩
      have := q p hp
      rw [if_neg (by rw [decide_eq_false c]; decide)] at this
      exact this
end
end KK
end

section
set_option maxRecDepth 100000
set_option maxHeartbeats 4000000
namespace KK
open PySem PySem.Spec PyProof.Rows L2
def seenK (ns : List Str) : List (Key × V) := ns.map fun x => ((Sum.inr x : Key), V.bl true)
theorem valV_map {α κ : Type} [DecidableEq κ] {f : α → V} {g : α → κ} : ∀ {l : List α} {k : κ}, (∀ x ∈ l, g x ≠ k) → valV (l.map fun x => (g x, f x)) k = none
  | [], k, _ => rfl
  | a :: l, k, h => by
    have ih := valV_map (f := f) (g := g) (l := l) (k := k) fun x hx => h x (List.mem_cons_of_mem _ hx)
    unfold valV at ih ⊢
    rw [List.map_cons, List.find?_cons_of_neg (by
      show ¬ decide (g a = k) = true
      rw [decide_eq_true_eq]
      exact h a List.mem_cons_self)]
    exact ih
theorem paired_get {α β : Type} {R : α → β → Prop} : ∀ {xs : List α} {ys : List β} {i : Nat} {x : α}, Paired R xs ys → xs[i]? = some x → ∃ y, ys[i]? = some y ∧ R x y
  | _, _, 0, x, .cons r _, h => ⟨_, rfl, by have e := Option.some.inj h; rw [← e]; exact r⟩
  | _, _, i + 1, x, .cons _ t, h => paired_get (i := i) t h
  | _, _, i, x, .nil, h => by simp at h
theorem not_taken' {α : Type} {l : List α} {i : Nat} {x : α} (hn : l.Nodup) (h : l[i]? = some x) : x ∉ l.take i := fun hm => by
  obtain ⟨j, hj⟩ := List.getElem?_of_mem hm
  have hlt : j < i := by
    obtain ⟨h1, _⟩ := List.getElem?_eq_some_iff.mp hj
    rw [List.length_take] at h1
    omega
  rw [List.getElem?_take_of_lt hlt] at hj
  have := nd_ix hn h hj
  omega
theorem seenK_none {ns : List Str} {x : Str} (h : x ∉ ns) : valV (seenK ns) (Sum.inr x : Key) = none := valV_map fun y hy e => h (by have := Sum.inr.inj e; rw [← this]; exact hy)
theorem seenK_put {ns : List Str} {x : Str} (h : x ∉ ns) : putK (seenK ns) (Sum.inr x : Key) (V.bl true) = seenK (ns ++ [x]) := by
  rw [putK_new _ (seenK_none h)]
  unfold seenK
  rw [List.map_append]
  rfl
def spNamesF (K : PySem.W.Frag) : Sp := fun vs H Q _ => ∃ (a : Addr) (ns : List Str), vs = [.ref a] ∧ H a = some (.tup (ns.map V.str)) ∧ NsOk ns ∧ ∀ H', Same H H' → Q .non H'
def spPriceF (K : PySem.W.Frag) : Sp := fun vs H Q _ => ∃ (d a : Addr) (ns : List Str) (ps : List Int), vs = [.ref d, .ref a, .int 1] ∧ IsPr H d ns ps ∧ H a = some (.tup (ns.map V.str)) ∧ NsOk ns ∧ PrOk ps ∧ ps.length = ns.length ∧ ∀ H', Same H H' → Q .non H'
def spIsTie (K : PySem.W.Frag) : Sp := fun vs H Q _ => ∃ (t a : Addr) (ns : List Str) (p : Str × Str), vs = [.ref t, .ref a] ∧ H t = some (.tup [.str p.1, .str p.2]) ∧ H a = some (.tup (ns.map V.str)) ∧ TieOk ns p ∧ (∀ x ∈ ns, x.length ≤ 8) ∧ ∀ H', Same H H' → Q (.bl true) H'
def spTieF (K : PySem.W.Frag) : Sp := fun vs H Q _ => ∃ (l a : Addr) (ns : List Str) (xs : List V) (ts : List (Str × Str)), vs = [.ref l, .ref a] ∧ H l = some (.lst xs) ∧ Ties H xs ts ∧ H a = some (.tup (ns.map V.str)) ∧ NsOk ns ∧ TsOk ns ts ∧ ∀ H', Same H H' → Q .non H'
theorem prK_some {ns : List Str} {ps : List Int} (hn : ns.Nodup) (hl : ps.length = ns.length) {i : Nat} {x : Str} (h : ns[i]? = some x) : ∃ p, ps[i]? = some p ∧ valV (prK ns ps) (Sum.inr x : Key) = some (.int p) := by
  induction ns generalizing ps i with
  | nil => simp at h
  | cons n ns ih =>
    cases ps with
    | nil => simp at hl
    | cons p ps =>
      have hn' := List.nodup_cons.mp hn
      cases i with
      | zero =>
        have e : n = x := Option.some.inj h
        subst e
        refine ⟨p, rfl, ?_⟩
        unfold valV prK
        rw [List.zip_cons_cons, List.map_cons, List.find?_cons_of_pos (by exact decide_eq_true rfl)]
        rfl
      | succ i =>
        have h' : ns[i]? = some x := h
        obtain ⟨q, h1, h2⟩ := ih (ps := ps) (i := i) hn'.2 (by simpa using hl) h'
        refine ⟨q, h1, ?_⟩
        unfold valV prK at h2 ⊢
        rw [List.zip_cons_cons, List.map_cons, List.find?_cons_of_neg]
        · exact h2
        · show ¬ decide ((Sum.inr n : Key) = Sum.inr x) = true
          rw [decide_eq_true_eq]
          intro e
          have := Sum.inr.inj e
          subst this
          exact hn'.1 (List.mem_of_getElem? h')
section
variable {P : Program} {w : World} {K : PySem.W.Frag} {mg : Str → Option Value} {base : Heap}
abbrev Nnamesfault : List Str := ["names", "seen", "index", "name"]
theorem scnamesfault : FnScope Nnamesfault ["names"] (defScope s_names_fault) := ⟨rfl, rfl, rfl, by decide +kernel, rfl, by decide +kernel, by decide +kernel⟩
theorem c_namesf (T : Blt mg) (G_MOST_PLACES : ∃ t, mg "MOST_PLACES" = some (.int 40 t)) (F : Has K mg "names_fault" s_names_fault) (CISNAME : C8.Cal P w K mg base 1 "is_name" (spIsName K) []) : C8.Cal P w K mg base 2 "names_fault" (spNamesF K) [] := by
  refine calF F (fun f fd F => F.binds (ps := ["names"]) fun _ _ _ _ _ _ us hl => match us, hl with | [_], _ => rfl) scnamesfault (fun vs H Q E h => ?_) (fun f cdv A outer s H vs Q E hr h => ?_)
  · obtain ⟨a, ns, rfl, _⟩ := h
    rfl
  · obtain ⟨a, ns, rfl, ha, no, q⟩ := h
    have hu := hu_of hr
    obtain ⟨tk, hG⟩ := G_MOST_PLACES
    have G_MOST_PLACES : True ∧ _ := ⟨trivial, hG⟩
    have n1 := no.lo
    have n2 := no.hi
    refine ⟨_, (pss_cons (ps_if (PW.pt (pw_or (pt_not (pt_val (pe_callB call_isi (by rfl) T.b_isinstance (by decide +kernel) (pa_cons (pv 0) (pa_cons (pe_bltn (v := .ty "tuple") (by rfl) T.b_tuple (by decide +kernel) rfl) pa_nil))))) (pw_or1 (pt_not (pt_chain op_le op_le pe_int (pe_callB call_len (by rfl) T.b_len PySem.boot_len (pa_cons (pv 0) pa_nil)) (pe_glob (v := .int 40) rfl G_MOST_PLACES.2 ⟨_, rfl⟩)))))) (pss_one (ps_ret (pe_un un_neg pe_int))) pss_nil)
      (pss_cons (ps_set (i := 1) scnamesfault.nd rfl (Or.inl rfl) pe_dnewK)
      (pss_cons (ps_for PassesOwn.never rfl (Own.pi_enumT (by rfl) T.b_enumerate (pa_cons (pv 0) pa_nil)) (pg_tup rfl (pgs_cons (pg_name (i := 2) scnamesfault.nd rfl (Or.inl rfl)) (pgs_cons (pg_name (i := 3) scnamesfault.nd rfl (Or.inl rfl)) pgs_nil)))
        (pss_cons (ps_if (PW.pt (pw_or (pt_not (pt_val (C8.pe_c CISNAME hr (by decide) rfl (pa_cons (pv 3) pa_nil)))) (pw_or1 (pt_cmp (pc_din hu (pv 3) (pv 1)))))) (pss_one (ps_ret (pv 2))) pss_nil)
      (pss_one (ps_dput hu (pv 1) (pv 3) pe_bl rfl))))
      (pss_one (ps_ret pe_non))))), ?_⟩
    refine ⟨_, rfl, _, _, _, _, _, rfl, .ty "tuple", .base (.tup ha), kit_ty (b := "tuple") (r := true) (by decide +kernel), _, rfl, iteF ?_⟩
    refine ⟨_, rfl, _, _, rfl, .inr ⟨_, SqT.of ha, rfl⟩, _, _, rfl, rfl, _, rfl, ?_⟩
    rw [List.length_map, decide_eq_true (by omega : (1 : Int) ≤ ns.length)]
    refine iteT ?_
    refine ⟨_, _, rfl, rfl, _, rfl, ?_⟩
    rw [decide_eq_true (by omega : (ns.length : Int) ≤ 40)]
    refine iteF ?_
    intro d hd
    have nad : a ≠ d := ne_of_none ha hd
    refine ⟨_, rfl, a, _, rfl, SqT.of (by rw [upd_ne nad]; exact ha), for_it Own.walk_enumT (fun i σ H2 => ∃ (v2 v3 : Option V), σ = [some (.ref a), some (.ref d), v2, v3] ∧ Same H H2 ∧ H2 d = some (.dK (seenK (ns.take i))))
      ⟨_, _, rfl, Same.new hd, upd_same⟩ (fun i σ H2 _ ⟨_, _, _, s2, _⟩ => Same.seqT s2 (SqT.of ha)) ?_ ?_⟩
    · rintro i v σ H2 H3 hi ⟨v2, v3, rfl, s2, h2⟩ ⟨p, x, y, rfl, hp, rfl, hx, hy⟩
      cases hx
      replace hy : (ns.map V.str)[i]? = some y := hy
      rw [List.getElem?_map] at hy
      obtain ⟨y, hyy, rfl⟩ := Option.map_eq_some_iff.mp hy
      clear hy
      have hy := hyy
      have npd : d ≠ p := ne_of_none h2 hp
      refine ⟨p, _, rfl, SqT.of upd_same, rfl, _, _, rfl, _, _, rfl, rfl, ?_⟩
      refine ⟨_, rfl, _, "str", true, rfl, .base (.str y), by decide +kernel, fun _ => ⟨y, rfl, ?_, fun H4 s4 => ?_⟩, fun z => by cases z⟩
      · have := (no.ok y (List.mem_of_getElem? hy)).hi
        rw [len_cps]
        omega
      · have s5 : Same H H4 := (s2.trans (Same.new hp)).trans s4
        have e1 := (Same.new (o := .tup [.int (i : Nat), .str y]) hp |>.trans s4) _ _ h2
        have hny := not_taken no.nd hy
        rw [nameB_ok (no.ok y (List.mem_of_getElem? hy))]
        refine ⟨_, rfl, iteF ?_⟩
        refine ⟨_, rfl, _, rfl, d, _, rfl, DGet.k (k := Sum.inr y) e1, ?_⟩
        rw [seenK_none hny]
        refine ⟨_, rfl, iteF ?_⟩
        refine ⟨_, rfl, _, rfl, d, _, rfl, DPut.k (k := Sum.inr y) e1 (fitsL (by unfold seenK; rw [List.length_map, List.length_take]; omega)), ?_⟩
        refine ⟨_, _, rfl, fun b o e => by rw [upd_ne (ne_of_none e hd)]; exact s5 _ _ e, ?_⟩
        rw [upd_same, take_more hy, seenK_put hny]
    · rintro σ H2 ⟨v2, v3, rfl, s2, h2⟩
      exact q H2 s2
abbrev Npricefault : List Str := ["prices", "names", "least", "name"]
theorem scpricefault : FnScope Npricefault ["prices", "names", "least"] (defScope s_price_fault) := ⟨rfl, rfl, rfl, by decide +kernel, rfl, by decide +kernel, by decide +kernel⟩
theorem c_pricef (T : Blt mg) (G_GREATEST_PRICE : ∃ t, mg "GREATEST_PRICE" = some (.int (10 ^ 30) t)) (F : Has K mg "price_fault" s_price_fault) (CHASJUST : C8.Cal P w K mg base 1 "has_just" (spJust K) []) (CISBET : C8.Cal P w K mg base 2 "is_between" (spBetween K) []) : C8.Cal P w K mg base 3 "price_fault" (spPriceF K) [] := by
  refine calF F (fun f fd F => F.binds (ps := ["prices", "names", "least"]) fun _ _ _ _ _ _ us hl => match us, hl with | [_, _, _], _ => rfl) scpricefault (fun vs H Q E h => ?_) (fun f cdv A outer s H vs Q E hr h => ?_)
  · obtain ⟨d, a, ns, ps, rfl, _⟩ := h
    rfl
  · obtain ⟨d, a, ns, ps, rfl, ⟨kvs, hd, pk⟩, ha, no, po, hl, q⟩ := h
    have vp : ∀ k, valV kvs k = valV (prK ns ps) k := valV_perm pk (prK_nodup no.nd)
    have hu := hu_of hr
    obtain ⟨tk, hG⟩ := G_GREATEST_PRICE
    have G_GREATEST_PRICE : True ∧ _ := ⟨trivial, hG⟩
    have n2 := no.hi
    refine ⟨_, (pss_cons (ps_if (pt_not (pt_val (C8.pe_c CHASJUST hr (by decide) rfl (pa_cons (pv 0) (pa_cons (pv 1) pa_nil))))) (pss_one (ps_ret pe_str)) pss_nil)
      (pss_cons (ps_for PassesOwn.never rfl (pi_list (pe_callB Own.cr_sortS (by rfl) T.b_sorted (by decide +kernel) (pa_cons (pv 1) pa_nil))) (pg_name (i := 3) scpricefault.nd rfl (Or.inl rfl))
        (pss_one (ps_if (pt_not (pt_val (C8.pe_c CISBET hr (by decide) rfl (pa_cons (pe_dget hu (pv 0) (pv 3) (fun _ _ => rfl)) (pa_cons (pv 2) (pa_cons (pe_glob (v := .int (10 ^ 30)) rfl G_GREATEST_PRICE.2 ⟨_, rfl⟩) pa_nil)))))) (pss_one (ps_ret (pv 3))) pss_nil)))
      (pss_one (ps_ret pe_non)))), ?_⟩
    have hall : ∀ x ∈ ns, ∃ p, p ∈ ps ∧ valV kvs (Sum.inr x : Key) = some (.int p) := fun x hx => by
      obtain ⟨i, hi⟩ := List.getElem?_of_mem hx
      obtain ⟨p, h1, h2⟩ := prK_some no.nd hl hi
      exact ⟨p, List.mem_of_getElem? h1, by rw [vp]; exact h2⟩
    refine ⟨_, rfl, _, rfl, d, a, _, ns, rfl, hd, SqT.of ha, pk.length_eq.trans (prK_len _ _ hl), by omega, fun x hx => ?_, fun H1 s1 => ?_⟩
    · obtain ⟨p, _, h2⟩ := hall x hx
      rw [h2]
      rfl
    · refine ⟨_, rfl, iteF ?_⟩
      refine ⟨_, rfl, a, ns, rfl, .inr (Same.seqT s1 (SqT.of ha)), fun ys p hp _ hfr => ?_⟩
      have npd : d ≠ p := ne_of_none (s1 _ _ hd) hfr
      refine ⟨p, rfl, ⟨_, SqL.of upd_same⟩, for_list (K := K) (a := p) (xs := ys.map V.str) (fun i σ H2 => ∃ v3, σ = [some (.ref d), some (.ref a), some (.int 1), v3] ∧ Same H H2 ∧ H2 p = some (.lst (ys.map V.str)))
        ⟨_, rfl, s1.trans (Same.new hfr), upd_same⟩ (fun i σ H2 _ ⟨_, _, _, h⟩ => SqL.of h) ?_ ?_⟩
      · rintro i v σ H2 hi ⟨v3, rfl, s2, h2⟩
        rw [List.getElem?_map] at hi
        obtain ⟨x, hx, rfl⟩ := Option.map_eq_some_iff.mp hi
        obtain ⟨r, hr1, hr2⟩ := hall x (hp.mem_iff.mp (List.mem_of_getElem? hx))
        have p1 := po r hr1
        have hg : DGet H2 d (.str x) (some (.int r)) := by rw [← hr2]; exact DGet.k (k := Sum.inr x) (s2 _ _ hd)
        refine ⟨_, rfl, _, rfl, d, _, rfl, hg, _, rfl, .int r, 1, 10 ^ 30, "int", true, false, rfl, .base (.int r), by decide +kernel, by decide +kernel, fun _ => ⟨r, rfl, ?_⟩, fun z => by cases z⟩
        rw [decide_eq_true (show 1 ≤ r ∧ r ≤ 10 ^ 30 from p1)]
        refine ⟨_, rfl, iteF ?_⟩
        exact ⟨_, rfl, s2, h2⟩
      · rintro σ H2 ⟨v3, rfl, s2, h2⟩
        exact q H2 s2
abbrev Nistie : List Str := ["value", "places", "a", "b"]
theorem scistie : FnScope Nistie ["value", "places"] (defScope s_is_tie) := ⟨rfl, rfl, rfl, by decide +kernel, rfl, by decide +kernel, by decide +kernel⟩
theorem c_istie (T : Blt mg) (F : Has K mg "_is_tie" s_is_tie) (CAMONG : C8.Cal P w K mg base 1 "is_among" (spAmong K) []) : C8.Cal P w K mg base 2 "_is_tie" (spIsTie K) [] := by
  refine calF F (fun f fd F => F.binds (ps := ["value", "places"]) fun _ _ _ _ _ _ us hl => match us, hl with | [_, _], _ => rfl) scistie (fun vs H Q E h => ?_) (fun f cdv A outer s H vs Q E hr h => ?_)
  · obtain ⟨t, a, ns, p, rfl, _⟩ := h
    rfl
  · obtain ⟨t, a, ns, p, rfl, ht, ha, to, hx, q⟩ := h
    have hu := hu_of hr
    refine ⟨_, (pss_cons (ps_if (PW.pt (pw_or (pt_not (pt_val (pe_callB call_isi (by rfl) T.b_isinstance (by decide +kernel) (pa_cons (pv 0) (pa_cons (pe_bltn (v := .ty "tuple") (by rfl) T.b_tuple (by decide +kernel) rfl) pa_nil))))) (pw_or1 (pt_cmpR op_ne (pe_callB call_len (by rfl) T.b_len PySem.boot_len (pa_cons (pv 0) pa_nil)) pe_int (nomark _))))) (pss_one (ps_ret pe_bl)) pss_nil)
      (pss_cons (ps_asg (pv 0) (pg_tup rfl (pgs_cons (pg_name (i := 2) scistie.nd rfl (Or.inl rfl)) (pgs_cons (pg_name (i := 3) scistie.nd rfl (Or.inl rfl)) pgs_nil))))
      (pss_one (ps_ret (pe_and (C8.pe_c CAMONG hr (by decide) rfl (pa_cons (pv 2) (pa_cons (pv 1) pa_nil))) (pe_and (C8.pe_c CAMONG hr (by decide) rfl (pa_cons (pv 3) (pa_cons (pv 1) pa_nil))) (pe_one (pe_cmpR op_ne (pv 2) (pv 3) (nomark _))))))))), ?_⟩
    refine ⟨_, rfl, _, _, _, _, _, rfl, .ty "tuple", .base (.tup ht), kit_ty (b := "tuple") (r := true) (by decide +kernel), _, rfl, iteF ?_⟩
    refine ⟨_, rfl, _, _, rfl, .inr ⟨_, SqT.of ht, rfl⟩, ?_⟩
    refine ⟨rfl, _, rfl, iteF ?_⟩
    refine ⟨_, rfl, t, _, rfl, SqT.of ht, rfl, _, _, rfl, _, _, rfl, rfl, ?_⟩
    refine ⟨_, rfl, _, rfl, .str p.1, a, "str", true, rfl, .base (.str _), by decide +kernel, fun z => (by cases z), fun _ => ⟨p.1, rfl, .inl ⟨ns, .inr (SqT.of ha), ?_⟩⟩⟩
    rw [decide_eq_true to.a]
    refine ⟨_, rfl, iteT ?_⟩
    refine ⟨_, rfl, _, rfl, .str p.2, a, "str", true, rfl, .base (.str _), by decide +kernel, fun z => (by cases z), fun _ => ⟨p.2, rfl, .inl ⟨ns, .inr (SqT.of ha), ?_⟩⟩⟩
    rw [decide_eq_true to.b]
    refine ⟨_, rfl, iteT ?_⟩
    refine ⟨_, rfl, _, rfl, rfl, ?_⟩
    have e : decide (V.str p.1 = V.str p.2) = false := decide_eq_false fun z => to.ne (V.str.inj z)
    rw [e]
    exact q H (Same.refl H)
def pairKey (p : Str × Str) : List Key := [Sum.inr p.1, Sum.inr p.2]
def seenT (ps : List (Str × Str)) : List (List Key × V) := ps.map fun p => (pairKey p, V.bl true)
theorem pairKey_inj {p q : Str × Str} (h : pairKey p = pairKey q) : p = q := by
  unfold pairKey at h
  injection h with h1 h2
  injection h2 with h3 _
  have e1 := Sum.inr.inj h1
  have e2 := Sum.inr.inj h3
  exact Prod.ext e1 e2
theorem seenT_none {ps : List (Str × Str)} {p : Str × Str} (h : p ∉ ps) : valV (seenT ps) (pairKey p) = none := valV_map fun q hq e => h (by rw [← pairKey_inj e]; exact hq)
theorem seenT_put {ps : List (Str × Str)} {p : Str × Str} (h : p ∉ ps) : putK (seenT ps) (pairKey p) (V.bl true) = seenT (ps ++ [p]) := by
  rw [putK_new _ (seenT_none h)]
  unfold seenT
  rw [List.map_append]
  rfl
abbrev Ntiefault : List Str := ["ties", "places", "seen", "index", "tie", "pair"]
theorem sctiefault : FnScope Ntiefault ["ties", "places"] (defScope s_tie_fault) := ⟨rfl, rfl, rfl, by decide +kernel, rfl, by decide +kernel, by decide +kernel⟩
theorem c_tief (T : Blt mg) (G_MOST_TIES : ∃ t, mg "MOST_TIES" = some (.int 400 t)) (F : Has K mg "_tie_fault" s_tie_fault) (CISTIE : C8.Cal P w K mg base 2 "_is_tie" (spIsTie K) []) (CINORDER : C8.Cal P w K mg base 1 "in_order" spOrder []) : C8.Cal P w K mg base 3 "_tie_fault" (spTieF K) [] := by
  refine calF F (fun f fd F => F.binds (ps := ["ties", "places"]) fun _ _ _ _ _ _ us hl => match us, hl with | [_, _], _ => rfl) sctiefault (fun vs H Q E h => ?_) (fun f cdv A outer s H vs Q E hr h => ?_)
  · obtain ⟨l, a, ns, xs, ts, rfl, _⟩ := h
    rfl
  · obtain ⟨l, a, ns, xs, ts, rfl, hl, ti, ha, no, to, q⟩ := h
    have hu := hu_of hr
    obtain ⟨tk, hG⟩ := G_MOST_TIES
    have G_MOST_TIES : True ∧ _ := ⟨trivial, hG⟩
    have hlen := paired_len ti
    have hti := to.hi
    refine ⟨_, (pss_cons (ps_if (PW.pt (pw_or (pt_not (pt_val (pe_callB call_isi (by rfl) T.b_isinstance (by decide +kernel) (pa_cons (pv 0) (pa_cons (pe_bltn (v := .ty "list") (by rfl) T.b_list (by decide +kernel) rfl) pa_nil))))) (pw_or1 (pt_cmpR op_gt (pe_callB call_len (by rfl) T.b_len PySem.boot_len (pa_cons (pv 0) pa_nil)) (pe_glob (v := .int 400) rfl G_MOST_TIES.2 ⟨_, rfl⟩) (nomark _))))) (pss_one (ps_ret (pe_un un_neg pe_int))) pss_nil)
      (pss_cons (ps_set (i := 2) sctiefault.nd rfl (Or.inl rfl) pe_dnewT)
      (pss_cons (ps_for PassesOwn.never rfl (pi_enum (by rfl) T.b_enumerate (pa_cons (pv 0) pa_nil)) (pg_tup rfl (pgs_cons (pg_name (i := 3) sctiefault.nd rfl (Or.inl rfl)) (pgs_cons (pg_name (i := 4) sctiefault.nd rfl (Or.inl rfl)) pgs_nil)))
        (pss_cons (ps_if (pt_not (pt_val (C8.pe_c CISTIE hr (by decide) rfl (pa_cons (pv 4) (pa_cons (pv 1) pa_nil))))) (pss_one (ps_ret (pv 3))) pss_nil)
      (pss_cons (ps_set (i := 5) sctiefault.nd rfl (Or.inl rfl) (C8.pe_c CINORDER hr (by decide) rfl (pa_cons (pe_ix ix_tup (pv 4) pe_int (fun _ _ => rfl)) (pa_cons (pe_ix ix_tup (pv 4) pe_int (fun _ _ => rfl)) pa_nil))))
      (pss_cons (ps_if (pt_cmp (pc_din hu (pv 5) (pv 2))) (pss_one (ps_ret (pv 3))) pss_nil)
      (pss_one (ps_dput hu (pv 2) (pv 5) pe_bl rfl))))))
      (pss_one (ps_ret pe_non))))), ?_⟩
    refine ⟨_, rfl, _, _, _, _, _, rfl, .ty "list", .base (.lst hl), kit_ty (b := "list") (r := true) (by decide +kernel), _, rfl, iteF ?_⟩
    refine ⟨_, rfl, _, _, rfl, .inl ⟨_, SqL.of hl, rfl⟩, _, _, rfl, rfl, _, rfl, ?_⟩
    rw [decide_eq_false (by omega : ¬ (400 : Int) < xs.length)]
    refine iteF ?_
    intro d hd
    have nld : l ≠ d := ne_of_none hl hd
    refine ⟨_, rfl, l, _, rfl, SqL.of (by rw [upd_ne nld]; exact hl), for_it walk_enum (fun i σ H2 => ∃ (v3 v4 v5 : Option V), σ = [some (.ref l), some (.ref a), some (.ref d), v3, v4, v5] ∧ Same H H2 ∧ H2 d = some (.dT (seenT ((ts.map ordP).take i))))
      ⟨_, _, _, rfl, Same.new hd, upd_same⟩ (fun i σ H2 _ ⟨_, _, _, _, s2, _⟩ => SqL.of (s2 _ _ hl)) ?_ ?_⟩
    · rintro i v σ H2 H3 hi ⟨v3, v4, v5, rfl, s2, h2⟩ ⟨z, x, y, rfl, hz, rfl, hx, hy⟩
      cases hx
      obtain ⟨p, hp, t, rfl, ht⟩ := paired_get ti hy
      have to1 := to.ok p (List.mem_of_getElem? hp)
      have ndz : d ≠ z := ne_of_none h2 hz
      have s3 : Same H (upd H2 z (.tup [.int (i : Nat), .ref t])) := s2.trans (Same.new hz)
      refine ⟨z, _, rfl, SqT.of upd_same, rfl, _, _, rfl, _, _, rfl, rfl, ?_⟩
      refine ⟨_, rfl, _, rfl, t, a, ns, p, rfl, s3 _ _ ht, s3 _ _ ha, to1, fun x hx => by rw [len_cps]; exact (no.ok x hx).hi, fun H4 s4 => ?_⟩
      refine ⟨_, rfl, iteF ?_⟩
      have s5 := s3.trans s4
      have e4 : H4 t = some (.tup [.str p.1, .str p.2]) := s5 _ _ ht
      refine ⟨_, rfl, t, _, 0, _, rfl, rfl, SqT.of e4, rfl, ?_⟩
      refine ⟨_, rfl, t, _, 1, _, rfl, rfl, SqT.of e4, rfl, ?_⟩
      refine ⟨_, _, rfl, fun u hu4 => ?_⟩
      have s6 : Same H4 (upd H4 u (.tup [.str (ordP p).1, .str (ordP p).2])) := Same.new hu4
      have e5 := s6 _ _ (s4 _ _ (Same.new (o := .tup [.int (i : Nat), .ref t]) hz _ _ h2))
      have hop : (ts.map ordP)[i]? = some (ordP p) := by rw [List.getElem?_map, hp] <;> rfl
      have hny := not_taken' to.nd hop
      refine ⟨_, rfl, _, rfl, d, _, rfl, DGet.t (k := pairKey (ordP p)) e5 upd_same, ?_⟩
      rw [seenT_none hny]
      refine ⟨_, rfl, iteF ?_⟩
      refine ⟨_, rfl, _, rfl, d, _, rfl, DPut.t (k := pairKey (ordP p)) e5 upd_same (fitsL (by unfold seenT; rw [List.length_map, List.length_take, List.length_map]; omega)), ?_⟩
      refine ⟨_, _, _, rfl, fun b o e => by rw [upd_ne (ne_of_none e hd)]; exact (s5.trans s6) _ _ e, ?_⟩
      rw [upd_same, take_more hop, seenT_put hny]
    · rintro σ H2 ⟨v3, v4, v5, rfl, s2, h2⟩
      exact q H2 s2
end
end KK
end

section
set_option maxRecDepth 100000
set_option maxHeartbeats 4000000
namespace KK
open PySem PySem.Spec PyProof.Rows L2
/-- a web in the heap -/
structure WebAt (H : Hp) (C o dx dp tl : Addr) (xs : List V) (ms : List Str) (qs : List Int) (us : List (Str × Str)) : Prop where
  ho : H o = some (.ins C dx [("_prices", .ref dp), ("_ties", .ref tl)])
  hp : H dp = some (.dK (prK ms qs))
  ht : H tl = some (.lst xs)
  ti : Ties H xs us
/-- the web tells these parts -/
structure WebOk (ns : List Str) (ps : List Int) (ts : List (Str × Str)) (ms : List Str) (qs : List Int) (us : List (Str × Str)) : Prop where
  pm : ms.Perm ns
  pq : ∀ x ∈ ns, valV (prK ms qs) (Sum.inr x : Key) = valV (prK ns ps) (Sum.inr x : Key)
  ql : qs.length = ms.length
  am : Own.AscS ms
  pu : us.Perm (ts.map ordP)
  au : Own.AscP us
/-- what the class has -/
structure WebC (K : PySem.W.Frag) (mg : Str → Option Value) (C : Addr) : Prop where
  cl : Cls K C
  np : NoAttr K C "_prices"
  nt : NoAttr K C "_ties"
  mw : mg "Web" = some (.ref C)
theorem makF {P : Program} {w : World} {K : PySem.W.Frag} {mg : Str → Option Value} {base : Heap} {x qual : Str} {C : Addr} {st : Stmt} {N ps : List Str} {k : Nat} {sp : Sp} (hm : mg x = some (.ref C)) (F : ∃ f fd, Fun K "__init__" qual st f fd ∧ Mk K C f) (b : ∀ f fd, Fun K "__init__" qual st f fd → Binds K fd ps []) (S : FnScope N ps (defScope st)) (len : ∀ vs H Q E, sp vs H Q E → vs.length = ps.length)
    (hbody : ∀ (f : Addr) (cdv : Value) (A : Around) (outer : List Env) (s : Shared) (H : Hp) (vs : List V) (Q : VK) (E : XK), Room k (A.deeper (envOfC qual (defScope st) s.heap.objs.size f cdv)) → sp vs H Q E →
      ∃ t, PSs (cxOf CX0 P w K mg base N qual (defScope st) f cdv A outer s H E).nox (defBody st) t ∧ t { nx := fun _ H' => Q .non H', rt := Q } (start N vs) H) : C8.Mak P w K mg base (k + 1) x C sp [] := by
  obtain ⟨f, fd, F, M⟩ := F
  exact ⟨f, fd, ps, [], M, F.ok S len (hbody f), hm, b f fd F, .nil⟩
def spInit (K : PySem.W.Frag) (C : Addr) : Sp := fun vs H Q _ => ∃ (o dx pl tl d : Addr) (ns : List Str) (ps : List Int) (xs : List V) (ts : List (Str × Str)), vs = [.ref o, .ref pl, .ref tl, .ref d] ∧ H o = some (.ins C dx []) ∧
  H pl = some (.tup (ns.map V.str)) ∧ H tl = some (.lst xs) ∧ IsPr H d ns ps ∧ Ties H xs ts ∧ ps.length = ns.length ∧ NsOk ns ∧ TsOk ns ts ∧ PrOk ps ∧
  ∀ dp tl' ys ms qs us H', But o H H' → H dp = none → H tl' = none → WebAt H' C o dx dp tl' ys ms qs us → WebOk ns ps ts ms qs us → Q .non H'
/-- a dict comprehension over it -/
theorem dc_it {J : It} {n : Nat} {G : Hp → Prop} {Y : Nat → Hp → V → Hp → Prop} (w : Walk J n G Y) {g : TG} {tt : TT} {tk tv : TE} {vs : List Nat} {σ : L2.St} {H1 : Hp} {D : Addr} {Qd : Hp → Prop} (Pv : Nat → Hp → Prop) (h0 : Pv 0 (upd H1 D (.dK []))) (hG : ∀ i H, i ≤ n → Pv i H → G H)
    (hs : ∀ i x H H', i < n → Pv i H → Y i H x H' → g x (wipe σ vs) H' fun σ2 H2 => wipe σ2 vs = wipe σ vs ∧ tt σ2 H2 fun b H3 =>
      if b = true then tk σ2 H3 fun y H4 => tv σ2 H4 fun z H5 => ∃ kvs k, y = kV k ∧ H5 D = some (.dK kvs) ∧ kvs.length < sizeLine ∧ Pv (i + 1) (upd H5 D (.dK (putK kvs k z))) else Pv (i + 1) H3) (hd : ∀ H, Pv n H → Qd H) :
    ∃ W : Nat → Nat → Hp → Prop, (∃ m, W 0 m (upd H1 D (.dK []))) ∧ ∀ i m H, W i m H →
      (J.stop i H ∧ Qd H) ∨ (J.go i H ∧ ∃ Nx : Hp → Prop, (∀ H', Nx H' → ∃ m', m' < m ∧ W (i + 1) m' H') ∧ ∀ x H', J.yld i H x H' → g x (wipe σ vs) H' fun σ2 H2 => wipe σ2 vs = wipe σ vs ∧ tt σ2 H2 fun b H3 =>
        if b = true then tk σ2 H3 fun y H4 => tv σ2 H4 fun z H5 => ∃ kvs k, y = kV k ∧ H5 D = some (.dK kvs) ∧ kvs.length < sizeLine ∧ Nx (upd H5 D (.dK (putK kvs k z))) else Nx H3) := by
  refine ⟨fun i m H => m = n - i ∧ i ≤ n ∧ Pv i H, ⟨n, by simp, Nat.zero_le _, h0⟩, ?_⟩
  rintro i m H ⟨rfl, hi, p⟩
  have q := hG i H hi p
  by_cases hlt : i < n
  · refine .inr ⟨w.goes i H hlt q, Pv (i + 1), fun H' p' => ⟨n - (i + 1), by omega, rfl, hlt, p'⟩, fun x H' y => hs i x H H' hlt p (w.yields i H x H' hlt q y)⟩
  · have e : i = n := by omega
    subst e
    exact .inl ⟨w.stops H q, hd H p⟩
theorem strs_at {ns : List Str} {i : Nat} {v : V} (h : (ns.map V.str)[i]? = some v) : ∃ x, ns[i]? = some x ∧ v = .str x := by
  rw [List.getElem?_map] at h
  obtain ⟨x, hx, e⟩ := Option.map_eq_some_iff.mp h
  exact ⟨x, hx, e.symm⟩
theorem valV_fun {f : Str → V} : ∀ {ms : List Str} {x : Str}, x ∈ ms → valV (ms.map fun x => ((Sum.inr x : Key), f x)) (Sum.inr x : Key) = some (f x)
  | [], x, h => by simp at h
  | m :: ms, x, h => by
    by_cases e : m = x
    · subst e
      unfold valV
      rw [List.map_cons, List.find?_cons_of_pos (by exact decide_eq_true rfl)]
      rfl
    · have ih := valV_fun (f := f) (ms := ms) (x := x) ((List.mem_cons.mp h).resolve_left fun z => e z.symm)
      unfold valV at ih ⊢
      rw [List.map_cons, List.find?_cons_of_neg (by
        show ¬ decide ((Sum.inr m : Key) = Sum.inr x) = true
        rw [decide_eq_true_eq]
        exact fun z => e (Sum.inr.inj z))]
      exact ih
theorem ties_tieV {H : Hp} : ∀ {ys : List V} {ts : List (Str × Str)}, Ties H ys ts → ys.map (Own.tieV H) = ts
  | _, _, .nil => rfl
  | _, _, .cons r t => by
    obtain ⟨a, rfl, h⟩ := r
    rw [List.map_cons, Own.tieV_of h, ties_tieV t]
theorem ties_of {H : Hp} : ∀ {ys : List V}, (∀ x ∈ ys, ∃ t a b, x = V.ref t ∧ H t = some (.tup [.str a, .str b])) → Ties H ys (ys.map (Own.tieV H))
  | [], _ => .nil
  | y :: ys, h => by
    obtain ⟨t, a, b, rfl, e⟩ := h y List.mem_cons_self
    refine .cons ⟨t, rfl, ?_⟩ (ties_of fun x hx => h x (List.mem_cons_of_mem _ hx))
    rw [Own.tieV_of e]
    exact e
def prF (ns : List Str) (ps : List Int) (x : Str) : Int := match valV (prK ns ps) (Sum.inr x : Key) with
  | some (.int r) => r
  | _ => 0
theorem prK_fun (f : Str → Int) : ∀ (ms : List Str), prK ms (ms.map f) = ms.map fun x => ((Sum.inr x : Key), V.int (f x))
  | [] => rfl
  | m :: ms => by
    have ih := prK_fun f ms
    unfold prK at ih ⊢
    rw [List.map_cons, List.zip_cons_cons, List.map_cons, ih, List.map_cons]
theorem prF_some {ns : List Str} {ps : List Int} (hn : ns.Nodup) (hl : ps.length = ns.length) {x : Str} (h : x ∈ ns) : valV (prK ns ps) (Sum.inr x : Key) = some (.int (prF ns ps x)) := by
  obtain ⟨i, hi⟩ := List.getElem?_of_mem h
  obtain ⟨r, h1, h2⟩ := prK_some hn hl hi
  unfold prF
  rw [h2]
section
variable {P : Program} {w : World} {K : PySem.W.Frag} {mg : Str → Option Value} {base : Heap}
abbrev NWebinit : List Str := ["self", "places", "ties", "prices", "wrong", "place", "a", "b"]
theorem scWebinit : FnScope NWebinit ["self", "places", "ties", "prices"] (defScope s_Web_init) := ⟨rfl, rfl, rfl, by decide +kernel, rfl, by decide +kernel, by decide +kernel⟩
theorem c_init (T : Blt mg) {C : Addr} (W : WebC K mg C) (F : ∃ f fd, Fun K "__init__" "Web.__init__" s_Web_init f fd ∧ Mk K C f) (CNAMESF : C8.Cal P w K mg base 2 "names_fault" (spNamesF K) []) (CTIEF : C8.Cal P w K mg base 3 "_tie_fault" (spTieF K) []) (CPRICEF : C8.Cal P w K mg base 3 "price_fault" (spPriceF K) [])
    (CINORDER : C8.Cal P w K mg base 1 "in_order" spOrder []) : C8.Mak P w K mg base 4 "Web" C (spInit K C) [] := by
  refine makF W.mw F (fun f fd F => F.binds (ps := ["self", "places", "ties", "prices"]) fun _ _ _ _ _ _ us hl => match us, hl with | [_, _, _, _], _ => rfl) scWebinit (fun vs H Q E h => ?_) (fun f cdv A outer s H vs Q E hr h => ?_)
  · obtain ⟨o, dx, pl, tl, d, ns, ps, xs, ts, rfl, _⟩ := h
    rfl
  · obtain ⟨o, dx, pl, tl, d, ns, ps, xs, ts, rfl, ho, hp, ht, ⟨kvs, hd, pk⟩, ti, hl, no, to, po, q⟩ := h
    have vp : ∀ k, valV kvs k = valV (prK ns ps) k := valV_perm pk (prK_nodup no.nd)
    have hu := hu_of hr
    refine ⟨_, (pss_cons (ps_set (i := 4) scWebinit.nd rfl (Or.inl rfl) (C8.pe_c CNAMESF hr (by decide) rfl (pa_cons (pv 1) pa_nil)))
      (pss_cons (ps_if (pt_cmpR op_notN (pv 4) pe_non (nomark _)) (pss_one ps_never) pss_nil)
      (pss_cons (ps_set (i := 4) scWebinit.nd rfl (Or.inl rfl) (C8.pe_c CTIEF hr (by decide) rfl (pa_cons (pv 2) (pa_cons (pv 1) pa_nil))))
      (pss_cons (ps_if (pt_cmpR op_notN (pv 4) pe_non (nomark _)) (pss_one ps_never) pss_nil)
      (pss_cons (ps_set (i := 4) scWebinit.nd rfl (Or.inl rfl) (C8.pe_c CPRICEF hr (by decide) rfl (pa_cons (pv 3) (pa_cons (pv 1) (pa_cons pe_int pa_nil)))))
      (pss_cons (ps_if (pt_cmpR op_notN (pv 4) pe_non (nomark _)) (pss_one ps_never) pss_nil)
      (pss_cons (ps_fld (pv 0) (pe_dc (own := [("place", 5)]) rfl scWebinit.nd (pi_list (pe_callB Own.cr_sortS (by rfl) T.b_sorted (by decide +kernel) (pa_cons (pv 1) pa_nil))) (blkOk_by (own := [("place", 5)]) (N := NWebinit) (sc := defScope s_Web_init) (by decide +kernel)) (fun _ _ _ _ _ => (pg_name (i := 5) scWebinit.nd rfl (Or.inl rfl))) (fun _ _ _ _ _ => pts_nil) (fun _ _ _ _ _ => (pv 5)) (fun _ _ _ _ _ => (pe_dget hu (pv 3) (pv 5) (fun _ _ => rfl)))) rfl)
      (pss_one (ps_fld (pv 0) (pe_callB Own.cr_sortT (by rfl) T.b_sorted (by decide +kernel) (pa_cons (pe_lc (own := [("a", 6), ("b", 7)]) (g := gTup K 2 (gCons (gName 6) (gCons (gName 7) gNil))) (tt := tYes) rfl scWebinit.nd (pi_list (pv 2)) (blkOk_by (own := [("a", 6), ("b", 7)]) (N := NWebinit) (sc := defScope s_Web_init) (by decide +kernel)) (fun _ _ _ _ _ => (pg_tup rfl (pgs_cons (pg_name (i := 6) scWebinit.nd rfl (Or.inl rfl)) (pgs_cons (pg_name (i := 7) scWebinit.nd rfl (Or.inl rfl)) pgs_nil)))) (fun _ _ _ _ _ => pts_nil) (fun _ _ _ _ _ => (C8.pe_c CINORDER hr (by decide) rfl (pa_cons (pv 6) (pa_cons (pv 7) pa_nil))))) pa_nil)) rfl))))))))), ?_⟩
    have n2 := no.hi
    have lxs := paired_len ti
    have lts := to.hi
    refine ⟨_, rfl, pl, ns, rfl, hp, no, fun H1 s1 => ?_⟩
    refine ⟨_, rfl, rfl, _, rfl, iteF ?_⟩
    refine ⟨_, rfl, _, rfl, tl, pl, ns, xs, ts, rfl, s1 _ _ ht, ti.same s1, s1 _ _ hp, no, to, fun H2 s2 => ?_⟩
    have s12 := s1.trans s2
    refine ⟨_, rfl, rfl, _, rfl, iteF ?_⟩
    refine ⟨_, rfl, _, rfl, d, pl, ns, ps, rfl, ⟨_, s12 _ _ hd, pk⟩, s12 _ _ hp, no, po, hl, fun H3 s3 => ?_⟩
    have s13 := s12.trans s3
    refine ⟨_, rfl, rfl, _, rfl, iteF ?_⟩
    refine ⟨_, rfl, pl, ns, rfl, .inr (SqT.of (s13 _ _ hp)), fun ms p hpm ham hfr => ?_⟩
    have s14 : Same H (upd H3 p (.lst (ms.map V.str))) := s13.trans (Same.new hfr)
    have lms : ms.length = ns.length := hpm.length_eq
    have mnd : ms.Nodup := hpm.nodup_iff.mpr no.nd
    refine ⟨p, rfl, ⟨_, SqL.of upd_same⟩, fun dp hdp => dc_it (walk_list (K := K) (a := p) (xs := ms.map V.str)) (fun i H4 => Same H H4 ∧ H4 p = some (.lst (ms.map V.str)) ∧ H4 dp = some (.dK (prK (ms.take i) ((ms.take i).map (prF ns ps)))))
      ⟨s14.trans (Same.new hdp), by rw [upd_ne (ne_of_none upd_same hdp)]; exact upd_same, upd_same⟩ (fun i H4 _ h => SqL.of h.2.1) ?_ ?_⟩
    · rintro i v H4 H5 hi ⟨s4, h4, h5⟩ ⟨rfl, hx⟩
      obtain ⟨x, hxx, rfl⟩ := strs_at hx
      clear hx
      have hx := hxx
      have hxn : x ∈ ns := hpm.mem_iff.mp (List.mem_of_getElem? hx)
      have hg : DGet H5 d (.str x) (some (.int (prF ns ps x))) := by
        rw [← prF_some no.nd hl hxn, ← vp]
        exact DGet.k (k := Sum.inr x) (s4 _ _ hd)
      refine ⟨rfl, ?_⟩
      refine iteT (B := False) ?_
      have npdp : p ≠ dp := ne_of_none upd_same hdp
      refine ⟨_, rfl, _, rfl, _, rfl, d, _, rfl, hg, _, Sum.inr x, rfl, h5, fitsL (by rw [prK_len _ _ (by rw [List.length_map]), List.length_take]; omega), fun b u e => by rw [upd_ne (ne_of_none e (s14.free hdp))]; exact s4 _ _ e, by rw [upd_ne npdp]; exact h4, ?_⟩
      rw [upd_same, prK_put (by rw [List.length_map]) (not_taken mnd hx), take_more hx, List.map_append]
      rfl
    · rintro H4 ⟨s4, h4, h5⟩
      rw [List.length_map, List.take_of_length_le (Nat.le_refl _)] at h5
      refine ⟨_, rfl, o, C, dx, [], rfl, s4 _ _ ho, W.cl, W.np, (by decide : 0 < 1000), ?_⟩
      have fdp : H dp = none := s14.free hdp
      have nod : o ≠ dp := ne_of_none ho fdp
      have bG : But o H (upd H4 o (.ins C dx (putF "_prices" (.ref dp) []))) := (But.of s4).trans But.upd
      generalize hGG : upd H4 o (.ins C dx (putF "_prices" (.ref dp) [])) = G at bG
      have go : G o = some (.ins C dx [("_prices", .ref dp)]) := by rw [← hGG, upd_same] <;> rfl
      have gd : G dp = some (.dK (prK ms (ms.map (prF ns ps)))) := by rw [← hGG, upd_ne nod.symm]; exact h5
      have ntl : tl ≠ o := ne_of ht ho (by intro z; cases z)
      have gt : G tl = some (.lst xs) := bG _ _ ht ntl
      have gti : Ties G xs ts := paired_mono ti fun x y h => by
        obtain ⟨t, rfl, h⟩ := h
        exact ⟨t, rfl, bG _ _ h (ne_of h ho (by intro z; cases z))⟩
      refine ⟨_, rfl, tl, rfl, ⟨_, SqL.of gt⟩, fun D hD => lc_it (walk_list (K := K) (a := tl) (xs := xs)) (fun i H5 => ∃ ys, Same G H5 ∧ H5 D = some (.lst ys) ∧ Ties H5 ys ((ts.map ordP).take i))
        ⟨[], Same.new hD, upd_same, .nil⟩ (fun i H5 _ ⟨_, h, _⟩ => SqL.of (h _ _ gt)) ?_ ?_⟩
      · rintro i v H5 H6 hi ⟨ys, s5, h6, t6⟩ ⟨rfl, hx⟩
        obtain ⟨pp, hpp, t, rfl, htt⟩ := paired_get gti hx
        refine ⟨t, _, rfl, SqT.of (s5 _ _ htt), rfl, _, _, rfl, _, _, rfl, rfl, rfl, ?_⟩
        refine iteT (B := False) ?_
        refine ⟨_, rfl, _, rfl, _, _, rfl, fun u hu5 => ?_⟩
        have nDu : D ≠ u := ne_of_none h6 hu5
        have s6 := s5.trans (Same.new (o := .tup [.str (ordP pp).1, .str (ordP pp).2]) hu5)
        refine ⟨ys, by rw [upd_ne nDu]; exact h6, fitsL (by rw [paired_len t6, List.length_take]; omega), _, fun b z e => by rw [upd_ne (ne_of_none e hD)]; exact s6 _ _ e, upd_same, ?_⟩
        have hop : (ts.map ordP)[i]? = some (ordP pp) := by rw [List.getElem?_map, hpp] <;> rfl
        rw [take_more hop]
        have t7 := t6.same (Same.new (o := .tup [.str (ordP pp).1, .str (ordP pp).2]) hu5)
        have t8 : Ties _ (ys ++ [V.ref u]) _ := paired_app t7 (.cons ⟨u, rfl, upd_same⟩ .nil)
        exact t8.upd fun z l e => ne_of e (by rw [upd_ne nDu]; exact h6) (by intro z; cases z)
      · rintro H5 ⟨ys, s5, h6, t6⟩
        rw [List.take_of_length_le (by rw [List.length_map]; omega)] at t6
        have hall : ∀ x ∈ ys, ∃ t a b, x = V.ref t ∧ H5 t = some (.tup [.str a, .str b]) := fun x hx => by
          obtain ⟨i, hi⟩ := List.getElem?_of_mem hx
          obtain ⟨pp, _, t, e, h⟩ := paired_get t6 hi
          exact ⟨t, _, _, e, h⟩
        refine ⟨D, ys, rfl, .inl (SqL.of h6), hall, fun zs p2 hzp hza hp2 => ?_⟩
        have s7 : Same G (upd H5 p2 (.lst zs)) := s5.trans (Same.new hp2)
        refine ⟨_, rfl, o, C, dx, [("_prices", .ref dp)], rfl, s7 _ _ go, W.cl, W.nt, (by decide : 1 < 1000), ?_⟩
        have fp2 : H p2 = none := bG.free ⟨_, go⟩ (s5.free hp2)
        have nop : o ≠ p2 := ne_of_none ho fp2
        refine q dp p2 zs ms (ms.map (prF ns ps)) (zs.map (Own.tieV H5)) _ ((bG.trans (.of s7)).trans But.upd) fdp fp2 ⟨upd_same, ?_, ?_, ?_⟩ ⟨hpm, fun x hx => ?_, by rw [List.length_map], ham, ?_, hza⟩
        · rw [upd_ne nod.symm]
          exact s7 _ _ gd
        · rw [upd_ne nop.symm, upd_same]
        · have t8 := (ties_of fun x hx => hall x (hzp.mem_iff.mp hx)).same (Same.new (o := .lst zs) hp2)
          exact t8.upd fun z l e => ne_of e (s7 _ _ go) (by intro z; cases z)
        · rw [prF_some no.nd hl hx, prK_fun, valV_fun (hpm.mem_iff.mpr hx)]
        · rw [← ties_tieV t6]
          exact hzp.map _
end
end KK
end

section
set_option maxRecDepth 100000
set_option maxHeartbeats 4000000
namespace KK
open PySem PySem.Spec PyProof.Rows L2
def nearS (us : List (Str × Str)) (x : Str) : List Str := (us.filter fun p => decide (p.2 = x)).map (·.1) ++ (us.filter fun p => decide (p.1 = x)).map (·.2)
def spPlaces (C : Addr) : Sp := fun vs H Q _ => ∃ o dx dp tl xs ms qs us, vs = [.ref o] ∧ WebAt H C o dx dp tl xs ms qs us ∧ qs.length = ms.length ∧ ∀ p, H p = none → Q (.ref p) (upd H p (.lst (ms.map V.str)))
def spTies (C : Addr) : Sp := fun vs H Q _ => ∃ o dx dp tl xs ms qs us, vs = [.ref o] ∧ WebAt H C o dx dp tl xs ms qs us ∧ ∀ p, H p = none → Q (.ref p) (upd H p (.lst xs))
def spLen (C : Addr) : Sp := fun vs H Q _ => ∃ o dx dp tl xs ms qs us, vs = [.ref o] ∧ WebAt H C o dx dp tl xs ms qs us ∧ qs.length = ms.length ∧ Q (.int ms.length) H
def spHas (K : PySem.W.Frag) (C : Addr) : Sp := fun vs H Q _ => ∃ o dx dp tl xs ms qs us x t b, vs = [.ref o, x] ∧ WebAt H C o dx dp tl xs ms qs us ∧ TyX K H x (.type t) ∧ kitB t "str" = some b ∧ (b = false → Q (.bl false) H) ∧
  (b = true → ∃ s, x = .str s ∧ Q (.bl (valV (prK ms qs) (Sum.inr s : Key)).isSome) H)
def spNeed (C : Addr) : Sp := fun vs H Q _ => ∃ o dx dp tl xs ms qs us x r, vs = [.ref o, .str x] ∧ WebAt H C o dx dp tl xs ms qs us ∧ valV (prK ms qs) (Sum.inr x : Key) = some (.int r) ∧ Q .non H
def spPrice (C : Addr) : Sp := fun vs H Q _ => ∃ o dx dp tl xs ms qs us x r, vs = [.ref o, .str x] ∧ WebAt H C o dx dp tl xs ms qs us ∧ valV (prK ms qs) (Sum.inr x : Key) = some (.int r) ∧ Q (.int r) H
def spNear (C : Addr) : Sp := fun vs H Q _ => ∃ o dx dp tl xs ms qs us x r, vs = [.ref o, .str x] ∧ WebAt H C o dx dp tl xs ms qs us ∧ valV (prK ms qs) (Sum.inr x : Key) = some (.int r) ∧ us.length ≤ 400 ∧
  ∀ p H', Same H H' → H p = none → H' p = some (.lst ((nearS us x).map V.str)) → Q (.ref p) H'
def spDeg (C : Addr) : Sp := fun vs H Q _ => ∃ o dx dp tl xs ms qs us x r, vs = [.ref o, .str x] ∧ WebAt H C o dx dp tl xs ms qs us ∧ valV (prK ms qs) (Sum.inr x : Key) = some (.int r) ∧ us.length ≤ 400 ∧
  ∀ H', Same H H' → Q (.int (nearS us x).length) H'
theorem prK_keys : ∀ {ms : List Str} {qs : List Int}, qs.length = ms.length → (prK ms qs).map (fun kv => kV kv.1) = ms.map V.str
  | [], _, _ => rfl
  | m :: ms, [], h => by simp at h
  | m :: ms, q :: qs, h => by
    have ih := prK_keys (ms := ms) (qs := qs) (by simpa using h)
    unfold prK at ih ⊢
    rw [List.zip_cons_cons, List.map_cons, List.map_cons, ih]
    rfl
section
variable {P : Program} {w : World} {K : PySem.W.Frag} {mg : Str → Option Value} {base : Heap} {C : Addr}
abbrev NWebplaces : List Str := ["self"]
theorem scWebplaces : FnScope NWebplaces ["self"] (defScope s_Web_places) := ⟨rfl, rfl, rfl, by decide +kernel, rfl, by decide +kernel, by decide +kernel⟩
theorem c_places (T : Blt mg) (W : WebC K mg C) (F : HasM K C "places" "Web.places" s_Web_places) : C8.Met P w K mg base 1 C "places" (spPlaces C) [] := by
  have Cl := W.cl
  refine metF Cl F (fun f fd F => F.binds (ps := ["self"]) fun _ _ _ _ _ _ us hl => match us, hl with | [_], _ => rfl) scWebplaces (fun vs H Q E h => ?_) (fun f cdv A outer s H vs Q E hr h => ?_)
  · obtain ⟨o, dx, dp, tl, xs, ms, qs, us, rfl, _⟩ := h
    rfl
  · obtain ⟨o, dx, dp, tl, xs, ms, qs, us, rfl, wa, hl, q⟩ := h
    refine ⟨_, (pss_one (ps_ret (pe_callTy (call_list_dK rfl) (by rfl) T.b_list (by decide +kernel) (pa_cons (pe_fld (pv 0) rfl) pa_nil)))), ?_⟩
    refine ⟨_, rfl, o, C, dx, _, _, rfl, wa.ho, Cl, W.np, rfl, dp, _, rfl, wa.hp, fun p hp => ?_⟩
    rw [prK_keys hl]
    exact q p hp
abbrev NWebties : List Str := ["self"]
theorem scWebties : FnScope NWebties ["self"] (defScope s_Web_ties) := ⟨rfl, rfl, rfl, by decide +kernel, rfl, by decide +kernel, by decide +kernel⟩
theorem c_ties (T : Blt mg) (W : WebC K mg C) (F : HasM K C "ties" "Web.ties" s_Web_ties) : C8.Met P w K mg base 1 C "ties" (spTies C) [] := by
  have Cl := W.cl
  refine metF Cl F (fun f fd F => F.binds (ps := ["self"]) fun _ _ _ _ _ _ us hl => match us, hl with | [_], _ => rfl) scWebties (fun vs H Q E h => ?_) (fun f cdv A outer s H vs Q E hr h => ?_)
  · obtain ⟨o, dx, dp, tl, xs, ms, qs, us, rfl, _⟩ := h
    rfl
  · obtain ⟨o, dx, dp, tl, xs, ms, qs, us, rfl, wa, q⟩ := h
    refine ⟨_, (pss_one (ps_ret (pe_callTy call_list_of (by rfl) T.b_list (by decide +kernel) (pa_cons (pe_fld (pv 0) rfl) pa_nil)))), ?_⟩
    refine ⟨_, rfl, o, C, dx, _, _, rfl, wa.ho, Cl, W.nt, rfl, tl, _, rfl, .inl (SqL.of wa.ht), fun p hp => ?_⟩
    exact q p hp
abbrev NWeblen : List Str := ["self"]
abbrev NWebcontains : List Str := ["self", "x"]
abbrev NWebneed : List Str := ["self", "place"]
theorem scWebneed : FnScope NWebneed ["self", "place"] (defScope s_Web_need) := ⟨rfl, rfl, rfl, by decide +kernel, rfl, by decide +kernel, by decide +kernel⟩
theorem c_need (T : Blt mg) (W : WebC K mg C) (F : HasM K C "_need" "Web._need" s_Web_need) (CAMONG : C8.Cal P w K mg base 1 "is_among" (spAmong K) []) : C8.Met P w K mg base 2 C "_need" (spNeed C) [] := by
  have Cl := W.cl
  refine metF Cl F (fun f fd F => F.binds (ps := ["self", "place"]) fun _ _ _ _ _ _ us hl => match us, hl with | [_, _], _ => rfl) scWebneed (fun vs H Q E h => ?_) (fun f cdv A outer s H vs Q E hr h => ?_)
  · obtain ⟨o, dx, dp, tl, xs, ms, qs, us, x, r, rfl, _⟩ := h
    rfl
  · obtain ⟨o, dx, dp, tl, xs, ms, qs, us, x, r, rfl, wa, hx, q⟩ := h
    refine ⟨_, (pss_one (ps_if (pt_not (pt_val (C8.pe_c CAMONG hr (by decide) rfl (pa_cons (pv 1) (pa_cons (pe_fld (pv 0) rfl) pa_nil))))) (pss_one ps_never) pss_nil)), ?_⟩
    refine ⟨_, rfl, _, rfl, o, C, dx, _, _, rfl, wa.ho, Cl, W.np, rfl, .str x, dp, "str", true, rfl, .base (.str x), by decide +kernel, fun z => (by cases z), fun _ => ⟨x, rfl, .inr ⟨_, .of wa.hp, ?_⟩⟩⟩
    rw [hx]
    exact ⟨_, rfl, iteF q⟩
abbrev NWebprice : List Str := ["self", "place"]
theorem scWebprice : FnScope NWebprice ["self", "place"] (defScope s_Web_price) := ⟨rfl, rfl, rfl, by decide +kernel, rfl, by decide +kernel, by decide +kernel⟩
theorem c_price (T : Blt mg) (W : WebC K mg C) (F : HasM K C "price" "Web.price" s_Web_price) (CNEED : C8.Met P w K mg base 2 C "_need" (spNeed C) []) : C8.Met P w K mg base 3 C "price" (spPrice C) [] := by
  have Cl := W.cl
  refine metF Cl F (fun f fd F => F.binds (ps := ["self", "place"]) fun _ _ _ _ _ _ us hl => match us, hl with | [_, _], _ => rfl) scWebprice (fun vs H Q E h => ?_) (fun f cdv A outer s H vs Q E hr h => ?_)
  · obtain ⟨o, dx, dp, tl, xs, ms, qs, us, x, r, rfl, _⟩ := h
    rfl
  · obtain ⟨o, dx, dp, tl, xs, ms, qs, us, x, r, rfl, wa, hx, q⟩ := h
    have hu := hu_of hr
    refine ⟨_, (pss_cons (ps_expr (C8.pe_mt CNEED hr (by decide) (pv 0) (pa_cons (pv 1) pa_nil)))
      (pss_one (ps_ret (pe_dget hu (pe_fld (pv 0) rfl) (pv 1) (fun _ _ => rfl))))), ?_⟩
    refine ⟨_, rfl, o, dx, _, rfl, wa.ho, rfl, _, rfl, o, dx, dp, tl, xs, ms, qs, us, x, r, rfl, wa, hx, ?_⟩
    have hg : DGet H dp (.str x) (some (.int r)) := by
      rw [← hx]
      exact DGet.k (k := Sum.inr x) wa.hp
    exact ⟨_, rfl, o, C, dx, _, _, rfl, wa.ho, Cl, W.np, rfl, _, rfl, dp, _, rfl, hg, q⟩
end
end KK
end

section
set_option maxRecDepth 100000
set_option maxHeartbeats 4000000
namespace KK
open PySem PySem.Spec PyProof.Rows L2
def bes1 (x : Str) (p : Str × Str) : List Str := (if p.1 = x then [p.2] else []) ++ (if p.2 = x then [p.1] else [])
def bes (ts : List (Str × Str)) (x : Str) : List Str := ts.flatMap (bes1 x)
theorem ordP_cases (p : Str × Str) : ordP p = p ∨ ordP p = (p.2, p.1) := by
  unfold ordP
  split
  · exact .inr rfl
  · exact .inl rfl
def upP (p : Str × Str) : Str × Str := if Own.ltS p.1 p.2 = true then p else (p.2, p.1)
end KK
end

section
set_option maxRecDepth 100000
set_option maxHeartbeats 4000000
namespace KK
open PySem PySem.Spec PyProof.Rows L2
def spUp : Sp := fun vs H Q _ => ∃ (t : Addr) (p : Str × Str), vs = [.ref t] ∧ H t = some (.tup [.str p.1, .str p.2]) ∧ ∀ u, H u = none → Q (.ref u) (upd H u (.tup [.str (upP p).1, .str (upP p).2]))
def spCopy : Sp := fun vs H Q _ => ∃ (d : Addr) (ns : List Str) (ps : List Int), vs = [.ref d] ∧ H d = some (.dK (prK ns ps)) ∧ ns.Nodup ∧ ns.length ≤ 40 ∧ ps.length = ns.length ∧
  ∀ c H', Same H H' → H c = none → H' c = some (.dK (prK ns ps)) → Q (.ref c) H'
def beK (ns : List Str) (as : List Addr) : List (Key × V) := (ns.zip as).map fun e => (Sum.inr e.1, V.ref e.2)
/-- the dict of the neighbours' lists -/
structure BesAt (H : Hp) (d : Addr) (ns : List Str) (as : List Addr) (f : Str → List Str) : Prop where
  hd : H d = some (.dK (beK ns as))
  len : as.length = ns.length
  nd : as.Nodup
  ls : ∀ (i : Nat) (x : Str) (a : Addr), ns[i]? = some x → as[i]? = some a → H a = some (.lst ((f x).map V.str))
def spBeside : Sp := fun vs H Q _ => ∃ (pl tl : Addr) (ns : List Str) (xs : List V) (ts : List (Str × Str)), vs = [.ref pl, .ref tl] ∧ H pl = some (.tup (ns.map V.str)) ∧ H tl = some (.lst xs) ∧ Ties H xs ts ∧ NsOk ns ∧ TsOk ns ts ∧
  ∀ d as H', Same H H' → BesAt H' d ns as (bes ts) → Q (.ref d) H'
section
variable {P : Program} {w : World} {K : PySem.W.Frag} {mg : Str → Option Value} {base : Heap}
abbrev NLisinteger : List Str := ["_law_value"]
end
end KK
end

section
set_option maxRecDepth 100000
set_option maxHeartbeats 4000000
namespace KK
open PySem PySem.Spec PyProof.Rows L2
/-- as spBeside; what is made is new -/
def spBesF : Sp := fun vs H Q _ => ∃ (pl tl : Addr) (ns : List Str) (xs : List V) (ts : List (Str × Str)), vs = [.ref pl, .ref tl] ∧ H pl = some (.tup (ns.map V.str)) ∧ H tl = some (.lst xs) ∧ Ties H xs ts ∧ NsOk ns ∧ TsOk ns ts ∧
  ∀ d as H', H d = none → (∀ a ∈ as, H a = none) → Same H H' → BesAt H' d ns as (bes ts) → Q (.ref d) H'
section
variable {P : Program} {w : World} {K : PySem.W.Frag} {mg : Str → Option Value} {base : Heap}
end
end KK
end

section
set_option maxRecDepth 100000
set_option maxHeartbeats 4000000
/-! Typed readings: what may be shared, what is owned (by a path: a slot, then fields, items). -/
namespace Y
open PySem PySem.Spec PyProof.Rows L2
/-- what may become of an address: shared (never written), a dict that is walked, another's, a thing that keeps a law, one's own by its path -/
inductive Md where
  | sh | lk | fo
  | st (φ : HO → Prop)
  | ow (p : List Nat)
abbrev Wd := Addr → Md
/-- where what is new hangs until it gets its place -/
def tmp : Nat := 1000000
/-- to be read -/
def RdW (W : Wd) (H : Hp) (b : Addr) (o : HO) : Prop := (W b = .sh ∧ H b = some o) ∨ ((W b = .lk ∨ W b = .fo) ∧ ∃ od, H b = some (.frz od o))
theorem RdW.rd {W : Wd} {H : Hp} {b : Addr} {o : HO} (h : RdW W H b o) : Rd H b o := by
  rcases h with ⟨_, h⟩ | ⟨_, od, h⟩
  · exact .inl h
  · exact .inr ⟨od, h⟩
theorem RdW.no {W : Wd} {H : Hp} {b : Addr} {o : HO} (h : RdW W H b o) {p : List Nat} : W b ≠ .ow p := fun e => by
  rcases h with ⟨w, _⟩ | ⟨w | w, _⟩ <;> rw [w] at e <;> cases e
/-- what was to be read is to be read, lists stand, what keeps a law keeps it -/
structure Mv (W : Wd) (H : Hp) (W' : Wd) (H' : Hp) : Prop where
  rd : ∀ b o, RdW W H b o → RdW W' H' b o
  ls : ∀ b vs, W b = .sh → H b = some (.lst vs) → W' b = .sh ∧ H' b = some (.lst vs)
  st : ∀ b φ, W b = .st φ → W' b = .st φ
theorem Mv.refl {W : Wd} {H : Hp} : Mv W H W H := ⟨fun _ _ h => h, fun _ _ w h => ⟨w, h⟩, fun _ _ h => h⟩
theorem Mv.trans {W W1 W2 : Wd} {H H1 H2 : Hp} (a : Mv W H W1 H1) (b : Mv W1 H1 W2 H2) : Mv W H W2 H2 := ⟨fun c o h => b.rd c o (a.rd c o h), fun c vs w h => b.ls c vs (a.ls c vs w h).1 (a.ls c vs w h).2, fun c φ h => b.st c φ (a.st c φ h)⟩
structure Ty (α : Type) where
  R : Wd → Hp → V → α → Prop
  go : ∀ {W W' : Wd} {H H' : Hp} {v : V} {x : α}, R W H v x → Mv W H W' H' → R W' H' v x
/-- a thing of one's own, at a path -/
structure OT (α : Type) where
  R : List Nat → Wd → Hp → V → α → Prop
  sv : Ty α
  mv : ∀ {p p' : List Nat} {W W' : Wd} {H H' : Hp} {v : V} {x : α}, R p W H v x → (∀ b o q, W b = .ow (p ++ q) → H b = some o → W' b = .ow (p' ++ q) ∧ H' b = some o) → Mv W H W' H' → R p' W' H' v x
  fz : ∀ {p : List Nat} {W W' : Wd} {H H' : Hp} {v : V} {x : α}, R p W H v x → (∀ b o q, W b = .ow (p ++ q) → H b = some o → W' b = .sh ∧ H' b = some o) → Mv W H W' H' → sv.R W' H' v x
/-- all but one's own stands -/
structure Go (W : Wd) (H : Hp) (W' : Wd) (H' : Hp) : Prop where
  k : ∀ b o, H b = some o → (W b = .sh ∨ W b = .lk ∨ W b = .fo) → H' b = some o ∧ W' b = W b
  s : ∀ b φ, W b = .st φ → W' b = .st φ
  l : ∀ b, W' b = .lk → W b = .lk
/-- all stands -/
structure GoE (W : Wd) (H : Hp) (W' : Wd) (H' : Hp) : Prop where
  k : ∀ b o, H b = some o → (∀ φ, W b ≠ .st φ) → (∀ r, W b ≠ .ow (tmp :: r)) → H' b = some o ∧ W' b = W b
  s : ∀ b φ, W b = .st φ → W' b = .st φ
  l : ∀ b, W' b = .lk → W b = .lk
def NoFrz : HO → Prop
  | .frz _ _ => False
  | _ => True
structure OKW (W : Wd) (H : Hp) : Prop where
  st : ∀ b φ, W b = .st φ → ∃ o, H b = some o ∧ φ o ∧ NoFrz o
  al : ∀ b, W b ≠ .sh → ∃ o, H b = some o
  nf : ∀ b p od u, W b = .ow p → H b ≠ some (.frz od u)
  lk : ∀ b, W b = .lk → ∃ od, (∃ ws, H b = some (.frz od (.dK ws))) ∨ ∃ ws, H b = some (.frz od (.dT ws))
  fo : ∀ b od u, W b = .fo → H b = some (.frz od u) → ∃ vs, u = .lst vs
  tp : ∀ b vs, H b = some (.tup vs) → W b = .sh
section
variable {W W1 W2 : Wd} {H H1 H2 : Hp}
theorem Go.refl : Go W H W H := ⟨fun _ _ h _ => ⟨h, rfl⟩, fun _ _ h => h, fun _ h => h⟩
theorem GoE.refl : GoE W H W H := ⟨fun _ _ h _ _ => ⟨h, rfl⟩, fun _ _ h => h, fun _ h => h⟩
theorem Go.trans (a : Go W H W1 H1) (b : Go W1 H1 W2 H2) : Go W H W2 H2 := ⟨fun c o h w => by
  obtain ⟨h1, e1⟩ := a.k c o h w
  obtain ⟨h2, e2⟩ := b.k c o h1 (by rw [e1]; exact w)
  exact ⟨h2, e2.trans e1⟩, fun c φ h => b.s c φ (a.s c φ h), fun c h => a.l c (b.l c h)⟩
theorem GoE.trans (a : GoE W H W1 H1) (b : GoE W1 H1 W2 H2) : GoE W H W2 H2 := ⟨fun c o h w z => by
  obtain ⟨h1, e1⟩ := a.k c o h w z
  obtain ⟨h2, e2⟩ := b.k c o h1 (by rw [e1]; exact w) (by rw [e1]; exact z)
  exact ⟨h2, e2.trans e1⟩, fun c φ h => b.s c φ (a.s c φ h), fun c h => a.l c (b.l c h)⟩
theorem GoE.go (a : GoE W H W1 H1) : Go W H W1 H1 := ⟨fun c o h w => a.k c o h (fun φ e => by rcases w with w | w | w <;> (rw [w] at e; cases e)) (fun r e => by rcases w with w | w | w <;> (rw [w] at e; cases e)), a.s, a.l⟩
theorem Go.mv (a : Go W H W1 H1) : Mv W H W1 H1 := ⟨fun b o h => by
  rcases h with ⟨w, h⟩ | ⟨w, od, h⟩
  · obtain ⟨h1, e1⟩ := a.k b _ h (.inl w)
    exact .inl ⟨e1.trans w, h1⟩
  · obtain ⟨h1, e1⟩ := a.k b _ h (.inr w)
    exact .inr ⟨by rw [e1]; exact w, od, h1⟩, fun b vs w h => by
    obtain ⟨h1, e1⟩ := a.k b _ h (.inl w)
    exact ⟨e1.trans w, h1⟩, a.s⟩
theorem Ty.mv {α : Type} (t : Ty α) {v : V} {x : α} (h : t.R W H v x) (g : Go W H W1 H1) : t.R W1 H1 v x := t.go h g.mv
theorem Ty.mvE {α : Type} (t : Ty α) {v : V} {x : α} (h : t.R W H v x) (g : GoE W H W1 H1) : t.R W1 H1 v x := t.mv h g.go
theorem GoE.own {b : Addr} {o : HO} {i : Nat} {p : List Nat} (g : GoE W H W1 H1) (h : H b = some o) (w : W b = .ow (i :: p)) (n : i ≠ tmp) : H1 b = some o ∧ W1 b = .ow (i :: p) := by
  obtain ⟨e1, w1⟩ := g.k b o h (fun φ z => by rw [w] at z; cases z) fun r z => by rw [w] at z; exact n (List.cons.inj (Md.ow.inj z)).1
  exact ⟨e1, w1.trans w⟩
theorem OT.goE {α : Type} (O : OT α) {i : Nat} {p : List Nat} {v : V} {x : α} (h : O.R (i :: p) W H v x) (g : GoE W H W1 H1) (n : i ≠ tmp) : O.R (i :: p) W1 H1 v x := O.mv h (fun b o q w e => by
  obtain ⟨e1, w1⟩ := g.own e w n
  exact ⟨w1, e1⟩) g.go.mv
/-- a new object -/
theorem OKW.fresh (ok : OKW W H) {p : Addr} (hp : H p = none) : W p = .sh := by
  cases e : W p with
  | sh => rfl
  | _ => obtain ⟨o, h⟩ := ok.al p (by rw [e]; exact fun z => nomatch z); rw [hp] at h; cases h
theorem GoE.new {p : Addr} {o : HO} (hp : H p = none) : GoE W H W (upd H p o) := ⟨fun b u h _ _ => ⟨by rw [upd_ne (ne_of_none h hp)]; exact h, rfl⟩, fun _ _ h => h, fun _ h => h⟩
def NoTup : HO → Prop
  | .frz _ _ => False
  | .tup _ => False
  | _ => True
theorem NoTup.nf {o : HO} (h : NoTup o) : NoFrz o := by cases o <;> first | trivial | exact h.elim
theorem OKW.new (ok : OKW W H) {p : Addr} {o : HO} (hp : H p = none) (nf : NoFrz o) : OKW W (upd H p o) := by
  refine ⟨fun b φ h => ?_, fun b h => ?_, fun b q od u w h => ?_, fun b h => ?_, fun b od u w h => ?_, fun b vs h => ?_⟩
  · obtain ⟨c, e, z⟩ := ok.st b φ h
    exact ⟨c, by rw [upd_ne (ne_of_none e hp)]; exact e, z⟩
  · obtain ⟨u, e⟩ := ok.al b h
    exact ⟨u, by rw [upd_ne (ne_of_none e hp)]; exact e⟩
  · by_cases n : b = p
    · subst n; rw [upd_same] at h; cases h; exact nf.elim
    · rw [upd_ne n] at h; exact ok.nf b q od u w h
  · obtain ⟨od, ⟨ws, e⟩ | ⟨ws, e⟩⟩ := ok.lk b h
    · exact ⟨od, .inl ⟨ws, by rw [upd_ne (ne_of_none e hp)]; exact e⟩⟩
    · exact ⟨od, .inr ⟨ws, by rw [upd_ne (ne_of_none e hp)]; exact e⟩⟩
  · by_cases n : b = p
    · subst n; rw [upd_same] at h; cases h; exact nf.elim
    · rw [upd_ne n] at h; exact ok.fo b od u w h
  · by_cases n : b = p
    · rw [n]; exact ok.fresh hp
    · rw [upd_ne n] at h; exact ok.tp b vs h
/-- neither a list nor a dict: it stands there itself -/
theorem OKW.exact (ok : OKW W H) {a : Addr} {o : HO} (h : RdW W H a o) (nl : ∀ vs, o ≠ .lst vs) (nd : ∀ ws, o ≠ .dK ws) (nt : ∀ ws, o ≠ .dT ws) : H a = some o := by
  rcases h with ⟨w, h⟩ | ⟨w | w, od, h⟩
  · exact h
  · obtain ⟨od2, ⟨ws, e⟩ | ⟨ws, e⟩⟩ := ok.lk a w
    · rw [h] at e; cases e; exact absurd rfl (nd ws)
    · rw [h] at e; cases e; exact absurd rfl (nt ws)
  · obtain ⟨vs, e⟩ := ok.fo a od o w h
    exact absurd e (nl vs)
/-- a dict that is not locked -/
theorem OKW.exactD (ok : OKW W H) {a : Addr} {o : HO} (h : RdW W H a o) (n : W a ≠ .lk) (nl : ∀ vs, o ≠ .lst vs) : H a = some o ∧ W a = .sh := by
  rcases h with ⟨w, h⟩ | ⟨w | w, od, h⟩
  · exact ⟨h, w⟩
  · exact absurd w n
  · obtain ⟨vs, e⟩ := ok.fo a od o w h
    exact absurd e (nl vs)
theorem rdNew (ok : OKW W H) {p : Addr} {o : HO} (hp : H p = none) : RdW W (upd H p o) p o := .inl ⟨ok.fresh hp, upd_same⟩
end
def setW (W : Wd) (a : Addr) (m : Md) : Wd := fun b => if b = a then m else W b
theorem setW_same {W : Wd} {a : Addr} {m : Md} : setW W a m a = m := if_pos rfl
theorem setW_ne {W : Wd} {a b : Addr} {m : Md} (h : b ≠ a) : setW W a m b = W b := if_neg h
/-! ### types -/
def tInt : Ty Int := ⟨fun _ _ v i => v = .int i, fun h _ => h⟩
def tStr : Ty Str := ⟨fun _ _ v i => v = .str i, fun h _ => h⟩
def tBl : Ty Bool := ⟨fun _ _ v i => v = .bl i, fun h _ => h⟩
def tNon : Ty Unit := ⟨fun _ _ v _ => v = .non, fun h _ => h⟩
/-- what a stream is -/
def IsStm (o : HO) : Prop := ∃ c k : Int, o = .lst [.int c, .int k] ∧ 0 ≤ k
def tStm : Ty Unit := ⟨fun W _ v _ => ∃ a, v = .ref a ∧ W a = .st IsStm, fun ⟨a, e, h⟩ m => ⟨a, e, m.st a _ h⟩⟩
def tVal : Ty V := ⟨fun _ _ v x => v = x, fun h _ => h⟩
def tOpt {α : Type} (t : Ty α) : Ty (Option α) := ⟨fun W H v x => match x with
  | none => v = .non
  | some y => t.R W H v y, fun {W W' H H' v x} h m => by
  cases x with
  | none => exact h
  | some y => exact t.go h m⟩
def tSum {α β : Type} (t : Ty α) (u : Ty β) : Ty (α ⊕ β) := ⟨fun W H v x => match x with
  | .inl y => t.R W H v y
  | .inr y => u.R W H v y, fun {W W' H H' v x} h m => by
  cases x with
  | inl y => exact t.go h m
  | inr y => exact u.go h m⟩
/-- a list of one's own making -/
def SqW (_ : PySem.W.Frag) (W : Wd) (H : Hp) (a : Addr) (vs : List V) : Prop := W a = .sh ∧ H a = some (.lst vs)
/-- any list that may be read -/
def SqR (K : PySem.W.Frag) (W : Wd) (H : Hp) (a : Addr) (vs : List V) : Prop := RdW W H a (.lst vs) ∨
    ∃ (o : Obj) (its : Array Value) (n : Nat), K.lookup a = some o ∧ o.cls = .type "list" ∧ o.dict = none ∧ o.data = .seq its n ∧ its.size ≤ sizeLine ∧ Vals vs its.toList
def SqTW (_ : PySem.W.Frag) (W : Wd) (H : Hp) (a : Addr) (vs : List V) : Prop := RdW W H a (.tup vs)
section
variable {K : PySem.W.Frag} {W W' : Wd} {H H' : Hp} {a : Addr} {vs : List V}
theorem SqW.l (h : SqW K W H a vs) : SqL K H a vs := .inl (.inl h.2)
theorem SqTW.t (h : SqTW K W H a vs) : SqT K H a vs := .inl (RdW.rd h)
theorem SqW.mv (h : SqW K W H a vs) (m : Mv W H W' H') : SqW K W' H' a vs := m.ls a vs h.1 h.2
theorem SqR.mv (h : SqR K W H a vs) (m : Mv W H W' H') : SqR K W' H' a vs := by
  rcases h with h | h
  · exact .inl (m.rd a _ h)
  · exact .inr h
theorem SqTW.mv (h : SqTW K W H a vs) (m : Mv W H W' H') : SqTW K W' H' a vs := m.rd a _ h
theorem SqTW.at (h : SqTW K W H a vs) (ok : OKW W H) : H a = some (.tup vs) := ok.exact h (fun _ e => by cases e) (fun _ e => by cases e) (fun _ e => by cases e)
end
section
variable (K : PySem.W.Frag)
def tLs {α : Type} (t : Ty α) : Ty (List α) := ⟨fun W H v xs => ∃ a vs, v = .ref a ∧ SqW K W H a vs ∧ Paired (t.R W H) vs xs, by
  rintro W W' H H' v xs ⟨a, vs, e, h, p⟩ m
  exact ⟨a, vs, e, h.mv m, L2.Paired.mapP p fun u x r => t.go r m⟩⟩
/-- the script: ints that are read -/
def tScr : Ty (List Int) := ⟨fun W H v xs => ∃ a, v = .ref a ∧ SqR K W H a (xs.map V.int), by
  rintro W W' H H' v xs ⟨a, e, h⟩ m
  exact ⟨a, e, h.mv m⟩⟩
/-- a tuple of things of one kind -/
def tTu {α : Type} (t : Ty α) : Ty (List α) := ⟨fun W H v xs => ∃ a vs, v = .ref a ∧ SqTW K W H a vs ∧ Paired (t.R W H) vs xs, by
  rintro W W' H H' v xs ⟨a, vs, e, h, p⟩ m
  exact ⟨a, vs, e, h.mv m, L2.Paired.mapP p fun u x r => t.go r m⟩⟩
def tT2 {α β : Type} (t : Ty α) (u : Ty β) : Ty (α × β) := ⟨fun W H v x => ∃ a p q, v = .ref a ∧ SqTW K W H a [p, q] ∧ t.R W H p x.1 ∧ u.R W H q x.2, by
  rintro W W' H H' v xs ⟨a, p, q, e, h, r1, r2⟩ m
  exact ⟨a, p, q, e, h.mv m, t.go r1 m, u.go r2 m⟩⟩
def tT3 {α β γ : Type} (t : Ty α) (u : Ty β) (z : Ty γ) : Ty (α × β × γ) := ⟨fun W H v x => ∃ a p q r, v = .ref a ∧ SqTW K W H a [p, q, r] ∧ t.R W H p x.1 ∧ u.R W H q x.2.1 ∧ z.R W H r x.2.2, by
  rintro W W' H H' v xs ⟨a, p, q, r, e, h, r1, r2, r3⟩ m
  exact ⟨a, p, q, r, e, h.mv m, t.go r1 m, u.go r2 m, z.go r3 m⟩⟩
def tT4 {α β γ δ : Type} (t : Ty α) (u : Ty β) (z : Ty γ) (y : Ty δ) : Ty (α × β × γ × δ) := ⟨fun W H v x => ∃ a p q r s, v = .ref a ∧ SqTW K W H a [p, q, r, s] ∧ t.R W H p x.1 ∧ u.R W H q x.2.1 ∧ z.R W H r x.2.2.1 ∧ y.R W H s x.2.2.2, by
  rintro W W' H H' v xs ⟨a, p, q, r, s, e, h, r1, r2, r3, r4⟩ m
  exact ⟨a, p, q, r, s, e, h.mv m, t.go r1 m, u.go r2 m, z.go r3 m, y.go r4 m⟩⟩
def tL2 {α β : Type} (t : Ty α) (u : Ty β) : Ty (α × β) := ⟨fun W H v x => ∃ a p q, v = .ref a ∧ SqW K W H a [p, q] ∧ t.R W H p x.1 ∧ u.R W H q x.2, by
  rintro W W' H H' v xs ⟨a, p, q, e, h, r1, r2⟩ m
  exact ⟨a, p, q, e, h.mv m, t.go r1 m, u.go r2 m⟩⟩
def tL3 {α β γ : Type} (t : Ty α) (u : Ty β) (z : Ty γ) : Ty (α × β × γ) := ⟨fun W H v x => ∃ a p q r, v = .ref a ∧ SqW K W H a [p, q, r] ∧ t.R W H p x.1 ∧ u.R W H q x.2.1 ∧ z.R W H r x.2.2, by
  rintro W W' H H' v xs ⟨a, p, q, r, e, h, r1, r2, r3⟩ m
  exact ⟨a, p, q, r, e, h.mv m, t.go r1 m, u.go r2 m, z.go r3 m⟩⟩
def tL4 {α β γ δ : Type} (t : Ty α) (u : Ty β) (z : Ty γ) (y : Ty δ) : Ty (α × β × γ × δ) := ⟨fun W H v x => ∃ a p q r s, v = .ref a ∧ SqW K W H a [p, q, r, s] ∧ t.R W H p x.1 ∧ u.R W H q x.2.1 ∧ z.R W H r x.2.2.1 ∧ y.R W H s x.2.2.2, by
  rintro W W' H H' v xs ⟨a, p, q, r, s, e, h, r1, r2, r3, r4⟩ m
  exact ⟨a, p, q, r, s, e, h.mv m, t.go r1 m, u.go r2 m, z.go r3 m, y.go r4 m⟩⟩
end
/-- a kind of keys -/
structure Ky (κ : Type) where
  k : κ → Key
  inj : ∀ a b, k a = k b → a = b
def kS : Ky Str := ⟨Sum.inr, fun _ _ h => Sum.inr.inj h⟩
def kI : Ky Int := ⟨Sum.inl, fun _ _ h => Sum.inl.inj h⟩
/-- a dict, its pairs in order -/
def tDk {κ α : Type} (ke : Ky κ) (t : Ty α) : Ty (List (κ × α)) := ⟨fun W H v kvs => ∃ a ws, v = .ref a ∧ RdW W H a (.dK ws) ∧ Paired (fun (p : Key × V) (q : κ × α) => p.1 = ke.k q.1 ∧ t.R W H p.2 q.2) ws kvs, by
  rintro W W' H H' v xs ⟨a, vs, e, h, p⟩ m
  exact ⟨a, vs, e, m.rd _ _ h, L2.Paired.mapP p fun u x r => ⟨r.1, t.go r.2 m⟩⟩⟩
/-! ### one's own things -/
def oL (K : PySem.W.Frag) {α : Type} (t : Ty α) : OT (List α) where
  R p W H v xs := ∃ a vs, v = .ref a ∧ W a = .ow p ∧ H a = some (.lst vs) ∧ Paired (t.R W H) vs xs
  sv := tLs K t
  mv := by
    rintro p p' W W' H H' v xs ⟨a, vs, e, w, h, r⟩ k m
    obtain ⟨w1, h1⟩ := k a _ [] (by rw [List.append_nil]; exact w) h
    exact ⟨a, vs, e, by rw [List.append_nil] at w1; exact w1, h1, L2.Paired.mapP r fun u x r => t.go r m⟩
  fz := by
    rintro p W W' H H' v xs ⟨a, vs, e, w, h, r⟩ k m
    obtain ⟨w1, h1⟩ := k a _ [] (by rw [List.append_nil]; exact w) h
    exact ⟨a, vs, e, ⟨w1, h1⟩, L2.Paired.mapP r fun u x r => t.go r m⟩
def oD {κ α : Type} (ke : Ky κ) (t : Ty α) : OT (List (κ × α)) where
  R p W H v xs := ∃ a ws, v = .ref a ∧ W a = .ow p ∧ H a = some (.dK ws) ∧ Paired (fun (p : Key × V) (q : κ × α) => p.1 = ke.k q.1 ∧ t.R W H p.2 q.2) ws xs
  sv := tDk ke t
  mv := by
    rintro p p' W W' H H' v xs ⟨a, vs, e, w, h, r⟩ k m
    obtain ⟨w1, h1⟩ := k a _ [] (by rw [List.append_nil]; exact w) h
    exact ⟨a, vs, e, by rw [List.append_nil] at w1; exact w1, h1, L2.Paired.mapP r fun u x r => ⟨r.1, t.go r.2 m⟩⟩
  fz := by
    rintro p W W' H H' v xs ⟨a, vs, e, w, h, r⟩ k m
    obtain ⟨w1, h1⟩ := k a _ [] (by rw [List.append_nil]; exact w) h
    exact ⟨a, vs, e, .inl ⟨w1, h1⟩, L2.Paired.mapP r fun u x r => ⟨r.1, t.go r.2 m⟩⟩
/-! ### contexts -/
inductive Sl : Type 1 where
  | un
  | sh {α : Type} (t : Ty α) (x : α)
  | ow {α : Type} (O : OT α) (x : α)
def Sl.at (s : Sl) (p : List Nat) (W : Wd) (H : Hp) (v : V) : Prop := match s with
  | .un => True
  | .sh t x => t.R W H v x
  | .ow O x => O.R p W H v x
def SlOk (i : Nat) (W : Wd) (H : Hp) (s : Sl) (e : Option V) : Prop := match s with
  | .un => True
  | .sh t x => ∃ v, e = some v ∧ t.R W H v x
  | .ow O x => ∃ v, e = some v ∧ O.R [i] W H v x
theorem SlOk.of {i : Nat} {W : Wd} {H : Hp} {s : Sl} {v : V} (h : s.at [i] W H v) : SlOk i W H s (some v) := by
  cases s with
  | un => trivial
  | sh t x => exact ⟨v, rfl, h⟩
  | ow O x => exact ⟨v, rfl, h⟩
theorem SlOk.at {i : Nat} {W : Wd} {H : Hp} {s : Sl} {v : V} (h : SlOk i W H s (some v)) : s.at [i] W H v := by
  cases s with
  | un => trivial
  | sh t x => obtain ⟨v, e, h⟩ := h; cases e; exact h
  | ow O x => obtain ⟨v, e, h⟩ := h; cases e; exact h
theorem SlOk.mv {i : Nat} {W W' : Wd} {H H' : Hp} {s : Sl} {e : Option V} (h : SlOk i W H s e) (k : ∀ b o q, W b = .ow (i :: q) → H b = some o → W' b = .ow (i :: q) ∧ H' b = some o) (m : Mv W H W' H') : SlOk i W' H' s e := by
  cases s with
  | un => trivial
  | sh t x => obtain ⟨v, e, r⟩ := h; exact ⟨v, e, t.go r m⟩
  | ow O x => obtain ⟨v, e, r⟩ := h; exact ⟨v, e, O.mv r (p' := [i]) k m⟩
/-- n: no dict is locked; p: slots that stay as they are -/
structure Ct where
  n : Bool
  s : List Sl
  p : List (Option V) := []
def Ct.set (G : Ct) (i : Nat) (s : Sl) : Ct := ⟨G.n, G.s.set i s, G.p⟩
def Ct.free (G : Ct) (i : Nat) : Prop := ∀ v, G.p[i]? ≠ some (some v)
structure Holds (G : Ct) (W : Wd) (H : Hp) (σ : L2.St) : Prop where
  len : σ.length = G.s.length
  ok : OKW W H
  sl : ∀ (i : Nat) s e, G.s[i]? = some s → σ[i]? = some e → SlOk i W H s e
  nl : G.n = true → ∀ b, W b ≠ .lk
  pn : ∀ (i : Nat) v, G.p[i]? = some (some v) → σ[i]? = some (some v)
  sm : G.s.length ≤ tmp
section
variable {W W1 : Wd} {H H1 : Hp} {G : Ct} {σ : L2.St}
theorem SlOk.goE {i : Nat} {s : Sl} {e : Option V} (h : SlOk i W H s e) (g : GoE W H W1 H1) (n : i ≠ tmp) : SlOk i W1 H1 s e := h.mv (fun b o q w e => by
  obtain ⟨e1, w1⟩ := g.own e w n
  exact ⟨w1, e1⟩) g.go.mv
theorem Holds.lt {i : Nat} {s : Sl} (h : Holds G W H σ) (e : G.s[i]? = some s) : i ≠ tmp := fun z => by
  have := (List.getElem?_eq_some_iff.mp e).1
  have := h.sm
  omega
theorem Holds.goE (h : Holds G W H σ) (g : GoE W H W1 H1) (ok : OKW W1 H1) : Holds G W1 H1 σ := ⟨h.len, ok, fun i s e a b => (h.sl i s e a b).goE g (h.lt a), fun n b w => h.nl n b (g.l b w), h.pn, h.sm⟩
theorem Holds.get {i : Nat} {s : Sl} (h : Holds G W H σ) (e : G.s[i]? = some s) : ∃ z, σ[i]? = some z ∧ SlOk i W H s z := by
  have hi : i < σ.length := by rw [h.len]; exact (List.getElem?_eq_some_iff.mp e).1
  exact ⟨σ[i], List.getElem?_eq_getElem hi, h.sl i s _ e (List.getElem?_eq_getElem hi)⟩
theorem Holds.var {α : Type} {t : Ty α} {x : α} {i : Nat} (h : Holds G W H σ) (e : G.s[i]? = some (.sh t x)) : ∃ v, σ[i]? = some (some v) ∧ t.R W H v x := by
  obtain ⟨z, e1, v, rfl, r⟩ := h.get e
  exact ⟨v, e1, r⟩
theorem Holds.own {α : Type} {O : OT α} {x : α} {i : Nat} (h : Holds G W H σ) (e : G.s[i]? = some (.ow O x)) : ∃ v, σ[i]? = some (some v) ∧ O.R [i] W H v x := by
  obtain ⟨z, e1, v, rfl, r⟩ := h.get e
  exact ⟨v, e1, r⟩
theorem set_key {α : Type _} {l : List α} {i m : Nat} {s z : α} (h : (l.set i s)[m]? = some z) : (m = i ∧ z = s) ∨ (m ≠ i ∧ l[m]? = some z) := by
  by_cases hm : i = m
  · subst hm
    rw [List.getElem?_set, if_pos rfl] at h
    split at h
    · cases h; exact .inl ⟨rfl, rfl⟩
    · cases h
  · rw [List.getElem?_set_ne hm] at h
    exact .inr ⟨fun z => hm z.symm, h⟩
/-- a slot is told anew, its value stands -/
theorem Holds.tell (h : Holds G W H σ) (i : Nat) {s : Sl} (ok : ∀ e, σ[i]? = some e → SlOk i W H s e) : Holds (G.set i s) W H σ := by
  refine ⟨by show σ.length = (G.s.set i s).length; rw [List.length_set]; exact h.len, h.ok, fun j s' e' (h1 : (G.s.set i s)[j]? = some s') h2 => ?_, h.nl, h.pn, by show (G.s.set i s).length ≤ tmp; rw [List.length_set]; exact h.sm⟩
  rcases set_key h1 with ⟨rfl, rfl⟩ | ⟨n1, g1⟩
  · exact ok e' h2
  · exact h.sl j s' e' g1 h2
/-- a slot is stored -/
theorem Holds.set (h : Holds G W H σ) (i : Nat) {s : Sl} {e : Option V} (ok : SlOk i W H s e) (fr : G.free i) : Holds (G.set i s) W H (σ.set i e) := by
  refine ⟨by show (σ.set i e).length = (G.s.set i s).length; rw [List.length_set, List.length_set]; exact h.len, h.ok, fun j s' e' (h1 : (G.s.set i s)[j]? = some s') h2 => ?_, h.nl, fun j v hv => ?_, by show (G.s.set i s).length ≤ tmp; rw [List.length_set]; exact h.sm⟩
  · rcases set_key h1 with ⟨rfl, rfl⟩ | ⟨n1, g1⟩
    · rcases set_key h2 with ⟨_, rfl⟩ | ⟨n, _⟩
      · exact ok
      · exact absurd rfl n
    · rcases set_key h2 with ⟨e1, _⟩ | ⟨_, g2⟩
      · exact absurd e1 n1
      · exact h.sl j s' e' g1 g2
  · have n : i ≠ j := fun z => fr v (by rw [z]; exact hv)
    rw [List.getElem?_set_ne n]
    exact h.pn j v hv
theorem Holds.setSh (h : Holds G W H σ) (i : Nat) {α : Type} {t : Ty α} {x : α} {v : V} (r : t.R W H v x) (fr : G.free i) : Holds (G.set i (.sh t x)) W H (σ.set i (some v)) := h.set i ⟨v, rfl, r⟩ fr
theorem Holds.setUn (h : Holds G W H σ) (i : Nat) (e : Option V) (fr : G.free i) : Holds (G.set i .un) W H (σ.set i e) := h.set i trivial fr
/-- forgetting a slot -/
theorem Holds.forget (h : Holds G W H σ) (i : Nat) : Holds (G.set i .un) W H σ := h.tell i fun _ _ => trivial
end
/-! ### errors -/
/-- an error: its class, its fields -/
structure Er where
  C : Addr
  fs : Option (List (Str × Sl))
inductive FldsOk (W : Wd) (H : Hp) : List (Str × V) → List (Str × Sl) → Prop where
  | nil : FldsOk W H [] []
  | cons {f : Str} {v : V} {α : Type} {t : Ty α} {x : α} {vs : List (Str × V)} {ss : List (Str × Sl)} : t.R W H v x → FldsOk W H vs ss → FldsOk W H ((f, v) :: vs) ((f, .sh t x) :: ss)
def ErAt (W : Wd) (H : Hp) (e : Er) (d : Option Addr) : Prop := match e.fs, d with
  | none, none => True
  | some fs, some d => ∃ ws, H d = some (.xd ws) ∧ W d = .sh ∧ FldsOk W H ws fs
  | _, _ => False
theorem FldsOk.go {W W1 : Wd} {H H1 : Hp} {vs : List (Str × V)} {as : List (Str × Sl)} (h : FldsOk W H vs as) (m : Mv W H W1 H1) : FldsOk W1 H1 vs as := by
  induction h with
  | nil => exact .nil
  | cons r _ ih => exact .cons (Ty.go _ r m) ih
theorem ErAt.go {W W' : Wd} {H : Hp} {e : Er} {d : Option Addr} (h : ErAt W H e d) (m : Mv W H W' H) : ErAt W' H e d := by
  unfold ErAt at h ⊢
  cases e1 : e.fs with
  | none =>
    rw [e1] at h
    cases d with
    | none => trivial
    | some d => exact h.elim
  | some fs =>
    rw [e1] at h
    cases d with
    | none => exact h.elim
    | some d =>
      obtain ⟨ws, h1, h2, h3⟩ := h
      refine ⟨ws, h1, ?_, h3.go m⟩
      rcases m.rd d _ (.inl ⟨h2, h1⟩) with ⟨w, _⟩ | ⟨_, od, q⟩
      · exact w
      · rw [h1] at q; cases q
/-- what is wanted of an exception; which may come, where -/
structure Xw where
  E : WX
  xp : Ct → Er → Prop
def Xw.ok (X : Xw) (W : Wd) (H : Hp) (σ : L2.St) : Prop := ∀ e d W' H' G', X.xp G' e → Go W H W' H' → Holds G' W' H' σ → ErAt W' H' e d → X.E (.ref e.C) d σ H'
theorem Xw.ok.mv {X : Xw} {W W1 : Wd} {H H1 : Hp} {σ : L2.St} (h : X.ok W H σ) (g : Go W H W1 H1) : X.ok W1 H1 σ := fun e d W' H' G' p g' => h e d W' H' G' p (g.trans g')
/-- what an expression hands back: shared, or one's own, new -/
inductive Rt (α : Type) where
  | sh (t : Ty α)
  | ow (O : OT α)
def Rt.R {α : Type} : Rt α → Wd → Hp → V → α → Prop
  | .sh t => t.R
  | .ow O => O.R [tmp]
/-- how one moved: k: nothing of one's own was written -/
structure Mo (k : Bool) (σ : L2.St) (G : Ct) (W : Wd) (H : Hp) (G' : Ct) (W' : Wd) (H' : Hp) : Prop where
  go : Go W H W' H'
  hs : Holds G' W' H' σ
  kp : k = true → GoE W H W' H' ∧ G' = G
section
variable {k : Bool} {σ : L2.St} {G G1 G2 : Ct} {W W1 W2 : Wd} {H H1 H2 : Hp}
theorem Mo.refl (hs : Holds G W H σ) : Mo k σ G W H G W H := ⟨.refl, hs, fun _ => ⟨.refl, rfl⟩⟩
theorem Mo.trans (a : Mo k σ G W H G1 W1 H1) (b : Mo k σ G1 W1 H1 G2 W2 H2) : Mo k σ G W H G2 W2 H2 := ⟨a.go.trans b.go, b.hs, fun e => ⟨(a.kp e).1.trans (b.kp e).1, (b.kp e).2.trans (a.kp e).2⟩⟩
theorem Mo.goE (hs : Holds G W H σ) (g : GoE W H W1 H1) (ok : OKW W1 H1) : Mo k σ G W H G W1 H1 := ⟨g.go, hs.goE g ok, fun _ => ⟨g, rfl⟩⟩
theorem Mo.thenE (a : Mo k σ G W H G1 W1 H1) (g : GoE W1 H1 W2 H2) (ok : OKW W2 H2) : Mo k σ G W H G1 W2 H2 := a.trans (.goE a.hs g ok)
end
/-! ### expressions -/
def EvR (X : Xw) (k : Bool) (te : TE) (G : Ct) {α : Type} (r : Rt α) (P : Ct → α → Prop) : Prop :=
  ∀ W H σ (Q : VK), Holds G W H σ → X.ok W H σ → (∀ v W' H' G' x, P G' x → Mo k σ G W H G' W' H' → r.R W' H' v x → Q v H') → te σ H Q
abbrev Ev (X : Xw) (k : Bool) (te : TE) (G : Ct) {α : Type} (t : Ty α) (P : Ct → α → Prop) : Prop := EvR X k te G (.sh t) P
def Et (X : Xw) (k : Bool) (tt : TT) (G : Ct) (P : Ct → Bool → Prop) : Prop :=
  ∀ W H σ (Q : Bool → Hp → Prop), Holds G W H σ → X.ok W H σ → (∀ b W' H' G', P G' b → Mo k σ G W H G' W' H' → Q b H') → tt σ H Q
/-- an argument: shared, one's own (to be written), one's own (to be read) -/
inductive Ar : Type 1 where
  | sh {α : Type} (t : Ty α) (x : α)
  | ow {α : Type} (q : List Nat) (O : OT α) (x : α)
  | vw {α : Type} (q : List Nat) (O : OT α) (x : α)
/-- where a thing of one's own hangs: in a slot, in an attribute of what hangs in a slot -/
def Hang (q : List Nat) (σ : L2.St) (W : Wd) (H : Hp) (v : V) : Prop := match q with
  | [i] => σ[i]? = some (some v)
  | [i, f] => ∃ a C dx vs nm, σ[i]? = some (some (.ref a)) ∧ W a = .ow [i] ∧ H a = some (.ins C dx vs) ∧ vs[f]? = some (nm, v)
  | _ => True
def Real (q : List Nat) : Prop := ∃ i r, q = i :: r ∧ i ≠ tmp
theorem Hang.goE {q : List Nat} {σ : L2.St} {W W1 : Wd} {H H1 : Hp} {v : V} (h : Hang q σ W H v) (g : GoE W H W1 H1) (n : Real q) : Hang q σ W1 H1 v := by
  match q, h with
  | [], _ => trivial
  | [i], h => exact h
  | [i, f], ⟨a, C, dx, vs, nm, e, w, h, l⟩ =>
    obtain ⟨_, _, e0, n⟩ := n
    cases e0
    obtain ⟨h1, w1⟩ := g.own h w n
    exact ⟨a, C, dx, vs, nm, e, w1, h1, l⟩
  | _ :: _ :: _ :: _, _ => trivial
def Ar.at (a : Ar) (σ : L2.St) (W : Wd) (H : Hp) (v : V) : Prop := match a with
  | .sh t x => t.R W H v x
  | .ow q O x => O.R q W H v x ∧ Hang q σ W H v ∧ Real q
  | .vw q O x => O.R q W H v x ∧ Hang q σ W H v ∧ Real q
/-- as the callee sees it -/
def Ar.sl : Ar → Sl
  | .sh t x => .sh t x
  | .ow _ O x => .ow O x
  | .vw _ O x => .sh O.sv x
theorem Ar.goE {a : Ar} {σ : L2.St} {W W1 : Wd} {H H1 : Hp} {v : V} (h : a.at σ W H v) (g : GoE W H W1 H1) : a.at σ W1 H1 v := by
  cases a with
  | sh t x => exact t.mvE h g
  | ow q O x =>
    obtain ⟨h1, h2, i, r, rfl, n⟩ := h
    exact ⟨O.goE h1 g n, h2.goE g ⟨i, r, rfl, n⟩, i, r, rfl, n⟩
  | vw q O x =>
    obtain ⟨h1, h2, i, r, rfl, n⟩ := h
    exact ⟨O.goE h1 g n, h2.goE g ⟨i, r, rfl, n⟩, i, r, rfl, n⟩
inductive ArgsOk (σ : L2.St) (W : Wd) (H : Hp) : List V → List Ar → Prop where
  | nil : ArgsOk σ W H [] []
  | cons {v : V} {a : Ar} {vs : List V} {as : List Ar} : a.at σ W H v → ArgsOk σ W H vs as → ArgsOk σ W H (v :: vs) (a :: as)
theorem ArgsOk.len {σ : L2.St} {W : Wd} {H : Hp} {vs : List V} {as : List Ar} (h : ArgsOk σ W H vs as) : vs.length = as.length := by
  induction h with
  | nil => rfl
  | cons _ _ ih => simp [ih]
theorem ArgsOk.get {σ : L2.St} {W : Wd} {H : Hp} {vs : List V} {as : List Ar} (h : ArgsOk σ W H vs as) : ∀ {k : Nat} {a : Ar} {v : V}, as[k]? = some a → vs[k]? = some v → a.at σ W H v := by
  induction h with
  | nil => intro k a v h; simp at h
  | cons r _ ih =>
    intro k a v h1 h2
    cases k with
    | zero => cases h1; cases h2; exact r
    | succ k => exact ih (k := k) h1 h2
def Ar.plain : Ar → Prop
  | .sh _ _ => True
  | _ => False
theorem ArgsOk.go {σ : L2.St} {W W1 : Wd} {H H1 : Hp} {vs : List V} {as : List Ar} (h : ArgsOk σ W H vs as) (p : ∀ a ∈ as, a.plain) (m : Mv W H W1 H1) : ArgsOk σ W1 H1 vs as := by
  induction h with
  | nil => exact .nil
  | @cons v a vs as r _ ih =>
    refine .cons ?_ (ih fun b hb => p b (List.mem_cons_of_mem _ hb))
    have := p a List.mem_cons_self
    cases a with
    | sh t x => exact t.go r m
    | _ => exact this.elim
/-- arguments; p: all of them are shared things -/
def Ea (X : Xw) (k : Bool) (ta : TA) (G : Ct) (P : Ct → List Ar → Prop) : Prop :=
  ∀ W H σ (Q : List V → Hp → Prop), Holds G W H σ → X.ok W H σ → (∀ vs W' H' G' as, P G' as → Mo k σ G W H G' W' H' → ArgsOk σ W' H' vs as → Q vs H') → ta σ H Q
end Y
end

section
set_option maxRecDepth 100000
set_option maxHeartbeats 4000000
/-! Into a callee's eyes, and back; promises by typed arguments. -/
namespace Y
open PySem PySem.Spec PyProof.Rows L2
inductive Am where
  | to (p : List Nat)
  | vw
  | hd
/-- what becomes of one's own at each path: told under another path, only to be read, hidden -/
structure Mp where
  f : List Nat → Am
  g : List Nat → Option (List Nat)
  fg : ∀ p p', f p = .to p' → g p' = some p
  gf : ∀ p p', g p' = some p → f p = .to p'
  nt : ∀ r, g (tmp :: r) = none
def enter (m : Mp) (W : Wd) : Wd := fun b => match W b with
  | .ow p => match m.f p with
    | .to p' => .ow p'
    | .vw => .sh
    | .hd => .fo
  | w => w
def back1 (m : Mp) (w : Md) : Md := match w with
  | .ow p' => match m.g p' with
    | some p => .ow p
    | none => if p'.head? = some tmp then .ow p' else .sh
  | w => w
def leave (m : Mp) (W Wc : Wd) : Wd := fun b => match W b with
  | .ow p => match m.f p with
    | .to _ => back1 m (Wc b)
    | _ => .ow p
  | _ => back1 m (Wc b)
section
variable {m : Mp} {W Wc : Wd} {H H' : Hp}
theorem enter_ne {b : Addr} (h : ∀ p, W b ≠ .ow p) : enter m W b = W b := by
  unfold enter
  cases e : W b with
  | ow p => exact absurd e (h p)
  | _ => rfl
theorem enter_to {b : Addr} {p p' : List Nat} (h : W b = .ow p) (e : m.f p = .to p') : enter m W b = .ow p' := by unfold enter; rw [h]; simp only [e]
theorem enter_vw {b : Addr} {p : List Nat} (h : W b = .ow p) (e : m.f p = .vw) : enter m W b = .sh := by unfold enter; rw [h]; simp only [e]
theorem enter_hd {b : Addr} {p : List Nat} (h : W b = .ow p) (e : m.f p = .hd) : enter m W b = .fo := by unfold enter; rw [h]; simp only [e]
theorem enter_lk {b : Addr} (h : enter m W b = .lk) : W b = .lk := by
  cases e : W b with
  | ow p =>
    cases e1 : m.f p with
    | to p' => rw [enter_to e e1] at h; cases h
    | vw => rw [enter_vw e e1] at h; cases h
    | hd => rw [enter_hd e e1] at h; cases h
  | lk => rfl
  | _ => rw [enter_ne (by rw [e]; exact fun _ z => nomatch z), e] at h; cases h
theorem enter_st {b : Addr} {φ : HO → Prop} : W b = .st φ ↔ enter m W b = .st φ := by
  constructor
  · intro h; rw [enter_ne (by rw [h]; exact fun _ z => nomatch z)]; exact h
  · intro h
    cases e : W b with
    | ow p =>
      cases e1 : m.f p with
      | to p' => rw [enter_to e e1] at h; cases h
      | vw => rw [enter_vw e e1] at h; cases h
      | hd => rw [enter_hd e e1] at h; cases h
    | _ => rw [enter_ne (by rw [e]; exact fun _ z => nomatch z), e] at h; exact h
theorem enter_mv : Mv W H (enter m W) H := by
  refine ⟨fun b o h => ?_, fun b vs w h => ⟨by rw [enter_ne (by rw [w]; exact fun _ z => nomatch z)]; exact w, h⟩, fun b φ h => enter_st.mp h⟩
  unfold RdW
  rw [enter_ne (fun p => h.no)]
  exact h
theorem enter_ok (ok : OKW W H) : OKW (enter m W) H := by
  refine ⟨fun b φ h => ok.st b φ (enter_st.mpr h), fun b h => ok.al b fun e => h ?_, fun b p od u w e => ?_, fun b h => ok.lk b (enter_lk h), fun b od u w h => ?_, fun b vs h => ?_⟩
  · rw [enter_ne (by rw [e]; exact fun _ z => nomatch z)]; exact e
  · cases e2 : W b with
    | ow p => exact ok.nf b p od u e2 e
    | _ => rw [enter_ne (by rw [e2]; exact fun _ z => nomatch z), e2] at w; cases w
  · cases e2 : W b with
    | ow p => exact absurd h (ok.nf b p od u e2)
    | _ => rw [enter_ne (by rw [e2]; exact fun _ z => nomatch z)] at w; exact ok.fo b od u w h
  · rw [enter_ne (by rw [ok.tp b vs h]; exact fun _ z => nomatch z)]; exact ok.tp b vs h
theorem leave_own {b : Addr} {p : List Nat} (h : W b = .ow p) (n : ∀ p', m.f p ≠ .to p') : leave m W Wc b = .ow p := by
  unfold leave
  rw [h]
  cases e : m.f p with
  | to p' => exact absurd e (n p')
  | _ => simp only [e]
theorem leave_else {b : Addr} (h : ∀ p, W b = .ow p → ∃ p', m.f p = .to p') : leave m W Wc b = back1 m (Wc b) := by
  unfold leave
  cases e : W b with
  | ow p =>
    obtain ⟨p', e1⟩ := h p e
    simp only [e1]
  | _ => rfl
theorem back1_own {w : Md} {p : List Nat} (h : back1 m w = .ow p) : ∃ p', w = .ow p' := by
  cases w with
  | ow p' => exact ⟨p', rfl⟩
  | _ => cases h
theorem back1_ne {w : Md} (h : ∀ p, w ≠ .ow p) : back1 m w = w := by
  cases w with
  | ow p => exact absurd rfl (h p)
  | _ => rfl
theorem back1_inv {w u : Md} (h : back1 m w = u) (n : ∀ p, u ≠ .ow p) (s : u ≠ .sh) : w = u := by
  cases w with
  | ow p =>
    unfold back1 at h
    simp only at h
    split at h
    · exact absurd h.symm (n _)
    · split at h
      · exact absurd h.symm (n _)
      · exact absurd h.symm s
  | _ => exact h
theorem back1_to {p p' : List Nat} (h : m.g p' = some p) : back1 m (.ow p') = .ow p := by unfold back1; simp only [h]
theorem back1_tmp {r : List Nat} : back1 m (.ow (tmp :: r)) = .ow (tmp :: r) := by unfold back1; simp only [m.nt r, List.head?_cons, if_true]
structure Left (m : Mp) (W : Wd) (H : Hp) (Wc : Wd) (H' : Hp) : Prop where
  go : Go W H (leave m W Wc) H'
  ok : OKW (leave m W Wc) H'
  own : ∀ b p o, W b = .ow p → (∀ p', m.f p ≠ .to p') → H b = some o → leave m W Wc b = .ow p ∧ H' b = some o
  new : ∀ b p p', Wc b = .ow p' → m.g p' = some p → leave m W Wc b = .ow p
  tmp : ∀ b r, Wc b = .ow (tmp :: r) → leave m W Wc b = .ow (tmp :: r)
  mv : (∀ p, m.f p ≠ .vw) → Mv Wc H' (leave m W Wc) H'
theorem left (ok : OKW W H) (g : Go (enter m W) H Wc H') (okc : OKW Wc H') : Left m W H Wc H' := by
  have own : ∀ b p, W b = .ow p → (∀ p', m.f p ≠ .to p') → ∃ o, H b = some o ∧ H' b = some o ∧ (∀ q, Wc b ≠ .ow q) ∧ (Wc b = .sh → m.f p = .vw) ∧ (Wc b = .sh ∨ Wc b = .fo) := fun b p h n => by
    obtain ⟨o, e⟩ := ok.al b (by rw [h]; exact fun z => nomatch z)
    cases e1 : m.f p with
    | to p' => exact absurd e1 (n p')
    | vw =>
      have w := enter_vw h e1
      obtain ⟨h1, w1⟩ := g.k b o e (.inl w)
      have w1 := w1.trans w
      exact ⟨o, e, h1, (fun q z => by rw [w1] at z; cases z), (fun _ => rfl), .inl w1⟩
    | hd =>
      have w := enter_hd h e1
      obtain ⟨h1, w1⟩ := g.k b o e (.inr (.inr w))
      have w1 := w1.trans w
      exact ⟨o, e, h1, (fun q z => by rw [w1] at z; cases z), (fun z => by rw [w1] at z; cases z), .inr w1⟩
  have spl : ∀ b, (∃ p, W b = .ow p ∧ ∀ p', m.f p ≠ .to p') ∨ (∀ p, W b = .ow p → ∃ p', m.f p = .to p') := fun b => by
    by_cases h : ∃ p, W b = .ow p ∧ ∀ p', m.f p ≠ .to p'
    · exact .inl h
    · exact .inr fun p e => Classical.byContradiction fun z => h ⟨p, e, fun p' q => z ⟨p', q⟩⟩
  refine ⟨⟨fun b o h w => ?_, fun b φ h => ?_, fun b h => ?_⟩, ⟨fun b φ h => ?_, fun b h => ?_, fun b p od u w e => ?_, fun b h => ?_, fun b od u w h => ?_, fun b vs h => ?_⟩, fun b p o h n e => ?_, fun b p p' h e => ?_, fun b r h => ?_, fun nv => ⟨fun b o h => ?_, fun b vs w h => ?_, fun b φ h => ?_⟩⟩
  · have n : ∀ p, W b ≠ .ow p := fun p z => by rcases w with w | w | w <;> (rw [w] at z; cases z)
    have e := enter_ne (m := m) n
    obtain ⟨h1, w1⟩ := g.k b o h (by rw [e]; exact w)
    refine ⟨h1, ?_⟩
    rw [leave_else fun p z => absurd z (n p), w1, e, back1_ne n]
  · have n : ∀ p, W b ≠ .ow p := fun p z => by rw [h] at z; cases z
    rw [leave_else fun p z => absurd z (n p), g.s b φ (enter_st.mp h)]
    rfl
  · rcases spl b with ⟨p, e, n⟩ | n
    · rw [leave_own e n] at h; cases h
    · rw [leave_else n] at h
      exact enter_lk (g.l b (back1_inv h (fun p z => nomatch z) fun z => nomatch z))
  · rcases spl b with ⟨p, e, n⟩ | n
    · rw [leave_own e n] at h; cases h
    · rw [leave_else n] at h
      exact okc.st b φ (back1_inv h (fun p z => nomatch z) fun z => nomatch z)
  · rcases spl b with ⟨p, e, n⟩ | n
    · obtain ⟨o, _, h1, _⟩ := own b p e n
      exact ⟨o, h1⟩
    · rw [leave_else n] at h
      exact okc.al b fun z => h (by rw [z]; rfl)
  · rcases spl b with ⟨p2, e2, n⟩ | n
    · obtain ⟨o, h0, h1, _⟩ := own b p2 e2 n
      rw [e] at h1
      exact ok.nf b p2 od u e2 (h0.trans h1.symm)
    · rw [leave_else n] at w
      obtain ⟨p', w⟩ := back1_own w
      exact okc.nf b p' od u w e
  · rcases spl b with ⟨p, e, n⟩ | n
    · rw [leave_own e n] at h; cases h
    · rw [leave_else n] at h
      exact okc.lk b (back1_inv h (fun p z => nomatch z) fun z => nomatch z)
  · rcases spl b with ⟨p, e, n⟩ | n
    · rw [leave_own e n] at w; cases w
    · rw [leave_else n] at w
      exact okc.fo b od u (back1_inv w (fun p z => nomatch z) fun z => nomatch z) h
  · rcases spl b with ⟨p, e, n⟩ | n
    · obtain ⟨o, h0, h1, _⟩ := own b p e n
      rw [h] at h1
      have := ok.tp b vs (h0.trans h1.symm)
      rw [e] at this; cases this
    · rw [leave_else n, okc.tp b vs h]; rfl
  · obtain ⟨o2, h0, h1, _⟩ := own b p h n
    rw [e] at h0; cases h0
    exact ⟨leave_own h n, h1⟩
  · rcases spl b with ⟨p2, e2, n⟩ | n
    · obtain ⟨o, _, _, z, _⟩ := own b p2 e2 n
      exact absurd h (z p')
    · rw [leave_else n, h]; exact back1_to e
  · rcases spl b with ⟨p2, e2, n⟩ | n
    · obtain ⟨o, _, _, z, _⟩ := own b p2 e2 n
      exact absurd h (z _)
    · rw [leave_else n, h]; exact back1_tmp
  · rcases spl b with ⟨p, e, n⟩ | n
    · obtain ⟨o2, h0, h1, _, hv, hw⟩ := own b p e n
      rcases h with ⟨w, _⟩ | ⟨w | w, od, h⟩
      · exact absurd (hv w) (nv p)
      · rcases hw with z | z <;> (rw [w] at z; cases z)
      · rw [h] at h1
        exact absurd (h0.trans h1.symm) (ok.nf b p od o e)
    · unfold RdW
      rw [leave_else n, back1_ne fun p => h.no]
      exact h
  · rcases spl b with ⟨p, e, n⟩ | n
    · obtain ⟨o2, h0, h1, _, hv, hw⟩ := own b p e n
      exact absurd (hv w) (nv p)
    · exact ⟨by rw [leave_else n, w]; rfl, h⟩
  · rcases spl b with ⟨p, e, n⟩ | n
    · obtain ⟨o2, h0, h1, _, hv, hw⟩ := own b p e n
      rcases hw with z | z <;> (rw [h] at z; cases z)
    · rw [leave_else n, h]; rfl
end
/-! ### promises -/
def SlsOk (W : Wd) (H : Hp) (vs : List V) (ss : List Sl) : Prop := vs.length = ss.length ∧ ∀ (k : Nat) v s, vs[k]? = some v → ss[k]? = some s → s.at [k] W H v
structure CT (ρ : Type) where
  n : Bool
  r : Rt ρ
  ct : List Sl → (List Sl → ρ → Prop) → (List Sl → Er → Prop) → Prop
/-- the promise of a def, by typed arguments -/
def spZ {ρ : Type} (c : CT ρ) : Sp := fun vs H Q E => ∃ W as P XP, OKW W H ∧ (c.n = true → ∀ b, W b ≠ .lk) ∧ SlsOk W H vs as ∧ c.ct as P XP ∧
  (∀ v W' H' os x, P os x → Go W H W' H' → OKW W' H' → SlsOk W' H' vs os → c.r.R W' H' v x → Q v H') ∧
  (∀ e d W' H' os, XP os e → Go W H W' H' → OKW W' H' → SlsOk W' H' vs os → ErAt W' H' e d → E (.ref e.C) d H')
/-- all of one's own is hidden -/
def mHide : Mp := ⟨fun _ => .hd, fun _ => none, fun _ _ h => (nomatch h), fun _ _ h => (nomatch h), fun _ => rfl⟩
theorem SlsOk.of_plain {σ : L2.St} {W : Wd} {H : Hp} : ∀ {vs : List V} {as : List Ar} (n : Nat), ArgsOk σ W H vs as → (∀ a ∈ as, a.plain) → vs.length = as.length ∧ ∀ (k : Nat) v s, vs[k]? = some v → (as.map Ar.sl)[k]? = some s → s.at [n + k] W H v
  | _, _, _, .nil, _ => ⟨rfl, fun k v s h => by simp at h⟩
  | _, _, n, .cons (a := a) r h, p => by
    obtain ⟨l, q⟩ := SlsOk.of_plain (n + 1) h fun b hb => p b (List.mem_cons_of_mem _ hb)
    refine ⟨by simp [l], fun k v s h1 h2 => ?_⟩
    cases k with
    | zero =>
      cases h1
      cases h2
      have := p a List.mem_cons_self
      cases a with
      | sh t x => exact r
      | _ => exact this.elim
    | succ k =>
      have := q k v s h1 h2
      rwa [Nat.add_right_comm, Nat.add_assoc] at this
theorem sls_plain {σ : L2.St} {W : Wd} {H : Hp} {vs : List V} {as : List Ar} (h : ArgsOk σ W H vs as) (p : ∀ a ∈ as, a.plain) : SlsOk W H vs (as.map Ar.sl) := by
  obtain ⟨l, q⟩ := SlsOk.of_plain 0 h p
  exact ⟨by rw [List.length_map]; exact l, fun k v s h1 h2 => by have := q k v s h1 h2; rwa [Nat.zero_add] at this⟩
section
variable {ρ : Type} {c : CT ρ} {W : Wd} {H : Hp} {G : Ct} {σ : L2.St}
theorem Rt.leave {m : Mp} {r : Rt ρ} {Wc : Wd} {H' : Hp} {v : V} {x : ρ} (l : Left m W H Wc H') (nv : ∀ p, m.f p ≠ .vw) (h : r.R Wc H' v x) : r.R (leave m W Wc) H' v x := by
  cases r with
  | sh t => exact t.go h (l.mv nv)
  | ow O => exact O.mv (p' := [tmp]) h (fun b o q w e => ⟨l.tmp b q w, e⟩) (l.mv nv)
/-- the callee's promise, as the caller reads it: nothing of one's own is handed over -/
theorem sp_plain {vs : List V} {as : List Ar} {Q : VK} {E : XK} {P : List Sl → ρ → Prop} {XP : List Sl → Er → Prop} (hs : Holds G W H σ) (nl : c.n = true → G.n = true) (ha : ArgsOk σ W H vs as) (pl : ∀ a ∈ as, a.plain) (hc : c.ct (as.map Ar.sl) P XP)
    (q : ∀ v W' H' os x, P os x → GoE W H W' H' → OKW W' H' → c.r.R W' H' v x → Q v H')
    (ex : ∀ e d W' H' os, XP os e → GoE W H W' H' → OKW W' H' → ErAt W' H' e d → E (.ref e.C) d H') : spZ c vs H Q E := by
  have nt : ∀ p p', mHide.f p ≠ .to p' := fun _ _ z => nomatch z
  have gE : ∀ {Wc H'}, Left mHide W H Wc H' → GoE W H (leave mHide W Wc) H' := fun {Wc H'} l => ⟨fun b o e n _ => by
    cases w : W b with
    | ow p =>
      obtain ⟨h1, h2⟩ := l.own b p o w (nt p) e
      exact ⟨h2, h1⟩
    | st φ => exact absurd w (n φ)
    | sh => rw [← w]; exact l.go.k b o e (.inl w)
    | lk => rw [← w]; exact l.go.k b o e (.inr (.inl w))
    | fo => rw [← w]; exact l.go.k b o e (.inr (.inr w)), l.go.s, l.go.l⟩
  refine ⟨enter mHide W, as.map Ar.sl, P, XP, enter_ok hs.ok, fun n b w => hs.nl (nl n) b (enter_lk w), sls_plain (ha.go pl enter_mv) pl, hc, fun v Wc H' os x p g okc so r => ?_, fun e d Wc H' os p g okc so r => ?_⟩
  · have l := left hs.ok g okc
    exact q v _ H' os x p (gE l) l.ok (Rt.leave l (fun p z => nomatch z) r)
  · have l := left hs.ok g okc
    exact ex e d _ H' os p (gE l) l.ok (r.go (l.mv fun p z => nomatch z))
end
/-! ### one's own handed over, from slots -/
def Ar.owS : Ar → Option Nat
  | .ow [i] _ _ => some i
  | _ => none
def Ar.vwS : Ar → Option Nat
  | .vw [i] _ _ => some i
  | _ => none
def Ar.simple : Ar → Prop
  | .sh _ _ => True
  | .ow [_] _ _ => True
  | .vw [_] _ _ => True
  | _ => False
def posO (as : List Ar) (i : Nat) : Option Nat := as.findIdx? fun a => decide (a.owS = some i)
def mSlots (as : List Ar) (hl : as.length ≤ tmp) : Mp where
  f p := match p with
    | [] => .hd
    | i :: r => match posO as i with
      | some k => .to (k :: r)
      | none => if as.any (fun a => decide (a.vwS = some i)) then .vw else .hd
  g p' := match p' with
    | [] => none
    | k :: r => match as[k]?.bind Ar.owS with
      | some i => if posO as i = some k then some (i :: r) else none
      | none => none
  fg p p' h := by
    cases p with
    | nil => cases h
    | cons i r =>
      simp only at h
      cases e : posO as i with
      | none => rw [e] at h; simp only at h; split at h <;> cases h
      | some k =>
        rw [e] at h
        cases h
        obtain ⟨hk, h1, _⟩ := List.findIdx?_eq_some_iff_getElem.mp e
        have h1 := of_decide_eq_true h1
        simp only [List.getElem?_eq_getElem hk, Option.bind_some, h1, e, if_true]
  gf p p' h := by
    cases p' with
    | nil => cases h
    | cons k r =>
      simp only at h
      cases e : as[k]?.bind Ar.owS with
      | none => rw [e] at h; cases h
      | some i =>
        rw [e] at h
        simp only at h
        split at h
        · rename_i q
          cases h
          simp only [q]
        · cases h
  nt r := by
    simp only
    rw [List.getElem?_eq_none hl]
    rfl
def putA (G : Ct) : List Ar → List Sl → Ct
  | .ow [i] _ _ :: as, o :: os => (putA G as os).set i o
  | _ :: as, _ :: os => putA G as os
  | _, _ => G
theorem putA_len (G : Ct) : ∀ (as : List Ar) (os : List Sl), (putA G as os).s.length = G.s.length ∧ (putA G as os).n = G.n ∧ (putA G as os).p = G.p
  | [], _ => ⟨rfl, rfl, rfl⟩
  | a :: as, [] => by cases a <;> (try (rename_i q _ _; rcases q with _ | ⟨_, _ | _⟩)) <;> exact ⟨rfl, rfl, rfl⟩
  | a :: as, o :: os => by
    have ih := putA_len G as os
    match a with
    | .sh _ _ => exact ih
    | .vw _ _ _ => exact ih
    | .ow [] _ _ => exact ih
    | .ow [i] _ _ =>
      refine ⟨?_, ih.2⟩
      show ((putA G as os).s.set i o).length = _
      rw [List.length_set]
      exact ih.1
    | .ow (_ :: _ :: _) _ _ => exact ih
theorem putA_get (G : Ct) {j : Nat} {s : Sl} : ∀ {as : List Ar} {os : List Sl}, as.length = os.length → (putA G as os).s[j]? = some s → (∃ (k : Nat) (a : Ar), as[k]? = some a ∧ a.owS = some j ∧ os[k]? = some s) ∨ (G.s[j]? = some s ∧ ∀ a ∈ as, a.owS ≠ some j)
  | [], [], _, h => .inr ⟨h, fun a ha => by simp at ha⟩
  | a :: as, o :: os, hl0, h => by
    have hl : as.length = os.length := Nat.succ.inj hl0
    have skip : a.owS = none → (putA G as os).s[j]? = some s → (∃ (k : Nat) (b : Ar), (a :: as)[k]? = some b ∧ b.owS = some j ∧ (o :: os)[k]? = some s) ∨ (G.s[j]? = some s ∧ ∀ b ∈ a :: as, b.owS ≠ some j) := fun e h => by
      rcases putA_get G hl h with ⟨k, b, h1, h2, h3⟩ | ⟨h1, h2⟩
      · exact .inl ⟨k + 1, b, h1, h2, h3⟩
      · refine .inr ⟨h1, fun b hb => ?_⟩
        rcases List.mem_cons.mp hb with rfl | hb
        · rw [e]; exact fun z => nomatch z
        · exact h2 b hb
    match a with
    | .sh _ _ => exact skip rfl h
    | .vw _ _ _ => exact skip rfl h
    | .ow [] _ _ => exact skip rfl h
    | .ow (_ :: _ :: _) _ _ => exact skip rfl h
    | .ow [i] O x =>
      have h : ((putA G as os).s.set i o)[j]? = some s := h
      rcases set_key h with ⟨rfl, rfl⟩ | ⟨n, h⟩
      · exact .inl ⟨0, _, rfl, rfl, rfl⟩
      · rcases putA_get (as := as) (os := os) G hl h with ⟨k, b, h1, h2, h3⟩ | ⟨h1, h2⟩
        · exact .inl ⟨k + 1, b, h1, h2, h3⟩
        · refine .inr ⟨h1, fun b hb => ?_⟩
          rcases List.mem_cons.mp hb with rfl | hb
          · exact fun z => n (Option.some.inj z).symm
          · exact h2 b hb
/-- nothing shared is asked -/
def FlatT {α : Type} (t : Ty α) : Prop := ∀ W H W' H' v x, t.R W H v x → t.R W' H' v x
def FlatO {α : Type} (O : OT α) : Prop := ∀ p p' W W' H H' v x, O.R p W H v x → (∀ b o q, W b = .ow (p ++ q) → H b = some o → W' b = .ow (p' ++ q) ∧ H' b = some o) → O.R p' W' H' v x
def FlatR {α : Type} : Rt α → Prop
  | .sh t => FlatT t
  | .ow O => FlatO O
def Sl.flat : Sl → Prop
  | .un => True
  | .sh t _ => FlatT t
  | .ow O _ => FlatO O
section
variable {ρ : Type} {c : CT ρ} {W : Wd} {H : Hp} {G : Ct} {σ : L2.St}
theorem pos_of {as : List Ar} {k i : Nat} {a : Ar} (nd : (as.filterMap Ar.owS).Nodup) (h : as[k]? = some a) (e : a.owS = some i) : posO as i = some k := by
  induction as generalizing k with
  | nil => simp at h
  | cons b as ih =>
    cases k with
    | zero =>
      cases h
      unfold posO
      rw [List.findIdx?_cons, if_pos (decide_eq_true e)]
    | succ k =>
      have h : as[k]? = some a := h
      have hm : i ∈ as.filterMap Ar.owS := List.mem_filterMap.mpr ⟨a, List.mem_of_getElem? h, e⟩
      have nb : b.owS ≠ some i := fun z => by
        rw [List.filterMap_cons_some z] at nd
        exact (List.nodup_cons.mp nd).1 hm
      have nd' : (as.filterMap Ar.owS).Nodup := by
        cases eb : b.owS with
        | none => rwa [List.filterMap_cons_none eb] at nd
        | some z => rw [List.filterMap_cons_some eb] at nd; exact (List.nodup_cons.mp nd).2
      have := ih nd' h
      unfold posO at this ⊢
      rw [List.findIdx?_cons, if_neg (by simpa using nb), this]
      rfl
/-- what was handed over comes back -/
theorem sp_own {vs : List V} {as : List Ar} {Q : VK} {E : XK} {P : List Sl → ρ → Prop} {XP : List Sl → Er → Prop} (hs : Holds G W H σ) (nl : c.n = true → G.n = true) (ha : ArgsOk σ W H vs as) (hc : c.ct (as.map Ar.sl) P XP)
    (hl : as.length ≤ tmp) (sim : ∀ a ∈ as, a.simple) (nd : (as.filterMap Ar.owS).Nodup) (dj : ∀ a ∈ as, ∀ i, a.vwS = some i → i ∉ as.filterMap Ar.owS)
    (fl : (∀ a ∈ as, a.vwS = none) ∨ (FlatR c.r ∧ (∀ os x, P os x → ∀ s ∈ os, s.flat) ∧ ∀ os e, XP os e → (∀ s ∈ os, s.flat) ∧ e.fs = none))
    (q : ∀ v W' H' os x, P os x → os.length = as.length → Go W H W' H' → Holds (putA G as os) W' H' σ → c.r.R W' H' v x → Q v H')
    (ex : ∀ e d W' H' os, XP os e → os.length = as.length → Go W H W' H' → Holds (putA G as os) W' H' σ → ErAt W' H' e d → E (.ref e.C) d H') : spZ c vs H Q E := by
  have hto : ∀ {k i : Nat} {a : Ar}, as[k]? = some a → a.owS = some i → ∀ r, (mSlots as hl).f (i :: r) = .to (k :: r) := fun {k i a} h e r => by
    show (match posO as i with | some k => Am.to (k :: r) | none => _) = _
    rw [pos_of nd h e]
  have hvw : ∀ {a : Ar} {i : Nat}, a ∈ as → a.vwS = some i → ∀ r, (mSlots as hl).f (i :: r) = .vw := fun {a i} h e r => by
    have n : posO as i = none := by
      refine List.findIdx?_eq_none_iff.mpr fun b hb => ?_
      exact decide_eq_false fun z => dj a h i e (List.mem_filterMap.mpr ⟨b, hb, z⟩)
    show (match posO as i with | some k => Am.to (k :: r) | none => if as.any (fun a => decide (a.vwS = some i)) then .vw else .hd) = _
    rw [n]
    exact if_pos (List.any_eq_true.mpr ⟨a, h, decide_eq_true e⟩)
  have hno : ∀ {j : Nat}, (∀ a ∈ as, a.owS ≠ some j) → ∀ r p', (mSlots as hl).f (j :: r) ≠ .to p' := fun {j} h r p' => by
    have n : posO as j = none := List.findIdx?_eq_none_iff.mpr fun b hb => decide_eq_false (h b hb)
    show (match posO as j with | some k => Am.to (k :: r) | none => if as.any (fun a => decide (a.vwS = some j)) then .vw else .hd) ≠ _
    rw [n]
    simp only
    split <;> exact fun z => nomatch z
  have nv : (∀ a ∈ as, a.vwS = none) → ∀ p, (mSlots as hl).f p ≠ .vw := fun h p => by
    cases p with
    | nil => exact fun z => nomatch z
    | cons i r =>
      show (match posO as i with | some k => Am.to (k :: r) | none => if as.any (fun a => decide (a.vwS = some i)) then .vw else .hd) ≠ _
      cases posO as i with
      | some k => exact fun z => nomatch z
      | none =>
        have : as.any (fun a => decide (a.vwS = some i)) = false := by
          rw [List.any_eq_false]
          intro a ha
          rw [h a ha]
          simp
        simp only [this]
        exact fun z => nomatch z
  have gk : ∀ {k i : Nat} {a : Ar}, as[k]? = some a → a.owS = some i → ∀ r, (mSlots as hl).g (k :: r) = some (i :: r) := fun h e r => (mSlots as hl).fg _ _ (hto h e r)
  have back : ∀ {Wc H' os}, Left (mSlots as hl) W H Wc H' → SlsOk Wc H' vs os → ((∀ a ∈ as, a.vwS = none) ∨ ∀ s ∈ os, s.flat) → os.length = as.length ∧ Holds (putA G as os) (leave (mSlots as hl) W Wc) H' σ := fun {Wc H' os} l so f => by
    have hlen : os.length = as.length := so.1.symm.trans ha.len
    obtain ⟨e1, e2, e3⟩ := putA_len G as os
    refine ⟨hlen, ⟨hs.len.trans e1.symm, l.ok, fun j s e h1 h2 => ?_, fun n b w => hs.nl (e2.symm.trans n) b (l.go.l b w), fun i v h => hs.pn i v (by rw [← e3]; exact h), by rw [e1]; exact hs.sm⟩⟩
    rcases putA_get G hlen.symm h1 with ⟨k, a, h3, h4, h5⟩ | ⟨h3, h4⟩
    · have hk : k < vs.length := by rw [ha.len]; exact (List.getElem?_eq_some_iff.mp h3).1
      have h6 := List.getElem?_eq_getElem hk
      have r := ha.get h3 h6
      have r2 := so.2 k _ s h6 h5
      match a, h3, h4, r with
      | .ow [i] O x, h3, h4, r =>
        obtain rfl : i = j := Option.some.inj h4
        have eq : σ[i]? = some (some vs[k]) := r.2.1
        rw [h2] at eq
        cases eq
        cases s with
        | un => trivial
        | sh t y =>
          refine ⟨_, rfl, ?_⟩
          rcases f with f | f
          · exact t.go r2 (l.mv (nv f))
          · exact f _ (List.mem_of_getElem? h5) _ _ _ _ _ _ r2
        | ow O' y =>
          refine ⟨_, rfl, ?_⟩
          have kk : ∀ b o q, Wc b = .ow ([k] ++ q) → H' b = some o → leave (mSlots as hl) W Wc b = .ow ([i] ++ q) ∧ H' b = some o := fun b o q w e => ⟨l.new b _ _ w (gk h3 rfl q), e⟩
          rcases f with f | f
          · exact O'.mv r2 kk (l.mv (nv f))
          · exact f _ (List.mem_of_getElem? h5) _ _ _ _ _ _ _ _ r2 kk
    · exact (hs.sl j s e h3 h2).mv (fun b o q w e => l.own b _ o w (hno h4 q) e) l.go.mv
  have res : ∀ {Wc H' v x}, Left (mSlots as hl) W H Wc H' → ((∀ a ∈ as, a.vwS = none) ∨ FlatR c.r) → c.r.R Wc H' v x → c.r.R (leave (mSlots as hl) W Wc) H' v x := fun {Wc H' v x} l f r => by
    rcases f with f | f
    · exact Rt.leave l (nv f) r
    · cases e : c.r with
      | sh t => rw [e] at f r; exact f _ _ _ _ _ _ r
      | ow O => rw [e] at f r; exact f _ _ _ _ _ _ _ _ r fun b o q w e => ⟨l.tmp b q w, e⟩
  refine ⟨enter (mSlots as hl) W, as.map Ar.sl, P, XP, enter_ok hs.ok, fun n b w => hs.nl (nl n) b (enter_lk w), ⟨by rw [List.length_map]; exact ha.len, fun k v s h1 h2 => ?_⟩, hc, fun v Wc H' os x p g okc so r => ?_, fun e d Wc H' os p g okc so r => ?_⟩
  · rw [List.getElem?_map] at h2
    obtain ⟨a, h3, rfl⟩ := Option.map_eq_some_iff.mp h2
    have r := ha.get h3 h1
    have sm := sim a (List.mem_of_getElem? h3)
    match a, h3, r, sm with
    | .sh t x, h3, r, sm => exact t.go r enter_mv
    | .ow [i] O x, h3, r, sm => exact O.mv (p' := [k]) r.1 (fun b o q w e => ⟨enter_to w (hto h3 rfl q), e⟩) enter_mv
    | .vw [i] O x, h3, r, sm => exact O.fz r.1 (fun b o q w e => ⟨enter_vw w (hvw (List.mem_of_getElem? h3) rfl q), e⟩) enter_mv
  · have l := left hs.ok g okc
    obtain ⟨hl2, hs2⟩ := back l so (fl.imp id fun f => f.2.1 os x p)
    exact q v _ H' os x p hl2 l.go hs2 (res l (fl.imp id fun f => f.1) r)
  · have l := left hs.ok g okc
    obtain ⟨hl2, hs2⟩ := back l so (fl.imp id fun f => (f.2.2 os e p).1)
    refine ex e d _ H' os p hl2 l.go hs2 ?_
    rcases fl with f | f
    · exact r.go (l.mv (nv f))
    · have := (f.2.2 os e p).2
      unfold ErAt at r ⊢
      rw [this] at r ⊢
      cases d with
      | none => trivial
      | some d => exact r.elim
end
end Y
end

section
set_option maxRecDepth 100000
set_option maxHeartbeats 4000000
/-! Expressions, tests, arguments, calls, statements. -/
namespace Y
open PySem PySem.Spec PyProof.Rows L2
section
variable {X : Xw} {k : Bool} {G : Ct} {α β γ : Type} {t : Ty α} {u : Ty β} {z : Ty γ} {P : Ct → α → Prop}
theorem EvR.mono {te : TE} {r : Rt α} {P' : Ct → α → Prop} (h : EvR X k te G r P) (hp : ∀ G x, P G x → P' G x) : EvR X k te G r P' := fun W H σ Q hs ex q => h W H σ Q hs ex fun v W' H' G' x p => q v W' H' G' x (hp G' x p)
theorem Ev.as {te : TE} {P : Ct → β → Prop} (f : α → β) (h : Ev X k te G t fun G x => P G (f x)) (c : ∀ W H v x, t.R W H v x → u.R W H v (f x)) : Ev X k te G u P := fun W H σ Q hs ex q => h W H σ Q hs ex fun v W' H' G' x p m r => q v W' H' G' (f x) p m (c _ _ _ _ r)
theorem ev_var {i : Nat} {x : α} (e : G.s[i]? = some (.sh t x)) (p : P G x) : Ev X k (tVar i) G t P := fun W H σ Q hs ex q => by
  obtain ⟨v, e1, r⟩ := hs.var e
  exact ⟨v, e1, q v W H G x p (.refl hs) r⟩
theorem ev_c {v : V} {x : α} (r : ∀ W H, t.R W H v x) (p : P G x) : Ev X k (tC v) G t P := fun W H σ Q hs ex q => q v W H G x p (.refl hs) (r W H)
/-- an operation of two typed values -/
def RO (r : R2) (t : Ty α) (u : Ty β) (z : Rt γ) (C : α → β → (γ → Prop) → Prop) : Prop :=
  ∀ W H v w x y (Q : VK) (P : γ → Prop), OKW W H → t.R W H v x → u.R W H w y → C x y P → (∀ a W' H' c, P c → GoE W H W' H' → OKW W' H' → z.R W' H' a c → Q a H') → r v w H Q
theorem ev_op {r : R2} {ta tb : TE} {z : Rt γ} {C : α → β → (γ → Prop) → Prop} {P : Ct → γ → Prop} (ro : RO r t u z C) (h : Ev X k ta G t fun G x => Ev X k tb G u fun G y => C x y (P G)) : EvR X k (tOp r ta tb) G z P := fun W H σ Q hs ex q =>
  h W H σ _ hs ex fun v W1 H1 G1 x p m rv => p W1 H1 σ _ m.hs (ex.mv m.go) fun w W2 H2 G2 y c m2 rw => ro W2 H2 v w x y Q (P G2) m2.hs.ok (t.mv rv m2.go) rw c fun a W3 H3 d pd g3 ok3 r3 => q a W3 H3 G2 d pd ((m.trans m2).thenE g3 ok3) r3
/-! tests -/
theorem et_b {te : TE} {P : Ct → Bool → Prop} (h : Ev X k te G tBl P) : Et X k (tB te) G P := fun W H σ Q hs ex q => h W H σ _ hs ex fun v W' H' G' x p m r => ⟨x, r, q x W' H' G' p m⟩
theorem et_yes {P : Ct → Bool → Prop} (h : P G true) : Et X k tYes G P := fun W H σ Q hs ex q => q true W H G h (.refl hs)
theorem et_and {a b : TT} {P : Ct → Bool → Prop} (h : Et X k a G fun G x => (x = true → Et X k b G P) ∧ (x = false → P G false)) : Et X k (tAnd a b) G P := fun W H σ Q hs ex q => h W H σ _ hs ex fun x W1 H1 G1 p m => by
  cases x with
  | true => exact p.1 rfl W1 H1 σ _ m.hs (ex.mv m.go) fun y W2 H2 G2 p2 m2 => q y W2 H2 G2 p2 (m.trans m2)
  | false => exact q false W1 H1 G1 (p.2 rfl) m
theorem et_or {a b : TT} {P : Ct → Bool → Prop} (h : Et X k a G fun G x => (x = true → P G true) ∧ (x = false → Et X k b G P)) : Et X k (L2.tOr a b) G P := fun W H σ Q hs ex q => h W H σ _ hs ex fun x W1 H1 G1 p m => by
  cases x with
  | false => exact p.2 rfl W1 H1 σ _ m.hs (ex.mv m.go) fun y W2 H2 G2 p2 m2 => q y W2 H2 G2 p2 (m.trans m2)
  | true => exact q true W1 H1 G1 (p.1 rfl) m
theorem et_not {a : TT} {P : Ct → Bool → Prop} (h : Et X k a G fun G x => P G (!x)) : Et X k (tNot a) G P := fun W H σ Q hs ex q => h W H σ _ hs ex fun x W1 H1 G1 p m => q _ W1 H1 G1 p m
theorem ev_and {a b : TE} {P : Ct → Bool → Prop} (h : Ev X k a G tBl fun G x => (x = true → Ev X k b G tBl P) ∧ (x = false → P G false)) : Ev X k (tAndV a b) G tBl P := fun W H σ Q hs ex q => h W H σ _ hs ex fun v W1 H1 G1 x p m r => by
  refine ⟨x, r, ?_⟩
  cases x with
  | true => exact p.1 rfl W1 H1 σ _ m.hs (ex.mv m.go) fun y W2 H2 G2 x2 p2 m2 => q y W2 H2 G2 x2 p2 (m.trans m2)
  | false => exact q _ W1 H1 G1 false (p.2 rfl) m rfl
theorem ev_not {a : TE} {P : Ct → Bool → Prop} (h : Ev X k a G tBl fun G x => P G (!x)) : Ev X k (tNotV a) G tBl P := fun W H σ Q hs ex q => h W H σ _ hs ex fun v W1 H1 G1 x p m r => ⟨x, r, q _ W1 H1 G1 _ p m rfl⟩
theorem ev_if {c : TT} {a b : TE} {r : Rt α} (h : Et X k c G fun G x => (x = true → EvR X k a G r P) ∧ (x = false → EvR X k b G r P)) : EvR X k (tIf c a b) G r P := fun W H σ Q hs ex q => h W H σ _ hs ex fun x W1 H1 G1 p m => by
  cases x with
  | true => exact p.1 rfl W1 H1 σ _ m.hs (ex.mv m.go) fun y W2 H2 G2 x2 p2 m2 => q y W2 H2 G2 x2 p2 (m.trans m2)
  | false => exact p.2 rfl W1 H1 σ _ m.hs (ex.mv m.go) fun y W2 H2 G2 x2 p2 m2 => q y W2 H2 G2 x2 p2 (m.trans m2)
/-! arguments -/
theorem ea_nil {P : Ct → List Ar → Prop} (p : P G []) : Ea X k tNil G P := fun W H σ Q hs ex q => q [] W H G [] p (.refl hs) .nil
theorem ea_cons {te : TE} {ta : TA} {P : Ct → List Ar → Prop} (h : Ev X k te G t fun G x => Ea X k ta G fun G as => P G (.sh t x :: as)) : Ea X k (tCons te ta) G P := fun W H σ Q hs ex q =>
  h W H σ _ hs ex fun v W1 H1 G1 x p m r => p W1 H1 σ _ m.hs (ex.mv m.go) fun vs W2 H2 G2 as p2 m2 r2 => q (v :: vs) W2 H2 G2 _ p2 (m.trans m2) (.cons (t.mv r m2.go) r2)
/-- a place: a thing of one's own by a path -/
def Pl (te : TE) (G : Ct) (q : List Nat) (O : OT α) (x : α) : Prop := ∀ W H σ, Holds G W H σ → ∃ v, O.R q W H v x ∧ (Hang q σ W H v ∧ Real q) ∧ ∀ (Q : VK), Q v H → te σ H Q
theorem pl_var {i : Nat} {O : OT α} {x : α} (e : G.s[i]? = some (.ow O x)) : Pl (tVar i) G [i] O x := fun W H σ hs => by
  obtain ⟨v, e1, r⟩ := hs.own e
  exact ⟨v, r, ⟨e1, i, [], rfl, hs.lt e⟩, fun Q q => ⟨v, e1, q⟩⟩
theorem ea_own {te : TE} {ta : TA} {q : List Nat} {O : OT α} {x : α} {P : Ct → List Ar → Prop} (pl : Pl te G q O x) (h : Ea X true ta G fun G as => P G (.ow q O x :: as)) : Ea X true (tCons te ta) G P := fun W H σ Q hs ex qq => by
  obtain ⟨v, r, hg, f⟩ := pl W H σ hs
  refine f _ (h W H σ _ hs ex fun vs W2 H2 G2 as p2 m2 r2 => qq (v :: vs) W2 H2 G2 _ p2 m2 (.cons ?_ r2))
  exact Ar.goE (a := .ow q O x) ⟨r, hg⟩ (m2.kp rfl).1
/-! ### calls -/
variable {ρ : Type} {c : CT ρ}
/-- what a call with shared things asks -/
def Cp (X : Xw) (c : CT ρ) (G : Ct) (P : Ct → ρ → Prop) (as : List Ar) : Prop := (c.n = true → G.n = true) ∧ (∀ a ∈ as, a.plain) ∧ ∃ P' XP, c.ct (as.map Ar.sl) P' XP ∧ (∀ os x, P' os x → P G x) ∧ ∀ os e, XP os e → X.xp G e
/-- .. with things of one's own, from slots -/
def Co (X : Xw) (c : CT ρ) (G : Ct) (P : Ct → ρ → Prop) (as : List Ar) : Prop := (c.n = true → G.n = true) ∧ as.length ≤ tmp ∧ (∀ a ∈ as, a.simple) ∧ (as.filterMap Ar.owS).Nodup ∧ (∀ a ∈ as, ∀ i, a.vwS = some i → i ∉ as.filterMap Ar.owS) ∧
  ∃ P' XP, ((∀ a ∈ as, a.vwS = none) ∨ (FlatR c.r ∧ (∀ os x, P' os x → ∀ s ∈ os, s.flat) ∧ ∀ os e, XP os e → (∀ s ∈ os, s.flat) ∧ e.fs = none)) ∧ c.ct (as.map Ar.sl) P' XP ∧ (∀ os x, P' os x → os.length = as.length → P (putA G as os) x) ∧ ∀ os e, XP os e → os.length = as.length → X.xp (putA G as os) e
/-- o.m(..) of an instance of the class at C, what is raised wished for at the slots -/
def tMethS (C : Addr) (m : Str) (sp : Sp) (E : L2.St → XK) (ta : TE) (t : TA) : TE := fun σ H Q => ta σ H fun x H1 => ∃ a dx fs, x = .ref a ∧ H1 a = some (.ins C dx fs) ∧ fs.lookup m = none ∧
  t σ H1 fun vs H2 => sp (x :: vs) H2 Q (E σ)
/-- an instance of the class at C, its attribute m not its own -/
def Inst (C : Addr) (m : Str) (t : Ty α) : Prop := ∀ W H v x, OKW W H → t.R W H v x → ∃ a dx fs, v = .ref a ∧ H a = some (.ins C dx fs) ∧ fs.lookup m = none
def InstO (C : Addr) (m : Str) (O : OT α) : Prop := ∀ q W H v x, OKW W H → O.R q W H v x → ∃ a dx fs, v = .ref a ∧ H a = some (.ins C dx fs) ∧ fs.lookup m = none
end
/-! ### statements -/
/-- a def's wishes: what is wanted of what it hands back -/
structure Fx (ρ : Type) where
  r : Rt ρ
  rt : Ct → ρ → Prop
  X : Xw
def Blk {ρ : Type} (F : Fx ρ) (ts : TS) (G : Ct) (N B C : Ct → Prop) : Prop :=
  ∀ W0 H0 W H σ (D : Ends), Go W0 H0 W H → Holds G W H σ →
    (∀ G' W' H' σ', N G' → Go W0 H0 W' H' → Holds G' W' H' σ' → D.nx σ' H') →
    (∀ G' W' H' σ', B G' → Go W0 H0 W' H' → Holds G' W' H' σ' → D.bk σ' H') →
    (∀ G' W' H' σ', C G' → Go W0 H0 W' H' → Holds G' W' H' σ' → D.ct σ' H') →
    (∀ v G' W' H' σ' x, F.rt G' x → Go W0 H0 W' H' → Holds G' W' H' σ' → F.r.R W' H' v x → D.rt v H') →
    (∀ e d G' W' H' σ', F.X.xp G' e → Go W0 H0 W' H' → Holds G' W' H' σ' → ErAt W' H' e d → F.X.E (.ref e.C) d σ' H') → ts D σ H
theorem exo {X : Xw} {W0 W : Wd} {H0 H : Hp} {σ : L2.St} (ex : ∀ e d G' W' H' σ', X.xp G' e → Go W0 H0 W' H' → Holds G' W' H' σ' → ErAt W' H' e d → X.E (.ref e.C) d σ' H') (g : Go W0 H0 W H) : X.ok W H σ := fun e d W' H' G' p g' hs => ex e d G' W' H' σ p (g.trans g') hs
section
variable {ρ : Type} {F : Fx ρ} {G : Ct} {N B C : Ct → Prop} {α β γ : Type} {t : Ty α} {u : Ty β}
theorem blk_next (h : N G) : Blk F tNext G N B C := fun W0 H0 W H σ D g hs n _ _ _ _ => n G W H σ h g hs
theorem blk_seq {a b : TS} (h : Blk F a G (fun G' => Blk F b G' N B C) B C) : Blk F (tSeq a b) G N B C := fun W0 H0 W H σ D g hs n bk ct rt ex =>
  h W0 H0 W H σ { D with nx := b D } g hs (fun G' W' H' σ' hb g' hs' => hb W0 H0 W' H' σ' D g' hs' n bk ct rt ex) bk ct rt ex
theorem Blk.mono {a : TS} {N' B' C' : Ct → Prop} (h : Blk F a G N B C) (hn : ∀ G', N G' → N' G') (hb : ∀ G', B G' → B' G') (hc : ∀ G', C G' → C' G') : Blk F a G N' B' C' := fun W0 H0 W H σ D g hs n bk ct rt ex =>
  h W0 H0 W H σ D g hs (fun G' W' H' σ' q => n G' W' H' σ' (hn G' q)) (fun G' W' H' σ' q => bk G' W' H' σ' (hb G' q)) (fun G' W' H' σ' q => ct G' W' H' σ' (hc G' q)) rt ex
/-- what follows is shown once -/
theorem blk_cut {a b : TS} (M : Ct → Prop) (h : Blk F a G M B C) (h2 : ∀ G', M G' → Blk F b G' N B C) : Blk F (tSeq a b) G N B C := blk_seq (h.mono h2 (fun _ q => q) fun _ q => q)
theorem blk_ret {te : TE} (h : EvR F.X false te G F.r F.rt) : Blk F (tRet te) G N B C := fun W0 H0 W H σ D g hs _ _ _ rt ex => h W H σ _ hs (exo ex g) fun v W' H' G' x p m r => rt v G' W' H' σ x p (g.trans m.go) m.hs r
theorem blk_if {c : TT} {a b : TS} (h : Et F.X false c G fun G x => (x = true → Blk F a G N B C) ∧ (x = false → Blk F b G N B C)) : Blk F (tIfS c a b) G N B C := fun W0 H0 W H σ D g hs n bk ct rt ex => h W H σ _ hs (exo ex g) fun x W1 H1 G1 p m => by
  cases x with
  | true => exact p.1 rfl W0 H0 W1 H1 σ D (g.trans m.go) m.hs n bk ct rt ex
  | false => exact p.2 rfl W0 H0 W1 H1 σ D (g.trans m.go) m.hs n bk ct rt ex
theorem blk_drop {te : TE} {r : Rt α} (h : EvR F.X false te G r fun G _ => N G) : Blk F (tDrop te) G N B C := fun W0 H0 W H σ D g hs n _ _ _ ex => h W H σ _ hs (exo ex g) fun v W' H' G' x p m r => n G' W' H' σ p (g.trans m.go) m.hs
/-! ### targets -/
def Tg (g : TG) (G : Ct) (t : Ty α) (x : α) (vs : List Nat) (N : Ct → Prop) : Prop :=
  ∀ W H σ v (Q : L2.St → Hp → Prop), Holds G W H σ → t.R W H v x → (∀ G' σ', N G' → Holds G' W H σ' → σ'.length = σ.length → (∀ i, i ∉ vs → σ'[i]? = σ[i]?) → Q σ' H) → g v σ H Q
theorem tg_name {i : Nat} {x : α} {vs : List Nat} (hi : i ∈ vs) (fr : G.free i) (h : N (G.set i (.sh t x))) : Tg (gName i) G t x vs N := fun W H σ v Q hs r q => q _ _ h (hs.setSh i r fr) (by rw [List.length_set]) fun j hj => List.getElem?_set_ne (fun e => hj (by rw [← e]; exact hi))
theorem tg_tup2 {K : PySem.W.Frag} {g1 g2 : TG} {x : α × β} {vs : List Nat} (h : Tg g1 G t x.1 vs fun G1 => Tg g2 G1 u x.2 vs N) : Tg (gTup K 2 (gCons g1 (gCons g2 gNil))) G (tT2 K t u) x vs N := fun W H σ v Q hs r q => by
  obtain ⟨a, p, w, rfl, sq, r1, r2⟩ := r
  refine ⟨a, [p, w], rfl, sq.t, rfl, p, [w], rfl, h W H σ p _ hs r1 fun G1 σ1 h1 hs1 l1 k1 => ⟨w, [], rfl, h1 W H σ1 w _ hs1 r2 fun G2 σ2 h2 hs2 l2 k2 => ⟨rfl, q G2 σ2 h2 hs2 (l2.trans l1) fun i hi => (k2 i hi).trans (k1 i hi)⟩⟩⟩
theorem blk_asg {te : TE} {g : TG} {vs : List Nat} (h : Ev F.X false te G t fun G x => Tg g G t x vs N) : Blk F (tAsg te g) G N B C := fun W0 H0 W H σ D g0 hs n _ _ _ ex => h W H σ _ hs (exo ex g0) fun v W1 H1 G1 x p m r => p W1 H1 σ v _ m.hs r fun G' σ' q hs' _ _ => n G' W1 H1 σ' q (g0.trans m.go) hs'
theorem free_of {G : Ct} {i : Nat} (h : (G.p[i]?).join = none) : G.free i := fun v e => by rw [e] at h; cases h
theorem blk_set {te : TE} {i : Nat} (h : Ev F.X false te G t fun G1 x => (G1.p[i]?).join = none ∧ N (G1.set i (.sh t x))) : Blk F (tAsg te (gName i)) G N B C := blk_asg (vs := [i]) (EvR.mono h fun _ _ q => tg_name List.mem_cons_self (free_of q.1) q.2)
/-! ### one's own -/
/-- what is new gets its place -/
def seat (W : Wd) (i : Nat) : Wd := fun b => match W b with
  | .ow (j :: r) => if j = tmp then .ow (i :: r) else .ow (j :: r)
  | w => w
theorem seat_tmp {W : Wd} {i : Nat} {b : Addr} {r : List Nat} (h : W b = .ow (tmp :: r)) : seat W i b = .ow (i :: r) := by unfold seat; rw [h]; simp
theorem seat_ne {W : Wd} {i : Nat} {b : Addr} (h : ∀ r, W b ≠ .ow (tmp :: r)) : seat W i b = W b := by
  unfold seat
  cases e : W b with
  | ow p =>
    cases p with
    | nil => rfl
    | cons j r =>
      by_cases n : j = tmp
      · subst n; exact absurd e (h r)
      · simp [n]
  | _ => rfl
section
variable {W : Wd} {H : Hp} {i : Nat}
theorem seat_own {b : Addr} {p : List Nat} (h : seat W i b = .ow p) : ∃ p', W b = .ow p' := by
  by_cases n : ∃ r, W b = .ow (tmp :: r)
  · obtain ⟨r, e⟩ := n; exact ⟨_, e⟩
  · rw [seat_ne fun r e => n ⟨r, e⟩] at h; exact ⟨_, h⟩
theorem seat_non {b : Addr} {w : Md} (nw : ∀ p, w ≠ .ow p) : seat W i b = w ↔ W b = w := by
  by_cases n : ∃ r, W b = .ow (tmp :: r)
  · obtain ⟨r, e⟩ := n
    rw [seat_tmp e, e]
    exact ⟨fun z => absurd z.symm (nw _), fun z => absurd z.symm (nw _)⟩
  · rw [seat_ne fun r e => n ⟨r, e⟩]
theorem seat_lk {b : Addr} : seat W i b = .lk ↔ W b = .lk := seat_non fun _ => (fun z => by cases z)
theorem seat_sh {b : Addr} : seat W i b = .sh ↔ W b = .sh := seat_non fun _ => (fun z => by cases z)
theorem seat_fo {b : Addr} : seat W i b = .fo ↔ W b = .fo := seat_non fun _ => (fun z => by cases z)
theorem seat_st {b : Addr} {φ : HO → Prop} : seat W i b = .st φ ↔ W b = .st φ := seat_non fun _ => (fun z => by cases z)
theorem seat_ok (ok : OKW W H) : OKW (seat W i) H := by
  refine ⟨fun b φ h => ok.st b φ (seat_st.mp h), fun b h => ok.al b fun e => h (seat_sh.mpr e), fun b p od u w e => ?_, fun b h => ok.lk b (seat_lk.mp h), fun b od u w h => ok.fo b od u (seat_fo.mp w) h, fun b vs h => seat_sh.mpr (ok.tp b vs h)⟩
  obtain ⟨p', w⟩ := seat_own w
  exact ok.nf b p' od u w e
theorem seat_mv : Mv W H (seat W i) H := by
  refine ⟨fun b o h => ?_, fun b vs w h => ⟨seat_sh.mpr w, h⟩, fun b φ h => seat_st.mpr h⟩
  unfold RdW
  rw [seat_ne fun r => h.no]
  exact h
theorem seat_go : Go W H (seat W i) H := ⟨fun b o h w => ⟨h, seat_ne fun r e => by rcases w with w | w | w <;> (rw [w] at e; cases e)⟩, fun b φ h => seat_st.mpr h, fun b h => seat_lk.mp h⟩
end
theorem Holds.seat {W : Wd} {H : Hp} {σ : L2.St} {i : Nat} {O : OT α} {x : α} {v : V} (h : Holds G W H σ) (r : O.R [tmp] W H v x) (fr : G.free i) : Holds (G.set i (.ow O x)) (seat W i) H (σ.set i (some v)) := by
  have h1 : Holds G (Y.seat W i) H σ := ⟨h.len, seat_ok h.ok, fun j s e a b => (h.sl j s e a b).mv (fun c o q w eo => ⟨by
    rw [seat_ne fun r z => by
      rw [w] at z
      exact h.lt a (List.cons.inj (Md.ow.inj z)).1]
    exact w, eo⟩) seat_mv, fun n b w => h.nl n b (seat_lk.mp w), h.pn, h.sm⟩
  exact h1.set i ⟨v, rfl, O.mv (p' := [i]) r (fun b o q w e => ⟨seat_tmp w, e⟩) seat_mv⟩ fr
/-- name = something new, one's own -/
theorem blk_setO {te : TE} {i : Nat} {O : OT α} (h : EvR F.X false te G (.ow O) fun G1 x => (G1.p[i]?).join = none ∧ N (G1.set i (.ow O x))) : Blk F (tAsg te (gName i)) G N B C := fun W0 H0 W H σ D g0 hs n _ _ _ ex => h W H σ _ hs (exo ex g0) fun v W1 H1 G1 x ⟨hf, hn⟩ m r => n _ _ H1 _ hn ((g0.trans m.go).trans seat_go) (m.hs.seat r (free_of hf))
/-- freezing: what hangs in a slot is shared from here -/
def thaw (W : Wd) (i : Nat) : Wd := fun b => match W b with
  | .ow (j :: r) => if j = i then .sh else .ow (j :: r)
  | w => w
theorem thaw_at {W : Wd} {i : Nat} {b : Addr} {r : List Nat} (h : W b = .ow (i :: r)) : thaw W i b = .sh := by unfold thaw; rw [h]; simp
theorem thaw_ne {W : Wd} {i : Nat} {b : Addr} (h : ∀ r, W b ≠ .ow (i :: r)) : thaw W i b = W b := by
  unfold thaw
  cases e : W b with
  | ow p =>
    cases p with
    | nil => rfl
    | cons j r =>
      by_cases n : j = i
      · subst n; exact absurd e (h r)
      · simp [n]
  | _ => rfl
section
variable {W : Wd} {H : Hp} {i : Nat}
theorem thaw_own {b : Addr} {p : List Nat} (h : thaw W i b = .ow p) : W b = .ow p := by
  by_cases n : ∃ r, W b = .ow (i :: r)
  · obtain ⟨r, e⟩ := n; rw [thaw_at e] at h; cases h
  · rw [thaw_ne fun r e => n ⟨r, e⟩] at h; exact h
theorem thaw_non {b : Addr} {w : Md} (nw : ∀ p, w ≠ .ow p) (ns : w ≠ .sh) : thaw W i b = w ↔ W b = w := by
  by_cases n : ∃ r, W b = .ow (i :: r)
  · obtain ⟨r, e⟩ := n
    rw [thaw_at e, e]
    exact ⟨fun z => absurd z.symm ns, fun z => absurd z.symm (nw _)⟩
  · rw [thaw_ne fun r e => n ⟨r, e⟩]
theorem thaw_sh {b : Addr} (h : W b = .sh) : thaw W i b = .sh := by rw [thaw_ne fun r e => by rw [h] at e; cases e]; exact h
theorem thaw_lk {b : Addr} : thaw W i b = .lk ↔ W b = .lk := thaw_non (fun _ => fun z => by cases z) fun z => by cases z
theorem thaw_fo {b : Addr} : thaw W i b = .fo ↔ W b = .fo := thaw_non (fun _ => fun z => by cases z) fun z => by cases z
theorem thaw_st {b : Addr} {φ : HO → Prop} : thaw W i b = .st φ ↔ W b = .st φ := thaw_non (fun _ => fun z => by cases z) fun z => by cases z
theorem thaw_ok (ok : OKW W H) : OKW (thaw W i) H := by
  refine ⟨fun b φ h => ok.st b φ (thaw_st.mp h), fun b h => ok.al b fun e => h (thaw_sh e), fun b p od u w e => ok.nf b p od u (thaw_own w) e, fun b h => ok.lk b (thaw_lk.mp h), fun b od u w h => ok.fo b od u (thaw_fo.mp w) h, fun b vs h => thaw_sh (ok.tp b vs h)⟩
theorem thaw_mv : Mv W H (thaw W i) H := by
  refine ⟨fun b o h => ?_, fun b vs w h => ⟨thaw_sh w, h⟩, fun b φ h => thaw_st.mpr h⟩
  unfold RdW
  rw [thaw_ne fun r => h.no]
  exact h
theorem thaw_go : Go W H (thaw W i) H := ⟨fun b o h w => ⟨h, thaw_ne fun r e => by rcases w with w | w | w <;> (rw [w] at e; cases e)⟩, fun b φ h => thaw_st.mpr h, fun b h => thaw_lk.mp h⟩
theorem thaw_goE : GoE W H (thaw W tmp) H := ⟨fun b o h _ n => ⟨h, thaw_ne n⟩, fun b φ h => thaw_st.mpr h, fun b h => thaw_lk.mp h⟩
end
theorem Holds.thaw {W : Wd} {H : Hp} {σ : L2.St} {i : Nat} {O : OT α} {x : α} (h : Holds G W H σ) (hi : G.s[i]? = some (.ow O x)) : Holds (G.set i (.sh O.sv x)) (thaw W i) H σ := by
  obtain ⟨v, ev, r⟩ := h.own hi
  refine ⟨by show σ.length = (G.s.set i _).length; rw [List.length_set]; exact h.len, thaw_ok h.ok, fun j s e (h1 : (G.s.set i (.sh O.sv x))[j]? = some s) h2 => ?_, fun n b w => h.nl n b (thaw_lk.mp w), h.pn, by show (G.s.set i _).length ≤ tmp; rw [List.length_set]; exact h.sm⟩
  rcases set_key h1 with ⟨rfl, rfl⟩ | ⟨n1, g1⟩
  · rw [ev] at h2
    cases h2
    exact ⟨v, rfl, O.fz r (fun b o q w e => ⟨thaw_at w, e⟩) thaw_mv⟩
  · exact (h.sl j s e g1 h2).mv (fun b o q w eo => ⟨by
      rw [thaw_ne fun r z => by rw [w] at z; exact n1 (List.cons.inj (Md.ow.inj z)).1]
      exact w, eo⟩) thaw_mv
theorem blk_frz {ts : TS} (i : Nat) {O : OT α} {x : α} (hi : G.s[i]? = some (.ow O x)) (h : Blk F ts (G.set i (.sh O.sv x)) N B C) : Blk F ts G N B C := fun W0 H0 W H σ D g hs n bk ct rt ex => h W0 H0 _ H σ D (g.trans thaw_go) (hs.thaw hi) n bk ct rt ex
/-- .. of something new that hangs nowhere -/
theorem EvR.share {X : Xw} {k : Bool} {te : TE} {O : OT α} {P : Ct → α → Prop} (h : EvR X k te G (.ow O) P) : Ev X k te G O.sv P := fun W H σ Q hs ex q => h W H σ Q hs ex fun v W1 H1 G1 x p m r =>
  q v (Y.thaw W1 tmp) H1 G1 x p (m.thenE thaw_goE (thaw_ok m.hs.ok)) (O.fz r (fun b o q w e => ⟨thaw_at w, e⟩) thaw_mv)
end
end Y
end

section
set_option maxRecDepth 100000
set_option maxHeartbeats 4000000
/-! a text is no dict; any value looked for among texts -/
namespace Own
open PySem PySem.Spec PyProof.Rows L2 SeqAt AutoSeq1 MeetsSeq
section
variable {A : Around} {s : Shared}
end
/-- a list, a tuple or a dict is none of some texts -/
def RefK (K : PySem.W.Frag) (H : Hp) (b : Addr) : Prop := (∃ xs, SqL K H b xs) ∨ (∃ xs, SqT K H b xs) ∨ ∃ kvs, Rd H b (.dK kvs)
def rInRef (K : PySem.W.Frag) (neg : Bool) : R2 := fun x y H Q => ∃ (b p : Addr) (ns : List Str), x = .ref b ∧ y = .ref p ∧ RefK K H b ∧ (SqL K H p (ns.map V.str) ∨ SqT K H p (ns.map V.str)) ∧ Q (.bl neg) H
section
variable {X : Cx} {pins : List (Addr × Obj)} {σ : L2.St} {H : Hp} {s : Shared}
end
end Own
end

section
set_option maxRecDepth 100000
set_option maxHeartbeats 4000000
/-! What values do: displays, items, built-in calls, slices, texts, order. -/
namespace Y
open PySem PySem.Spec PyProof.Rows L2
section
variable {α β γ : Type} {R : α → β → Prop}
theorem paired_get {xs : List α} {ys : List β} (p : Paired R xs ys) : ∀ {i : Nat} {y : β}, ys[i]? = some y → ∃ x, xs[i]? = some x ∧ R x y := by
  induction p with
  | nil => intro i y h; simp at h
  | cons r _ ih =>
    intro i y h
    cases i with
    | zero => cases h; exact ⟨_, rfl, r⟩
    | succ i => exact ih (i := i) h
theorem paired_getL {xs : List α} {ys : List β} (p : Paired R xs ys) : ∀ {i : Nat} {x : α}, xs[i]? = some x → ∃ y, ys[i]? = some y ∧ R x y := by
  induction p with
  | nil => intro i y h; simp at h
  | cons r _ ih =>
    intro i y h
    cases i with
    | zero => cases h; exact ⟨_, rfl, r⟩
    | succ i => exact ih (i := i) h
theorem paired_at {xs : List α} {ys : List β} (p : Paired R xs ys) {i : Int} {y : β} (h : atI ys i = some y) : ∃ x, atI xs i = some x ∧ R x y := by
  unfold atI at h ⊢
  rw [p.length]
  cases e : ixN ys.length i with
  | none => rw [e] at h; cases h
  | some j =>
    rw [e] at h
    exact paired_get p h
theorem paired_snoc' {α β : Type} {R : α → β → Prop} : ∀ {xs : List α} {ys : List β} {x : α} {y : β}, Paired R xs ys → R x y → Paired R (xs ++ [x]) (ys ++ [y])
  | _, _, _, _, .nil, r => .cons r .nil
  | _, _, _, _, .cons a p, r => .cons a (paired_snoc' p r)
theorem paired_eq {f : β → α} : ∀ {xs : List α} {ys : List β}, Paired (fun x y => x = f y) xs ys → xs = ys.map f
  | _, _, .nil => rfl
  | _, _, .cons r p => by rw [List.map_cons, ← paired_eq p, r]
end
section
variable {K : PySem.W.Frag} {X : Xw} {k : Bool} {G : Ct} {α β γ δ : Type} {t : Ty α} {u : Ty β} {z : Ty γ} {y : Ty δ}
/-- something new hangs nowhere yet -/
theorem newT {W : Wd} {H : Hp} (ok : OKW W H) {p : Addr} {o : HO} (hp : H p = none) (nt : NoTup o) : GoE W H (setW W p (.ow [tmp])) (upd H p o) ∧ OKW (setW W p (.ow [tmp])) (upd H p o) := by
  have nf := nt.nf
  have fr := ok.fresh hp
  have o1 := ok.new (o := o) hp nf
  refine ⟨⟨fun b u h _ _ => ?_, fun b φ h => ?_, fun b h => ?_⟩, ⟨fun b φ h => ?_, fun b h => ?_, fun b q od v w h => ?_, fun b h => ?_, fun b od v w h => ?_, fun b vs h => ?_⟩⟩
  · have n := ne_of_none h hp
    exact ⟨by rw [upd_ne n]; exact h, setW_ne n⟩
  · rw [setW_ne (fun e => by rw [e, fr] at h; cases h)]; exact h
  · by_cases n : b = p
    · rw [n, setW_same] at h; cases h
    · rw [setW_ne n] at h; exact h
  · by_cases n : b = p
    · rw [n, setW_same] at h; cases h
    · rw [setW_ne n] at h; exact o1.st b φ h
  · by_cases n : b = p
    · exact ⟨o, by rw [n, upd_same]⟩
    · rw [setW_ne n] at h; exact o1.al b h
  · by_cases n : b = p
    · rw [n, upd_same] at h; cases h; exact nf
    · rw [setW_ne n] at w; exact o1.nf b q od v w h
  · by_cases n : b = p
    · rw [n, setW_same] at h; cases h
    · rw [setW_ne n] at h; exact o1.lk b h
  · by_cases n : b = p
    · rw [n, upd_same] at h; cases h; exact nf.elim
    · rw [setW_ne n] at w; exact o1.fo b od v w h
  · by_cases n : b = p
    · rw [n, upd_same] at h; cases h; exact nt.elim
    · rw [setW_ne n]; exact o1.tp b vs h
theorem ArgsOk.goP {σ : L2.St} {W W1 : Wd} {H H1 : Hp} {vs : List V} {as : List Ar} (h : ArgsOk σ W H vs as) (p : ∀ a ∈ as, a.plain) (g : GoE W H W1 H1) : ArgsOk σ W1 H1 vs as := h.go p g.go.mv
/-! ### displays -/
theorem ev_tup {T : Ty γ} {ta : TA} {P : Ct → γ → Prop} (h : Ea X k ta G fun G as => as.length ≤ sizeLine ∧ (∀ a ∈ as, a.plain) ∧ ∃ x, P G x ∧ ∀ σ W H vs a, ArgsOk σ W H vs as → RdW W H a (.tup vs) → T.R W H (.ref a) x) : Ev X k (tTup ta) G T P := fun W H σ Q hs ex q =>
  h W H σ _ hs ex fun vs W1 H1 G1 as ⟨hl, pl, x, p, r⟩ m ha => ⟨by rw [ha.len]; exact hl, fun a hp => by
    have g2 := GoE.new (W := W1) (o := .tup vs) hp
    exact q _ W1 _ G1 x p (m.thenE g2 (m.hs.ok.new hp trivial)) (r σ W1 _ vs a (ha.goP pl g2) (rdNew m.hs.ok hp))⟩
/-- a list that is shared -/
theorem ev_lst {T : Ty γ} {ta : TA} {P : Ct → γ → Prop} (h : Ea X k ta G fun G as => as.length ≤ sizeLine ∧ (∀ a ∈ as, a.plain) ∧ ∃ x, P G x ∧ ∀ σ W H vs a, ArgsOk σ W H vs as → W a = .sh ∧ H a = some (.lst vs) → T.R W H (.ref a) x) : Ev X k (L2.tLst ta) G T P := fun W H σ Q hs ex q =>
  h W H σ _ hs ex fun vs W1 H1 G1 as ⟨hl, pl, x, p, r⟩ m ha => ⟨by rw [ha.len]; exact hl, fun a hp => by
    have g2 := GoE.new (W := W1) (o := .lst vs) hp
    exact q _ W1 _ G1 x p (m.thenE g2 (m.hs.ok.new hp trivial)) (r σ W1 _ vs a (ha.goP pl g2) ⟨m.hs.ok.fresh hp, upd_same⟩)⟩
theorem small {n : Nat} (h : n ≤ 1000) : n ≤ sizeLine := Nat.le_trans h (by decide)
theorem plain_cons {t : Ty α} {x : α} {as : List Ar} (h : ∀ a ∈ as, a.plain) : ∀ a ∈ Ar.sh t x :: as, a.plain := fun a ha => by
  rcases List.mem_cons.mp ha with rfl | ha
  · trivial
  · exact h a ha
theorem plain_nil : ∀ a ∈ ([] : List Ar), a.plain := fun a ha => by simp at ha
theorem ev_t2 {ta tb : TE} {P : Ct → α × β → Prop} (h : Ev X k ta G t fun G x => Ev X k tb G u fun G y => P G (x, y)) : Ev X k (tTup (tCons ta (tCons tb tNil))) G (tT2 K t u) P :=
  ev_tup (ea_cons (EvR.mono h fun G x hx => ea_cons (EvR.mono hx fun G y p => ea_nil ⟨small (show 2 ≤ 1000 by decide), plain_cons (plain_cons plain_nil), (x, y), p, fun σ W H vs a ha rd => by
    cases ha with
    | cons r1 ha => cases ha with
      | cons r2 ha => cases ha; exact ⟨a, _, _, rfl, rd, r1, r2⟩⟩)))
theorem ev_l3 {ta tb tc : TE} {P : Ct → α × β × γ → Prop} (h : Ev X k ta G t fun G x => Ev X k tb G u fun G y => Ev X k tc G z fun G w => P G (x, y, w)) : Ev X k (L2.tLst (tCons ta (tCons tb (tCons tc tNil)))) G (tL3 K t u z) P :=
  ev_lst (ea_cons (EvR.mono h fun G x hx => ea_cons (EvR.mono hx fun G y hy => ea_cons (EvR.mono hy fun G w p => ea_nil ⟨small (show 3 ≤ 1000 by decide), plain_cons (plain_cons (plain_cons plain_nil)), (x, y, w), p, fun σ W H vs a ha rd => by
    cases ha with
    | cons r1 ha => cases ha with
      | cons r2 ha => cases ha with
        | cons r3 ha => cases ha; exact ⟨a, _, _, _, rfl, rd, r1, r2, r3⟩⟩))))
/-- items of one kind -/
def Es (X : Xw) (k : Bool) (ta : TA) (G : Ct) (t : Ty α) (P : Ct → List α → Prop) : Prop :=
  ∀ W H σ (Q : List V → Hp → Prop), Holds G W H σ → X.ok W H σ → (∀ vs W' H' G' xs, P G' xs → Mo k σ G W H G' W' H' → Paired (t.R W' H') vs xs → Q vs H') → ta σ H Q
theorem es_nil {P : Ct → List α → Prop} (p : P G []) : Es X k tNil G t P := fun W H σ Q hs ex q => q [] W H G [] p (.refl hs) .nil
theorem es_cons {te : TE} {ta : TA} {P : Ct → List α → Prop} (h : Ev X k te G t fun G x => Es X k ta G t fun G xs => P G (x :: xs)) : Es X k (tCons te ta) G t P := fun W H σ Q hs ex q =>
  h W H σ _ hs ex fun v W1 H1 G1 x p m r => p W1 H1 σ _ m.hs (ex.mv m.go) fun vs W2 H2 G2 xs p2 m2 r2 => q (v :: vs) W2 H2 G2 _ p2 (m.trans m2) (.cons (t.mv r m2.go) r2)
/-- [a, b, ..] -/
theorem ev_list {ta : TA} {P : Ct → List α → Prop} (h : Es X k ta G t fun G xs => xs.length ≤ sizeLine ∧ P G xs) : EvR X k (L2.tLst ta) G (.ow (oL K t)) P := fun W H σ Q hs ex q =>
  h W H σ _ hs ex fun vs W1 H1 G1 xs ⟨hl, p⟩ m pp => ⟨by rw [pp.length]; exact hl, fun a hp => by
    obtain ⟨g, ok⟩ := newT m.hs.ok hp (o := .lst vs) trivial
    exact q _ _ _ G1 xs p (m.thenE g ok) ⟨a, vs, rfl, setW_same, upd_same, L2.Paired.mapP pp fun _ _ r => t.mvE r g⟩⟩
/-- {} -/
theorem ev_dnew {κ : Type} (ke : Ky κ) (t : Ty α) {P : Ct → List (κ × α) → Prop} (h : P G []) : EvR X k tDNewK G (.ow (oD ke t)) P := fun W H σ Q hs ex q => fun p hp => by
  obtain ⟨g, ok⟩ := newT hs.ok hp (o := .dK []) trivial
  exact q _ _ _ G [] h (.goE hs g ok) ⟨p, [], rfl, setW_same, upd_same, .nil⟩
/-! ### items -/
theorem ro_ixL : RO (rIxL K) (tLs K t) tInt (.sh t) (fun xs i P => ∃ x, atI xs i = some x ∧ P x) := by
  rintro W H v w xs i Q P ok ⟨a, vs, rfl, sq, p⟩ rfl ⟨x, hx, px⟩ q
  obtain ⟨y, hy, r⟩ := paired_at p hx
  exact ⟨a, vs, i, y, rfl, rfl, sq.l, hy, q y W H x px .refl ok r⟩
/-- the item at a written place of a tuple (a list) of things of different kinds -/
theorem ro_t20 : RO (rIxT K) (tT2 K t u) tInt (.sh t) (fun x i P => i = 0 ∧ P x.1) := by
  rintro W H v w xs i Q P ok ⟨a, p, p2, rfl, sq, r1, r2⟩ rfl ⟨rfl, px⟩ q
  exact ⟨a, _, 0, p, rfl, rfl, sq.t, rfl, q p W H _ px .refl ok r1⟩
theorem ro_t21 : RO (rIxT K) (tT2 K t u) tInt (.sh u) (fun x i P => i = 1 ∧ P x.2) := by
  rintro W H v w xs i Q P ok ⟨a, p, p2, rfl, sq, r1, r2⟩ rfl ⟨rfl, px⟩ q
  exact ⟨a, _, 1, p2, rfl, rfl, sq.t, rfl, q p2 W H _ px .refl ok r2⟩
theorem ro_l30 : RO (rIxL K) (tL3 K t u z) tInt (.sh t) (fun x i P => i = 0 ∧ P x.1) := by
  rintro W H v w xs i Q P ok ⟨a, p, p2, p3, rfl, sq, r1, r2, r3⟩ rfl ⟨rfl, px⟩ q
  exact ⟨a, _, 0, p, rfl, rfl, sq.l, rfl, q p W H _ px .refl ok r1⟩
theorem ro_l31 : RO (rIxL K) (tL3 K t u z) tInt (.sh u) (fun x i P => i = 1 ∧ P x.2.1) := by
  rintro W H v w xs i Q P ok ⟨a, p, p2, p3, rfl, sq, r1, r2, r3⟩ rfl ⟨rfl, px⟩ q
  exact ⟨a, _, 1, p2, rfl, rfl, sq.l, rfl, q p2 W H _ px .refl ok r2⟩
theorem ro_l32 : RO (rIxL K) (tL3 K t u z) tInt (.sh z) (fun x i P => i = 2 ∧ P x.2.2) := by
  rintro W H v w xs i Q P ok ⟨a, p, p2, p3, rfl, sq, r1, r2, r3⟩ rfl ⟨rfl, px⟩ q
  exact ⟨a, _, 2, p3, rfl, rfl, sq.l, rfl, q p3 W H _ px .refl ok r3⟩
/-! ### ints, texts, truths -/
theorem ro_I {C : Int → Int → Prop} {g : Int → Int → Int} : RO (rI C fun i j => .int (g i j)) tInt tInt (.sh tInt) (fun i j P => C i j ∧ P (g i j)) := by
  rintro W H v w x y Q P ok rfl rfl ⟨c, p⟩ q
  exact ⟨_, _, rfl, rfl, c, q _ W H _ p .refl ok rfl⟩
theorem ro_I0 {g : Int → Int → Int} : RO (rI0 fun i j => .int (g i j)) tInt tInt (.sh tInt) (fun i j P => P (g i j)) := by
  rintro W H v w x y Q P ok rfl rfl p q
  exact ⟨_, _, rfl, rfl, q _ W H _ p .refl ok rfl⟩
theorem ro_B0 {g : Int → Int → Bool} : RO (rI0 fun i j => .bl (g i j)) tInt tInt (.sh tBl) (fun i j P => P (g i j)) := by
  rintro W H v w x y Q P ok rfl rfl p q
  exact ⟨_, _, rfl, rfl, q _ W H _ p .refl ok rfl⟩
/-- values of scalars -/
structure Sc (t : Ty α) where
  f : α → V
  ok : ∀ W H v x, t.R W H v x ↔ v = f x
  eq : ∀ x y, f x = f y ↔ x = y
  fl : ∀ x, flatV (f x) = true
  sc : ∀ x y, scal (f x) (f y) = true
def scI : Sc tInt := ⟨V.int, fun _ _ _ _ => Iff.rfl, fun _ _ => ⟨fun h => V.int.inj h, fun h => by rw [h]⟩, fun _ => rfl, fun _ _ => rfl⟩
def scS : Sc tStr := ⟨V.str, fun _ _ _ _ => Iff.rfl, fun _ _ => ⟨fun h => V.str.inj h, fun h => by rw [h]⟩, fun _ => rfl, fun _ _ => rfl⟩
def scB : Sc tBl := ⟨V.bl, fun _ _ _ _ => Iff.rfl, fun _ _ => ⟨fun h => V.bl.inj h, fun h => by rw [h]⟩, fun _ => rfl, fun _ _ => rfl⟩
theorem paired_f {W : Wd} {H : Hp} (s : Sc t) {vs : List V} {xs : List α} (p : Paired (t.R W H) vs xs) : vs = xs.map s.f := paired_eq (L2.Paired.mapP p fun u x r => (s.ok W H u x).mp r)
end
end Y
end

section
set_option maxRecDepth 100000
set_option maxHeartbeats 4000000
/-! Comparisons, membership, built-in calls, slices, texts, order, dicts. -/
namespace Y
open PySem PySem.Spec PyProof.Rows L2
section
variable {K : PySem.W.Frag} {X : Xw} {k : Bool} {G : Ct} {α β γ δ : Type} {t : Ty α} {u : Ty β} {z : Ty γ}
/-! ### == of scalars -/
theorem ro_eqS' (s : Sc t) [DecidableEq α] : RO rEq t t (.sh tBl) (fun i j P => P (decide (i = j))) := by
  rintro W H v w x y Q P ok rv rw p q
  obtain rfl := (s.ok _ _ _ _).mp rv
  obtain rfl := (s.ok _ _ _ _).mp rw
  refine ⟨s.sc x y, ?_⟩
  rw [show decide (s.f x = s.f y) = decide (x = y) from decide_eq_decide.mpr (s.eq x y)]
  exact q _ W H _ p .refl ok rfl
theorem ro_neS' (s : Sc t) [DecidableEq α] : RO rNe t t (.sh tBl) (fun i j P => P (!decide (i = j))) := by
  rintro W H v w x y Q P ok rv rw p q
  obtain rfl := (s.ok _ _ _ _).mp rv
  obtain rfl := (s.ok _ _ _ _).mp rw
  refine ⟨s.sc x y, ?_⟩
  rw [show decide (s.f x = s.f y) = decide (x = y) from decide_eq_decide.mpr (s.eq x y)]
  exact q _ W H _ p .refl ok rfl
theorem ro_eqI : RO rEq tInt tInt (.sh tBl) (fun i j P => P (decide (i = j))) := ro_eqS' scI
theorem ro_neI : RO rNe tInt tInt (.sh tBl) (fun i j P => P (!decide (i = j))) := ro_neS' scI
/-! ### built-in calls of one thing -/
def RC1 (r : List V → Hp → VK → Prop) (t : Ty α) (u : Rt β) (n : Bool) (C : α → (β → Prop) → Prop) : Prop :=
  ∀ W H v x (Q : VK) (P : β → Prop), OKW W H → (n = true → ∀ b, W b ≠ .lk) → t.R W H v x → C x P → (∀ a W' H' c, P c → GoE W H W' H' → OKW W' H' → u.R W' H' a c → Q a H') → r [v] H Q
theorem ev_cb {r : List V → Hp → VK → Prop} {u : Rt β} {n : Bool} {C : α → (β → Prop) → Prop} {te : TE} {P : Ct → β → Prop} (rc : RC1 r t u n C) (h : Ev X k te G t fun G x => (n = true → G.n = true) ∧ C x (P G)) : EvR X k (tCB r (tCons te tNil)) G u P := fun W H σ Q hs ex q =>
  h W H σ _ hs ex fun v W1 H1 G1 x ⟨hn, c⟩ m rv => rc W1 H1 v x Q (P G1) m.hs.ok (fun e => m.hs.nl (hn e)) rv c fun a W2 H2 d pd g2 ok2 r2 => q a W2 H2 G1 d pd (m.thenE g2 ok2) r2
abbrev rLenA (K : PySem.W.Frag) : List V → Hp → VK → Prop := fun xs H Q => ∃ x n, xs = [x] ∧ LenV K x H n ∧ Q (.int n) H
theorem rc_lenL : RC1 (rLenA K) (tLs K t) (.sh tInt) false (fun xs P => P xs.length) := by
  rintro W H v x Q P ok _ ⟨a, vs, rfl, sq, p⟩ c q
  exact ⟨_, x.length, rfl, .inl ⟨vs, sq.l, p.length.symm⟩, q _ W H _ c .refl ok rfl⟩
theorem rc_lenD {κ : Type} {ke : Ky κ} : RC1 (fun xs H Q => ∃ a kvs, xs = [V.ref a] ∧ H a = some (.dK kvs) ∧ Q (.int kvs.length) H) (tDk ke t) (.sh tInt) true (fun xs P => P xs.length) := by
  rintro W H v x Q P ok nl ⟨a, ws, rfl, rd, p⟩ c q
  refine ⟨a, ws, rfl, (ok.exactD rd (nl rfl a) (fun _ e => by cases e)).1, ?_⟩
  rw [p.length]
  exact q _ W H _ c .refl ok rfl
theorem rc_sum : RC1 (rSum K) (tLs K tInt) (.sh tInt) false (fun xs P => P xs.sum) := by
  rintro W H v x Q P ok _ ⟨a, vs, rfl, sq, p⟩ c q
  have e := paired_f scI p
  subst e
  exact ⟨a, x, rfl, sq.l, q _ W H _ c .refl ok rfl⟩
/-- a new list -/
theorem new_list {W : Wd} {H : Hp} {Q : VK} {P : List α → Prop} {vs : List V} {xs : List α} (ok : OKW W H) (c : P xs) (p : Paired (t.R W H) vs xs) (q : ∀ a W' H' c, P c → GoE W H W' H' → OKW W' H' → (oL K t).R [tmp] W' H' a c → Q a H') (l : Addr) (hl : H l = none) : Q (.ref l) (upd H l (.lst vs)) := by
  obtain ⟨g, ok2⟩ := newT ok hl (o := .lst vs) trivial
  exact q _ _ _ xs c g ok2 ⟨l, vs, rfl, setW_same, upd_same, L2.Paired.mapP p fun _ _ r => t.mvE r g⟩
theorem new_tup {W : Wd} {H : Hp} {Q : VK} {P : List α → Prop} {vs : List V} {xs : List α} (ok : OKW W H) (c : P xs) (p : Paired (t.R W H) vs xs) (q : ∀ a W' H' c, P c → GoE W H W' H' → OKW W' H' → (tTu K t).R W' H' a c → Q a H') (l : Addr) (hl : H l = none) : Q (.ref l) (upd H l (.tup vs)) :=
  q _ W _ xs c (.new hl) (ok.new hl trivial) ⟨l, vs, rfl, rdNew ok hl, L2.Paired.mapP p fun _ _ r => t.mvE r (.new hl)⟩
abbrev rListA (K : PySem.W.Frag) : List V → Hp → VK → Prop := fun xs H Q => ∃ p ys, xs = [.ref p] ∧ (SqL K H p ys ∨ SqT K H p ys) ∧ ∀ l, H l = none → Q (.ref l) (upd H l (.lst ys))
/-- the type of a dict's keys, as values -/
structure KyT {κ : Type} (ke : Ky κ) (tk : Ty κ) : Prop where
  ok : ∀ W H v k, tk.R W H v k ↔ v = kV (ke.k k)
theorem kyS : KyT kS tStr := ⟨fun _ _ _ _ => Iff.rfl⟩
abbrev rTupA (K : PySem.W.Frag) : List V → Hp → VK → Prop := fun xs H Q => ∃ p ys, xs = [.ref p] ∧ ((SqL K H p ys ∧ ∀ l, H l = none → Q (.ref l) (upd H l (.tup ys))) ∨ (SqT K H p ys ∧ Q (.ref p) H))
theorem rc_tupL : RC1 (rTupA K) (tLs K t) (.sh (tTu K t)) false (fun xs P => P xs) := by
  rintro W H v x Q P ok _ ⟨a, vs, rfl, sq, p⟩ c q
  exact ⟨a, vs, rfl, .inl ⟨sq.l, new_tup ok c p q⟩⟩
/-! ### in, not in -/
end
/-! ### dicts -/
section
variable {K : PySem.W.Frag} {X : Xw} {k : Bool} {G : Ct} {κ α β : Type} [DecidableEq κ] {ke : Ky κ} {tk : Ty κ} {t : Ty α}
def lookK (kvs : List (κ × α)) (k : κ) : Option α := (kvs.find? fun p => decide (p.1 = k)).map (·.2)
def hasK (kvs : List (κ × α)) (k : κ) : Bool := (lookK kvs k).isSome
def putZ (kvs : List (κ × α)) (k : κ) (x : α) : List (κ × α) := if hasK kvs k then kvs.map fun p => if p.1 = k then (p.1, x) else p else kvs ++ [(k, x)]
theorem val_paired {W : Wd} {H : Hp} {ws : List (Key × V)} {kvs : List (κ × α)} (p : Paired (fun (p : Key × V) q => p.1 = ke.k q.1 ∧ t.R W H p.2 q.2) ws kvs) (k : κ) : (lookK kvs k = none ∧ valV ws (ke.k k) = none) ∨ ∃ x v, lookK kvs k = some x ∧ valV ws (ke.k k) = some v ∧ t.R W H v x := by
  induction p with
  | nil => exact .inl ⟨rfl, rfl⟩
  | @cons a b as bs r _ ih =>
    by_cases h : b.1 = k
    · refine .inr ⟨b.2, a.2, ?_, valV_pos (by rw [r.1, h]), r.2⟩
      unfold lookK
      rw [List.find?_cons_of_pos (by exact decide_eq_true h)]
      rfl
    · have h2 : ¬ a.1 = ke.k k := fun e => h (ke.inj _ _ (r.1.symm.trans e))
      have e1 : lookK (b :: bs) k = lookK bs k := by
        unfold lookK
        rw [List.find?_cons_of_neg (by simpa using h)]
      rw [e1, valV_neg h2]
      exact ih
theorem ev_dget {td ty : TE} {P : Ct → α → Prop} (ky : KyT ke tk) (h : Ev X k td G (tDk ke t) fun G kvs => Ev X k ty G tk fun G k => ∃ x, lookK kvs k = some x ∧ P G x) : Ev X k (tDGet td ty) G t P := fun W H σ Q hs ex q =>
  h W H σ _ hs ex fun v W1 H1 G1 kvs p m r => p W1 H1 σ _ m.hs (ex.mv m.go) fun y W2 H2 G2 k ⟨x, hx, px⟩ m2 rk => by
    obtain ⟨a, ws, rfl, rd, pp⟩ := (tDk ke t).mv r m2.go
    have rk := (ky.ok _ _ _ _).mp rk
    subst rk
    rcases val_paired pp k with ⟨e, _⟩ | ⟨x', v', e1, e2, r'⟩
    · rw [e] at hx; cases hx
    · rw [e1] at hx
      cases hx
      exact ⟨a, v', rfl, .inl ⟨ws, ke.k k, rd.rd, rfl, e2.symm⟩, q v' W2 H2 G2 _ px (m.trans m2) r'⟩
theorem put_paired {R : V → α → Prop} {ws : List (Key × V)} {kvs : List (κ × α)} {v : V} {x : α} (k : κ) (r : R v x) (p : Paired (fun (p : Key × V) (q : κ × α) => p.1 = ke.k q.1 ∧ R p.2 q.2) ws kvs) :
    Paired (fun (p : Key × V) (q : κ × α) => p.1 = ke.k q.1 ∧ R p.2 q.2) (putK ws (ke.k k) v) (putZ kvs k x) := by
  have e : (ws.any fun kv => decide (kv.1 = ke.k k)) = hasK kvs k := by
    induction p with
    | nil => rfl
    | @cons a b as bs r _ ih =>
      unfold hasK lookK at ih ⊢
      rw [List.any_cons, ih]
      by_cases h : b.1 = k
      · rw [List.find?_cons_of_pos (by exact decide_eq_true h), decide_eq_true (show a.1 = ke.k k by rw [r.1, h])]
        rfl
      · rw [List.find?_cons_of_neg (by simpa using h), decide_eq_false (fun e => h (ke.inj _ _ (r.1.symm.trans e)))]
        rfl
  unfold putK putZ
  rw [e]
  cases hasK kvs k with
  | false =>
    rw [if_neg Bool.false_ne_true, if_neg Bool.false_ne_true]
    exact paired_snoc' p ⟨rfl, r⟩
  | true =>
    rw [if_pos rfl, if_pos rfl]
    clear e
    induction p with
    | nil => exact .nil
    | @cons a b as bs r2 _ ih =>
      refine .cons ?_ ih
      show (if a.1 = ke.k k then (a.1, v) else a).1 = ke.k (if b.1 = k then (b.1, x) else b).1 ∧ R (if a.1 = ke.k k then (a.1, v) else a).2 (if b.1 = k then (b.1, x) else b).2
      by_cases h : b.1 = k
      · rw [if_pos (show a.1 = ke.k k by rw [r2.1, h]), if_pos h]
        exact ⟨r2.1, r⟩
      · rw [if_neg (fun e => h (ke.inj _ _ (r2.1.symm.trans e))), if_neg h]
        exact r2
end
/-! ### slices, texts, order -/
section
variable {K : PySem.W.Frag} {X : Xw} {k : Bool} {G : Ct} {α β γ δ : Type} {t : Ty α} {u : Ty β} {z : Ty γ}
def Eo (X : Xw) (k : Bool) (to : TO) (G : Ct) (P : Ct → Option Int → Prop) : Prop := ∀ W H σ (Q : Option Int → Hp → Prop), Holds G W H σ → X.ok W H σ → (∀ i W' H' G', P G' i → Mo k σ G W H G' W' H' → Q i H') → to σ H Q
theorem eo_none {P : Ct → Option Int → Prop} (p : P G none) : Eo X k tNoPart G P := fun W H σ Q hs ex q => q none W H G p (.refl hs)
theorem eo_some {te : TE} {P : Ct → Option Int → Prop} (h : Ev X k te G tInt fun G i => P G (some i)) : Eo X k (tPart te) G P := fun W H σ Q hs ex q => h W H σ _ hs ex fun v W' H' G' x p m r => ⟨x, r, q (some x) W' H' G' p m⟩
def SLI (r : V → Option Int → Option Int → Hp → VK → Prop) (t : Ty α) (u : Rt β) (C : α → Option Int → Option Int → (β → Prop) → Prop) : Prop :=
  ∀ W H v x lo hi (Q : VK) (P : β → Prop), OKW W H → t.R W H v x → C x lo hi P → (∀ a W' H' c, P c → GoE W H W' H' → OKW W' H' → u.R W' H' a c → Q a H') → r v lo hi H Q
theorem ev_sl {r : V → Option Int → Option Int → Hp → VK → Prop} {te : TE} {tl th : TO} {u : Rt β} {C : α → Option Int → Option Int → (β → Prop) → Prop} {P : Ct → β → Prop} (sl : SLI r t u C) (h : Ev X k te G t fun G x => Eo X k tl G fun G lo => Eo X k th G fun G hi => C x lo hi (P G)) : EvR X k (tSl r te tl th) G u P := fun W H σ Q hs ex q =>
  h W H σ _ hs ex fun v W1 H1 G1 x p m rv => p W1 H1 σ _ m.hs (ex.mv m.go) fun lo W2 H2 G2 p2 m2 => p2 W2 H2 σ _ m2.hs ((ex.mv m.go).mv m2.go) fun hi W3 H3 G3 c m3 =>
    sl W3 H3 v x lo hi Q (P G3) m3.hs.ok (t.mv (t.mv rv m2.go) m3.go) c fun a W4 H4 d pd g4 ok4 r4 => q a W4 H4 G3 d pd (((m.trans m2).trans m3).thenE g4 ok4) r4
def cutZ (xs : List α) (lo hi : Option Int) : List α := (xs.drop (HT.sIx xs.length 0 lo)).take (HT.sIx xs.length xs.length hi - HT.sIx xs.length 0 lo)
theorem paired_drop {R : α → β → Prop} : ∀ {xs : List α} {ys : List β} (n : Nat), Paired R xs ys → Paired R (xs.drop n) (ys.drop n)
  | _, _, 0, p => p
  | _, _, _ + 1, .nil => .nil
  | _, _, n + 1, .cons _ p => paired_drop n p
theorem paired_take {R : α → β → Prop} : ∀ {xs : List α} {ys : List β} (n : Nat), Paired R xs ys → Paired R (xs.take n) (ys.take n)
  | _, _, 0, _ => .nil
  | _, _, _ + 1, .nil => .nil
  | _, _, n + 1, .cons r p => .cons r (paired_take n p)
theorem paired_cut {W : Wd} {H : Hp} {vs : List V} {xs : List α} (p : Paired (t.R W H) vs xs) (lo hi : Option Int) : Paired (t.R W H) (cutV vs lo hi) (cutZ xs lo hi) := by
  unfold cutV cutZ
  rw [p.length]
  exact paired_take _ (paired_drop _ p)
theorem sl_lst : SLI (rSlL K) (tLs K t) (.ow (oL K t)) (fun xs lo hi P => P (cutZ xs lo hi)) := by
  rintro W H v xs lo hi Q P ok ⟨a, vs, rfl, sq, p⟩ c q
  exact ⟨a, vs, rfl, sq.l, new_list ok c (paired_cut p lo hi) q⟩
theorem paired_appZ {R : α → β → Prop} : ∀ {xs : List α} {ys : List β} {xs' : List α} {ys' : List β}, Paired R xs ys → Paired R xs' ys' → Paired R (xs ++ xs') (ys ++ ys')
  | _, _, _, _, .nil, h => h
  | _, _, _, _, .cons r t, h => .cons r (paired_appZ t h)
/-! ### sorted -/
end
end Y
end

section
set_option maxRecDepth 100000
set_option maxHeartbeats 4000000
/-! What is walked; loops; comprehensions. -/
namespace Y
open PySem PySem.Spec PyProof.Rows L2
/-- within a comprehension nothing may be raised -/
def x0 : Xw := ⟨fun _ _ _ _ => False, fun _ _ => False⟩
theorem x0_ok {W : Wd} {H : Hp} {σ : L2.St} : x0.ok W H σ := fun _ _ _ _ _ z => z.elim
/-! ### writing what is one's own -/
section
variable {W : Wd} {H : Hp} {a : Addr} {p : List Nat} {o : HO}
theorem upd_mv (w : W a = .ow p) : Mv W H W (upd H a o) := by
  refine ⟨fun b u h => ?_, fun b vs v h => ?_, fun _ _ h => h⟩
  · have n : b ≠ a := fun e => h.no (by rw [e]; exact w)
    unfold RdW
    rw [upd_ne n]
    exact h
  · have n : b ≠ a := fun e => by rw [e, w] at v; cases v
    exact ⟨v, by rw [upd_ne n]; exact h⟩
theorem upd_go (w : W a = .ow p) : Go W H W (upd H a o) := ⟨fun b u h v => by
  have n : b ≠ a := fun e => by rw [e, w] at v; rcases v with v | v | v <;> cases v
  exact ⟨by rw [upd_ne n]; exact h, rfl⟩, fun _ _ h => h, fun _ h => h⟩
theorem upd_ok (ok : OKW W H) (w : W a = .ow p) (nt : NoTup o) : OKW W (upd H a o) := by
  have nf := nt.nf
  refine ⟨fun b φ h => ?_, fun b h => ?_, fun b q od v w h => ?_, fun b h => ?_, fun b od v w2 h => ?_, fun b vs h => ?_⟩
  · have n : b ≠ a := fun e => by rw [e, w] at h; cases h
    rw [upd_ne n]; exact ok.st b φ h
  · by_cases n : b = a
    · exact ⟨o, by rw [n, upd_same]⟩
    · rw [upd_ne n]; exact ok.al b h
  · by_cases n : b = a
    · rw [n, upd_same] at h; cases h; exact nf
    · rw [upd_ne n] at h; exact ok.nf b q od v w h
  · have n : b ≠ a := fun e => by rw [e, w] at h; cases h
    rw [upd_ne n]; exact ok.lk b h
  · have n : b ≠ a := fun e => by rw [e, w] at w2; cases w2
    rw [upd_ne n] at h; exact ok.fo b od v w2 h
  · by_cases n : b = a
    · rw [n, upd_same] at h; cases h; exact nt.elim
    · rw [upd_ne n] at h; exact ok.tp b vs h
/-- one's own is told under another path -/
theorem re_mv {p' : List Nat} (w : W a = .ow p) : Mv W H (setW W a (.ow p')) H := by
  refine ⟨fun b u h => ?_, fun b vs v h => ?_, fun b φ h => ?_⟩
  · have n : b ≠ a := fun e => h.no (by rw [e]; exact w)
    unfold RdW
    rw [setW_ne n]
    exact h
  · have n : b ≠ a := fun e => by rw [e, w] at v; cases v
    exact ⟨by rw [setW_ne n]; exact v, h⟩
  · have n : b ≠ a := fun e => by rw [e, w] at h; cases h
    rw [setW_ne n]; exact h
theorem re_ok {p' : List Nat} (ok : OKW W H) (w : W a = .ow p) : OKW (setW W a (.ow p')) H := by
  have ne : ∀ {b : Addr} {m : Md}, setW W a (.ow p') b = m → (∀ q, m ≠ .ow q) → W b = m := fun {b m} h nm => by
    by_cases n : b = a
    · rw [n, setW_same] at h; exact absurd h.symm (nm _)
    · rw [setW_ne n] at h; exact h
  refine ⟨fun b φ h => ok.st b φ (ne h fun _ z => by cases z), fun b h => ?_, fun b q od v h e => ?_, fun b h => ok.lk b (ne h fun _ z => by cases z), fun b od v h e => ok.fo b od v (ne h fun _ z => by cases z) e, fun b vs h => ?_⟩
  · by_cases n : b = a
    · rw [n]; exact ok.al a (by rw [w]; exact fun z => by cases z)
    · rw [setW_ne n] at h; exact ok.al b h
  · by_cases n : b = a
    · rw [n] at e; exact ok.nf a p od v w e
    · rw [setW_ne n] at h; exact ok.nf b q od v h e
  · have := ok.tp b vs h
    have n : b ≠ a := fun e => by rw [e, w] at this; cases this
    rw [setW_ne n]; exact this
end
variable {K : PySem.W.Frag}
section
variable {α β γ ρ : Type} {t : Ty α} {u : Ty β} {X : Xw} {k : Bool} {G : Ct}
/-- what is walked, from here -/
def EiAt (k : Bool) (wi : TI) (G : Ct) (W : Wd) (H : Hp) (σ : L2.St) (t : Ty α) (P : Ct → List α → Prop) : Prop :=
  ∀ (R : It → Hp → Prop), (∀ J W1 H1 G1 xs (Gh : Hp → Prop) (Y : Nat → Hp → V → Hp → Prop), P G1 xs → Mo k σ G W H G1 W1 H1 → Walk J xs.length Gh Y → (∀ W2 H2, Go W1 H1 W2 H2 → OKW W2 H2 → Gh H2) →
    (∀ W2 H2 i v H3, Go W1 H1 W2 H2 → OKW W2 H2 → i < xs.length → Y i H2 v H3 → ∃ x W3, xs[i]? = some x ∧ GoE W2 H2 W3 H3 ∧ OKW W3 H3 ∧ t.R W3 H3 v x) → R J H1) → wi σ H R
def Ei (X : Xw) (k : Bool) (wi : TI) (G : Ct) (t : Ty α) (P : Ct → List α → Prop) : Prop := ∀ W H σ, Holds G W H σ → X.ok W H σ → EiAt k wi G W H σ t P
theorem ei_list {te : TE} {P : Ct → List α → Prop} (h : Ev X k te G (tLs K t) P) : Ei X k (iList K te) G t P := fun W H σ hs ex R q => h W H σ _ hs ex fun v W1 H1 G1 xs p m r => by
  obtain ⟨a, vs, rfl, sq, pp⟩ := r
  refine ⟨a, rfl, ⟨vs, sq.l⟩, q _ W1 H1 G1 xs _ _ p m (by rw [← pp.length]; exact walk_list) (fun W2 H2 g2 ok2 => ?_) fun W2 H2 i v H3 g2 ok2 hi hy => ?_⟩
  · exact (sq.mv g2.mv).l
  · obtain ⟨rfl, hv⟩ := hy
    obtain ⟨x, hx, r⟩ := paired_getL pp hv
    exact ⟨x, W2, hx, .refl, ok2, t.mv r g2⟩
def chars (z : Str) : List Str := z.cps.toList.map fun c => ⟨#[c]⟩
def rangeZ (i j : Int) : List Int := (List.range (j - i).toNat).map fun (k : Nat) => i + (k : Int)
theorem rangeZ_len (i j : Int) : (rangeZ i j).length = (j - i).toNat := by unfold rangeZ; rw [List.length_map, List.length_range]
theorem rangeZ_get {i j : Int} {k : Nat} {x : Int} (h : (rangeZ i j)[k]? = some x) : x = i + k ∧ k < (j - i).toNat := by
  unfold rangeZ at h
  rw [List.getElem?_map] at h
  by_cases hk : k < (j - i).toNat
  · rw [List.getElem?_range hk] at h
    exact ⟨(Option.some.inj h).symm, hk⟩
  · rw [List.getElem?_eq_none (by rw [List.length_range]; omega)] at h
    cases h
theorem ei_range1 {te : TE} {P : Ct → List Int → Prop} (h : Ev X k te G tInt fun G n => (-(2 ^ 62) ≤ n ∧ n < 2 ^ 62) ∧ P G (rangeZ 0 n)) : Ei X k (iRng1 (tCons te tNil)) G tInt P := fun W H σ hs ex R q => h W H σ _ hs ex fun v W1 H1 G1 n ⟨⟨h1, h2⟩, p⟩ m r => by
  obtain rfl : v = .int n := r
  refine ⟨n, rfl, h1, h2, q _ W1 H1 G1 _ _ _ p m (by rw [rangeZ_len, Int.sub_zero]; exact walk_range) (fun _ _ _ _ => trivial) fun W2 H2 i v H3 g2 ok2 hi hy => ?_⟩
  obtain ⟨rfl, rfl⟩ := hy
  refine ⟨0 + i, W2, ?_, .refl, ok2, rfl⟩
  rw [rangeZ_len] at hi
  unfold rangeZ
  rw [List.getElem?_map, List.getElem?_range hi]
  rfl
def enumZ (xs : List α) : List (Int × α) := xs.zipIdx.map fun p => ((p.2 : Int), p.1)
theorem enumZ_len (xs : List α) : (enumZ xs).length = xs.length := by unfold enumZ; rw [List.length_map, List.length_zipIdx]
theorem enumZ_get (xs : List α) (i : Nat) : (enumZ xs)[i]? = xs[i]?.map fun x => ((i : Int), x) := by
  unfold enumZ
  rw [List.getElem?_map, List.getElem?_zipIdx, Option.map_map]
  simp
  rfl
/-! ### a path to a thing: it may be read again where all stands -/
def Ap (te : TE) (G : Ct) (t : Ty α) (P : α → Prop) : Prop := ∀ W H σ, Holds G W H σ → ∃ v x, P x ∧ t.R W H v x ∧ ∀ W' H' (Q : VK), Mv W H W' H' → OKW W' H' → Q v H' → te σ H' Q
theorem ap_var {i : Nat} {x : α} {P : α → Prop} (e : G.s[i]? = some (.sh t x)) (p : P x) : Ap (tVar i) G t P := fun W H σ hs => by
  obtain ⟨v, e1, r⟩ := hs.var e
  exact ⟨v, x, p, r, fun W' H' Q _ _ q => ⟨v, e1, q⟩⟩
/-- an item at a written place -/
def ApIx (r : R2) (n : Int) (T : Ty α) (u : Ty β) (get : α → β) : Prop := ∀ W H v x, T.R W H v x → ∃ w, u.R W H w (get x) ∧ ∀ W' H' (Q : VK), Mv W H W' H' → OKW W' H' → Q w H' → r v (.int n) H' Q
/-! ### an attribute of an instance -/
def FldOf (K : PySem.W.Frag) (f : Str) (T : Ty α) (u : Ty β) (get : α → β) : Prop := ∀ W H v x, T.R W H v x → ∃ a C dx fs w, v = .ref a ∧ RdW W H a (.ins C dx fs) ∧ Cls K C ∧ NoAttr K C f ∧ fs.lookup f = some w ∧ u.R W H w (get x)
theorem ev_fld {f : Str} {get : α → β} {te : TE} {P : Ct → β → Prop} (fo : FldOf K f t u get) (h : Ev X k te G t fun G x => P G (get x)) : Ev X k (tFld K te f) G u P := fun W H σ Q hs ex q => h W H σ _ hs ex fun v W1 H1 G1 x p m r => by
  obtain ⟨a, C, dx, fs, w, rfl, ha, c, n, l, r2⟩ := fo W1 H1 v x r
  exact ⟨a, C, dx, fs, w, rfl, m.hs.ok.exact ha (fun _ e => by cases e) (fun _ e => by cases e) (fun _ e => by cases e), c, n, l, q w W1 H1 G1 _ p m r2⟩
/-! ### a dict is locked, and opened again -/
theorem lock_at {W : Wd} {H : Hp} {a : Addr} {ws : List (Key × V)} (ok : OKW W H) (w : W a = .sh) (h : H a = some (.dK ws)) (od : Obj) :
    OKW (setW W a .lk) (upd H a (.frz od (.dK ws))) ∧ Mv W H (setW W a .lk) (upd H a (.frz od (.dK ws))) := by
  refine ⟨⟨fun b φ q => ?_, fun b q => ?_, fun b p od2 u q e => ?_, fun b q => ?_, fun b od2 u q e => ?_, fun b vs e => by
    have n : b ≠ a := fun z => by rw [z, upd_same] at e; cases e
    rw [upd_ne n] at e; rw [setW_ne n]; exact ok.tp b vs e⟩, ⟨fun b o q => ?_, fun b vs q e => ?_, fun b φ q => ?_⟩⟩
  · have n : b ≠ a := fun e => by rw [e, setW_same] at q; cases q
    rw [setW_ne n] at q; rw [upd_ne n]; exact ok.st b φ q
  · by_cases n : b = a
    · exact ⟨_, by rw [n, upd_same]⟩
    · rw [setW_ne n] at q; rw [upd_ne n]; exact ok.al b q
  · have n : b ≠ a := fun z => by rw [z, setW_same] at q; cases q
    rw [setW_ne n] at q; rw [upd_ne n] at e; exact ok.nf b p od2 u q e
  · by_cases n : b = a
    · exact ⟨od, .inl ⟨ws, by rw [n, upd_same]⟩⟩
    · rw [setW_ne n] at q; rw [upd_ne n]; exact ok.lk b q
  · have n : b ≠ a := fun z => by rw [z, setW_same] at q; cases q
    rw [setW_ne n] at q; rw [upd_ne n] at e; exact ok.fo b od2 u q e
  · by_cases n : b = a
    · subst n
      have e : o = .dK ws := by
        rcases q with ⟨_, q⟩ | ⟨q | q, _⟩
        · rw [h] at q; cases q; rfl
        · rw [w] at q; cases q
        · rw [w] at q; cases q
      subst e
      exact .inr ⟨.inl setW_same, od, upd_same⟩
    · unfold RdW
      rw [setW_ne n, upd_ne n]
      exact q
  · have n : b ≠ a := fun z => by rw [z, h] at e; cases e
    rw [setW_ne n, upd_ne n]; exact ⟨q, e⟩
  · rw [setW_ne (fun e => by rw [e, w] at q; cases q)]; exact q
theorem open_at {W : Wd} {H : Hp} {a : Addr} {ws : List (Key × V)} {od : Obj} (ok : OKW W H) (w : W a = .lk) (h : H a = some (.frz od (.dK ws))) :
    OKW (setW W a .sh) (upd H a (.dK ws)) ∧ Mv W H (setW W a .sh) (upd H a (.dK ws)) := by
  refine ⟨⟨fun b φ q => ?_, fun b q => ?_, fun b p od2 u q e => ?_, fun b q => ?_, fun b od2 u q e => ?_, fun b vs e => by
    have n : b ≠ a := fun z => by rw [z, upd_same] at e; cases e
    rw [upd_ne n] at e; rw [setW_ne n]; exact ok.tp b vs e⟩, ⟨fun b o q => ?_, fun b vs q e => ?_, fun b φ q => ?_⟩⟩
  · have n : b ≠ a := fun e => by rw [e, setW_same] at q; cases q
    rw [setW_ne n] at q; rw [upd_ne n]; exact ok.st b φ q
  · have n : b ≠ a := fun e => by rw [e, setW_same] at q; exact q rfl
    rw [setW_ne n] at q; rw [upd_ne n]; exact ok.al b q
  · have n : b ≠ a := fun z => by rw [z, setW_same] at q; cases q
    rw [setW_ne n] at q; rw [upd_ne n] at e; exact ok.nf b p od2 u q e
  · have n : b ≠ a := fun z => by rw [z, setW_same] at q; cases q
    rw [setW_ne n] at q; rw [upd_ne n]; exact ok.lk b q
  · have n : b ≠ a := fun z => by rw [z, setW_same] at q; cases q
    rw [setW_ne n] at q; rw [upd_ne n] at e; exact ok.fo b od2 u q e
  · by_cases n : b = a
    · subst n
      have e : o = .dK ws := by
        rcases q with ⟨q, _⟩ | ⟨_, od2, q⟩
        · rw [w] at q; cases q
        · rw [h] at q; cases q; rfl
      subst e
      exact .inl ⟨setW_same, upd_same⟩
    · unfold RdW
      rw [setW_ne n, upd_ne n]
      exact q
  · have n : b ≠ a := fun z => by rw [z, h] at e; cases e
    rw [setW_ne n, upd_ne n]; exact ⟨q, e⟩
  · rw [setW_ne (fun e => by rw [e, w] at q; cases q)]; exact q
/-- the context while a dict is locked, and behind it -/
def Ct.lk (G : Ct) : Ct := ⟨false, G.s, G.p⟩
def Ct.op (G : Ct) (n : Bool) : Ct := ⟨n, G.s, G.p⟩
theorem Holds.lock {W : Wd} {H : Hp} {σ : L2.St} (hs : Holds G W H σ) {a : Addr} {ws : List (Key × V)} (w : W a = .sh) (h : H a = some (.dK ws)) (od : Obj) : Holds G.lk (setW W a .lk) (upd H a (.frz od (.dK ws))) σ := by
  obtain ⟨ok1, mv1⟩ := lock_at hs.ok w h od
  refine ⟨hs.len, ok1, fun i s e x y => (hs.sl i s e x y).mv (fun b o q e w2 => ?_) mv1, (fun z => nomatch z), hs.pn, hs.sm⟩
  have n : b ≠ a := fun z => by rw [z, w] at e; cases e
  exact ⟨by rw [setW_ne n]; exact e, by rw [upd_ne n]; exact w2⟩
theorem Holds.unlock {W : Wd} {H : Hp} {σ : L2.St} {n : Bool} (hs : Holds G W H σ) {a : Addr} {ws : List (Key × V)} {od : Obj} (w : W a = .lk) (h : H a = some (.frz od (.dK ws))) (nl : n = true → ∀ b, b ≠ a → W b ≠ .lk) : Holds (G.op n) (setW W a .sh) (upd H a (.dK ws)) σ := by
  obtain ⟨ok1, mv1⟩ := open_at hs.ok w h
  refine ⟨hs.len, ok1, fun i s e x y => (hs.sl i s e x y).mv (fun b o q e w2 => ?_) mv1, fun z b e => ?_, hs.pn, hs.sm⟩
  · have n : b ≠ a := fun z => by rw [z, w] at e; cases e
    exact ⟨by rw [setW_ne n]; exact e, by rw [upd_ne n]; exact w2⟩
  · by_cases m : b = a
    · rw [m, setW_same] at e; cases e
    · rw [setW_ne m] at e; exact nl z b m e
/-- the keys of a locked dict -/
theorem keys_at {κ : Type} {ke : Ky κ} {tk : Ty κ} (ky : KyT ke tk) {td : TE} {W1 : Wd} {H1 : Hp} {σ : L2.St} {a : Addr} {od : Obj} {ws : List (Key × V)} {kvs : List (κ × α)} {Wz : Wd} {Hz : Hp} (hs : Holds G W1 H1 σ) (w : W1 a = .lk) (h : H1 a = some (.frz od (.dK ws)))
    (pp : Paired (fun (p : Key × V) q => p.1 = ke.k q.1 ∧ t.R Wz Hz p.2 q.2) ws kvs) (f : ∀ Q : VK, Q (.ref a) H1 → td σ H1 Q) {P : Ct → List κ → Prop} (p : P G (kvs.map (·.1))) : EiAt k (iKeys td) G W1 H1 σ tk P := fun R q => by
  refine f _ ⟨a, od, rfl, .inl ⟨ws, h, ?_⟩⟩
  refine q _ W1 H1 G _ _ _ p (.refl hs) (by rw [List.length_map, ← pp.length]; exact walk_keys) (fun W2 H2 g2 _ => (g2.k a _ h (.inr (.inl w))).1) fun W2 H2 i v H3 g2 ok2 hi hy => ?_
  obtain ⟨rfl, k, v', hk, rfl⟩ := hy
  obtain ⟨z, hz, r, _⟩ := paired_getL pp hk
  exact ⟨z.1, W2, by rw [List.getElem?_map, hz]; rfl, .refl, ok2, (ky.ok _ _ _ _).mpr (congrArg kV r)⟩
end
/-! ### loops -/
section
variable {ρ α β : Type} {F : Fx ρ} {G : Ct} {N B C : Ct → Prop} {t : Ty α} {u : Ty β}
theorem for_core {wi : TI} {g : TG} {tb : TS} {vs : List Nat} {W0 : Wd} {H0 : Hp} {W : Wd} {H : Hp} {σ : L2.St} {D : Ends} (g0 : Go W0 H0 W H)
    (h : EiAt false wi G W H σ t fun G1 xs => ∃ V : Nat → Ct → Prop, V 0 G1 ∧ (∀ i x G', xs[i]? = some x → V i G' → Tg g G' t x vs fun G2 => Blk F tb G2 (V (i + 1)) N (V (i + 1))) ∧ ∀ G', V xs.length G' → N G')
    (n : ∀ G' W' H' σ', N G' → Go W0 H0 W' H' → Holds G' W' H' σ' → D.nx σ' H')
    (rt : ∀ v G' W' H' σ' x, F.rt G' x → Go W0 H0 W' H' → Holds G' W' H' σ' → F.r.R W' H' v x → D.rt v H')
    (ex : ∀ e d G' W' H' σ', F.X.xp G' e → Go W0 H0 W' H' → Holds G' W' H' σ' → ErAt W' H' e d → F.X.E (.ref e.C) d σ' H') : tFor wi g tb D σ H :=
  h _ fun J W1 H1 G1 xs Gh Y ⟨V, h0, ht, he⟩ m wk st yd => by
    refine for_it wk (fun i σ2 H2 => ∃ G2 W2, V i G2 ∧ Go W1 H1 W2 H2 ∧ Go W0 H0 W2 H2 ∧ Holds G2 W2 H2 σ2) ⟨G1, W1, h0, .refl, g0.trans m.go, m.hs⟩ (fun i σ2 H2 _ ⟨G2, W2, _, ga, _, hs2⟩ => st W2 H2 ga hs2.ok) ?_ ?_
    · rintro i v σ2 H2 H3 hi ⟨G2, W2, hv, ga, gb, hs2⟩ hy
      obtain ⟨x, W3, hx, g3, ok3, r⟩ := yd W2 H2 i v H3 ga hs2.ok hi hy
      refine ht i x G2 hx hv W3 H3 σ2 v _ (hs2.goE g3 ok3) r fun G4 σ4 hb hs4 _ _ => ?_
      refine hb W3 H3 W3 H3 σ4 _ .refl hs4 (fun G5 W5 H5 σ5 hv5 g5 hs5 => ⟨G5, W5, hv5, (ga.trans g3.go).trans g5, (gb.trans g3.go).trans g5, hs5⟩) (fun G5 W5 H5 σ5 hv5 g5 hs5 => n G5 W5 H5 σ5 hv5 ((gb.trans g3.go).trans g5) hs5)
        (fun G5 W5 H5 σ5 hv5 g5 hs5 => ⟨G5, W5, hv5, (ga.trans g3.go).trans g5, (gb.trans g3.go).trans g5, hs5⟩) (fun v5 G5 W5 H5 σ5 x5 hx5 g5 hs5 r5 => rt v5 G5 W5 H5 σ5 x5 hx5 ((gb.trans g3.go).trans g5) hs5 r5)
        (fun e d G5 W5 H5 σ5 hx5 g5 hs5 r5 => ex e d G5 W5 H5 σ5 hx5 ((gb.trans g3.go).trans g5) hs5 r5)
    · rintro σ2 H2 ⟨G2, W2, hv, ga, gb, hs2⟩
      exact n G2 W2 H2 σ2 (he G2 hv) gb hs2
theorem blk_for {wi : TI} {g : TG} {tb : TS} {vs : List Nat} (h : Ei F.X false wi G t fun G1 xs => ∃ V : Nat → Ct → Prop, V 0 G1 ∧
      (∀ i x G', xs[i]? = some x → V i G' → Tg g G' t x vs fun G2 => Blk F tb G2 (V (i + 1)) N (V (i + 1))) ∧ ∀ G', V xs.length G' → N G') : Blk F (tFor wi g tb) G N B C := fun W0 H0 W H σ D g0 hs n bk ct rt ex =>
  for_core g0 (h W H σ hs (exo ex g0)) n rt ex
/-- one reading or another -/
def tEither (a b : TS) : TS := fun D σ H => a D σ H ∨ b D σ H
def tEitherE (a b : TE) : TE := fun σ H Q => a σ H Q ∨ b σ H Q
theorem ps_either {X : Cx} {st : Stmt} {a b : TS} (ha : PS X st a) (hb : PS X st b) : PS X st (tEither a b) := ⟨fun pins s σ H D I h => h.elim (ha.run pins s σ H D I) (hb.run pins s σ H D I)⟩
theorem pe_either {X : Cx} {e : Expr} {a b : TE} (ha : PE X e a) (hb : PE X e b) : PE X e (tEitherE a b) := ⟨fun pins s σ H D I h => h.elim (ha.run pins s σ H D I) (hb.run pins s σ H D I)⟩
/-- a loop over a dict, locked here or already -/
theorem ps_forD {X : Cx} {iter tg : Expr} {body : List Stmt} {td : TE} {g : TG} {tb : TS} {pos : Pos} (hp : PassesOwn (model X.prog X.w) X.A X.env X.xe) (hc : X.calm = true) (hi : PE X iter td) (hg : PG X tg g) (hb : PSs X body tb)
    (hs : ∀ x, foldedSetIterable iter X.env x = pure x := by intro _; rfl) : PS X (.For tg iter body [] pos) (tEither (tLock (tFor (iKeys td) g tb)) (tFor (iKeys td) g tb)) :=
  ps_either (ps_lock (ps_for hp hc (pi_keys hi) hg hb hs)) (ps_for hp hc (pi_keys hi) hg hb hs)
/-- for k in d; nothing may be raised within -/
theorem blk_forD {κ : Type} {ke : Ky κ} {tk : Ty κ} (ky : KyT ke tk) {td : TE} {g : TG} {tb : TS} {vs : List Nat} {kvs : List (κ × α)} (V : Nat → Ct → Prop) (hd : Ap td G (tDk ke t) fun x => x = kvs) (h0 : V 0 G.lk)
    (ht : ∀ i x G', (kvs.map (·.1))[i]? = some x → V i G' → Tg g G' tk x vs fun G2 => Blk ⟨F.r, fun G3 => F.rt (G3.op G.n), ⟨F.X.E, fun _ _ => False⟩⟩ tb G2 (V (i + 1)) (fun G3 => N (G3.op G.n)) (V (i + 1))) (he : ∀ G', V kvs.length G' → N (G'.op G.n)) :
    Blk F (tEither (tLock (tFor (iKeys td) g tb)) (tFor (iKeys td) g tb)) G N B C := fun W0 H0 W H σ D g0 hs n bk ct rt ex => by
  obtain ⟨v, x, rfl, ⟨a, ws, rfl, rd, pp⟩, f⟩ := hd W H σ hs
  by_cases w : W a = .sh
  · -- locked here
    have ha : H a = some (.dK ws) := (hs.ok.exactD rd (by rw [w]; exact fun z => by cases z) (fun _ e => by cases e)).1
    refine .inl ⟨a, .dK ws, ha, trivial, fun od => ?_⟩
    have hs1 := hs.lock w ha od
    obtain ⟨ok1, rd1⟩ := lock_at hs.ok w ha od
    have w1 : setW W a .lk a = .lk := setW_same
    have h1 : upd H a (.frz od (.dK ws)) a = some (.frz od (.dK ws)) := upd_same
    have e1 : ∀ b, b ≠ a → setW W a .lk b = W b ∧ upd H a (.frz od (.dK ws)) b = H b := fun b q => ⟨setW_ne q, upd_ne q⟩
    generalize setW W a .lk = W1 at ok1 rd1 w1 e1 hs1
    generalize upd H a (.frz od (.dK ws)) = H1 at ok1 rd1 h1 e1 hs1
    -- opened again
    have back : ∀ G' W' H' σ', Go W1 H1 W' H' → Holds G' W' H' σ' → H' a = some (.frz od (.dK ws)) ∧ Go W0 H0 (setW W' a .sh) (upd H' a (.dK ws)) ∧ Holds (G'.op G.n) (setW W' a .sh) (upd H' a (.dK ws)) σ' ∧ Mv W' H' (setW W' a .sh) (upd H' a (.dK ws)) := fun G' W' H' σ' g' hs' => by
      obtain ⟨h2, w2⟩ := g'.k a _ h1 (.inr (.inl w1))
      have w2 := w2.trans w1
      obtain ⟨ok3, rd3⟩ := open_at hs'.ok w2 h2
      refine ⟨h2, ⟨fun b o e q => ?_, fun b φ q => ?_, fun b q => ?_⟩, hs'.unlock w2 h2 fun n b m q => ?_, rd3⟩
      · obtain ⟨e2, q2⟩ := g0.k b o e q
        by_cases m : b = a
        · subst m
          rw [ha] at e2
          cases e2
          exact ⟨upd_same, by rw [setW_same, ← q2, w]⟩
        · obtain ⟨e3, q3⟩ := g'.k b o (by rw [(e1 b m).2]; exact e2) (by rw [(e1 b m).1, q2]; exact q)
          exact ⟨by rw [upd_ne m]; exact e3, by rw [setW_ne m, q3, (e1 b m).1, q2]⟩
      · have q2 := g0.s b φ q
        have m : b ≠ a := fun e => by rw [e, w] at q2; cases q2
        rw [setW_ne m]
        exact g'.s b φ (by rw [(e1 b m).1]; exact q2)
      · by_cases m : b = a
        · rw [m, setW_same] at q; cases q
        · rw [setW_ne m] at q
          have := g'.l b q
          rw [(e1 b m).1] at this
          exact g0.l b this
      · have := g'.l b q
        rw [(e1 b m).1] at this
        exact hs.nl n b this
    refine for_core (F := ⟨F.r, fun G3 => F.rt (G3.op G.n), ⟨F.X.E, fun _ _ => False⟩⟩) (N := fun G3 => N (G3.op G.n)) (W0 := W1) (H0 := H1) .refl (keys_at ky hs1 w1 h1 pp (fun Q q => f W1 H1 Q rd1 ok1 q) (P := fun G1 xs => ∃ V : Nat → Ct → Prop, V 0 G1 ∧ (∀ i x G', xs[i]? = some x → V i G' → Tg g G' tk x vs fun G2 => Blk ⟨F.r, fun G3 => F.rt (G3.op G.n), ⟨F.X.E, fun _ _ => False⟩⟩ tb G2 (V (i + 1)) (fun G3 => N (G3.op G.n)) (V (i + 1))) ∧ ∀ G', V xs.length G' → N (G'.op G.n)) ⟨V, h0, ht, by rw [List.length_map]; exact he⟩)
      (fun G' W' H' σ' hn g' hs' => ?_) (fun v G' W' H' σ' x hx g' hs' r => ?_) (fun e d G' W' H' σ' z => z.elim)
    · obtain ⟨h2, g2, hs2, rd2⟩ := back G' W' H' σ' g' hs'
      exact ⟨h2, n _ _ _ σ' hn g2 hs2⟩
    · obtain ⟨h2, g2, hs2, rd2⟩ := back G' W' H' σ' g' hs'
      refine ⟨h2, rt v _ _ _ σ' x hx g2 hs2 ?_⟩
      cases e : F.r with
      | sh t => rw [e] at r; exact t.go r rd2
      | ow O =>
        rw [e] at r
        refine O.mv (p' := [tmp]) r (fun b o q e2 e3 => ?_) rd2
        have m : b ≠ a := fun z => by rw [z] at e3; rw [h2] at e3; cases e3; exact hs'.ok.nf a _ od _ (z ▸ e2) h2
        exact ⟨by rw [setW_ne m]; exact e2, by rw [upd_ne m]; exact e3⟩
  · -- locked already
    obtain ⟨w, od, ha⟩ : W a = .lk ∧ ∃ od, H a = some (.frz od (.dK ws)) := by
      rcases rd with ⟨q, _⟩ | ⟨q | q, od, e⟩
      · exact absurd q w
      · exact ⟨q, od, e⟩
      · obtain ⟨vs, z⟩ := hs.ok.fo a od _ q e
        cases z
    have gf : G.n = false := by
      cases e : G.n with
      | false => rfl
      | true => exact absurd w (hs.nl e a)
    have hs1 : Holds G.lk W H σ := ⟨hs.len, hs.ok, hs.sl, (fun z => nomatch z), hs.pn, hs.sm⟩
    have op : ∀ {G' W' H' σ'}, Holds G' W' H' σ' → Holds (G'.op G.n) W' H' σ' := fun {G' W' H' σ'} h => ⟨h.len, h.ok, h.sl, (fun z => by rw [show (Ct.op G' G.n).n = false from gf] at z; cases z), h.pn, h.sm⟩
    refine .inr (for_core (F := ⟨F.r, fun G3 => F.rt (G3.op G.n), ⟨F.X.E, fun _ _ => False⟩⟩) (N := fun G3 => N (G3.op G.n)) g0 (keys_at ky hs1 w ha pp (fun Q q => f W H Q .refl hs.ok q) (P := fun G1 xs => ∃ V : Nat → Ct → Prop, V 0 G1 ∧ (∀ i x G', xs[i]? = some x → V i G' → Tg g G' tk x vs fun G2 => Blk ⟨F.r, fun G3 => F.rt (G3.op G.n), ⟨F.X.E, fun _ _ => False⟩⟩ tb G2 (V (i + 1)) (fun G3 => N (G3.op G.n)) (V (i + 1))) ∧ ∀ G', V xs.length G' → N (G'.op G.n)) ⟨V, h0, ht, by rw [List.length_map]; exact he⟩)
      (fun G' W' H' σ' hn g' hs' => n _ W' H' σ' hn g' (op hs')) (fun v G' W' H' σ' x hx g' hs' r => rt v _ W' H' σ' x hx g' (op hs') r) (fun e d G' W' H' σ' z => z.elim))
/-- while: V tells the contexts, by a number that falls -/
theorem blk_while {c : TT} {tb : TS} (V : Nat → Ct → Prop) (m0 : Nat) (h0 : V m0 G) (ht : ∀ m G', V m G' → Et F.X false c G' fun G'' x => (x = true → Blk F tb G'' (fun G2 => ∃ m', m' < m ∧ V m' G2) N (fun G2 => ∃ m', m' < m ∧ V m' G2)) ∧ (x = false → N G'')) : Blk F (tWhile c tb) G N B C := fun W0 H0 W H σ D g0 hs n bk ct rt ex => by
  refine ⟨fun m σ2 H2 => ∃ G2 W2, V m G2 ∧ Go W0 H0 W2 H2 ∧ Holds G2 W2 H2 σ2, ⟨m0, G, W, h0, g0, hs⟩, ?_⟩
  rintro m σ2 H2 ⟨G2, W2, hv, gb, hs2⟩
  refine ht m G2 hv W2 H2 σ2 _ hs2 (exo ex gb) fun b W3 H3 G3 p m3 => ?_
  cases b with
  | false =>
    rw [if_neg Bool.false_ne_true]
    exact n G3 W3 H3 σ2 (p.2 rfl) (gb.trans m3.go) m3.hs
  | true =>
    rw [if_pos rfl]
    refine ⟨fun σ5 H5 => ∃ m', m' < m ∧ ∃ G5 W5, V m' G5 ∧ Go W0 H0 W5 H5 ∧ Holds G5 W5 H5 σ5, fun σ5 H5 ⟨m', hm, q⟩ => ⟨m', hm, q⟩, ?_⟩
    exact p.1 rfl W0 H0 W3 H3 σ2 _ (gb.trans m3.go) m3.hs (fun G5 W5 H5 σ5 ⟨m', hm, hv5⟩ g5 hs5 => ⟨m', hm, G5, W5, hv5, g5, hs5⟩) n (fun G5 W5 H5 σ5 ⟨m', hm, hv5⟩ g5 hs5 => ⟨m', hm, G5, W5, hv5, g5, hs5⟩) rt ex
end
end Y
end

section
set_option maxRecDepth 100000
set_option maxHeartbeats 4000000
/-! Comprehensions; one's own things looked at. -/
namespace Y
open PySem PySem.Spec PyProof.Rows L2
def Ct.wipe (G : Ct) : List Nat → Ct
  | [] => G
  | i :: is => (Ct.wipe G is).set i .un
theorem wipe_p (G : Ct) : ∀ is, (G.wipe is).p = G.p
  | [] => rfl
  | i :: is => wipe_p G is
def Ct.frees (G : Ct) (is : List Nat) : Prop := ∀ i ∈ is, G.free i
theorem Holds.wipe {G : Ct} {W : Wd} {H : Hp} {σ : L2.St} (h : Holds G W H σ) : ∀ is, G.frees is → Holds (G.wipe is) W H (L2.wipe σ is)
  | [], _ => h
  | i :: is, fr => (Holds.wipe h is fun j hj => fr j (List.mem_cons_of_mem _ hj)).setUn i none (by
      have := fr i List.mem_cons_self
      unfold Ct.free at this ⊢
      rw [wipe_p]
      exact this)
theorem wipe_get {σ : L2.St} {j : Nat} : ∀ {vs : List Nat}, j ∈ vs → j < σ.length → (L2.wipe σ vs)[j]? = some none
  | v :: vs, h, hl => by
    unfold L2.wipe
    by_cases e : v = j
    · subst e
      rw [List.getElem?_set_self (by rw [wipe_length]; exact hl)]
    · rw [List.getElem?_set_ne e]
      exact wipe_get ((List.mem_cons.mp h).resolve_left fun z => e z.symm) hl
theorem wipe_keep {σ : L2.St} {j : Nat} : ∀ {vs : List Nat}, j ∉ vs → (L2.wipe σ vs)[j]? = σ[j]?
  | [], _ => rfl
  | v :: vs, h => by
    unfold L2.wipe
    rw [List.getElem?_set_ne (fun e => h (by rw [e]; exact List.mem_cons_self))]
    exact wipe_keep fun z => h (List.mem_cons_of_mem _ z)
theorem wipe_same {σ σ2 : L2.St} {vs : List Nat} (hl : σ2.length = (L2.wipe σ vs).length) (h : ∀ i, i ∉ vs → σ2[i]? = (L2.wipe σ vs)[i]?) : L2.wipe σ2 vs = L2.wipe σ vs := by
  rw [wipe_length] at hl
  apply List.ext_getElem?
  intro i
  by_cases hi : i ∈ vs
  · by_cases q : i < σ.length
    · rw [wipe_get hi q, wipe_get hi (by omega)]
    · rw [List.getElem?_eq_none (by rw [wipe_length]; omega), List.getElem?_eq_none (by rw [wipe_length]; omega)]
  · rw [wipe_keep hi, wipe_keep hi, h i hi, wipe_keep hi]
/-- where a comprehension's list grows -/
def tmq : Nat := tmp + 1
theorem tmq_ne : tmq ≠ tmp := by decide
section
variable {K : PySem.W.Frag} {α β γ δ ρ : Type} {t : Ty α} {u : Ty β} {X : Xw} {k : Bool} {G : Ct}
theorem setW_go {W W1 : Wd} {H H1 : Hp} {D : Addr} {m : Md} (g : GoE W H W1 H1) (hD : H D = none) (st : ∀ φ, W1 D ≠ .st φ) (lk : m ≠ .lk) : GoE W H (setW W1 D m) H1 := ⟨fun b o e n r => by
    obtain ⟨e1, w1⟩ := g.k b o e n r
    exact ⟨e1, by rw [setW_ne (ne_of_none e hD)]; exact w1⟩, fun b φ h => by
    have := g.s b φ h
    have n : b ≠ D := fun z => by rw [z] at this; exact st φ this
    rw [setW_ne n]; exact this, fun b h => by
    by_cases n : b = D
    · rw [n, setW_same] at h; exact absurd h lk
    · rw [setW_ne n] at h; exact g.l b h⟩
theorem upd_goE {W W1 : Wd} {H H1 : Hp} {D : Addr} {o : HO} (g : GoE W H W1 H1) (hD : H D = none) : GoE W H W1 (upd H1 D o) := ⟨fun b u e n r => by
    obtain ⟨e1, w1⟩ := g.k b u e n r
    exact ⟨by rw [upd_ne (ne_of_none e hD)]; exact e1, w1⟩, g.s, g.l⟩
/-- a thing of one's own that grows, and stays as it is where it stands -/
theorem grown {W W1 : Wd} {H H1 : Hp} {D : Addr} {o : HO} (g : GoE W H W1 H1) (w : W D = .ow [tmq]) (h : H D = some o) : W1 D = .ow [tmq] ∧ H1 D = some o := by
  obtain ⟨a, b⟩ := g.own h w tmq_ne
  exact ⟨b, a⟩
theorem lc_core {wi : TI} {g : TG} {tt : TT} {te : TE} {vs : List Nat} {W : Wd} {H : Hp} {σ : L2.St} {Q : VK} {P : Ct → List β → Prop}
    (h : EiAt k wi G W H σ t fun G1 xs => ∃ I : Nat → List β → Prop, xs.length < sizeLine ∧ G1.frees vs ∧ I 0 [] ∧ (∀ i x ys, xs[i]? = some x → I i ys → Tg g (G1.wipe vs) t x vs fun G2 => Et x0 true tt G2 fun G3 b => (b = true → Ev x0 true te G3 u fun _ y => I (i + 1) (ys ++ [y])) ∧ (b = false → I (i + 1) ys)) ∧ ∀ ys, I xs.length ys → P G1 ys)
    (q : ∀ v W' H' G' x, P G' x → Mo k σ G W H G' W' H' → (oL K u).R [tmp] W' H' v x → Q v H') : tLc wi g tt te vs σ H Q :=
  h _ fun J W1 H1 G1 xs Gh Y ⟨I, hz, fr, i0, ht, he⟩ m wk st yd => fun D hD => by
    refine lc_it wk (fun i H2 => ∃ W2 us ys, GoE W1 H1 W2 H2 ∧ OKW W2 H2 ∧ W2 D = .ow [tmq] ∧ H2 D = some (.lst us) ∧ Paired (u.R W2 H2) us ys ∧ I i ys ∧ ys.length ≤ i) ?_ (fun i H2 _ ⟨W2, us, ys, ga, ok2, _⟩ => st W2 H2 ga.go ok2) ?_ ?_
    · obtain ⟨ga, ok1⟩ := newT m.hs.ok hD (o := .lst []) trivial
      have w1 : setW W1 D (.ow [tmp]) D = .ow [tmp] := setW_same
      exact ⟨setW (setW W1 D (.ow [tmp])) D (.ow [tmq]), [], [], setW_go ga hD (fun φ e => by rw [w1] at e; cases e) (fun e => by cases e), re_ok ok1 w1, setW_same, upd_same, .nil, i0, Nat.le_refl _⟩
    · rintro i v H2 H3 hi ⟨W2, us, ys, ga, ok2, wD, hD2, pp, hc, hl⟩ hy
      obtain ⟨x, W3, hx, g3, ok3, r⟩ := yd W2 H2 i v H3 ga.go ok2 hi hy
      have g13 := ga.trans g3
      have hs3 := (m.hs.goE g13 ok3).wipe vs fr
      refine ht i x ys hx hc W3 H3 _ v _ hs3 r fun G2 σ2 hG2 hs4 hl2 hk2 => ⟨wipe_same hl2 hk2, ?_⟩
      refine hG2 W3 H3 σ2 _ hs4 x0_ok fun b W4 H4 G4 hb m4 => ?_
      have g4 := (m4.kp rfl).1
      obtain ⟨wD3, hD3⟩ := grown g3 wD hD2
      obtain ⟨wD4, hD4⟩ := grown g4 wD3 hD3
      have pp4 := L2.Paired.mapP pp fun a c (z : u.R W2 H2 a c) => u.mvE z (g3.trans g4)
      cases b with
      | false =>
        rw [if_neg Bool.false_ne_true]
        exact ⟨W4, us, ys, g13.trans g4, m4.hs.ok, wD4, hD4, pp4, hb.2 rfl, by omega⟩
      | true =>
        rw [if_pos rfl]
        refine hb.1 rfl W4 H4 σ2 _ m4.hs x0_ok fun y W5 H5 G5 yv hyv m5 r5 => ?_
        have g5 := (m5.kp rfl).1
        obtain ⟨wD5, hD5⟩ := grown g5 wD4 hD4
        have pp5 := L2.Paired.mapP pp4 fun a c z => u.mvE z g5
        refine ⟨us, hD5, by rw [pp.length]; omega, ?_⟩
        have mv := upd_mv (H := H5) (o := .lst (us ++ [y])) wD5
        exact ⟨W5, us ++ [y], ys ++ [yv], upd_goE ((g13.trans g4).trans g5) hD, upd_ok m5.hs.ok wD5 trivial, wD5, upd_same, paired_snoc' (L2.Paired.mapP pp5 fun a c z => u.go z mv) (u.go r5 mv), hyv, by rw [List.length_append]; simp; omega⟩
    · rintro H2 ⟨W2, us, ys, ga, ok2, wD, hD2, pp, hc, hl⟩
      have ok3 := re_ok (p' := [tmp]) ok2 wD
      refine q _ (setW W2 D (.ow [tmp])) H2 G1 ys (he ys hc) (m.thenE (setW_go ga hD (fun φ e => by rw [wD] at e; cases e) fun e => by cases e) ok3) ⟨D, us, rfl, setW_same, hD2, ?_⟩
      exact L2.Paired.mapP pp fun a c z => u.go z (re_mv wD)
/-- [e for x in xs if c] -/
theorem ev_lc {wi : TI} {g : TG} {tt : TT} {te : TE} {vs : List Nat} {P : Ct → List β → Prop}
    (h : Ei X k wi G t fun G1 xs => ∃ I : Nat → List β → Prop, xs.length < sizeLine ∧ G1.frees vs ∧ I 0 [] ∧ (∀ i x ys, xs[i]? = some x → I i ys → Tg g (G1.wipe vs) t x vs fun G2 => Et x0 true tt G2 fun G3 b => (b = true → Ev x0 true te G3 u fun _ y => I (i + 1) (ys ++ [y])) ∧ (b = false → I (i + 1) ys)) ∧ ∀ ys, I xs.length ys → P G1 ys) :
    EvR X k (tLc wi g tt te vs) G (.ow (oL K u)) P := fun W H σ Q hs ex q => lc_core (h W H σ hs ex) q
/-- what is read while a dict is locked -/
theorem lock_ev {r : Rt γ} {te : TE} {P : Ct → γ → Prop} {W : Wd} {H : Hp} {σ : L2.St} {Q : VK} {a : Addr} {ws : List (Key × V)} (hs : Holds G W H σ) (rd : RdW W H a (.dK ws))
    (run : ∀ W1 H1 od (Q1 : VK), W1 a = .lk → H1 a = some (.frz od (.dK ws)) → Mv W H W1 H1 → Holds G.lk W1 H1 σ → (∀ v W' H' G' x, P (G'.op G.n) x → Mo k σ G.lk W1 H1 G' W' H' → r.R W' H' v x → Q1 v H') → te σ H1 Q1)
    (q : ∀ v W' H' G' x, P G' x → Mo k σ G W H G' W' H' → r.R W' H' v x → Q v H') : tEitherE (tLockE te) te σ H Q := by
  by_cases w : W a = .sh
  · have ha : H a = some (.dK ws) := (hs.ok.exactD rd (by rw [w]; exact fun z => by cases z) (fun _ e => by cases e)).1
    refine .inl ⟨a, .dK ws, ha, trivial, fun od => ?_⟩
    have hs1 := hs.lock w ha od
    obtain ⟨ok1, mv1⟩ := lock_at hs.ok w ha od
    have w1 : setW W a .lk a = .lk := setW_same
    have h1 : upd H a (.frz od (.dK ws)) a = some (.frz od (.dK ws)) := upd_same
    have e1 : ∀ b, b ≠ a → setW W a .lk b = W b ∧ upd H a (.frz od (.dK ws)) b = H b := fun b q => ⟨setW_ne q, upd_ne q⟩
    generalize setW W a .lk = W1 at ok1 mv1 w1 e1 hs1
    generalize upd H a (.frz od (.dK ws)) = H1 at ok1 mv1 h1 e1 hs1
    refine run W1 H1 od _ w1 h1 mv1 hs1 fun v W' H' G' x p m' rr => ?_
    obtain ⟨h2, w2⟩ := m'.go.k a _ h1 (.inr (.inl w1))
    have w2 := w2.trans w1
    obtain ⟨ok3, mv3⟩ := open_at m'.hs.ok w2 h2
    have nl : ∀ b, W' b = .lk → b ≠ a → W b = .lk := fun b s m => by
      have := m'.go.l b s
      rw [(e1 b m).1] at this
      exact this
    have ns : ∀ b φ, W b = .st φ → b ≠ a := fun b φ s e => by rw [e, w] at s; cases s
    refine ⟨h2, q v _ _ (G'.op G.n) x p ⟨⟨fun b o e n => ?_, fun b φ s => ?_, fun b s => ?_⟩, m'.hs.unlock w2 h2 fun n b m s => hs.nl n b (nl b s m), fun ke => ⟨⟨fun b o e n n2 => ?_, fun b φ s => ?_, fun b s => ?_⟩, ?_⟩⟩ ?_⟩
    · by_cases m : b = a
      · subst m
        rw [ha] at e; cases e
        exact ⟨upd_same, by rw [setW_same, w]⟩
      · obtain ⟨e3, q3⟩ := m'.go.k b o (by rw [(e1 b m).2]; exact e) (by rw [(e1 b m).1]; exact n)
        exact ⟨by rw [upd_ne m]; exact e3, by rw [setW_ne m, q3, (e1 b m).1]⟩
    · rw [setW_ne (ns b φ s)]; exact m'.go.s b φ (by rw [(e1 b (ns b φ s)).1]; exact s)
    · by_cases m : b = a
      · rw [m, setW_same] at s; cases s
      · rw [setW_ne m] at s; exact nl b s m
    · by_cases m : b = a
      · subst m
        rw [ha] at e; cases e
        exact ⟨upd_same, by rw [setW_same, w]⟩
      · obtain ⟨e3, q3⟩ := (m'.kp ke).1.k b o (by rw [(e1 b m).2]; exact e) (by rw [(e1 b m).1]; exact n) (by rw [(e1 b m).1]; exact n2)
        exact ⟨by rw [upd_ne m]; exact e3, by rw [setW_ne m, q3, (e1 b m).1]⟩
    · rw [setW_ne (ns b φ s)]; exact m'.go.s b φ (by rw [(e1 b (ns b φ s)).1]; exact s)
    · by_cases m : b = a
      · rw [m, setW_same] at s; cases s
      · rw [setW_ne m] at s; exact nl b s m
    · have := (m'.kp ke).2
      rw [this]
      rfl
    · cases r with
      | sh t => exact t.go rr mv3
      | ow O =>
        refine O.mv (p' := [tmp]) rr (fun b o q e2 e3 => ?_) mv3
        have m : b ≠ a := fun z => by rw [z, w2] at e2; cases e2
        exact ⟨by rw [setW_ne m]; exact e2, by rw [upd_ne m]; exact e3⟩
  · obtain ⟨w, od, ha⟩ : W a = .lk ∧ ∃ od, H a = some (.frz od (.dK ws)) := by
      rcases rd with ⟨q, _⟩ | ⟨q | q, od, e⟩
      · exact absurd q w
      · exact ⟨q, od, e⟩
      · obtain ⟨vs, z⟩ := hs.ok.fo a od _ q e
        cases z
    have gf : G.n = false := by
      cases e : G.n with
      | false => rfl
      | true => exact absurd w (hs.nl e a)
    have hs1 : Holds G.lk W H σ := ⟨hs.len, hs.ok, hs.sl, (fun z => nomatch z), hs.pn, hs.sm⟩
    refine .inr (run W H od Q w ha .refl hs1 fun v W' H' G' x p m' r => q v W' H' (G'.op G.n) x p ⟨m'.go, ⟨m'.hs.len, m'.hs.ok, m'.hs.sl, (fun z => by rw [show (Ct.op G' G.n).n = false from gf] at z; cases z), m'.hs.pn, m'.hs.sm⟩, fun ke => ⟨(m'.kp ke).1, by rw [(m'.kp ke).2]; rfl⟩⟩ r)
theorem ev_lcD {κ : Type} {ke : Ky κ} {tk : Ty κ} (ky : KyT ke tk) {td : TE} {g : TG} {tt : TT} {te : TE} {vs : List Nat} {P : Ct → List β → Prop} {kvs : List (κ × α)} (I : Nat → List β → Prop) (hd : Ap td G (tDk ke t) fun x => x = kvs) (hz : kvs.length < sizeLine) (fr : G.frees vs) (i0 : I 0 [])
    (ht : ∀ i x ys, (kvs.map (·.1))[i]? = some x → I i ys → Tg g (Ct.wipe G.lk vs) tk x vs fun G2 => Et x0 true tt G2 fun G3 b => (b = true → Ev x0 true te G3 u fun _ y => I (i + 1) (ys ++ [y])) ∧ (b = false → I (i + 1) ys)) (he : ∀ ys, I kvs.length ys → P G ys) :
    EvR X k (tEitherE (tLockE (tLc (iKeys td) g tt te vs)) (tLc (iKeys td) g tt te vs)) G (.ow (oL K u)) P := fun W H σ Q hs ex q => by
  obtain ⟨v, x, rfl, ⟨a, ws, rfl, rd, pp⟩, f⟩ := hd W H σ hs
  refine lock_ev (r := .ow (oL K u)) hs rd (fun W1 H1 od Q1 w1 h1 mv1 hs1 q1 => ?_) q
  exact lc_core (P := fun G' x => P (G'.op G.n) x) (keys_at ky hs1 w1 h1 pp (fun Q q => f W1 H1 Q mv1 hs1.ok q) (P := fun G1 xs => ∃ I : Nat → List β → Prop, xs.length < sizeLine ∧ G1.frees vs ∧ I 0 [] ∧ (∀ i x ys, xs[i]? = some x → I i ys → Tg g (G1.wipe vs) tk x vs fun G2 => Et x0 true tt G2 fun G3 b => (b = true → Ev x0 true te G3 u fun _ y => I (i + 1) (ys ++ [y])) ∧ (b = false → I (i + 1) ys)) ∧ ∀ ys, I xs.length ys → P (G1.op G.n) ys) ⟨I, by rw [List.length_map]; exact hz, fr, i0, ht, by rw [List.length_map]; exact he⟩) q1
/-! ### dict comprehensions -/
variable {κ : Type} [DecidableEq δ]
def mkD (ys : List (δ × β)) : List (δ × β) := ys.foldl (fun d p => putZ d p.1 p.2) []
theorem mkD_snoc (ys : List (δ × β)) (p : δ × β) : mkD (ys ++ [p]) = putZ (mkD ys) p.1 p.2 := by unfold mkD; rw [List.foldl_append]; rfl
theorem putZ_len (d : List (δ × β)) (k : δ) (x : β) : (putZ d k x).length ≤ d.length + 1 := by
  unfold putZ
  split
  · rw [List.length_map]; omega
  · rw [List.length_append]; simp
theorem mkD_len (ys : List (δ × β)) : (mkD ys).length ≤ ys.length := by
  have : ∀ (zs : List (δ × β)) (d : List (δ × β)), (zs.foldl (fun d p => putZ d p.1 p.2) d).length ≤ d.length + zs.length := by
    intro zs
    induction zs with
    | nil => intro d; simp
    | cons z zs ih =>
      intro d
      have := ih (putZ d z.1 z.2)
      have := putZ_len d z.1 z.2
      rw [List.foldl_cons, List.length_cons]
      omega
  have := this ys []
  unfold mkD
  simpa using this
theorem hasK_mem {d : List (δ × β)} {k : δ} : hasK d k = decide (k ∈ d.map (·.1)) := by
  unfold hasK lookK
  induction d with
  | nil => rfl
  | cons p d ih =>
    by_cases h : p.1 = k
    · rw [List.find?_cons_of_pos (by exact decide_eq_true h)]
      simp [h]
    · rw [List.find?_cons_of_neg (by simpa using h), ih]
      have : k ≠ p.1 := fun e => h e.symm
      simp [this]
theorem putZ_new {d : List (δ × β)} {k : δ} {x : β} (h : k ∉ d.map (·.1)) : putZ d k x = d ++ [(k, x)] := by
  unfold putZ
  rw [hasK_mem, decide_eq_false h, if_neg Bool.false_ne_true]
theorem mkD_nodup : ∀ {ys : List (δ × β)}, (ys.map (·.1)).Nodup → mkD ys = ys := by
  have : ∀ (zs d : List (δ × β)), ((d ++ zs).map (·.1)).Nodup → zs.foldl (fun d p => putZ d p.1 p.2) d = d ++ zs := by
    intro zs
    induction zs with
    | nil => intro d _; simp
    | cons z zs ih =>
      intro d h
      have hn : z.1 ∉ d.map (·.1) := by
        rw [List.map_append, List.map_cons, List.nodup_append] at h
        exact fun hm => h.2.2 _ hm _ List.mem_cons_self rfl
      rw [List.foldl_cons, putZ_new hn, ih (d ++ [z]) (by rw [List.append_assoc]; exact h), List.append_assoc]
      rfl
  intro ys h
  exact this ys [] h
theorem dc_it {J : It} {n : Nat} {G : Hp → Prop} {Y : Nat → Hp → V → Hp → Prop} (w : Walk J n G Y) {g : TG} {tt : TT} {tk tv : TE} {vs : List Nat} {σ : L2.St} {H1 : Hp} {D : Addr} {Qd : Hp → Prop} (Pv : Nat → Hp → Prop) (h0 : Pv 0 (upd H1 D (.dK []))) (hG : ∀ i H, i ≤ n → Pv i H → G H)
    (hs : ∀ i x H H', i < n → Pv i H → Y i H x H' → g x (L2.wipe σ vs) H' fun σ2 H2 => L2.wipe σ2 vs = L2.wipe σ vs ∧ tt σ2 H2 fun b H3 =>
      if b = true then tk σ2 H3 fun y H4 => tv σ2 H4 fun z H5 => ∃ kvs k, y = kV k ∧ H5 D = some (.dK kvs) ∧ kvs.length < sizeLine ∧ Pv (i + 1) (upd H5 D (.dK (putK kvs k z))) else Pv (i + 1) H3) (hd : ∀ H, Pv n H → Qd H) :
    ∃ W : Nat → Nat → Hp → Prop, (∃ m, W 0 m (upd H1 D (.dK []))) ∧ ∀ i m H, W i m H →
      (J.stop i H ∧ Qd H) ∨ (J.go i H ∧ ∃ Nx : Hp → Prop, (∀ H', Nx H' → ∃ m', m' < m ∧ W (i + 1) m' H') ∧ ∀ x H', J.yld i H x H' → g x (L2.wipe σ vs) H' fun σ2 H2 => L2.wipe σ2 vs = L2.wipe σ vs ∧ tt σ2 H2 fun b H3 =>
        if b = true then tk σ2 H3 fun y H4 => tv σ2 H4 fun z H5 => ∃ kvs k, y = kV k ∧ H5 D = some (.dK kvs) ∧ kvs.length < sizeLine ∧ Nx (upd H5 D (.dK (putK kvs k z))) else Nx H3) := by
  refine ⟨fun i m H => m = n - i ∧ i ≤ n ∧ Pv i H, ⟨n, by simp, Nat.zero_le _, h0⟩, ?_⟩
  rintro i m H ⟨rfl, hi, p⟩
  have q := hG i H hi p
  by_cases hlt : i < n
  · refine .inr ⟨w.goes i H hlt q, Pv (i + 1), fun H' p' => ⟨n - (i + 1), by omega, rfl, hlt, p'⟩, fun x H' y => hs i x H H' hlt p (w.yields i H x H' hlt q y)⟩
  · have e : i = n := by omega
    subst e
    exact .inl ⟨w.stops H q, hd H p⟩
theorem dc_core {ke : Ky δ} {tk : Ty δ} (ky : KyT ke tk) {wi : TI} {g : TG} {tt : TT} {tek tev : TE} {vs : List Nat} {W : Wd} {H : Hp} {σ : L2.St} {Q : VK} {P : Ct → List (δ × β) → Prop}
    (h : EiAt k wi G W H σ t fun G1 xs => ∃ I : Nat → List (δ × β) → Prop, xs.length < sizeLine ∧ G1.frees vs ∧ I 0 [] ∧ (∀ i x ys, xs[i]? = some x → I i ys → Tg g (G1.wipe vs) t x vs fun G2 => Et x0 true tt G2 fun G3 b => (b = true → Ev x0 true tek G3 tk fun G4 kk => Ev x0 true tev G4 u fun _ y => I (i + 1) (ys ++ [(kk, y)])) ∧ (b = false → I (i + 1) ys)) ∧ ∀ ys, I xs.length ys → P G1 (mkD ys))
    (q : ∀ v W' H' G' x, P G' x → Mo k σ G W H G' W' H' → (oD ke u).R [tmp] W' H' v x → Q v H') : tDc wi g tt tek tev vs σ H Q :=
  h _ fun J W1 H1 G1 xs Gh Y ⟨I, hz, fr, i0, ht, he⟩ m wk st yd => fun D hD => by
    refine dc_it wk (fun i H2 => ∃ W2 us ys, GoE W1 H1 W2 H2 ∧ OKW W2 H2 ∧ W2 D = .ow [tmq] ∧ H2 D = some (.dK us) ∧ Paired (fun (p : Key × V) q => p.1 = ke.k q.1 ∧ u.R W2 H2 p.2 q.2) us (mkD ys) ∧ I i ys ∧ ys.length ≤ i) ?_ (fun i H2 _ ⟨W2, us, ys, ga, ok2, _⟩ => st W2 H2 ga.go ok2) ?_ ?_
    · obtain ⟨ga, ok1⟩ := newT m.hs.ok hD (o := .dK []) trivial
      have w1 : setW W1 D (.ow [tmp]) D = .ow [tmp] := setW_same
      exact ⟨setW (setW W1 D (.ow [tmp])) D (.ow [tmq]), [], [], setW_go ga hD (fun φ e => by rw [w1] at e; cases e) (fun e => by cases e), re_ok ok1 w1, setW_same, upd_same, .nil, i0, Nat.le_refl _⟩
    · rintro i v H2 H3 hi ⟨W2, us, ys, ga, ok2, wD, hD2, pp, hc, hl⟩ hy
      obtain ⟨x, W3, hx, g3, ok3, r⟩ := yd W2 H2 i v H3 ga.go ok2 hi hy
      have g13 := ga.trans g3
      have hs3 := (m.hs.goE g13 ok3).wipe vs fr
      refine ht i x ys hx hc W3 H3 _ v _ hs3 r fun G2 σ2 hG2 hs4 hl2 hk2 => ⟨wipe_same hl2 hk2, ?_⟩
      refine hG2 W3 H3 σ2 _ hs4 x0_ok fun b W4 H4 G4 hb m4 => ?_
      have g4 := (m4.kp rfl).1
      obtain ⟨wD3, hD3⟩ := grown g3 wD hD2
      obtain ⟨wD4, hD4⟩ := grown g4 wD3 hD3
      have pp4 := L2.Paired.mapP pp fun (a : Key × V) (c : δ × β) (z : a.1 = ke.k c.1 ∧ u.R W2 H2 a.2 c.2) => (⟨z.1, u.mvE z.2 (g3.trans g4)⟩ : a.1 = ke.k c.1 ∧ u.R W4 H4 a.2 c.2)
      cases b with
      | false =>
        rw [if_neg Bool.false_ne_true]
        exact ⟨W4, us, ys, g13.trans g4, m4.hs.ok, wD4, hD4, pp4, hb.2 rfl, by omega⟩
      | true =>
        rw [if_pos rfl]
        refine hb.1 rfl W4 H4 σ2 _ m4.hs x0_ok fun y W5 H5 G5 kv hk m5 r5 => ?_
        refine hk W5 H5 σ2 _ m5.hs x0_ok fun z W6 H6 G6 zv hzv m6 r6 => ?_
        have g5 := (m5.kp rfl).1
        have g6 := (m6.kp rfl).1
        have ry := (ky.ok _ _ _ _).mp r5
        subst ry
        obtain ⟨wD5, hD5⟩ := grown g5 wD4 hD4
        obtain ⟨wD6, hD6⟩ := grown g6 wD5 hD5
        have pp6 := L2.Paired.mapP pp4 fun (a : Key × V) (c : δ × β) (z : a.1 = ke.k c.1 ∧ u.R W4 H4 a.2 c.2) => (⟨z.1, u.mvE z.2 (g5.trans g6)⟩ : a.1 = ke.k c.1 ∧ u.R W6 H6 a.2 c.2)
        refine ⟨us, ke.k kv, rfl, hD6, by rw [pp.length]; have := mkD_len ys; omega, ?_⟩
        have mv := upd_mv (H := H6) (o := .dK (putK us (ke.k kv) z)) wD6
        refine ⟨W6, _, ys ++ [(kv, zv)], upd_goE (((g13.trans g4).trans g5).trans g6) hD, upd_ok m6.hs.ok wD6 trivial, wD6, upd_same, ?_, hzv, by rw [List.length_append]; simp; omega⟩
        rw [mkD_snoc]
        exact put_paired kv (u.go r6 mv) (L2.Paired.mapP pp6 fun a c z => ⟨z.1, u.go z.2 mv⟩)
    · rintro H2 ⟨W2, us, ys, ga, ok2, wD, hD2, pp, hc, hl⟩
      have ok3 := re_ok (p' := [tmp]) ok2 wD
      refine q _ (setW W2 D (.ow [tmp])) H2 G1 (mkD ys) (he ys hc) (m.thenE (setW_go ga hD (fun φ e => by rw [wD] at e; cases e) fun e => by cases e) ok3) ⟨D, us, rfl, setW_same, hD2, ?_⟩
      exact L2.Paired.mapP pp fun a c z => ⟨z.1, u.go z.2 (re_mv wD)⟩
theorem ev_dc {ke : Ky δ} {tk : Ty δ} (ky : KyT ke tk) {wi : TI} {g : TG} {tt : TT} {tek tev : TE} {vs : List Nat} {P : Ct → List (δ × β) → Prop}
    (h : Ei X k wi G t fun G1 xs => ∃ I : Nat → List (δ × β) → Prop, xs.length < sizeLine ∧ G1.frees vs ∧ I 0 [] ∧ (∀ i x ys, xs[i]? = some x → I i ys → Tg g (G1.wipe vs) t x vs fun G2 => Et x0 true tt G2 fun G3 b => (b = true → Ev x0 true tek G3 tk fun G4 kk => Ev x0 true tev G4 u fun _ y => I (i + 1) (ys ++ [(kk, y)])) ∧ (b = false → I (i + 1) ys)) ∧ ∀ ys, I xs.length ys → P G1 (mkD ys)) :
    EvR X k (tDc wi g tt tek tev vs) G (.ow (oD ke u)) P := fun W H σ Q hs ex q => dc_core ky (h W H σ hs ex) q
end
/-! ### one's own things, looked at -/
def Sl.view : Sl → Sl
  | .ow O x => .sh O.sv x
  | s => s
def Ct.view (G : Ct) : Ct := ⟨G.n, G.s.map Sl.view, G.p⟩
/-- all of one's own is only looked at -/
def mView : Mp := ⟨fun _ => .vw, fun _ => none, fun _ _ h => (nomatch h), fun _ _ h => (nomatch h), fun _ => rfl⟩
section
variable {α : Type} {t : Ty α} {X : Xw} {k : Bool} {G : Ct}
theorem view_holds {W : Wd} {H : Hp} {σ : L2.St} (h : Holds G W H σ) : Holds G.view (enter mView W) H σ := by
  refine ⟨by rw [h.len]; show _ = (G.s.map _).length; rw [List.length_map], enter_ok h.ok, fun i s e h1 h2 => ?_, fun n b w => h.nl n b (enter_lk w), h.pn, by show (G.s.map _).length ≤ tmp; rw [List.length_map]; exact h.sm⟩
  have h1 : (G.s.map Sl.view)[i]? = some s := h1
  rw [List.getElem?_map] at h1
  obtain ⟨s0, e0, rfl⟩ := Option.map_eq_some_iff.mp h1
  have kk := h.sl i s0 e e0 h2
  cases s0 with
  | un => trivial
  | sh t x => obtain ⟨v, e, r⟩ := kk; exact ⟨v, e, t.go r enter_mv⟩
  | ow O x => obtain ⟨v, e, r⟩ := kk; exact ⟨v, e, O.fz r (fun b o q w e => ⟨enter_vw w rfl, e⟩) enter_mv⟩
theorem view_back {W W2 : Wd} {H H2 : Hp} {σ : L2.St} {G2 : Ct} (hs : Holds G W H σ) (m : Mo true σ G.view (enter mView W) H G2 W2 H2) : Mo k σ G W H G (leave mView W W2) H2 := by
  have g := (m.kp rfl).1
  have l := left hs.ok g.go m.hs.ok
  have e : GoE W H (leave mView W W2) H2 := ⟨fun b o e n _ => by
    cases w : W b with
    | ow p =>
      obtain ⟨h1, h2⟩ := l.own b p o w (fun _ z => nomatch z) e
      exact ⟨h2, h1⟩
    | st φ => exact absurd w (n φ)
    | sh => rw [← w]; exact l.go.k b o e (.inl w)
    | lk => rw [← w]; exact l.go.k b o e (.inr (.inl w))
    | fo => rw [← w]; exact l.go.k b o e (.inr (.inr w)), l.go.s, l.go.l⟩
  exact .goE hs e l.ok
theorem flI : FlatT tInt := fun _ _ _ _ _ _ h => h
theorem flS : FlatT tStr := fun _ _ _ _ _ _ h => h
theorem FlatR.back {W W2 : Wd} {H H2 : Hp} {m : Mp} {r : Rt α} {v : V} {x : α} (fl : FlatR r) (l : Left m W H W2 H2) (h : r.R W2 H2 v x) : r.R (leave m W W2) H2 v x := by
  cases r with
  | sh t => exact fl _ _ _ _ _ _ h
  | ow O => exact fl _ _ _ _ _ _ _ _ h fun b o q w e => ⟨l.tmp b q w, e⟩
/-- something flat, read of one's own things -/
theorem ev_view {r : Rt α} (fl : FlatR r) {te : TE} {P : Ct → α → Prop} (h : EvR ⟨X.E, fun _ e => X.xp G e ∧ e.fs = none⟩ true te G.view r fun _ x => P G x) : EvR X k te G r P := fun W H σ Q hs ex q =>
  h (enter mView W) H σ Q (view_holds hs) (fun e d W' H' G' ⟨p, fs⟩ g hs' r => by
    have l := left hs.ok g hs'.ok
    refine ex e d (leave mView W W') H' G p l.go ?_ ?_
    · refine ⟨hs.len, l.ok, fun i s z a b => (hs.sl i s z a b).mv (fun c o q w eo => l.own c _ o w (fun _ y => nomatch y) eo) l.go.mv, fun n b w => hs.nl n b (l.go.l b w), hs.pn, hs.sm⟩
    · unfold ErAt at r ⊢
      rw [fs] at r ⊢
      cases d with
      | none => trivial
      | some d => exact r.elim) fun v W2 H2 G2 x p m rr =>
    q v _ H2 G x p (view_back hs m) (fl.back (left hs.ok (m.kp rfl).1.go m.hs.ok) rr)
theorem et_view {tt : TT} {P : Ct → Bool → Prop} (h : Et x0 true tt G.view fun _ b => P G b) : Et X k tt G P := fun W H σ Q hs ex q =>
  h (enter mView W) H σ Q (view_holds hs) x0_ok fun b W2 H2 G2 p m => q b _ H2 G p (view_back hs m)
end
end Y
end

section
set_option maxRecDepth 100000
set_option maxHeartbeats 4000000
/-! Places: things of one's own that are written. -/
namespace Y
open PySem PySem.Spec PyProof.Rows L2
variable {K : PySem.W.Frag}
/-- what is not below q stands -/
def Out (q : List Nat) (W : Wd) (H : Hp) (W' : Wd) (H' : Hp) : Prop := ∀ b p o, W b = .ow p → ¬ q <+: p → H b = some o → W' b = .ow p ∧ H' b = some o
/-- a place that may be written: its new state is told by up -/
def Pw {α : Type} (te : TE) (G : Ct) (q : List Nat) (O : OT α) (x : α) (up : Sl → Ct) : Prop := Real q ∧ ∀ W H σ, Holds G W H σ → ∃ v, O.R q W H v x ∧ (∀ (Q : VK), Q v H → te σ H Q) ∧
  ∀ W1 H1, GoE W H W1 H1 → OKW W1 H1 → ∀ W' H' (s : Sl), OKW W' H' → Go W1 H1 W' H' → Out q W1 H1 W' H' → s.at q W' H' v → Holds (up s) W' H' σ
theorem pw_var {α : Type} {G : Ct} {i : Nat} {O : OT α} {x : α} (e : G.s[i]? = some (.ow O x)) (hl : i < tmp) : Pw (tVar i) G [i] O x (fun s => G.set i s) := ⟨⟨i, [], rfl, Nat.ne_of_lt hl⟩, fun W H σ hs => by
  obtain ⟨v, e1, r⟩ := hs.own e
  refine ⟨v, r, fun Q q => ⟨v, e1, q⟩, fun W1 H1 g ok1 W' H' s ok' g' out sa => ?_⟩
  have hs1 := hs.goE g ok1
  refine ⟨by show σ.length = (G.s.set i s).length; rw [List.length_set]; exact hs.len, ok', fun j s' z (h1 : (G.s.set i s)[j]? = some s') h2 => ?_, fun n b w => hs1.nl n b (g'.l b w), hs.pn, by show (G.s.set i s).length ≤ tmp; rw [List.length_set]; exact hs.sm⟩
  rcases set_key h1 with ⟨rfl, rfl⟩ | ⟨n1, g1⟩
  · rw [e1] at h2
    cases h2
    exact .of sa
  · exact (hs1.sl j s' z g1 h2).mv (fun b o q w eo => out b _ o w (fun ⟨r, z⟩ => n1 (List.cons.inj z).1.symm) eo) g'.mv⟩
/-! ### attributes of an instance of one's own -/
inductive FdsR (p : List Nat) (W : Wd) (H : Hp) : Nat → List (Str × V) → List (Str × Sl) → Prop where
  | nil {n : Nat} : FdsR p W H n [] []
  | cons {n : Nat} {f : Str} {v : V} {s : Sl} {vs : List (Str × V)} {ss : List (Str × Sl)} : s.at (p ++ [n]) W H v → FdsR p W H (n + 1) vs ss → FdsR p W H n ((f, v) :: vs) ((f, s) :: ss)
theorem FdsR.imp {p p' : List Nat} {W W' : Wd} {H H' : Hp} {n : Nat} {vs : List (Str × V)} {ss : List (Str × Sl)} (h : FdsR p W H n vs ss) (f : ∀ j v s, n ≤ j → s.at (p ++ [j]) W H v → (∃ i nm, ss[i]? = some (nm, s) ∧ vs[i]? = some (nm, v) ∧ j = n + i) → s.at (p' ++ [j]) W' H' v) : FdsR p' W' H' n vs ss := by
  induction h with
  | nil => exact .nil
  | cons r _ ih => exact .cons (f _ _ _ (Nat.le_refl _) r ⟨0, _, rfl, rfl, rfl⟩) (ih fun j v s hj r ⟨i, nm, e1, e2, e3⟩ => f j v s (by omega) r ⟨i + 1, nm, e1, e2, by omega⟩)
theorem Sl.at_mv {s : Sl} {p p' : List Nat} {W W' : Wd} {H H' : Hp} {v : V} (h : s.at p W H v) (k : ∀ b o q, W b = .ow (p ++ q) → H b = some o → W' b = .ow (p' ++ q) ∧ H' b = some o) (m : Mv W H W' H') : s.at p' W' H' v := by
  cases s with
  | un => trivial
  | sh t x => exact t.go h m
  | ow O x => exact O.mv h k m
theorem Sl.at_fz {s : Sl} {p : List Nat} {W W' : Wd} {H H' : Hp} {v : V} (h : s.at p W H v) (k : ∀ b o q, W b = .ow (p ++ q) → H b = some o → W' b = .sh ∧ H' b = some o) (m : Mv W H W' H') : s.view.at p W' H' v := by
  cases s with
  | un => trivial
  | sh t x => exact t.go h m
  | ow O x => exact O.fz h k m
/-- an instance that is shared: its attributes by name -/
def tIns (C : Addr) (fl : List (Str × Sl)) : Ty Unit := ⟨fun W H v _ => ∃ a dx vs, v = .ref a ∧ RdW W H a (.ins C dx vs) ∧ FdsR [] W H 0 vs (fl.map fun p => (p.1, p.2.view)), by
  rintro W W' H H' v _ ⟨a, dx, vs, e, h, r⟩ m
  refine ⟨a, dx, vs, e, m.rd _ _ h, r.imp fun j v s _ r ⟨i, nm, e1, _⟩ => ?_⟩
  rw [List.getElem?_map] at e1
  obtain ⟨⟨z1, z2⟩, _, e2⟩ := Option.map_eq_some_iff.mp e1
  cases e2
  cases z2 with
  | un => trivial
  | sh t x => exact t.go r m
  | ow O x => exact O.sv.go r m⟩
theorem fds_view {p : List Nat} {W W' : Wd} {H H' : Hp} {n : Nat} {vs : List (Str × V)} {ss : List (Str × Sl)} (h : FdsR p W H n vs ss) (k : ∀ b o q, W b = .ow (p ++ q) → H b = some o → W' b = .sh ∧ H' b = some o) (m : Mv W H W' H') : FdsR [] W' H' n vs (ss.map fun p => (p.1, p.2.view)) := by
  induction h with
  | nil => exact .nil
  | @cons n f v s vs ss r _ ih =>
    refine .cons ?_ ih
    have := Sl.at_fz r (fun b o q w e => k b o (n :: q) (by rw [w, List.append_assoc]; rfl) e) m
    cases s with
    | un => trivial
    | sh t x => exact this
    | ow O x => exact this
def oIns (C : Addr) (fl : List (Str × Sl)) : OT Unit where
  R p W H v _ := ∃ a dx vs, v = .ref a ∧ W a = .ow p ∧ H a = some (.ins C dx vs) ∧ FdsR p W H 0 vs fl
  sv := tIns C fl
  mv := by
    rintro p p' W W' H H' v _ ⟨a, dx, vs, e, w, h, r⟩ k m
    obtain ⟨w1, h1⟩ := k a _ [] (by rw [List.append_nil]; exact w) h
    refine ⟨a, dx, vs, e, by rw [List.append_nil] at w1; exact w1, h1, r.imp fun j v s _ r _ => Sl.at_mv r (fun b o q w e => ?_) m⟩
    have := k b o ([j] ++ q) (by rw [← List.append_assoc]; exact w) e
    rwa [← List.append_assoc] at this
  fz := by
    rintro p W W' H H' v _ ⟨a, dx, vs, e, w, h, r⟩ k m
    obtain ⟨w1, h1⟩ := k a _ [] (by rw [List.append_nil]; exact w) h
    exact ⟨a, dx, vs, e, .inl ⟨w1, h1⟩, fds_view r k m⟩
theorem lookup_at {vs : List (Str × V)} {ss : List (Str × Sl)} {p : List Nat} {W : Wd} {H : Hp} {n : Nat} (h : FdsR p W H n vs ss) {f : Str} : ∀ {j : Nat} {s : Sl}, ss[j]? = some (f, s) → (ss.map (·.1)).idxOf f = j → ∃ v, vs.lookup f = some v ∧ s.at (p ++ [n + j]) W H v ∧ vs[j]? = some (f, v) := by
  induction h with
  | nil => intro j s h; simp at h
  | @cons n g v s0 vs ss r _ ih =>
    intro j s h1 h2
    rw [List.map_cons, List.idxOf_cons] at h2
    by_cases e : g = f
    · subst e
      rw [show (g == g) = true from beq_self_eq_true g] at h2
      simp only [cond_true] at h2
      subst h2
      cases h1
      exact ⟨v, by rw [List.lookup_cons, show (g == g) = true from beq_self_eq_true g], r, rfl⟩
    · have ne : (g == f) = false := beq_eq_false_iff_ne.mpr e
      rw [ne] at h2
      simp only [cond_false] at h2
      cases j with
      | zero => cases h1; exact absurd rfl e
      | succ j =>
        obtain ⟨w, l, r2, l2⟩ := ih (j := j) h1 (by omega)
        refine ⟨w, ?_, by rw [show n + (j + 1) = n + 1 + j from by omega]; exact r2, l2⟩
        rw [List.lookup_cons, show (f == g) = false from beq_eq_false_iff_ne.mpr fun z => e z.symm]
        exact l
theorem FdsR.set {p : List Nat} {W W' : Wd} {H H' : Hp} {n : Nat} {vs : List (Str × V)} {ss : List (Str × Sl)} {f : Str} {s' : Sl} {v : V} (h : FdsR p W H n vs ss) : ∀ {j : Nat} {s : Sl}, ss[j]? = some (f, s) → vs[j]? = some (f, v) → (∀ i u z, i ≠ n + j → z.at (p ++ [i]) W H u → Sl.at z (p ++ [i]) W' H' u) → s'.at (p ++ [n + j]) W' H' v → FdsR p W' H' n vs (ss.set j (f, s')) := by
  induction h with
  | nil => intro j s h; simp at h
  | @cons n g u z vs ss r t ih =>
    intro j s h1 h2 k sa
    cases j with
    | zero =>
      cases h1
      cases h2
      refine .cons sa (t.imp fun i u z hi r _ => k i u z (by omega) r)
    | succ j => exact .cons (k n _ _ (by omega) r) (ih (j := j) h1 h2 (fun i u z hi => k i u z (by omega)) (by rw [show n + 1 + j = n + (j + 1) from by omega]; exact sa))
/-- an attribute of what hangs at a place -/
theorem pw_fld {α : Type} {G : Ct} {te : TE} {q : List Nat} {C : Addr} {fl : List (Str × Sl)} {up : Sl → Ct} {j : Nat} {f : Str} {O : OT α} {x : α} (c : Cls K C) (na : NoAttr K C f) (hj : fl[j]? = some (f, .ow O x)) (hi : (fl.map (·.1)).idxOf f = j) (pw : Pw te G q (oIns C fl) () up) :
    Pw (tFld K te f) G (q ++ [j]) O x (fun s => up (.ow (oIns C (fl.set j (f, s))) ())) := by
  obtain ⟨⟨i, r, rfl, ni⟩, pw⟩ := pw
  refine ⟨⟨i, r ++ [j], rfl, ni⟩, fun W H σ hs => ?_⟩
  obtain ⟨v, ⟨a, dx, vs, rfl, wa, ha, fr⟩, ev, k⟩ := pw W H σ hs
  obtain ⟨u, lu, ru, gu⟩ := lookup_at fr hj hi
  rw [Nat.zero_add] at ru
  refine ⟨u, ru, fun Q h => ev _ ⟨a, C, dx, vs, u, rfl, ha, c, na, lu, h⟩, fun W1 H1 g ok1 W' H' s ok' g' out sa => ?_⟩
  have np : ¬ (i :: r) ++ [j] <+: i :: r := fun z => by have := z.length_le; rw [List.length_append] at this; simp only [List.length_cons, List.length_nil] at this; omega
  obtain ⟨h1, w1⟩ := g.own ha wa ni
  obtain ⟨w2, h2⟩ := out a _ _ w1 np h1
  refine k W1 H1 g ok1 W' H' _ ok' g' (fun b p o w n e => out b p o w (fun ⟨r2, z⟩ => n ⟨[j] ++ r2, by rw [← List.append_assoc]; exact z⟩) e) ?_
  have fr1 : FdsR (i :: r) W1 H1 0 vs fl := fr.imp fun m v s _ r2 _ => Sl.at_mv r2 (fun b o q w e => by
    obtain ⟨e1, e2⟩ := g.own e w ni
    exact ⟨e2, e1⟩) g.go.mv
  refine ⟨a, dx, vs, rfl, w2, h2, fr1.set hj gu (fun m u z hm r2 => Sl.at_mv r2 (fun b o q w e => out b _ o w (fun ⟨r3, z⟩ => hm ?_) e) g'.mv) (by rw [Nat.zero_add]; exact sa)⟩
  have z2 : (i :: r) ++ ([j] ++ r3) = (i :: r) ++ ([m] ++ q) := by rw [← List.append_assoc, ← List.append_assoc]; exact z
  have := List.append_cancel_left z2
  rw [Nat.zero_add]
  exact (List.cons.inj this).1.symm
/-! ### lists of lists of one's own -/
def oLO (K : PySem.W.Frag) {α : Type} (O : OT α) : OT (List α) where
  R p W H v xs := ∃ a vs, v = .ref a ∧ W a = .ow p ∧ H a = some (.lst vs) ∧ vs.length = xs.length ∧ ∀ (k : Nat) u x, vs[k]? = some u → xs[k]? = some x → O.R (p ++ [k]) W H u x
  sv := tLs K O.sv
  mv := by
    rintro p p' W W' H H' v xs ⟨a, vs, e, w, h, l, r⟩ kk m
    obtain ⟨w1, h1⟩ := kk a _ [] (by rw [List.append_nil]; exact w) h
    refine ⟨a, vs, e, by rw [List.append_nil] at w1; exact w1, h1, l, fun k u x hu hx => O.mv (r k u x hu hx) (fun b o q w e => ?_) m⟩
    have := kk b o ([k] ++ q) (by rw [← List.append_assoc]; exact w) e
    rwa [← List.append_assoc] at this
  fz := by
    rintro p W W' H H' v xs ⟨a, vs, e, w, h, l, r⟩ kk m
    obtain ⟨w1, h1⟩ := kk a _ [] (by rw [List.append_nil]; exact w) h
    refine ⟨a, vs, e, ⟨w1, h1⟩, ?_⟩
    have : ∀ (ys : List V) (zs : List α) (n : Nat), ys.length = zs.length → (∀ (k : Nat) u x, ys[k]? = some u → zs[k]? = some x → O.R (p ++ [n + k]) W H u x) → Paired (O.sv.R W' H') ys zs := by
      intro ys
      induction ys with
      | nil => intro zs n hl _; cases zs with
        | nil => exact .nil
        | cons _ _ => cases hl
      | cons y ys ih => intro zs n hl hr; cases zs with
        | nil => cases hl
        | cons z zs =>
          refine .cons (O.fz (hr 0 y z rfl rfl) (fun b o q w e => kk b o ([n + 0] ++ q) (by rw [← List.append_assoc]; exact w) e) m) (ih zs (n + 1) (Nat.succ.inj hl) fun k u x hu hx => ?_)
          have := hr (k + 1) u x hu hx
          rwa [show n + (k + 1) = n + 1 + k from by omega] at this
    exact this vs xs 0 l fun k u x hu hx => by rw [Nat.zero_add]; exact r k u x hu hx
/-- an item of what hangs at a place -/
theorem pw_idx {α : Type} {G : Ct} {te : TE} {q : List Nat} {O : OT α} {xs : List α} {up : Sl → Ct} {ti : TE} {k : Int} {j : Nat} {x : α} (hj : ixN xs.length k = some j) (hx : xs[j]? = some x) (pw : Pw te G q (oLO K O) xs up)
    (ei : ∀ W H σ (Q : VK), Holds G W H σ → Q (.int k) H → ti σ H Q) : ∃ up' : α → Ct, (∀ y, up' y = up (.ow (oLO K O) (xs.set j y))) ∧ Real (q ++ [j]) ∧ ∀ W H σ, Holds G W H σ → ∃ v, O.R (q ++ [j]) W H v x ∧ (∀ (Q : VK), Q v H → tOp (rIxL K) te ti σ H Q) ∧
      ∀ W1 H1, GoE W H W1 H1 → OKW W1 H1 → ∀ W' H' (y : α), OKW W' H' → Go W1 H1 W' H' → Out (q ++ [j]) W1 H1 W' H' → O.R (q ++ [j]) W' H' v y → Holds (up' y) W' H' σ := by
  obtain ⟨⟨i, r, rfl, ni⟩, pw⟩ := pw
  refine ⟨_, fun y => rfl, ⟨i, r ++ [j], rfl, ni⟩, fun W H σ hs => ?_⟩
  obtain ⟨v, ⟨a, vs, rfl, wa, ha, hl, fr⟩, ev, kk⟩ := pw W H σ hs
  have hjv : j < vs.length := by rw [hl]; exact (List.getElem?_eq_some_iff.mp hx).1
  have hu := List.getElem?_eq_getElem hjv
  refine ⟨vs[j], fr j _ x hu hx, fun Q h => ev _ (ei W H σ _ hs ⟨a, vs, k, vs[j], rfl, rfl, SqL.of ha, ?_, h⟩), fun W1 H1 g ok1 W' H' y ok' g' out sa => ?_⟩
  · unfold atI
    rw [hl, hj]
    exact hu
  have np : ¬ (i :: r) ++ [j] <+: i :: r := fun z => by have := z.length_le; rw [List.length_append] at this; simp only [List.length_cons, List.length_nil] at this; omega
  obtain ⟨h1, w1⟩ := g.own ha wa ni
  obtain ⟨w2, h2⟩ := out a _ _ w1 np h1
  refine kk W1 H1 g ok1 W' H' (.ow (oLO K O) (xs.set j y)) ok' g' (fun b p o w n e => out b p o w (fun ⟨r2, z⟩ => n ⟨[j] ++ r2, by rw [← List.append_assoc]; exact z⟩) e) ⟨a, vs, rfl, w2, h2, by rw [List.length_set]; exact hl, fun m u z hu2 hz => ?_⟩
  rcases set_key hz with ⟨rfl, rfl⟩ | ⟨nm, hz⟩
  · rw [hu] at hu2
    cases hu2
    exact sa
  · have r1 := O.mv (p' := (i :: r) ++ [m]) (fr m u z hu2 hz) (fun b o q w e => by
      obtain ⟨e1, e2⟩ := g.own e w ni
      exact ⟨e2, e1⟩) g.go.mv
    refine O.mv r1 (fun b o q w e => out b _ o w (fun ⟨r3, z⟩ => nm ?_) e) g'.mv
    have z2 : (i :: r) ++ ([j] ++ r3) = (i :: r) ++ ([m] ++ q) := by rw [← List.append_assoc, ← List.append_assoc]; exact z
    exact (List.cons.inj (List.append_cancel_left z2)).1.symm
/-! ### what is done to a place -/
section
variable {α ρ : Type} {F : Fx ρ} {G : Ct} {N B C : Ct → Prop} {t : Ty α} {X : Xw}
/-- a place whose kind stays -/
def Pt {α : Type} (te : TE) (G : Ct) (q : List Nat) (O : OT α) (x : α) (up : α → Ct) : Prop := Real q ∧ ∀ W H σ, Holds G W H σ → ∃ v, O.R q W H v x ∧ (∀ (Q : VK), Q v H → te σ H Q) ∧
  ∀ W1 H1, GoE W H W1 H1 → OKW W1 H1 → ∀ W' H' y, OKW W' H' → Go W1 H1 W' H' → Out q W1 H1 W' H' → O.R q W' H' v y → Holds (up y) W' H' σ
theorem Pw.pt {te : TE} {q : List Nat} {O : OT α} {x : α} {up : Sl → Ct} (h : Pw te G q O x up) : Pt te G q O x (fun y => up (.ow O y)) := ⟨h.1, fun W H σ hs => by
  obtain ⟨v, r, f, k⟩ := h.2 W H σ hs
  exact ⟨v, r, f, fun W1 H1 g ok1 W' H' y ok' g' out r => k W1 H1 g ok1 W' H' (.ow O y) ok' g' out r⟩⟩
theorem pt_var {i : Nat} {O : OT α} {x : α} (e : G.s[i]? = some (.ow O x)) (hl : i < tmp) : Pt (tVar i) G [i] O x (fun y => G.set i (.ow O y)) := (pw_var e hl).pt
theorem pt_idx {te : TE} {q : List Nat} {O : OT α} {xs : List α} {up : Sl → Ct} {ti : TE} {k : Int} {j : Nat} {x : α} (hj : ixN xs.length k = some j) (hx : xs[j]? = some x) (pw : Pw te G q (oLO K O) xs up) (ei : ∀ W H σ (Q : VK), Holds G W H σ → Q (.int k) H → ti σ H Q) :
    Pt (tOp (rIxL K) te ti) G (q ++ [j]) O x (fun y => up (.ow (oLO K O) (xs.set j y))) := by
  obtain ⟨up', e, re, h⟩ := pw_idx hj hx pw ei
  have : up' = fun y => up (.ow (oLO K O) (xs.set j y)) := funext e
  subst this
  exact ⟨re, h⟩
theorem out_upd {W : Wd} {H : Hp} {a : Addr} {o : HO} {q : List Nat} (w : W a = .ow q) : Out q W H W (upd H a o) := fun b p u wb n e => by
  have m : b ≠ a := fun z => n (by rw [z, w] at wb; cases wb; exact List.prefix_rfl)
  exact ⟨wb, by rw [upd_ne m]; exact e⟩
/-- a list at a place, before it is written -/
theorem Pt.list {te : TE} {q : List Nat} {xs : List α} {up : List α → Ct} (h : Pt te G q (oL K t) xs up) {W : Wd} {H : Hp} {σ : L2.St} (hs : Holds G W H σ) : ∃ a vs, (∀ (Q : VK), Q (.ref a) H → te σ H Q) ∧ W a = .ow q ∧ H a = some (.lst vs) ∧
    ∀ W1 H1, GoE W H W1 H1 → OKW W1 H1 → W1 a = .ow q ∧ H1 a = some (.lst vs) ∧ Paired (t.R W1 H1) vs xs ∧ ∀ vs' ys, Paired (t.R W1 H1) vs' ys → Go W1 H1 W1 (upd H1 a (.lst vs')) ∧ Holds (up ys) W1 (upd H1 a (.lst vs')) σ := by
  obtain ⟨⟨i, r, rfl, ni⟩, h⟩ := h
  obtain ⟨v, ⟨a, vs, rfl, wa, ha, pp⟩, f, k⟩ := h W H σ hs
  refine ⟨a, vs, f, wa, ha, fun W1 H1 g ok1 => ?_⟩
  obtain ⟨h1, w1⟩ := g.own ha wa ni
  refine ⟨w1, h1, L2.Paired.mapP pp fun _ _ r => t.mvE r g, fun vs' ys p2 => ?_⟩
  have mv := upd_mv (H := H1) (o := .lst vs') w1
  exact ⟨upd_go w1, k W1 H1 g ok1 W1 _ ys (upd_ok ok1 w1 trivial) (upd_go w1) (out_upd w1) ⟨a, vs', rfl, w1, upd_same, L2.Paired.mapP p2 fun _ _ r => t.go r mv⟩⟩
/-- xs.append(e) -/
theorem blk_append {te ta : TE} {q : List Nat} {xs : List α} {up : List α → Ct} (pt : Pt te G q (oL K t) xs up) (h : Ev F.X true ta G t fun _ x => xs.length < sizeLine ∧ N (up (xs ++ [x]))) : Blk F (tDrop (tBM K "list" rAppend te (tCons ta tNil))) G N B C := fun W0 H0 W H σ D g hs n _ _ _ ex => by
  obtain ⟨a, vs, f, wa, ha, k⟩ := pt.list hs
  refine f _ ⟨.inl ⟨rfl, _, SqL.of ha⟩, h W H σ _ hs (exo ex g) fun v W1 H1 G1 x ⟨hl, hn⟩ m r => ?_⟩
  obtain ⟨w1, h1, pp, k2⟩ := k W1 H1 (m.kp rfl).1 m.hs.ok
  obtain ⟨g2, hs2⟩ := k2 (vs ++ [v]) (xs ++ [x]) (paired_snoc' pp r)
  exact ⟨a, vs, v, rfl, rfl, h1, by rw [pp.length]; exact hl, n _ _ _ _ hn ((g.trans m.go).trans g2) hs2⟩
theorem paired_dropLast {α β : Type} {R : α → β → Prop} : ∀ {xs : List α} {ys : List β}, Paired R xs ys → Paired R xs.dropLast ys.dropLast
  | _, _, .nil => .nil
  | _, _, .cons _ .nil => .nil
  | _, _, .cons a (.cons b p) => .cons a (paired_dropLast (.cons b p))
/-- xs.pop() -/
theorem ev_pop {te : TE} {q : List Nat} {xs : List α} {up : List α → Ct} {P : Ct → α → Prop} (pt : Pt te G q (oL K t) xs up) (h : ∃ x, xs.getLast? = some x ∧ P (up xs.dropLast) x) : Ev X false (tBM0 K "list" rPop te) G t P := fun W H σ Q hs ex qq => by
  obtain ⟨a, vs, f, wa, ha, k⟩ := pt.list hs
  obtain ⟨w1, h1, pp, k2⟩ := k W H .refl hs.ok
  obtain ⟨g2, hs2⟩ := k2 _ _ (paired_dropLast pp)
  obtain ⟨x, hx, p⟩ := h
  rw [List.getLast?_eq_getElem?] at hx
  obtain ⟨y, hy, r⟩ := paired_get pp hx
  refine f _ ⟨.inl ⟨rfl, _, SqL.of ha⟩, a, vs, y, rfl, rfl, ha, by rw [pp.length]; exact hy, qq y W _ _ x p ⟨g2, hs2, fun z => nomatch z⟩ (t.go r (upd_mv w1))⟩
theorem paired_erase {α β : Type} {R : α → β → Prop} : ∀ {xs : List α} {ys : List β} (k : Nat), Paired R xs ys → Paired R (xs.eraseIdx k) (ys.eraseIdx k)
  | _, _, _, .nil => .nil
  | _, _, 0, .cons _ p => p
  | _, _, k + 1, .cons a p => .cons a (paired_erase k p)
theorem paired_set {α β : Type} {R : α → β → Prop} {x : α} {y : β} (r : R x y) : ∀ {xs : List α} {ys : List β} (j : Nat), Paired R xs ys → Paired R (xs.set j x) (ys.set j y)
  | _, _, _, .nil => .nil
  | _, _, 0, .cons _ p => .cons r p
  | _, _, j + 1, .cons a p => .cons a (paired_set r j p)
end
section
variable {α κ ρ : Type} {F : Fx ρ} {G : Ct} {N B C : Ct → Prop} {t : Ty α} {X : Xw} {ke : Ky κ} {tk : Ty κ} [DecidableEq κ]
/-- a dict at a place, before it is written -/
theorem Pt.dict {te : TE} {q : List Nat} {xs : List (κ × α)} {up : List (κ × α) → Ct} (h : Pt te G q (oD ke t) xs up) {W : Wd} {H : Hp} {σ : L2.St} (hs : Holds G W H σ) : ∃ a ws, (∀ (Q : VK), Q (.ref a) H → te σ H Q) ∧ W a = .ow q ∧ H a = some (.dK ws) ∧
    ∀ W1 H1, GoE W H W1 H1 → OKW W1 H1 → W1 a = .ow q ∧ H1 a = some (.dK ws) ∧ Paired (fun (p : Key × V) (q : κ × α) => p.1 = ke.k q.1 ∧ t.R W1 H1 p.2 q.2) ws xs ∧ ∀ ws' ys, Paired (fun (p : Key × V) (q : κ × α) => p.1 = ke.k q.1 ∧ t.R W1 H1 p.2 q.2) ws' ys → Go W1 H1 W1 (upd H1 a (.dK ws')) ∧ Holds (up ys) W1 (upd H1 a (.dK ws')) σ := by
  obtain ⟨⟨i, r, rfl, ni⟩, h⟩ := h
  obtain ⟨v, ⟨a, ws, rfl, wa, ha, pp⟩, f, k⟩ := h W H σ hs
  refine ⟨a, ws, f, wa, ha, fun W1 H1 g ok1 => ?_⟩
  obtain ⟨h1, w1⟩ := g.own ha wa ni
  refine ⟨w1, h1, L2.Paired.mapP pp fun _ _ r => ⟨r.1, t.mvE r.2 g⟩, fun ws' ys p2 => ?_⟩
  have mv := upd_mv (H := H1) (o := .dK ws') w1
  exact ⟨upd_go w1, k W1 H1 g ok1 W1 _ ys (upd_ok ok1 w1 trivial) (upd_go w1) (out_upd w1) ⟨a, ws', rfl, w1, upd_same, L2.Paired.mapP p2 fun _ _ r => ⟨r.1, t.go r.2 mv⟩⟩⟩
/-- d[k] = v, a place that stands by itself -/
theorem blk_dput {td ty tv : TE} {q : List Nat} {xs : List (κ × α)} {up : List (κ × α) → Ct} (ky : KyT ke tk) (pt : Pt td G q (oD ke t) xs up) (h : Ev F.X true tv G t fun G x => Ev F.X true ty G tk fun _ k => xs.length < sizeLine ∧ N (up (putZ xs k x))) : Blk F (sDPut td ty tv) G N B C := fun W0 H0 W H σ D g hs n _ _ _ ex =>
  h W H σ _ hs (exo ex g) fun v W1 H1 G1 x p m r => by
    obtain rfl : G1 = G := (m.kp rfl).2
    obtain ⟨a, ws, f, wa, ha, k⟩ := pt.dict m.hs
    refine f _ (p W1 H1 σ _ m.hs ((exo ex g).mv m.go) fun y W2 H2 G2 kk ⟨hl, hn⟩ m2 rk => ?_)
    have rk := (ky.ok _ _ _ _).mp rk
    subst rk
    obtain ⟨w2, h2, pp, k2⟩ := k W2 H2 (m2.kp rfl).1 m2.hs.ok
    obtain ⟨g2, hs2⟩ := k2 (putK ws (ke.k kk) v) (putZ xs kk x) (put_paired kk (t.mv r m2.go) pp)
    exact ⟨a, _, rfl, .inl ⟨ws, ke.k kk, h2, rfl, by rw [pp.length]; exact hl, rfl⟩, n _ _ _ _ hn (((g.trans m.go).trans m2.go).trans g2) hs2⟩
def dropZ (xs : List (κ × α)) (k : κ) : List (κ × α) := xs.filter fun p => !decide (p.1 = k)
end
/-! ### a slot told anew -/
section
variable {α β ρ : Type} {F : Fx ρ} {G : Ct} {N B C : Ct → Prop} {t : Ty α} {u : Ty β}
theorem blk_re {ts : TS} {i : Nat} {x : α} {y : β} (hi : G.s[i]? = some (.sh t x)) (f : ∀ W H v, t.R W H v x → u.R W H v y) (h : Blk F ts (G.set i (.sh u y)) N B C) : Blk F ts G N B C := fun W0 H0 W H σ D g hs n bk ct rt ex => by
  obtain ⟨v, e, r⟩ := hs.var hi
  exact h W0 H0 W H σ D g (hs.tell i fun e2 h2 => by rw [e] at h2; cases h2; exact ⟨v, rfl, f W H v r⟩) n bk ct rt ex
theorem Holds.forgets {W : Wd} {H : Hp} {σ : L2.St} (h : Holds G W H σ) : ∀ is, Holds (G.wipe is) W H σ
  | [] => h
  | i :: is => (Holds.forgets h is).forget i
theorem blk_wipe {a : TS} (is : List Nat) (h : Blk F a G (fun G' => N (G'.wipe is)) (fun G' => B (G'.wipe is)) (fun G' => C (G'.wipe is))) : Blk F a G N B C := fun W0 H0 W H σ D g hs n bk ct rt ex =>
  h W0 H0 W H σ D g hs (fun G' W' H' σ' q g' hs' => n _ W' H' σ' q g' (hs'.forgets is)) (fun G' W' H' σ' q g' hs' => bk _ W' H' σ' q g' (hs'.forgets is)) (fun G' W' H' σ' q g' hs' => ct _ W' H' σ' q g' (hs'.forgets is)) rt ex
end
end Y
end

section
set_option maxRecDepth 100000
set_option maxHeartbeats 4000000
/-! A def's entry and end; calls that let nothing out; what is made; writes of items, of attributes. -/
namespace Y
open PySem PySem.Spec PyProof.Rows L2
section
variable {ρ : Type}
theorem entry {W : Wd} {H : Hp} {n : Bool} {vs : List V} {as : List Sl} (k : Nat) (ok : OKW W H) (nl : n = true → ∀ b, W b ≠ .lk) (ha : SlsOk W H vs as) (sm : as.length + k ≤ tmp) : Holds ⟨n, as ++ List.replicate k .un, vs.map some⟩ W H (vs.map some ++ List.replicate k none) := by
  have hl := ha.1
  refine ⟨by simp [hl], ok, fun i s e h1 h2 => ?_, nl, fun i v h => ?_, by simp; exact sm⟩
  · by_cases hi : i < as.length
    · have h1 : (as ++ List.replicate k Sl.un)[i]? = some s := h1
      rw [List.getElem?_append_left hi] at h1
      rw [List.getElem?_append_left (by rw [List.length_map, hl]; exact hi), List.getElem?_map] at h2
      obtain ⟨v, hv, rfl⟩ := Option.map_eq_some_iff.mp h2
      exact .of (ha.2 i v s hv h1)
    · have h1 : (as ++ List.replicate k Sl.un)[i]? = some s := h1
      rw [List.getElem?_append_right (by omega), List.getElem?_replicate] at h1
      split at h1
      · cases h1; trivial
      · cases h1
  · have h : (vs.map some)[i]? = some (some v) := h
    have hi := (List.getElem?_eq_some_iff.mp h).1
    rw [List.getElem?_append_left hi]
    exact h
/-- slots told by less -/
inductive Fgt : List Sl → List Sl → Prop where
  | nil : Fgt [] []
  | un {s : Sl} {os ss : List Sl} : Fgt os ss → Fgt (.un :: os) (s :: ss)
  | same {s : Sl} {os ss : List Sl} : Fgt os ss → Fgt (s :: os) (s :: ss)
theorem Fgt.refl : ∀ ss, Fgt ss ss
  | [] => .nil
  | _ :: ss => .same (Fgt.refl ss)
theorem Fgt.len {os ss : List Sl} (h : Fgt os ss) : os.length = ss.length := by
  induction h with
  | nil => rfl
  | un _ ih => simp [ih]
  | same _ ih => simp [ih]
theorem Fgt.get {os ss : List Sl} (h : Fgt os ss) : ∀ {k : Nat} {s : Sl}, os[k]? = some s → s = .un ∨ ss[k]? = some s := by
  induction h with
  | nil => intro k s h; simp at h
  | un _ ih => intro k s h; cases k with
    | zero => cases h; exact .inl rfl
    | succ k => exact ih (k := k) h
  | same _ ih => intro k s h; cases k with
    | zero => exact .inr h
    | succ k => exact ih (k := k) h
/-- how a def may end -/
def Fin {ρ : Type _} (vs : List V) (n : Nat) (P : List Sl → ρ → Prop) (G : Ct) (x : ρ) : Prop := G.p = vs.map some ∧ ∃ os ss rest, G.s = ss ++ rest ∧ ss.length = n ∧ Fgt os ss ∧ P os x
/-- a def's body; the parameters stay where they are -/
theorem zrun {c : CT ρ} {E : XK} {vs : List V} {H : Hp} {Q : VK} {t : TS} {N : List Str} (h : spZ c vs H Q E)
    (b : ∀ as P XP, c.ct as P XP → vs.length = as.length → ∃ k, N.length = as.length + k ∧ N.length ≤ tmp ∧ Blk ⟨c.r, Fin vs as.length P, ⟨fun e d _ H => E e d H, fun G e => Fin vs as.length XP G e⟩⟩ t ⟨c.n, as ++ List.replicate k .un, vs.map some⟩
      (fun G => ∃ x, Fin vs as.length P G x ∧ ∀ W H, c.r.R W H .non x) (fun _ => False) (fun _ => False)) :
    t { nx := fun _ H' => Q .non H', rt := Q } (L2.start N vs) H := by
  obtain ⟨W, as, P, XP, ok, nl, ha, hc, q, ex⟩ := h
  obtain ⟨k, hk, hs, hb⟩ := b as P XP hc ha.1
  have e : L2.start N vs = vs.map some ++ List.replicate k none := by
    unfold L2.start
    rw [hk, ha.1, Nat.add_sub_cancel_left]
  have back : ∀ {G' : Ct} {W' H' σ'} {os ss rest : List Sl}, G'.p = vs.map some → G'.s = ss ++ rest → ss.length = as.length → Fgt os ss → Holds G' W' H' σ' → SlsOk W' H' vs os := fun {G' W' H' σ' os ss rest} ep es hl fg hs => ⟨by rw [ha.1, fg.len, hl], fun i v s h1 h2 => by
    have hi : i < ss.length := by rw [hl, ← ha.1]; exact (List.getElem?_eq_some_iff.mp h1).1
    rcases fg.get h2 with rfl | h2
    · trivial
    · have hp := hs.pn i v (by rw [ep, List.getElem?_map, h1]; rfl)
      exact (hs.sl i s _ (by rw [es, List.getElem?_append_left hi]; exact h2) hp).at⟩
  rw [e]
  refine hb W H W H _ _ .refl (entry k ok nl ha (by rw [← hk]; exact hs)) (fun G' W' H' σ' ⟨x, ⟨ep, os, ss, rest, es, hl, fg, p⟩, r⟩ g hs => q .non W' H' _ x p g hs.ok (back ep es hl fg hs) (r W' H')) (fun _ _ _ _ z => z.elim) (fun _ _ _ _ z => z.elim)
    (fun v G' W' H' σ' x ⟨ep, os, ss, rest, es, hl, fg, p⟩ g hs r => q v W' H' _ x p g hs.ok (back ep es hl fg hs) r) fun e d G' W' H' σ' ⟨ep, os, ss, rest, es, hl, fg, p⟩ g hs r => ex e d W' H' _ p g hs.ok (back ep es hl fg hs) r
theorem fin0 {ρ : Type _} {vs : List V} {n : Nat} {G : Ct} {P : List Sl → ρ → Prop} {x : ρ} (ss rest : List Sl) (h : ∀ os, P os x) (e1 : G.p = vs.map some := by rfl) (e2 : G.s = ss ++ rest := by rfl) (e3 : ss.length = n := by rfl) : Fin vs n P G x := ⟨e1, ss, ss, rest, e2, e3, .refl _, h _⟩
theorem zlen {c : CT ρ} {vs : List V} {H : Hp} {Q : VK} {E : XK} {ps : List Str} (hl : ∀ as P XP, c.ct as P XP → as.length = ps.length) (h : spZ c vs H Q E) : vs.length = ps.length := by
  obtain ⟨W, as, P, XP, _, _, ha, hc, _, _⟩ := h
  rw [ha.1]
  exact hl as P XP hc
theorem len1 {α : Type} {vs : List α} (h : vs.length = 1) : ∃ a, vs = [a] := match vs, h with | [a], _ => ⟨a, rfl⟩
theorem len2 {α : Type} {vs : List α} (h : vs.length = 2) : ∃ a b, vs = [a, b] := match vs, h with | [a, b], _ => ⟨a, b, rfl⟩
theorem len3 {α : Type} {vs : List α} (h : vs.length = 3) : ∃ a b c, vs = [a, b, c] := match vs, h with | [a, b, c], _ => ⟨a, b, c, rfl⟩
theorem len4 {α : Type} {vs : List α} (h : vs.length = 4) : ∃ a b c d, vs = [a, b, c, d] := match vs, h with | [a, b, c, d], _ => ⟨a, b, c, d, rfl⟩
theorem len5 {α : Type} {vs : List α} (h : vs.length = 5) : ∃ a b c d e, vs = [a, b, c, d, e] := match vs, h with | [a, b, c, d, e], _ => ⟨a, b, c, d, e, rfl⟩
end
/-! ### calls that let nothing out -/
section
variable {ρ α β : Type} {c : CT ρ} {X : Xw} {k : Bool} {G : Ct} {t : Ty α} {u : Ty β}
def Cp0 (c : CT ρ) (G : Ct) (P : Ct → ρ → Prop) (as : List Ar) : Prop := (c.n = true → G.n = true) ∧ (∀ a ∈ as, a.plain) ∧ c.ct (as.map Ar.sl) (fun _ x => P G x) (fun _ _ => False)
def Co0 (c : CT ρ) (G : Ct) (P : Ct → ρ → Prop) (as : List Ar) : Prop := (c.n = true → G.n = true) ∧ as.length ≤ tmp ∧ (∀ a ∈ as, a.simple) ∧ (as.filterMap Ar.owS).Nodup ∧ (∀ a ∈ as, ∀ i, a.vwS = some i → i ∉ as.filterMap Ar.owS) ∧
  ∃ P', ((∀ a ∈ as, a.vwS = none) ∨ (FlatR c.r ∧ (∀ os x, P' os x → ∀ s ∈ os, s.flat))) ∧ c.ct (as.map Ar.sl) P' (fun _ _ => False) ∧ (∀ os x, P' os x → os.length = as.length → P (putA G as os) x)
theorem Cp0.sp {P : Ct → ρ → Prop} {as : List Ar} {vs : List V} {W : Wd} {H : Hp} {σ : L2.St} {Q : VK} {E : XK} (h : Cp0 c G P as) (hs : Holds G W H σ) (ha : ArgsOk σ W H vs as) (q : ∀ v W' H' x, P G x → Mo k σ G W H G W' H' → c.r.R W' H' v x → Q v H') : spZ c vs H Q E := by
  obtain ⟨hn, pl, hc⟩ := h
  exact sp_plain hs hn ha pl hc (fun v W' H' os x p g ok r => q v W' H' x p (.goE hs g ok) r) fun e d W' H' os p => p.elim
theorem Co0.sp {P : Ct → ρ → Prop} {as : List Ar} {vs : List V} {W : Wd} {H : Hp} {σ : L2.St} {Q : VK} {E : XK} (h : Co0 c G P as) (hs : Holds G W H σ) (ha : ArgsOk σ W H vs as) (q : ∀ v W' H' G' x, P G' x → Mo false σ G W H G' W' H' → c.r.R W' H' v x → Q v H') : spZ c vs H Q E := by
  obtain ⟨hn, hl, sim, nd, dj, P', fl, hc, hp⟩ := h
  exact sp_own hs hn ha hc hl sim nd dj (fl.imp id fun f => ⟨f.1, f.2, fun _ _ z => z.elim⟩) (fun v W' H' os x p l g hs' r => q v W' H' _ x (hp os x p l) ⟨g, hs', fun z => nomatch z⟩ r) fun e d W' H' os p => p.elim
theorem ev_call0 {E : XK} {ta : TA} {P : Ct → ρ → Prop} (h : Ea X k ta G fun G as => Cp0 c G P as) : EvR X k (tCall (spZ c) [] E ta) G c.r P := fun W H σ Q hs ex q =>
  h W H σ _ hs ex fun vs W1 H1 G1 as hc m ha => by
    rw [List.append_nil]
    exact hc.sp (k := k) m.hs ha fun v W' H' x p m2 r => q v W' H' G1 x p (m.trans m2) r
theorem ev_meth0 {E : XK} {C : Addr} {m : Str} {to : TE} {ta : TA} {P : Ct → ρ → Prop} (hi : Inst C m t) (h : Ev X k to G t fun G x => Ea X k ta G fun G as => Cp0 c G P (.sh t x :: as)) : EvR X k (tMeth C m (spZ c) [] E to ta) G c.r P := fun W H σ Q hs ex q =>
  h W H σ _ hs ex fun v W1 H1 G1 x p m r => by
    obtain ⟨a, dx, fs, rfl, ha, hl⟩ := hi W1 H1 v x m.hs.ok r
    refine ⟨a, dx, fs, rfl, ha, hl, p W1 H1 σ _ m.hs (ex.mv m.go) fun vs W2 H2 G2 as hc m2 ha2 => ?_⟩
    rw [List.append_nil]
    exact hc.sp (k := k) m2.hs (.cons (t.mv r m2.go) ha2) fun v W' H' x p m3 r => q v W' H' G2 x p ((m.trans m2).trans m3) r
theorem ev_methO0 {E : XK} {C : Addr} {m : Str} {i : Nat} {O : OT α} {x : α} {to : TE} {ta : TA} {P : Ct → ρ → Prop} (hi : InstO C m O) (pl : Pl to G [i] O x) (h : Ea X true ta G fun G as => Co0 c G P (.ow [i] O x :: as)) : EvR X false (tMeth C m (spZ c) [] E to ta) G c.r P := fun W H σ Q hs ex q => by
  obtain ⟨v, r, hg, f⟩ := pl W H σ hs
  obtain ⟨a, dx, fs, rfl, ha, hl⟩ := hi [i] W H v x hs.ok r
  refine f _ ⟨a, dx, fs, rfl, ha, hl, h W H σ _ hs ex fun vs W2 H2 G2 as hc m2 ha2 => ?_⟩
  rw [List.append_nil]
  exact hc.sp m2.hs (.cons (Ar.goE (a := .ow [i] O x) ⟨r, hg⟩ (m2.kp rfl).1) ha2) fun v W' H' G' x p m3 r => q v W' H' G' x p (Mo.trans ⟨m2.go, m2.hs, fun z => nomatch z⟩ m3) r
theorem ev_methV0 {E : XK} {C : Addr} {m : Str} {i : Nat} {O : OT α} {x : α} {to : TE} {ta : TA} {P : Ct → ρ → Prop} (hi : InstO C m O) (pl : Pl to G [i] O x) (h : Ea X true ta G fun G as => Co0 c G P (.vw [i] O x :: as)) : EvR X false (tMeth C m (spZ c) [] E to ta) G c.r P := fun W H σ Q hs ex q => by
  obtain ⟨v, r, hg, f⟩ := pl W H σ hs
  obtain ⟨a, dx, fs, rfl, ha, hl⟩ := hi [i] W H v x hs.ok r
  refine f _ ⟨a, dx, fs, rfl, ha, hl, h W H σ _ hs ex fun vs W2 H2 G2 as hc m2 ha2 => ?_⟩
  rw [List.append_nil]
  exact hc.sp m2.hs (.cons (Ar.goE (a := .vw [i] O x) ⟨r, hg⟩ (m2.kp rfl).1) ha2) fun v W' H' G' x p m3 r => q v W' H' G' x p (Mo.trans ⟨m2.go, m2.hs, fun z => nomatch z⟩ m3) r
end
end Y
end

section
set_option maxRecDepth 100000
set_option maxHeartbeats 4000000
/-! Writes of items and of attributes; lists of new lists; what is made; a method of what hangs in an attribute. -/
namespace Y
open PySem PySem.Spec PyProof.Rows L2
section
variable {α ρ : Type} {F : Fx ρ} {G : Ct} {N B C : Ct → Prop} {t : Ty α} {X : Xw} {K : PySem.W.Frag}
theorem ixN_lt {n : Nat} {i : Int} {j : Nat} (h : ixN n i = some j) : j < n := by
  unfold ixN at h
  split at h
  · split at h
    · cases h; omega
    · cases h
  · split at h
    · cases h; omega
    · cases h
/-- xs[i] = e -/
theorem blk_lput {to ti tv : TE} {q : List Nat} {xs : List α} {up : List α → Ct} (pt : Pt to G q (oL K t) xs up) (h : Ev F.X true tv G t fun G1 y => Ev F.X true ti G1 tInt fun _ i => ∃ j, ixN xs.length i = some j ∧ N (up (xs.set j y))) : Blk F (tAsg tv (gSub to ti rSetL)) G N B C := fun W0 H0 W H σ D g hs n _ _ _ ex => by
  refine h W H σ _ hs (exo ex g) fun y W1 H1 G1 z p m r => ?_
  obtain ⟨ge1, rfl⟩ := m.kp rfl
  obtain ⟨a, vs, f, wa, ha, k⟩ := pt.list m.hs
  refine f _ (p W1 H1 σ _ m.hs (exo ex (g.trans m.go)) fun v W2 H2 G2 i ⟨j, hj, hn⟩ m2 r2 => ?_)
  obtain ⟨w2, h2, pp, k2⟩ := k W2 H2 (m2.kp rfl).1 m2.hs.ok
  have hl : vs.length = xs.length := pp.length
  obtain ⟨gg, hs'⟩ := k2 (vs.set j y) (xs.set j z) (paired_set (t.mvE r (m2.kp rfl).1) j pp)
  refine ⟨a, vs, i, j, rfl, r2, h2, by rw [hl]; exact hj, n _ W2 _ σ hn ((g.trans m.go).trans (m2.go.trans gg)) hs'⟩
/-- xs[i] op= e of ints -/
theorem blk_laug {to ti tv : TE} {q : List Nat} {xs : List Int} {up : List Int → Ct} {g2 : Int → Int → Int} (pt : Pt to G q (oL K tInt) xs up) (h : Ev F.X true ti G tInt fun G1 i => ∃ j x, ixN xs.length i = some j ∧ xs[j]? = some x ∧ Ev F.X true tv G1 tInt fun _ y => N (up (xs.set j (g2 x y)))) :
    Blk F (tAugS to ti tv (rIxL K) (ipI g2) rSetL) G N B C := fun W0 H0 W H σ D g hs n _ _ _ ex => by
  obtain ⟨a, vs, f, wa, ha, k⟩ := pt.list hs
  refine f _ (h W H σ _ hs (exo ex g) fun v W1 H1 G1 i ⟨j, x, hj, hx, p⟩ m r => ?_)
  obtain ⟨ge1, rfl⟩ := m.kp rfl
  obtain ⟨w1, h1, pp, _⟩ := k W1 H1 ge1 m.hs.ok
  have hl : vs.length = xs.length := pp.length
  have hj' : j < vs.length := by rw [hl]; exact ixN_lt hj
  obtain ⟨x', hx', ex'⟩ : ∃ x', xs[j]? = some x' ∧ tInt.R W1 H1 vs[j] x' := by
    obtain ⟨z, hz, r⟩ := paired_getL pp (List.getElem?_eq_getElem hj')
    exact ⟨z, hz, r⟩
  rw [hx] at hx'
  cases hx'
  refine ⟨a, vs, i, vs[j], rfl, r, SqL.of h1, ?_, p W1 H1 σ _ m.hs (exo ex (g.trans m.go)) fun y W2 H2 G2 z hn m2 r2 => ?_⟩
  · unfold atI
    rw [hl, hj]
    exact List.getElem?_eq_getElem hj'
  obtain ⟨w2, h2, pp2, k2⟩ := k W2 H2 (ge1.trans (m2.kp rfl).1) m2.hs.ok
  obtain ⟨gg, hs'⟩ := k2 (vs.set j (.int (g2 x z))) (xs.set j (g2 x z)) (paired_set (R := tInt.R W2 H2) (show tInt.R W2 H2 (.int (g2 x z)) (g2 x z) from rfl) j pp2)
  refine ⟨x, z, ex', r2, a, vs, i, j, rfl, r, h2, by rw [hl]; exact hj, n _ W2 _ σ hn ((g.trans m.go).trans (m2.go.trans gg)) hs'⟩
end

/-! ### attributes -/
def putS (f : Str) (s : Sl) : List (Str × Sl) → List (Str × Sl)
  | [] => [(f, s)]
  | (g, x) :: r => if g = f then (g, s) :: r else (g, x) :: putS f s r
/-- where it stands, or will stand -/
def ixF (f : Str) : List (Str × Sl) → Nat
  | [] => 0
  | (g, _) :: r => if g = f then 0 else ixF f r + 1
theorem FdsR.put {p : List Nat} {W W' : Wd} {H H' : Hp} {n : Nat} {vs : List (Str × V)} {fl : List (Str × Sl)} {f : Str} {s : Sl} {v : V} (h : FdsR p W H n vs fl) : (∀ i u z, i ≠ n + ixF f fl → n ≤ i → z.at (p ++ [i]) W H u → Sl.at z (p ++ [i]) W' H' u) → s.at (p ++ [n + ixF f fl]) W' H' v → FdsR p W' H' n (putF f v vs) (putS f s fl) := by
  induction h with
  | nil => intro _ r; exact .cons r .nil
  | @cons n g u z vs ss r t ih =>
    intro k sa
    unfold putF putS
    by_cases e : g = f
    · rw [if_pos e, if_pos e]
      unfold ixF at k sa
      rw [if_pos e] at k sa
      exact .cons sa (t.imp fun j v s hj r _ => k j v s (by omega) (by omega) r)
    · rw [if_neg e, if_neg e]
      unfold ixF at k sa
      rw [if_neg e] at k sa
      refine .cons (k n u z (by omega) (Nat.le_refl _) r) (ih (fun i u z hi hn r => k i u z (by omega) (by omega) r) ?_)
      rw [show n + 1 + ixF f ss = n + (ixF f ss + 1) from by omega]
      exact sa
theorem FdsR.len {p : List Nat} {W : Wd} {H : Hp} {n : Nat} {vs : List (Str × V)} {ss : List (Str × Sl)} (h : FdsR p W H n vs ss) : vs.length = ss.length := by
  induction h with
  | nil => rfl
  | cons _ _ ih => rw [List.length_cons, List.length_cons, ih]
/-- what is new gets its place at a path -/
def seatP (W : Wd) (q : List Nat) : Wd := fun b => match W b with
  | .ow (j :: r) => if j = tmp then .ow (q ++ r) else .ow (j :: r)
  | w => w
theorem seatP_tmp {W : Wd} {q : List Nat} {b : Addr} {r : List Nat} (h : W b = .ow (tmp :: r)) : seatP W q b = .ow (q ++ r) := by unfold seatP; rw [h]; simp
theorem seatP_ne {W : Wd} {q : List Nat} {b : Addr} (h : ∀ r, W b ≠ .ow (tmp :: r)) : seatP W q b = W b := by
  unfold seatP
  cases e : W b with
  | ow p =>
    cases p with
    | nil => rfl
    | cons j r =>
      by_cases n : j = tmp
      · subst n; exact absurd e (h r)
      · simp [n]
  | _ => rfl
section
variable {W : Wd} {H : Hp} {q : List Nat}
theorem seatP_own {b : Addr} {p : List Nat} (h : seatP W q b = .ow p) : ∃ p', W b = .ow p' := by
  by_cases n : ∃ r, W b = .ow (tmp :: r)
  · obtain ⟨r, e⟩ := n; exact ⟨_, e⟩
  · rw [seatP_ne fun r e => n ⟨r, e⟩] at h; exact ⟨_, h⟩
theorem seatP_non {b : Addr} {w : Md} (nw : ∀ p, w ≠ .ow p) : seatP W q b = w ↔ W b = w := by
  by_cases n : ∃ r, W b = .ow (tmp :: r)
  · obtain ⟨r, e⟩ := n
    rw [seatP_tmp e, e]
    exact ⟨fun z => absurd z.symm (nw _), fun z => absurd z.symm (nw _)⟩
  · rw [seatP_ne fun r e => n ⟨r, e⟩]
theorem seatP_lk {b : Addr} : seatP W q b = .lk ↔ W b = .lk := seatP_non fun _ => (fun z => by cases z)
theorem seatP_sh {b : Addr} : seatP W q b = .sh ↔ W b = .sh := seatP_non fun _ => (fun z => by cases z)
theorem seatP_fo {b : Addr} : seatP W q b = .fo ↔ W b = .fo := seatP_non fun _ => (fun z => by cases z)
theorem seatP_st {b : Addr} {φ : HO → Prop} : seatP W q b = .st φ ↔ W b = .st φ := seatP_non fun _ => (fun z => by cases z)
theorem seatP_ok (ok : OKW W H) : OKW (seatP W q) H := by
  refine ⟨fun b φ h => ok.st b φ (seatP_st.mp h), fun b h => ok.al b fun e => h (seatP_sh.mpr e), fun b p od u w e => ?_, fun b h => ok.lk b (seatP_lk.mp h), fun b od u w h => ok.fo b od u (seatP_fo.mp w) h, fun b vs h => seatP_sh.mpr (ok.tp b vs h)⟩
  obtain ⟨p', w⟩ := seatP_own w
  exact ok.nf b p' od u w e
theorem seatP_mv : Mv W H (seatP W q) H := by
  refine ⟨fun b o h => ?_, fun b vs w h => ⟨seatP_sh.mpr w, h⟩, fun b φ h => seatP_st.mpr h⟩
  unfold RdW
  rw [seatP_ne fun r => h.no]
  exact h
theorem seatP_goE : GoE W H (seatP W q) H := ⟨fun b o h _ n => ⟨h, seatP_ne n⟩, fun b φ h => seatP_st.mpr h, fun b h => seatP_lk.mp h⟩
end
section
variable {α ρ : Type} {F : Fx ρ} {G : Ct} {N B C : Ct → Prop} {t : Ty α} {X : Xw} {K : PySem.W.Frag} {D : Addr} {fl : List (Str × Sl)}
/-- the write itself -/
theorem fld_core {to : TE} {q : List Nat} {up : Sl → Ct} {f : Str} {s : Sl} {v : V} {W W' : Wd} {H : Hp} {σ : L2.St} (c : Cls K D) (na : NoAttr K D f) (hl : fl.length < 1000) (pw : Pw to G q (oIns D fl) () up) (hs : Holds G W H σ) (g : GoE W H W' H) (ok : OKW W' H)
    (sa : ∀ a o, W a = .ow q → s.at (q ++ [ixF f fl]) W' (upd H a o) v) : ∀ (Q : V → Hp → Prop), (∀ a H', Go W' H W' H' → Holds (up (.ow (oIns D (putS f s fl)) ())) W' H' σ → (∃ C dx fs, H a = some (.ins C dx fs) ∧ Cls K C ∧ NoAttr K C f ∧ fs.length < 1000 ∧ H' = upd H a (.ins C dx (putF f v fs))) → Q (.ref a) H) → to σ H Q := by
  intro Q k
  obtain ⟨⟨i, r, rfl, ni⟩, pw⟩ := pw
  obtain ⟨u, ⟨a, dx, vs, rfl, wa, ha, fr⟩, ev, kk⟩ := pw W H σ hs
  refine ev _ (k a _ ?_ ?_ ⟨D, dx, vs, ha, c, na, by rw [fr.len]; exact hl, rfl⟩)
  · obtain ⟨h1, w1⟩ := g.own ha wa ni
    exact upd_go w1
  · obtain ⟨h1, w1⟩ := g.own ha wa ni
    have mv2 : Mv W' H W' (upd H a (.ins D dx (putF f v vs))) := upd_mv w1
    refine kk W' H g ok W' _ _ (upd_ok ok w1 trivial) (upd_go w1) (out_upd w1) ⟨a, dx, _, rfl, w1, upd_same, fr.put (fun j u z hj _ r2 => ?_) ?_⟩
    · refine Sl.at_mv r2 (fun b o q2 w e => ?_) (g.go.mv.trans mv2)
      obtain ⟨e1, w2⟩ := g.own e w ni
      have nb : b ≠ a := fun z => by
        rw [z, wa] at w
        have := congrArg List.length (Md.ow.inj w)
        simp at this
      exact ⟨w2, by rw [upd_ne nb]; exact e1⟩
    · rw [Nat.zero_add]
      exact sa a _ wa
/-- self.f = e, a thing that is shared -/
theorem blk_fld {to tv : TE} {q : List Nat} {up : Sl → Ct} {f : Str} (c : Cls K D) (na : NoAttr K D f) (hl : fl.length < 1000) (pw : Pw to G q (oIns D fl) () up) (h : Ev F.X true tv G t fun _ x => N (up (.ow (oIns D (putS f (.sh t x) fl)) ()))) : Blk F (sFld K to tv f) G N B C := fun W0 H0 W H σ E g hs n _ _ _ ex => by
  refine h W H σ _ hs (exo ex g) fun v W1 H1 G1 x hn m r => ?_
  obtain ⟨ge1, rfl⟩ := m.kp rfl
  obtain ⟨⟨i, r0, rfl, ni⟩, _⟩ := id pw
  refine fld_core (s := .sh t x) (v := v) c na hl pw m.hs .refl m.hs.ok (fun a o wa => t.go r (upd_mv wa)) _ fun a H' g2 hs2 ⟨C2, dx, fs, h1, h2, h3, h4, h5⟩ => ⟨a, C2, dx, fs, rfl, h1, h2, h3, h4, ?_⟩
  subst h5
  exact n _ W1 _ σ hn ((g.trans m.go).trans g2) hs2
/-- self.f = e, a new thing -/
theorem blk_fldO {to tv : TE} {q : List Nat} {up : Sl → Ct} {f : Str} {O : OT α} (c : Cls K D) (na : NoAttr K D f) (hl : fl.length < 1000) (pw : Pw to G q (oIns D fl) () up) (h : EvR F.X true tv G (.ow O) fun _ x => N (up (.ow (oIns D (putS f (.ow O x) fl)) ()))) : Blk F (sFld K to tv f) G N B C := fun W0 H0 W H σ E g hs n _ _ _ ex => by
  refine h W H σ _ hs (exo ex g) fun v W1 H1 G1 x hn m r => ?_
  obtain ⟨ge1, rfl⟩ := m.kp rfl
  obtain ⟨⟨i, r0, rfl, ni⟩, _⟩ := id pw
  refine fld_core (s := .ow O x) (v := v) c na hl pw m.hs (seatP_goE (q := (i :: r0) ++ [ixF f fl])) (seatP_ok m.hs.ok) (fun a o wa => ?_) _ fun a H' g2 hs2 ⟨C2, dx, fs, h1, h2, h3, h4, h5⟩ => ⟨a, C2, dx, fs, rfl, h1, h2, h3, h4, ?_⟩
  · have wa' : seatP W1 ((i :: r0) ++ [ixF f fl]) a = .ow (i :: r0) := by rw [seatP_ne fun r e => by rw [wa] at e; exact ni (List.cons.inj (Md.ow.inj e)).1]; exact wa
    refine O.mv (p' := (i :: r0) ++ [ixF f fl]) r (fun b o2 q2 w e => ⟨?_, ?_⟩) (seatP_mv.trans (upd_mv wa'))
    · exact seatP_tmp w
    · have nb : b ≠ a := fun z => by rw [z, wa] at w; exact ni (List.cons.inj (Md.ow.inj w)).1
      rw [upd_ne nb]; exact e
  · subst h5
    exact n _ _ _ σ hn (((g.trans m.go).trans seatP_goE.go).trans g2) hs2
end

/-! ### what is made -/
def mMake : Mp where
  f p := match p with
    | [] => .hd
    | i :: r => if i = tmp then .to (0 :: r) else .hd
  g p' := match p' with
    | [] => none
    | i :: r => if i = 0 then some (tmp :: r) else none
  fg p p' h := by
    cases p with
    | nil => cases h
    | cons i r =>
      simp only at h
      split at h
      · rename_i e
        cases h
        simp [e]
      · cases h
  gf p p' h := by
    cases p' with
    | nil => cases h
    | cons i r =>
      simp only at h
      split at h
      · rename_i e
        cases h
        simp [e]
      · cases h
  nt r := by show (if tmp = 0 then _ else none) = none; rw [if_neg (by decide)]
section
variable {α ρ : Type} {G : Ct} {t : Ty α} {X : Xw} {K : PySem.W.Frag}
theorem ev_make0 {C : Addr} {c : CT Unit} {O : OT α} {k : Bool} {ta : TA} {E : XK} {P : Ct → α → Prop} (hr : c.r = .sh tNon) (h : Ea X k ta G fun G as => (c.n = true → G.n = true) ∧ (∀ a ∈ as, a.plain) ∧ ∃ P', c.ct (.ow (oIns C []) () :: as.map Ar.sl) P' (fun _ _ => False) ∧ ∀ os y, P' os y → ∃ z r, os = .ow O z :: r ∧ P G z) :
    EvR X k (tMake C (spZ c) [] E ta) G (.ow O) P := fun W H σ Q hs ex q =>
  h W H σ _ hs ex fun vs W1 H1 G1 as ⟨hn, pl, P', hc, hp⟩ m ha x dx hx hdx hne => by
    rw [List.append_nil]
    have hx2 : upd H1 dx (HO.own x) x = none := by rw [upd_ne (fun z => hne z.symm)]; exact hx
    have g1 : GoE W1 H1 W1 (upd H1 dx (.own x)) := GoE.new hdx
    have ok1 : OKW W1 (upd H1 dx (.own x)) := m.hs.ok.new hdx trivial
    have wx : W1 x = .sh := m.hs.ok.fresh hx
    obtain ⟨g2, ok2⟩ := newT ok1 hx2 (o := .ins C dx []) trivial
    have g12 := g1.trans g2
    have fh : ∀ {p : List Nat}, (∀ r, p ≠ tmp :: r) → mMake.f p = .hd := fun {p} n => by
      cases p with
      | nil => rfl
      | cons i r =>
        show (if i = tmp then Am.to (0 :: r) else Am.hd) = _
        rw [if_neg fun (z : i = tmp) => n r (by rw [z])]
    refine ⟨enter mMake (setW W1 x (.ow [tmp])), .ow (oIns C []) () :: as.map Ar.sl, P', fun _ _ => False, enter_ok ok2, fun n b w => ?_, ⟨by simp [ha.len], fun k v s h1 h2 => ?_⟩, hc, fun v Wc H' os y p g okc so r => ?_, fun e d Wc H' os z => z.elim⟩
    · have w := enter_lk w
      by_cases nb : b = x
      · rw [nb, setW_same] at w; cases w
      · rw [setW_ne nb] at w; exact m.hs.nl (hn n) b w
    · cases k with
      | zero =>
        cases h1
        cases h2
        exact ⟨x, dx, [], rfl, enter_to (p := [tmp]) setW_same rfl, upd_same, .nil⟩
      | succ k =>
        have h1 : vs[k]? = some v := h1
        have h2 : (as.map Ar.sl)[k]? = some s := h2
        rw [List.getElem?_map] at h2
        obtain ⟨a, h3, rfl⟩ := Option.map_eq_some_iff.mp h2
        have r := ha.get h3 h1
        have sm := pl a (List.mem_of_getElem? h3)
        cases a with
        | sh t x => exact t.go r (g12.go.mv.trans enter_mv)
        | _ => exact sm.elim
    · rw [hr] at r
      have l := left ok2 g okc
      obtain ⟨z, os', rfl, pz⟩ := hp os y p
      refine ⟨r, q _ (leave mMake (setW W1 x (.ow [tmp])) Wc) H' G1 z pz (m.thenE ?_ l.ok) ?_⟩
      · refine g12.trans ⟨fun b o e n nt => ?_, l.go.s, l.go.l⟩
        cases w : setW W1 x (.ow [tmp]) b with
        | ow p =>
          have f1 := fh (p := p) fun r z => nt r (by rw [w, z])
          obtain ⟨h1, h2⟩ := l.own b p o w (by rw [f1]; exact fun _ z => nomatch z) e
          exact ⟨h2, h1⟩
        | st φ => exact absurd w (n φ)
        | sh => rw [← w]; exact l.go.k b o e (.inl w)
        | lk => rw [← w]; exact l.go.k b o e (.inr (.inl w))
        | fo => rw [← w]; exact l.go.k b o e (.inr (.inr w))
      · have r0 : O.R [0] Wc H' (.ref x) z := so.2 0 (.ref x) (.ow O z) rfl rfl
        exact O.mv r0 (fun b o q2 w e => ⟨l.new b ([tmp] ++ q2) _ w rfl, e⟩) (l.mv fun p z => by
          cases p with
          | nil => cases z
          | cons i r =>
            have z : (if i = tmp then Am.to (0 :: r) else Am.hd) = .vw := z
            split at z <;> cases z)
end
/-! ### a method of what hangs at a place -/
def mAt (q : List Nat) : Mp where
  f p := if q <+: p then .to (0 :: p.drop q.length) else .hd
  g p' := match p' with
    | [] => none
    | i :: r => if i = 0 then some (q ++ r) else none
  fg p p' h := by
    split at h
    · rename_i e
      cases h
      obtain ⟨r, rfl⟩ := e
      simp
    · cases h
  gf p p' h := by
    cases p' with
    | nil => cases h
    | cons i r =>
      simp only at h
      split at h
      · rename_i e
        cases h
        rw [if_pos ⟨r, rfl⟩, List.drop_left, e]
      · cases h
  nt r := by show (if tmp = 0 then _ else none) = none; rw [if_neg (by decide)]
section
variable {α ρ : Type} {G : Ct} {t : Ty α} {X : Xw} {K : PySem.W.Frag} {c : CT ρ}
theorem ev_methP0 {C : Addr} {m : Str} {O : OT α} {x : α} {q : List Nat} {up : Sl → Ct} {to : TE} {ta : TA} {E : XK} {P : Ct → ρ → Prop} (hi : InstO C m O) (pw : Pw to G q O x up)
    (h : Ea X true ta G fun _ as => (c.n = true → G.n = true) ∧ (∀ a ∈ as, a.plain) ∧ ∃ P', c.ct (.ow O x :: as.map Ar.sl) P' (fun _ _ => False) ∧ ∀ os y, P' os y → ∃ s r, os = s :: r ∧ P (up s) y) : EvR X false (tMeth C m (spZ c) [] E to ta) G c.r P := fun W H σ Q hs ex qq => by
  obtain ⟨re, pw⟩ := pw
  obtain ⟨v, r, ev, kk⟩ := pw W H σ hs
  obtain ⟨a, dx, fs, rfl, ha, hl⟩ := hi q W H v x hs.ok r
  refine ev _ ⟨a, dx, fs, rfl, ha, hl, h W H σ _ hs ex fun vs W2 H2 G2 as ⟨hn, pl, P', hc, hp⟩ m2 ha2 => ?_⟩
  rw [List.append_nil]
  obtain ⟨ge, rfl⟩ := m2.kp rfl
  obtain ⟨i, r', rfl, ni⟩ := re
  have r2 := O.goE r ge ni
  have nv : ∀ p, (mAt (i :: r')).f p ≠ .vw := fun p z => by
    have z : (if (i :: r') <+: p then Am.to (0 :: p.drop (i :: r').length) else Am.hd) = .vw := z
    split at z <;> cases z
  refine ⟨enter (mAt (i :: r')) W2, .ow O x :: as.map Ar.sl, P', fun _ _ => False, enter_ok m2.hs.ok, fun n b w => m2.hs.nl (hn n) b (enter_lk w), ⟨by simp [ha2.len], fun k v s h1 h2 => ?_⟩, hc, fun v Wc H' os y p g okc so r => ?_, fun e d Wc H' os z => z.elim⟩
  · cases k with
    | zero =>
      cases h1
      cases h2
      refine O.mv (p' := [0]) r2 (fun b o q w e => ⟨enter_to w ?_, e⟩) enter_mv
      show (if (i :: r') <+: (i :: r') ++ q then Am.to (0 :: ((i :: r') ++ q).drop (i :: r').length) else Am.hd) = _
      rw [if_pos ⟨q, rfl⟩, List.drop_left]
      rfl
    | succ k =>
      have h1 : vs[k]? = some v := h1
      have h2 : (as.map Ar.sl)[k]? = some s := h2
      rw [List.getElem?_map] at h2
      obtain ⟨a, h3, rfl⟩ := Option.map_eq_some_iff.mp h2
      have r := ha2.get h3 h1
      have sm := pl a (List.mem_of_getElem? h3)
      cases a with
      | sh t x => exact t.go r enter_mv
      | _ => exact sm.elim
  · have l := left m2.hs.ok g okc
    obtain ⟨s, os', rfl, ps⟩ := hp os y p
    refine qq v (leave (mAt (i :: r')) W2 Wc) H' (up s) y ps ⟨m2.go.trans l.go, ?_, fun z => nomatch z⟩ (Rt.leave l nv r)
    refine kk W2 H2 ge m2.hs.ok _ H' s l.ok l.go (fun b p o w np e => l.own b p o w (fun p' z => ?_) e) ?_
    · have z : (if (i :: r') <+: p then Am.to (0 :: p.drop (i :: r').length) else Am.hd) = .to p' := z
      rw [if_neg np] at z
      cases z
    · have r0 : s.at [0] Wc H' (.ref a) := so.2 0 (.ref a) s rfl rfl
      exact Sl.at_mv r0 (fun b o q2 w e => ⟨l.new b ((i :: r') ++ q2) _ w rfl, e⟩) (l.mv nv)
end
end Y
end

section
set_option maxRecDepth 100000
set_option maxHeartbeats 4000000
/-! Attributes that are read; lists of new lists; a list times an int; calls of a min, a xor. -/
namespace Y
open PySem PySem.Spec PyProof.Rows L2
section
variable {α β ρ : Type} {F : Fx ρ} {G : Ct} {N B C : Ct → Prop} {t : Ty α} {X : Xw} {K : PySem.W.Frag} {k : Bool}
theorem fo_sh {D : Addr} {fl : List (Str × Sl)} {f : Str} (j : Nat) {t : Ty α} {x : α} (c : Cls K D) (na : NoAttr K D f) (hj : fl[j]? = some (f, .sh t x) := by rfl) (hi : (fl.map (·.1)).idxOf f = j := by rfl) : FldOf K f (tIns D fl) t (fun _ => x) := by
  rintro W H v _ ⟨a, dx, vs, rfl, rd, fr⟩
  obtain ⟨w, l, r, _⟩ := lookup_at fr (f := f) (j := j) (s := .sh t x) (by rw [List.getElem?_map, hj]; rfl) (by rw [List.map_map]; exact hi)
  exact ⟨a, D, dx, vs, w, rfl, rd, c, na, l, r⟩
theorem fo_ow {D : Addr} {fl : List (Str × Sl)} {f : Str} (j : Nat) {O : OT α} {x : α} (c : Cls K D) (na : NoAttr K D f) (hj : fl[j]? = some (f, .ow O x) := by rfl) (hi : (fl.map (·.1)).idxOf f = j := by rfl) : FldOf K f (tIns D fl) O.sv (fun _ => x) := by
  rintro W H v _ ⟨a, dx, vs, rfl, rd, fr⟩
  obtain ⟨w, l, r, _⟩ := lookup_at fr (f := f) (j := j) (s := .sh O.sv x) (by rw [List.getElem?_map, hj]; rfl) (by rw [List.map_map]; exact hi)
  exact ⟨a, D, dx, vs, w, rfl, rd, c, na, l, r⟩
theorem lookup_none {vs : List (Str × V)} {ss : List (Str × Sl)} {p : List Nat} {W : Wd} {H : Hp} {n : Nat} (h : FdsR p W H n vs ss) {f : Str} (nf : f ∉ ss.map (·.1)) : vs.lookup f = none := by
  induction h with
  | nil => rfl
  | @cons n g v s vs ss r _ ih =>
    rw [List.map_cons, List.mem_cons] at nf
    rw [List.lookup_cons, show (f == g) = false from beq_eq_false_iff_ne.mpr fun z => nf (.inl z)]
    exact ih fun z => nf (.inr z)
theorem inst_t {D : Addr} {fl : List (Str × Sl)} {m : Str} (nf : m ∉ fl.map (·.1)) : Inst D m (tIns D fl) := by
  rintro W H v _ ok ⟨a, dx, vs, rfl, rd, fr⟩
  refine ⟨a, dx, vs, rfl, ok.exact rd (fun _ e => by cases e) (fun _ e => by cases e) (fun _ e => by cases e), lookup_none fr ?_⟩
  rw [List.map_map]
  exact nf
theorem inst_o {D : Addr} {fl : List (Str × Sl)} {m : Str} (nf : m ∉ fl.map (·.1)) : InstO D m (oIns D fl) := by
  rintro q W H v _ ok ⟨a, dx, vs, rfl, w, ha, fr⟩
  exact ⟨a, dx, vs, rfl, ha, lookup_none fr nf⟩
theorem flatO_L {t : Ty α} (f : FlatT t) : FlatO (oL K t) := by
  rintro p p' W W' H H' v x ⟨a, vs, rfl, w, h, pp⟩ k
  obtain ⟨w1, h1⟩ := k a _ [] (by rw [List.append_nil]; exact w) h
  exact ⟨a, vs, rfl, by rw [List.append_nil] at w1; exact w1, h1, L2.Paired.mapP pp fun _ _ r => f _ _ _ _ _ _ r⟩
/-- [x] * n -/
theorem ro_rep : RO rRep (tLs K t) tInt (.ow (oL K t)) (fun xs n P => (-(2 ^ 63) ≤ n ∧ n < 2 ^ 63 ∧ xs.length * n.toNat ≤ sizeLine) ∧ P (List.replicate n.toNat xs).flatten) := by
  rintro W H v w xs n Q P ok ⟨a, vs, rfl, sq, p⟩ rfl ⟨⟨h1, h2, hl⟩, c⟩ q
  have rp : ∀ m : Nat, Paired (t.R W H) (List.replicate m vs).flatten (List.replicate m xs).flatten := by
    intro m
    induction m with
    | zero => exact .nil
    | succ m ih =>
      rw [List.replicate_succ, List.replicate_succ, List.flatten_cons, List.flatten_cons]
      exact paired_appZ p ih
  exact ⟨a, n, vs, rfl, rfl, sq.2, h1, h2, by rw [p.length]; exact hl, new_list ok c (rp _) q⟩
/-- one's own told under other paths -/
theorem remap_ok {W W' : Wd} {H : Hp} (ok : OKW W H) (h : ∀ b, W' b = W b ∨ ∃ p p', W b = .ow p ∧ W' b = .ow p') : OKW W' H := by
  have ne : ∀ {b : Addr} {m : Md}, W' b = m → (∀ q, m ≠ .ow q) → W b = m := fun {b m} e n => by
    rcases h b with e1 | ⟨p, p', e1, e2⟩
    · rw [← e1]; exact e
    · rw [e2] at e; exact absurd e.symm (n _)
  refine ⟨fun b φ e => ok.st b φ (ne e fun _ z => by cases z), fun b e => ok.al b fun z => ?_, fun b p od u w e => ?_, fun b e => ok.lk b (ne e fun _ z => by cases z), fun b od u w e => ok.fo b od u (ne w fun _ z => by cases z) e, fun b vs e => ?_⟩
  · rcases h b with e1 | ⟨p, p', e1, e2⟩
    · exact e (e1.trans z)
    · rw [e1] at z; cases z
  · rcases h b with e1 | ⟨p1, p', e1, e2⟩
    · exact ok.nf b p od u (e1.symm.trans w) e
    · exact ok.nf b p1 od u e1 e
  · have := ok.tp b vs e
    rcases h b with e1 | ⟨p, p', e1, e2⟩
    · exact e1.trans this
    · rw [e1] at this; cases this
theorem remap_mv {W W' : Wd} {H : Hp} (h : ∀ b, W' b = W b ∨ ∃ p p', W b = .ow p ∧ W' b = .ow p') : Mv W H W' H := by
  refine ⟨fun b o r => ?_, fun b vs w e => ?_, fun b φ e => ?_⟩
  · rcases h b with e1 | ⟨p, p', e1, e2⟩
    · unfold RdW; rw [e1]; exact r
    · exact absurd e1 r.no
  · rcases h b with e1 | ⟨p, p', e1, e2⟩
    · exact ⟨e1.trans w, e⟩
    · rw [e1] at w; cases w
  · rcases h b with e1 | ⟨p, p', e1, e2⟩
    · exact e1.trans e
    · rw [e1] at e; cases e
open Classical in
/-- what grew gets its place -/
noncomputable def grownW (W : Wd) (S : Addr → Prop) : Wd := fun b => if S b then (match W b with
  | .ow (_ :: r) => .ow (tmp :: r)
  | w => w) else W b
/-- [[] for _ in xs] -/
theorem lcNew_core {γ : Type} {z : Ty γ} {wi : TI} {g : TG} {te : TE} {vs : List Nat} {W : Wd} {H : Hp} {σ : L2.St} {Q : VK} {P : Ct → List (List α) → Prop}
    (hte : ∀ σ H (Q : VK), (∀ p, H p = none → Q (.ref p) (upd H p (.lst []))) → te σ H Q)
    (h : EiAt k wi G W H σ z fun G1 (xs : List γ) => xs.length < sizeLine ∧ G1.frees vs ∧ (∀ (i : Nat) x, xs[i]? = some x → Tg g (G1.wipe vs) z x vs fun _ => True) ∧ P G1 (List.replicate xs.length ([] : List α)))
    (q : ∀ v W' H' G' x, P G' x → Mo k σ G W H G' W' H' → (oLO K (oL K t)).R [tmp] W' H' v x → Q v H') : tLc wi g tYes te vs σ H Q :=
  h _ fun J W1 H1 G1 xs Gh Y ⟨hz, fr, ht, he⟩ m wk st yd => fun D hD => by
    refine lc_it wk (fun i H2 => ∃ W2, ∃ us : List Addr, GoE W1 H1 W2 H2 ∧ OKW W2 H2 ∧ W2 D = .ow [tmq] ∧ H2 D = some (.lst (us.map V.ref)) ∧ us.length = i ∧ (∀ (j : Nat) a, us[j]? = some a → W2 a = .ow [tmq, j] ∧ H2 a = some (.lst []) ∧ (H1 a = none ∨ ∃ r, W1 a = .ow (tmp :: r)) ∧ a ≠ D)) ?_ (fun i H2 _ ⟨W2, us, ga, ok2, _⟩ => st W2 H2 ga.go ok2) ?_ ?_
    · obtain ⟨ga, ok1⟩ := newT m.hs.ok hD (o := .lst []) trivial
      have w1 : setW W1 D (.ow [tmp]) D = .ow [tmp] := setW_same
      exact ⟨setW (setW W1 D (.ow [tmp])) D (.ow [tmq]), [], setW_go ga hD (fun φ e => by rw [w1] at e; cases e) (fun e => by cases e), re_ok ok1 w1, setW_same, upd_same, rfl, fun j a h => by simp at h⟩
    · rintro i v H2 H3 hi ⟨W2, us, ga, ok2, wD, hD2, hl, hu⟩ hy
      obtain ⟨x, W3, hx, g3, ok3, r⟩ := yd W2 H2 i v H3 ga.go ok2 hi hy
      have g13 := ga.trans g3
      have hs3 := (m.hs.goE g13 ok3).wipe vs fr
      refine ht i x hx W3 H3 _ v _ hs3 r fun G2 σ2 hG2 hs4 hl2 hk2 => ⟨wipe_same hl2 hk2, ?_⟩
      simp only [tYes, if_true]
      refine hte _ _ _ fun p hp => ?_
      obtain ⟨wD3, hD3⟩ := grown g3 wD hD2
      have pD : p ≠ D := fun e => by rw [e, hD3] at hp; cases hp
      have hD4 : upd H3 p (HO.lst []) D = some (.lst (us.map V.ref)) := by rw [upd_ne (fun e => pD e.symm)]; exact hD3
      refine ⟨us.map V.ref, hD4, by rw [List.length_map]; omega, ?_⟩
      obtain ⟨gn, okn⟩ := newT ok3 hp (o := .lst []) trivial
      have w1 : setW W3 p (.ow [tmp]) p = .ow [tmp] := setW_same
      have gn2 : GoE W3 H3 (setW (setW W3 p (.ow [tmp])) p (.ow [tmq, i])) (upd H3 p (.lst [])) := setW_go gn hp (fun φ e => by rw [w1] at e; cases e) (fun e => by cases e)
      have okn2 : OKW (setW (setW W3 p (.ow [tmp])) p (.ow [tmq, i])) (upd H3 p (.lst [])) := re_ok okn w1
      have wD5 : setW (setW W3 p (.ow [tmp])) p (.ow [tmq, i]) D = .ow [tmq] := by rw [setW_ne (fun e => pD e.symm), setW_ne (fun e => pD e.symm)]; exact wD3
      have old : ∀ (j : Nat) a, us[j]? = some a → W3 a = .ow [tmq, j] ∧ H3 a = some (.lst []) ∧ (H1 a = none ∨ ∃ r, W1 a = .ow (tmp :: r)) ∧ a ≠ D := fun j a h => by
        obtain ⟨e1, e2, e3, e4⟩ := hu j a h
        obtain ⟨f1, f2⟩ := g3.own e2 e1 tmq_ne
        exact ⟨f2, f1, e3, e4⟩
      have hp1 : H1 p = none ∨ ∃ r, W1 p = .ow (tmp :: r) := by
        cases e : H1 p with
        | none => exact .inl rfl
        | some o =>
          by_cases c : ∃ φ, W1 p = .st φ
          · obtain ⟨φ, c⟩ := c
            have := ok3.st p φ (g13.s p φ c)
            obtain ⟨o', ho', _⟩ := this
            rw [hp] at ho'; cases ho'
          · by_cases c2 : ∃ r, W1 p = .ow (tmp :: r)
            · exact .inr c2
            · have := (g13.k p o e (fun φ z => c ⟨φ, z⟩) (fun r z => c2 ⟨r, z⟩)).1
              rw [hp] at this; cases this
      refine ⟨_, us ++ [p], upd_goE (g13.trans gn2) hD, upd_ok okn2 wD5 trivial, wD5, by rw [upd_same, List.map_append]; rfl, by rw [List.length_append, hl]; rfl, fun j a h => ?_⟩
      by_cases hj : j < us.length
      · rw [List.getElem?_append_left hj] at h
        obtain ⟨e1, e2, e3, e4⟩ := old j a h
        have ap : a ≠ p := fun e => by rw [e, hp] at e2; cases e2
        exact ⟨by rw [setW_ne ap, setW_ne ap]; exact e1, by rw [upd_ne e4, upd_ne ap]; exact e2, e3, e4⟩
      · rw [List.getElem?_append_right (by omega)] at h
        have : j - us.length = 0 := by
          cases e : j - us.length with
          | zero => rfl
          | succ n => rw [e] at h; simp at h
        rw [this] at h
        cases h
        obtain rfl : j = i := by omega
        exact ⟨setW_same, by rw [upd_ne pD]; exact upd_same, hp1, pD⟩
    · rintro H2 ⟨W2, us, ga, ok2, wD, hD2, hl, hu⟩
      have wT : ∀ {b : Addr} {i : Nat} {r : List Nat}, b = D ∨ b ∈ us → W2 b = .ow (i :: r) → grownW W2 (fun b => b = D ∨ b ∈ us) b = .ow (tmp :: r) := fun {b i r} s e => by
        unfold grownW
        rw [if_pos s, e]
      have wN : ∀ {b : Addr}, ¬ (b = D ∨ b ∈ us) → grownW W2 (fun b => b = D ∨ b ∈ us) b = W2 b := fun {b} s => by
        unfold grownW
        rw [if_neg s]
      have re : ∀ b, grownW W2 (fun b => b = D ∨ b ∈ us) b = W2 b ∨ ∃ p p', W2 b = .ow p ∧ grownW W2 (fun b => b = D ∨ b ∈ us) b = .ow p' := fun b => by
        by_cases s : b = D ∨ b ∈ us
        · rcases s with s | s
          · subst s; exact .inr ⟨_, _, wD, wT (.inl rfl) wD⟩
          · obtain ⟨j, hj⟩ := List.getElem?_of_mem s
            exact .inr ⟨_, _, (hu j b hj).1, wT (.inr s) (hu j b hj).1⟩
        · exact .inl (wN s)
      have g2 : GoE W1 H1 (grownW W2 (fun b => b = D ∨ b ∈ us)) H2 := by
        refine ⟨fun b o e n nt => ?_, fun b φ e => ?_, fun b e => ?_⟩
        · obtain ⟨e1, w1⟩ := ga.k b o e n nt
          refine ⟨e1, ?_⟩
          rw [wN fun s => ?_]
          · exact w1
          · rcases s with s | s
            · rw [s, hD] at e; cases e
            · obtain ⟨j, hj⟩ := List.getElem?_of_mem s
              rcases (hu j b hj).2.2.1 with z | ⟨r, z⟩
              · rw [z] at e; cases e
              · exact nt r z
        · have := ga.s b φ e
          rcases re b with z | ⟨p, p', z, _⟩
          · exact z.trans this
          · rw [z] at this; cases this
        · rcases re b with z | ⟨p, p', _, z⟩
          · exact ga.l b (z.symm.trans e)
          · rw [z] at e; cases e
      refine q _ _ H2 G1 _ he (m.thenE g2 (remap_ok ok2 re)) ⟨D, us.map V.ref, rfl, wT (.inl rfl) wD, hD2, by rw [List.length_map, hl, List.length_replicate], fun j u x h1 h2 => ?_⟩
      rw [List.getElem?_map] at h1
      obtain ⟨a, ha, rfl⟩ := Option.map_eq_some_iff.mp h1
      obtain ⟨e1, e2, _, _⟩ := hu j a ha
      have : x = [] := by
        rw [List.getElem?_replicate] at h2
        split at h2
        · cases h2; rfl
        · cases h2
      subst this
      exact ⟨a, [], rfl, wT (.inr (List.mem_of_getElem? ha)) e1, e2, .nil⟩
theorem ev_lcNew {γ : Type} {z : Ty γ} {wi : TI} {g : TG} {te : TE} {vs : List Nat} {P : Ct → List (List α) → Prop}
    (hte : ∀ σ H (Q : VK), (∀ p, H p = none → Q (.ref p) (upd H p (.lst []))) → te σ H Q)
    (h : Ei X k wi G z fun G1 (xs : List γ) => xs.length < sizeLine ∧ G1.frees vs ∧ (∀ (i : Nat) x, xs[i]? = some x → Tg g (G1.wipe vs) z x vs fun _ => True) ∧ P G1 (List.replicate xs.length ([] : List α))) :
    EvR X k (tLc wi g tYes te vs) G (.ow (oLO K (oL K t))) P := fun W H σ Q hs ex q => lcNew_core hte (h W H σ hs ex) q
end
end Y
end

section
set_option maxRecDepth 100000
set_option maxHeartbeats 4000000
namespace L2
open PySem PySem.Spec PyProof.Rows
/-- xs[i], by values -/
theorem get_list {X : Cx} : PGet X (rIxL X.K) := by
  intro pins s σ H x y v u Q I rx ry h
  obtain ⟨p, xs, i, z, rfl, rfl, hq, he, q⟩ := h
  cases rx
  obtain ⟨t, rfl⟩ := ry
  obtain ⟨its, r, pl, hz⟩ := I.list hq
  obtain ⟨j, h1, h2, h3, h4, h5⟩ := atI_get he
  obtain ⟨w, ew, rw'⟩ := r.get h2
  have hl := r.length
  have hn := line63
  have fin : EP X pins σ Q w s := ⟨z, H, I, rw', q⟩
  by_cases h0 : 0 ≤ i
  · have hj : i.toNat = j := by
      rw [seqIndex_of h0 h5] at h1
      exact Option.some.inj h1
    exact wpAny_getItem_list pl.isList h0 (by omega) (by rw [hj]; simpa using ew) fin
  · have hj : (i + (its.toArray.size : Int)).toNat = j := by
      rw [seqIndex_neg (by omega) h4] at h1
      rw [List.size_toArray, ← hl]
      exact Option.some.inj h1
    exact wpAny_getItem_list_neg pl.isList (by omega) (by rw [List.size_toArray] <;> omega) (by omega) (by rw [hj]; simpa using ew) fin
end L2
end

section
set_option maxRecDepth 100000
set_option maxHeartbeats 4000000
namespace KK
open PySem PySem.Spec PyProof.Rows L2 Y
/-! ### flows: their types -/
structure FlowC (K : PySem.W.Frag) (C : Addr) : Prop where
  cl : Cls K C
  nh : NoAttr K C "_heads"
  nr : NoAttr K C "_rooms"
  nl : NoAttr K C "_leaving"
abbrev flF (K : PySem.W.Frag) (hs rs : List Int) (ls : List (List Int)) : List (Str × Sl) := [("_heads", .ow (oL K tInt) hs), ("_rooms", .ow (oL K tInt) rs), ("_leaving", .ow (oLO K (oL K tInt)) ls)]
abbrev oFlow (K : PySem.W.Frag) (C : Addr) (hs rs : List Int) (ls : List (List Int)) : OT Unit := oIns C (flF K hs rs ls)
abbrev tFlow (K : PySem.W.Frag) (C : Addr) (hs rs : List Int) (ls : List (List Int)) : Y.Ty Unit := tIns C (flF K hs rs ls)
def g0 (xs : List Int) (i : Int) : Int := xs.getD i.toNat 0
def gl (ls : List (List Int)) (i : Int) : List Int := ls.getD i.toNat []
theorem ixN_in {n : Nat} {i : Int} (h0 : 0 ≤ i) (h1 : i < n) : ixN n i = some i.toNat := by
  unfold ixN
  rw [if_pos h0, if_pos h1]
theorem get_g0 {xs : List Int} {i : Int} (h0 : 0 ≤ i) (h1 : i < xs.length) : xs[i.toNat]? = some (g0 xs i) := by
  unfold g0
  rw [List.getD_eq_getElem?_getD, List.getElem?_eq_getElem (by omega)]
  rfl
theorem get_gl {xs : List (List Int)} {i : Int} (h0 : 0 ≤ i) (h1 : i < xs.length) : xs[i.toNat]? = some (gl xs i) := by
  unfold gl
  rw [List.getD_eq_getElem?_getD, List.getElem?_eq_getElem (by omega)]
  rfl
theorem at_g0 {xs : List Int} {i : Int} (h0 : 0 ≤ i) (h1 : i < xs.length) : atI xs i = some (g0 xs i) := by
  unfold atI
  rw [ixN_in h0 h1]
  exact get_g0 h0 h1
theorem at_gl {xs : List (List Int)} {i : Int} (h0 : 0 ≤ i) (h1 : i < xs.length) : atI xs i = some (gl xs i) := by
  unfold atI
  rw [ixN_in h0 h1]
  exact get_gl h0 h1
section
variable {P : Program} {w : World} {K : PySem.W.Frag} {mg : Str → Option Value} {base : Heap} {C : Addr}
theorem makY {x qual : Str} {C : Addr} {st : Stmt} {N ps : List Str} {k : Nat} {sp : Sp} (F : (∃ f fd, Fun K "__init__" qual st f fd ∧ Mk K C f) ∧ mg x = some (.ref C)) (b : ∀ f fd, Fun K "__init__" qual st f fd → Binds K fd ps []) (S : FnScope N ps (defScope st)) (len : ∀ vs H Q E, sp vs H Q E → vs.length = ps.length)
    (hbody : ∀ (f : Addr) (cdv : Value) (A : Around) (outer : List Env) (s : Shared) (H : Hp) (vs : List V) (Q : VK) (E : XK), Room k (A.deeper (envOfC qual (defScope st) s.heap.objs.size f cdv)) → sp vs H Q E →
      ∃ t, PSs (cxOf CX0 P w K mg base N qual (defScope st) f cdv A outer s H E).nox (defBody st) t ∧ t { nx := fun _ H' => Q .non H', rt := Q } (start N vs) H) : C8.Mak P w K mg base (k + 1) x C sp [] := by
  obtain ⟨⟨f, fd, F, M⟩, hm⟩ := F
  exact ⟨f, fd, ps, [], M, F.ok S len (hbody f), hm, b f fd F, .nil⟩
abbrev ctFInit (K : PySem.W.Frag) (C : Addr) : Y.CT Unit := ⟨false, .sh tNon, fun as P _ => ∃ n : Int, as = [.ow (oIns C []) (), .sh tInt n] ∧ (0 ≤ n ∧ n < 1000) ∧ ∀ s, P [.ow (oFlow K C [] [] (List.replicate n.toNat [])) (), s] ()⟩
abbrev ctLink (K : PySem.W.Frag) (C : Addr) : Y.CT Int := ⟨false, .sh tInt, fun as P _ => ∃ (hs rs : List Int) (ls : List (List Int)) (a b r : Int), as = [.ow (oFlow K C hs rs ls) (), .sh tInt a, .sh tInt b, .sh tInt r] ∧ ((0 ≤ a ∧ a < ls.length) ∧ (0 ≤ b ∧ b < ls.length) ∧ hs.length < 10000 ∧ rs.length < 10000 ∧ (∀ l ∈ ls, l.length < 10000)) ∧
  ∀ o1 o2 o3, P [.ow (oFlow K C (hs ++ [b] ++ [a]) (rs ++ [r] ++ [0]) ((ls.set a.toNat (gl ls a ++ [(hs.length : Int)])).set b.toNat (gl (ls.set a.toNat (gl ls a ++ [(hs.length : Int)])) b ++ [(hs.length : Int) + 1]))) (), o1, o2, o3] hs.length⟩
abbrev ctSent (K : PySem.W.Frag) (C : Addr) : Y.CT Int := ⟨false, .sh tInt, fun as P _ => ∃ (hs rs : List Int) (ls : List (List Int)) (a : Int), as = [.sh (tFlow K C hs rs ls) (), .sh tInt a] ∧ (0 ≤ a ∧ a + 1 < rs.length) ∧ ∀ os, P os (g0 rs (a + 1))⟩
theorem s1000 {n : Nat} (h : n ≤ 100000) : n ≤ sizeLine := Nat.le_trans h (by decide)
theorem fo_heads (CC : FlowC K C) {hs rs : List Int} {ls : List (List Int)} : FldOf K "_heads" (tFlow K C hs rs ls) (tLs K tInt) (fun _ => hs) := fo_ow (fl := flF K hs rs ls) (O := oL K tInt) 0 CC.cl CC.nh
theorem fo_rooms (CC : FlowC K C) {hs rs : List Int} {ls : List (List Int)} : FldOf K "_rooms" (tFlow K C hs rs ls) (tLs K tInt) (fun _ => rs) := fo_ow (fl := flF K hs rs ls) (O := oL K tInt) 1 CC.cl CC.nr
theorem fo_leaving (CC : FlowC K C) {hs rs : List Int} {ls : List (List Int)} : FldOf K "_leaving" (tFlow K C hs rs ls) (tLs K (tLs K tInt)) (fun _ => ls) := fo_ow (fl := flF K hs rs ls) (O := oLO K (oL K tInt)) 2 CC.cl CC.nl
/-- places within a flow at slot 0 -/
theorem pl_heads (CC : FlowC K C) {G : Ct} {hs rs : List Int} {ls : List (List Int)} (e : G.s[0]? = some (.ow (oFlow K C hs rs ls) ()) := by rfl) : Pt (tFld K (tVar 0) "_heads") G [0, 0] (oL K tInt) hs (fun y => G.set 0 (.ow (oFlow K C y rs ls) ())) := (pw_fld (fl := flF K hs rs ls) CC.cl CC.nh (j := 0) rfl rfl (pw_var (i := 0) e (by decide))).pt
theorem pl_rooms (CC : FlowC K C) {G : Ct} {hs rs : List Int} {ls : List (List Int)} (e : G.s[0]? = some (.ow (oFlow K C hs rs ls) ()) := by rfl) : Pt (tFld K (tVar 0) "_rooms") G [0, 1] (oL K tInt) rs (fun y => G.set 0 (.ow (oFlow K C hs y ls) ())) := (pw_fld (fl := flF K hs rs ls) CC.cl CC.nr (j := 1) rfl rfl (pw_var (i := 0) e (by decide))).pt
theorem pl_leaving (CC : FlowC K C) {G : Ct} {hs rs : List Int} {ls : List (List Int)} {i : Nat} {k : Int} (h0 : 0 ≤ k) (h1 : k < ls.length) (e : G.s[0]? = some (.ow (oFlow K C hs rs ls) ()) := by rfl) (e2 : G.s[i]? = some (.sh tInt k) := by rfl) :
    Pt (tOp (rIxL K) (tFld K (tVar 0) "_leaving") (tVar i)) G [0, 2, k.toNat] (oL K tInt) (gl ls k) (fun y => G.set 0 (.ow (oFlow K C hs rs (ls.set k.toNat y)) ())) :=
  pt_idx (ixN_in h0 h1) (get_gl h0 h1) (pw_fld (fl := flF K hs rs ls) CC.cl CC.nl (j := 2) rfl rfl (pw_var (i := 0) e (by decide))) fun W H σ Q hs q => by
    obtain ⟨v, e1, r⟩ := hs.var e2
    exact ⟨v, e1, by rw [show v = .int k from r]; exact q⟩
abbrev NYFlowinit : List Str := ["self", "size", "_"]
theorem scYFlowinit : FnScope NYFlowinit ["self", "size"] (defScope s_Flow_init) := ⟨rfl, rfl, rfl, by decide +kernel, rfl, by decide +kernel, by decide +kernel⟩
theorem y_finit (T : Blt mg) (CC : FlowC K C) (F : (∃ f fd, Fun K "__init__" "Flow.__init__" s_Flow_init f fd ∧ Mk K C f) ∧ mg "Flow" = some (.ref C)) : C8.Mak P w K mg base 1 "Flow" C (Y.spZ (ctFInit K C)) [] := by
  refine makY F (fun f fd F => F.binds (ps := ["self", "size"]) fun _ _ _ _ _ _ us hl => match us, hl with | [_, _], _ => rfl) scYFlowinit (fun vs H Q E h => zlen (fun as P XP hc => by obtain ⟨_, rfl, _⟩ := hc; rfl) h) (fun f cdv A outer s H vs Q E hr h => ?_)
  have hu := hu_of hr
  refine ⟨_, (pss_cons (ps_fld (pv 0) (pe_lst pa_nil) rfl)
      (pss_cons (ps_fld (pv 0) (pe_lst pa_nil) rfl)
      (pss_one (ps_fld (pv 0) (pe_lc (own := [("_", 2)]) (g := gName 2) (tt := tYes) rfl scYFlowinit.nd (pi_range1 rfl T.b_range (pa_cons (pv 1) pa_nil)) (blkOk_by (own := [("_", 2)]) (N := NYFlowinit) (sc := defScope s_Flow_init) (by decide +kernel)) (fun _ _ _ _ _ => (pg_name (i := 2) scYFlowinit.nd rfl (Or.inl rfl))) (fun _ _ _ _ _ => pts_nil) (fun _ _ _ _ _ => (pe_lst pa_nil))) rfl)))), zrun h ?_⟩
  rintro as P XP ⟨n, rfl, ⟨h0, h1⟩, hp⟩ hl
  obtain ⟨p0, p1, rfl⟩ := len2 hl
  refine ⟨1, rfl, by decide, ?_⟩
  refine blk_seq (blk_fldO CC.cl CC.nh (Nat.le_of_ble_eq_true rfl) (pw_var (i := 0) rfl (by decide)) (ev_list (K := K) (t := tInt) (es_nil ⟨by decide, ?_⟩)))
  refine blk_seq (blk_fldO CC.cl CC.nr (Nat.le_of_ble_eq_true rfl) (pw_var (i := 0) rfl (by decide)) (ev_list (K := K) (t := tInt) (es_nil ⟨by decide, ?_⟩)))
  refine blk_fldO CC.cl CC.nl (Nat.le_of_ble_eq_true rfl) (pw_var (i := 0) rfl (by decide)) (ev_lcNew (K := K) (t := tInt) (fun σ H Q h => ⟨by decide, h⟩) (ei_range1 (ev_var rfl ⟨⟨by omega, by omega⟩, ?_, ?_, ?_, ?_⟩)))
  · rw [rangeZ_len]
    refine Nat.lt_of_lt_of_le (m := 1000) (by omega) (by decide)
  · intro i hi
    simp at hi
    subst hi
    exact free_of rfl
  · intro i x _
    exact tg_name (by decide) (free_of rfl) trivial
  · rw [rangeZ_len]
    refine ⟨(), ⟨rfl, _, [_, _], _, rfl, rfl, .same (.same .nil), ?_⟩, fun _ _ => rfl⟩
    have := hp (.sh tInt n)
    rwa [show (n - 0).toNat = n.toNat from by rw [Int.sub_zero]]
abbrev NYFlowlink : List Str := ["self", "tail", "head", "room", "arc"]
theorem scYFlowlink : FnScope NYFlowlink ["self", "tail", "head", "room"] (defScope s_Flow_link) := ⟨rfl, rfl, rfl, by decide +kernel, rfl, by decide +kernel, by decide +kernel⟩
theorem y_link (T : Blt mg) (CC : FlowC K C) (F : HasM K C "link" "Flow.link" s_Flow_link) : C8.Met P w K mg base 1 C "link" (Y.spZ (ctLink K C)) [] := by
  refine metF CC.cl F (fun f fd F => F.binds (ps := ["self", "tail", "head", "room"]) fun _ _ _ _ _ _ us hl => match us, hl with | [_, _, _, _], _ => rfl) scYFlowlink (fun vs H Q E h => zlen (fun as P XP hc => by obtain ⟨_, _, _, _, _, _, rfl, _⟩ := hc; rfl) h) (fun f cdv A outer s H vs Q E hr h => ?_)
  have hu := hu_of hr
  refine ⟨_, (pss_cons (ps_set (i := 4) scYFlowlink.nd rfl (Or.inl rfl) (pe_callB call_len (by rfl) T.b_len PySem.boot_len (pa_cons (pe_fld (pv 0) rfl) pa_nil)))
      (pss_cons (ps_expr (pe_bm PySem.F.plainAttrs_list PySem.F.slot_list_append PySem.F.type_list_append mt_append (pe_fld (pv 0) rfl) (pa_cons (pv 2) pa_nil)))
      (pss_cons (ps_expr (pe_bm PySem.F.plainAttrs_list PySem.F.slot_list_append PySem.F.type_list_append mt_append (pe_fld (pv 0) rfl) (pa_cons (pv 3) pa_nil)))
      (pss_cons (ps_expr (pe_bm PySem.F.plainAttrs_list PySem.F.slot_list_append PySem.F.type_list_append mt_append (pe_ix ix_list (pe_fld (pv 0) rfl) (pv 1) (fun _ _ => rfl)) (pa_cons (pv 4) pa_nil)))
      (pss_cons (ps_expr (pe_bm PySem.F.plainAttrs_list PySem.F.slot_list_append PySem.F.type_list_append mt_append (pe_fld (pv 0) rfl) (pa_cons (pv 1) pa_nil)))
      (pss_cons (ps_expr (pe_bm PySem.F.plainAttrs_list PySem.F.slot_list_append PySem.F.type_list_append mt_append (pe_fld (pv 0) rfl) (pa_cons pe_int pa_nil)))
      (pss_cons (ps_expr (pe_bm PySem.F.plainAttrs_list PySem.F.slot_list_append PySem.F.type_list_append mt_append (pe_ix ix_list (pe_fld (pv 0) rfl) (pv 2) (fun _ _ => rfl)) (pa_cons (pe_op op_add (pv 4) pe_int) pa_nil)))
      (pss_one (ps_ret (pv 4)))))))))), zrun h ?_⟩
  rintro as P XP ⟨hs, rs, ls, a, b, r, rfl, ⟨ha, hb, h1, h2, h3⟩, hp⟩ hl
  obtain ⟨p0, p1, p2, p3, rfl⟩ := len4 hl
  refine ⟨1, rfl, by decide, ?_⟩
  have L1 : ∀ (l : List (List Int)) (i : Nat) (y : List Int), (l.set i y).length = l.length := fun l i y => List.length_set
  have G1 : (gl (ls.set a.toNat (gl ls a ++ [(hs.length : Int)])) b).length < 20000 := by
    have hz : ∀ l ∈ ls.set a.toNat (gl ls a ++ [(hs.length : Int)]), l.length < 20000 := fun l hl => by
      rcases List.mem_or_eq_of_mem_set hl with hl | rfl
      · have := h3 l hl; omega
      · have := h3 _ (List.mem_of_getElem? (get_gl ha.1 ha.2))
        rw [List.length_append]
        simp
        omega
    exact hz _ (List.mem_of_getElem? (get_gl hb.1 (by rw [L1]; exact hb.2)))
  have G0 := h3 _ (List.mem_of_getElem? (get_gl ha.1 ha.2))
  refine blk_seq (blk_set (ev_view (r := .sh tInt) flI (ev_cb rc_lenL (ev_fld (fo_heads CC) (ev_var rfl ⟨fun h => (nomatch h), rfl, ?_⟩)))))
  refine blk_seq (blk_append (pl_heads CC) (ev_var rfl ⟨s1000 (by omega), ?_⟩))
  refine blk_seq (blk_append (pl_rooms CC) (ev_var rfl ⟨s1000 (by omega), ?_⟩))
  refine blk_seq (blk_append (pl_leaving CC ha.1 ha.2) (ev_var rfl ⟨s1000 (by omega), ?_⟩))
  refine blk_seq (blk_append (pl_heads CC) (ev_var rfl ⟨s1000 (by rw [List.length_append]; simp; omega), ?_⟩))
  refine blk_seq (blk_append (pl_rooms CC) (ev_c (t := tInt) (fun _ _ => rfl) ⟨s1000 (by rw [List.length_append]; simp; omega), ?_⟩))
  refine blk_seq (blk_append (pl_leaving CC hb.1 (show b < ((ls.set a.toNat (gl ls a ++ [(hs.length : Int)])).length : Int) by rw [L1]; exact hb.2)) (ev_op ro_I0 (ev_var rfl (ev_c (t := tInt) (fun _ _ => rfl) ⟨s1000 (by omega), ?_⟩))))
  refine blk_ret (ev_var rfl ⟨rfl, _, [_, _, _, _], _, rfl, rfl, .refl _, hp _ _ _⟩)
end
end KK
end

section
set_option maxRecDepth 100000
set_option maxHeartbeats 4000000
namespace KK
open PySem PySem.Spec PyProof.Rows L2 Y
structure Net (n : Nat) (hs rs : List Int) (ls : List (List Int)) : Prop where
  ln : ls.length = n
  lr : rs.length = hs.length
  hb : ∀ a : Int, 0 ≤ a → a < hs.length → 0 ≤ g0 hs a ∧ g0 hs a < n
  ab : ∀ u : Int, 0 ≤ u → u < n → ∀ a ∈ gl ls u, 0 ≤ a ∧ a < hs.length
  sm : n ≤ 1000
  sh : hs.length ≤ 20000
  sl : ∀ u : Int, 0 ≤ u → u < n → (gl ls u).length ≤ 20000
/-- an arc with room that climbs one level -/
def Cl (hs rs lv : List Int) (u a : Int) : Prop := 0 < g0 rs a ∧ g0 lv (g0 hs a) = g0 lv u + 1
theorem g0_mem {xs : List Int} {i : Int} (h0 : 0 ≤ i) (h1 : i < xs.length) : g0 xs i ∈ xs := List.mem_of_getElem? (get_g0 h0 h1)
theorem g0_set_same {xs : List Int} {u : Int} {j : Int} (h0 : 0 ≤ u) (h1 : u < xs.length) : g0 (xs.set u.toNat j) u = j := by
  unfold g0
  rw [List.getD_eq_getElem?_getD, List.getElem?_set_self (by omega)]
  rfl
theorem g0_set_ne {xs : List Int} {u v : Int} {j : Int} (h0 : 0 ≤ u) (h1 : 0 ≤ v) (n : v ≠ u) : g0 (xs.set u.toNat j) v = g0 xs v := by
  unfold g0
  rw [List.getD_eq_getElem?_getD, List.getD_eq_getElem?_getD, List.getElem?_set_ne (by omega)]
/-- what climbing tells -/
structure ClimbR (hs rs lv td : List Int) (ls : List (List Int)) (u : Int) (td' : List Int) (r : Option Int) (j : Int) : Prop where
  ge : g0 td u ≤ j
  tq : td' = td.set u.toNat j
  no : ∀ k, g0 td u ≤ k → k < j → k < (gl ls u).length ∧ ¬ Cl hs rs lv u (g0 (gl ls u) k)
  so : ∀ a, r = some a → j < (gl ls u).length ∧ a = g0 (gl ls u) j ∧ Cl hs rs lv u a
  nn : r = none → (gl ls u).length ≤ j
abbrev ctClimb (K : PySem.W.Frag) (C : Addr) : Y.CT (Option Int) := ⟨false, .sh (tOpt tInt), fun as P _ => ∃ (n : Nat) (hs rs lv td : List Int) (ls : List (List Int)) (u : Int), as = [.sh (tFlow K C hs rs ls) (), .sh (tLs K tInt) lv, .ow (oL K tInt) td, .sh tInt u] ∧
  (Net n hs rs ls ∧ lv.length = n ∧ td.length = n ∧ 0 ≤ u ∧ u < n ∧ 0 ≤ g0 td u) ∧ ∀ td' r j, ClimbR hs rs lv td ls u td' r j → P [.un, .un, .ow (oL K tInt) td', .un] r⟩
section
variable {P : Program} {w : World} {K : PySem.W.Frag} {mg : Str → Option Value} {base : Heap} {C : Addr}
abbrev NYFlowclimb : List Str := ["self", "levels", "tried", "node", "leaving", "arc"]
theorem scYFlowclimb : FnScope NYFlowclimb ["self", "levels", "tried", "node"] (defScope s_Flow_climb) := ⟨rfl, rfl, rfl, by decide +kernel, rfl, by decide +kernel, by decide +kernel⟩
theorem y_climb (T : Blt mg) (CC : FlowC K C) (F : HasM K C "_climb" "Flow._climb" s_Flow_climb) : C8.Met P w K mg base 1 C "_climb" (Y.spZ (ctClimb K C)) [] := by
  refine metF CC.cl F (fun f fd F => F.binds (ps := ["self", "levels", "tried", "node"]) fun _ _ _ _ _ _ us hl => match us, hl with | [_, _, _, _], _ => rfl) scYFlowclimb (fun vs H Q E h => zlen (fun as P XP hc => by obtain ⟨_, _, _, _, _, _, _, rfl, _⟩ := hc; rfl) h) (fun f cdv A outer s H vs Q E hr h => ?_)
  have hu := hu_of hr
  refine ⟨_, (pss_cons (ps_set (i := 4) scYFlowclimb.nd rfl (Or.inl rfl) (pe_ix ix_list (pe_fld (pv 0) rfl) (pv 3) (fun _ _ => rfl)))
      (pss_cons (ps_while PassesOwn.never (pt_cmpR op_lt (pe_ix ix_list (pv 2) (pv 3) (fun _ _ => rfl)) (pe_callB call_len (by rfl) T.b_len PySem.boot_len (pa_cons (pv 4) pa_nil)) (nomark _))
        (pss_cons (ps_set (i := 5) scYFlowclimb.nd rfl (Or.inl rfl) (pe_ix ix_list (pv 4) (pe_ix ix_list (pv 2) (pv 3) (fun _ _ => rfl)) (fun _ _ => rfl)))
      (pss_cons (ps_if (PW.pt (pw_and (pt_cmpR op_gt (pe_ix ix_list (pe_fld (pv 0) rfl) (pv 5) (fun _ _ => rfl)) pe_int (nomark _)) (pw_and1 (pt_cmpR op_eq (pe_ix ix_list (pv 1) (pe_ix ix_list (pe_fld (pv 0) rfl) (pv 5) (fun _ _ => rfl)) (fun _ _ => rfl)) (pe_op op_add (pe_ix ix_list (pv 1) (pv 3) (fun _ _ => rfl)) pe_int) (nomark _))))) (pss_one (ps_ret (pv 5))) pss_nil)
      (pss_one (ps_augS (pv 2) (pv 3) get_list pe_int ip_add set_list)))))
      (pss_one (ps_ret pe_non)))), zrun h ?_⟩
  rintro as P XP ⟨n, hs, rs, lv, td, ls, u, rfl, ⟨N, hlv, htd, u0, u1, t0⟩, hp⟩ hl
  obtain ⟨p0, p1, p2, p3, rfl⟩ := len4 hl
  refine ⟨2, rfl, by decide, ?_⟩
  have ul : u < (ls.length : Int) := by rw [N.ln]; exact u1
  have ut : ∀ j : Int, u < ((td.set u.toNat j).length : Int) := fun j => by rw [List.length_set, htd]; exact u1
  have tg : ∀ j : Int, g0 (td.set u.toNat j) u = j := fun j => g0_set_same u0 (by rw [htd]; exact u1)
  have Lb := N.sl u u0 u1
  refine blk_seq (blk_set (ev_op ro_ixL (ev_fld (fo_leaving CC) (ev_var rfl (ev_var rfl ⟨_, at_gl u0 ul, rfl, ?_⟩)))))
  refine blk_seq (blk_while (fun m G' => ∃ j : Int, g0 td u ≤ j ∧ m = ((gl ls u).length - j).toNat ∧ (∀ k, g0 td u ≤ k → k < j → k < (gl ls u).length ∧ ¬ Cl hs rs lv u (g0 (gl ls u) k)) ∧
      G' = ⟨false, [.sh (tFlow K C hs rs ls) (), .sh (tLs K tInt) lv, .ow (oL K tInt) (td.set u.toNat j), .sh tInt u, .sh (tLs K tInt) (gl ls u), .un], [some p0, some p1, some p2, some p3]⟩) _ ⟨g0 td u, Int.le_refl _, rfl, fun k h1 h2 => by omega, ?_⟩ ?_)
  · have e : td.set u.toNat (g0 td u) = td := by
      have := get_g0 u0 (by rw [htd]; exact u1 : u < (td.length : Int))
      exact List.ext_getElem? fun i => by
        by_cases hi : i = u.toNat
        · rw [hi, List.getElem?_set_self (by omega), this]
        · rw [List.getElem?_set_ne (by omega)]
    rw [e]
    rfl
  rintro m _ ⟨j, hj, rfl, hno, rfl⟩
  have tj := tg j
  refine et_view (et_b (ev_op ro_B0 (ev_op ro_ixL (ev_var rfl (ev_var rfl ⟨_, at_g0 u0 (ut j), ev_cb rc_lenL (ev_var rfl ⟨fun h => (nomatch h), ?_⟩)⟩)))))
  rw [tj]
  refine ⟨fun hb => ?_, fun hb => ?_⟩
  · have hlt : j < ((gl ls u).length : Int) := of_decide_eq_true hb
    have am := N.ab u u0 u1 _ (g0_mem (xs := gl ls u) (i := j) (by omega) hlt)
    have hm := N.hb _ am.1 am.2
    refine blk_wipe [5] ?_
    refine blk_seq (blk_set (ev_view (r := .sh tInt) flI (ev_op ro_ixL (ev_var rfl (ev_op ro_ixL (ev_var rfl (ev_var rfl ⟨_, at_g0 u0 (ut j), ?_⟩)))))))
    rw [tj]
    refine ⟨_, at_g0 (by omega) hlt, rfl, ?_⟩
    refine blk_seq (blk_if (et_and (et_b (ev_op ro_B0 (ev_op ro_ixL (ev_fld (fo_rooms CC) (ev_var rfl (ev_var rfl ⟨_, at_g0 am.1 (by rw [N.lr]; exact am.2), ev_c (t := tInt) (fun _ _ => rfl) ⟨fun hb1 => ?_, fun hb1 => ?_⟩⟩))))))))
    · refine et_b (ev_op ro_eqI (ev_op ro_ixL (ev_var rfl (ev_op ro_ixL (ev_fld (fo_heads CC) (ev_var rfl (ev_var rfl ⟨_, at_g0 am.1 am.2, ⟨_, at_g0 hm.1 (by rw [hlv]; exact hm.2), ev_op ro_I0 (ev_op ro_ixL (ev_var rfl (ev_var rfl ⟨_, at_g0 u0 (by rw [hlv]; exact u1), ev_c (t := tInt) (fun _ _ => rfl) ⟨fun hb2 => ?_, fun hb2 => ?_⟩⟩)))⟩⟩)))))))
      · have cl : Cl hs rs lv u (g0 (gl ls u) j) := ⟨of_decide_eq_true hb1, of_decide_eq_true hb2⟩
        refine blk_ret (Ev.as (t := tInt) some (ev_var rfl ?_) (fun _ _ _ _ h => h))
        exact ⟨rfl, _, [_, _, _, _], _, rfl, rfl, .un (.un (.same (.un .nil))), hp _ _ j ⟨hj, rfl, hno, fun a e => (by cases e; exact ⟨hlt, rfl, cl⟩), fun e => (by cases e)⟩⟩
      · have nc : ¬ Cl hs rs lv u (g0 (gl ls u) j) := fun c => (of_decide_eq_false hb2) c.2
        refine blk_next (blk_laug (pt_var rfl (by decide)) (ev_var rfl ⟨_, _, ixN_in u0 (ut j), get_g0 u0 (ut j), ev_c (t := tInt) (fun _ _ => rfl) ?_⟩))
        refine ⟨_, ?_, j + 1, by omega, rfl, fun k h1 h2 => ?_, ?_⟩
        · omega
        · by_cases e : k = j
          · subst e; exact ⟨hlt, nc⟩
          · exact hno k h1 (by omega)
        · rw [tj, List.set_set]; rfl
    · have nc : ¬ Cl hs rs lv u (g0 (gl ls u) j) := fun c => (of_decide_eq_false hb1) c.1
      refine ⟨fun z => (nomatch z), fun _ => blk_next (blk_laug (pt_var rfl (by decide)) (ev_var rfl ⟨_, _, ixN_in u0 (ut j), get_g0 u0 (ut j), ev_c (t := tInt) (fun _ _ => rfl) ?_⟩))⟩
      refine ⟨_, ?_, j + 1, by omega, rfl, fun k h1 h2 => ?_, ?_⟩
      · omega
      · by_cases e : k = j
        · subst e; exact ⟨hlt, nc⟩
        · exact hno k h1 (by omega)
      · rw [tj, List.set_set]; rfl
  · have hge : ((gl ls u).length : Int) ≤ j := by
      have := of_decide_eq_false hb
      omega
    refine blk_ret (ev_c (t := tOpt tInt) (x := none) (fun _ _ => rfl) ?_)
    exact ⟨rfl, _, [_, _, _, _], _, rfl, rfl, .un (.un (.same (.un .nil))), hp _ _ j ⟨hj, rfl, hno, fun a e => (by cases e), fun _ => hge⟩⟩
end
end KK
end

section
set_option maxRecDepth 100000
set_option maxHeartbeats 4000000
/-! One's own handed back; a shared receiver with one's own as arguments; truth. -/
namespace Y
open PySem PySem.Spec PyProof.Rows L2
section
variable {α β ρ : Type} {F : Fx ρ} {G : Ct} {N B C : Ct → Prop} {t : Ty α} {X : Xw} {K : PySem.W.Frag} {k : Bool} {c : CT ρ}
/-- what hangs in a slot hangs nowhere -/
def unseat (W : Wd) (i : Nat) : Wd := fun b => match W b with
  | .ow (j :: r) => if j = i then .ow (tmp :: r) else .ow (j :: r)
  | w => w
theorem unseat_at {W : Wd} {i : Nat} {b : Addr} {r : List Nat} (h : W b = .ow (i :: r)) : unseat W i b = .ow (tmp :: r) := by unfold unseat; rw [h]; simp
theorem unseat_ne {W : Wd} {i : Nat} {b : Addr} (h : ∀ r, W b ≠ .ow (i :: r)) : unseat W i b = W b := by
  unfold unseat
  cases e : W b with
  | ow p =>
    cases p with
    | nil => rfl
    | cons j r =>
      by_cases n : j = i
      · subst n; exact absurd e (h r)
      · simp [n]
  | _ => rfl
theorem unseat_re (W : Wd) (i : Nat) (b : Addr) : unseat W i b = W b ∨ ∃ p p', W b = .ow p ∧ unseat W i b = .ow p' := by
  by_cases h : ∃ r, W b = .ow (i :: r)
  · obtain ⟨r, e⟩ := h
    exact .inr ⟨_, _, e, unseat_at e⟩
  · exact .inl (unseat_ne fun r e => h ⟨r, e⟩)
/-- a thing of one's own is handed back -/
theorem ev_give {i : Nat} {O : OT α} {x : α} {P : Ct → α → Prop} (hi : G.s[i]? = some (.ow O x)) (p : P (G.set i .un) x) : EvR X false (tVar i) G (.ow O) P := fun W H σ Q hs ex q => by
  obtain ⟨v, e1, r⟩ := hs.own hi
  have ni := hs.lt hi
  have mv : Mv W H (unseat W i) H := remap_mv (unseat_re W i)
  have go : Go W H (unseat W i) H := by
    refine ⟨fun b o h w => ⟨h, unseat_ne fun r e => ?_⟩, fun b φ h => ?_, fun b h => ?_⟩
    · rcases w with w | w | w <;> (rw [w] at e; cases e)
    · rw [unseat_ne fun r e => by rw [h] at e; cases e]; exact h
    · rcases unseat_re W i b with e | ⟨p, p', e, e2⟩
      · exact e.symm.trans h
      · rw [e2] at h; cases h
  refine ⟨v, e1, q v (unseat W i) H (G.set i .un) x p ⟨go, ?_, fun z => nomatch z⟩ (O.mv (p' := [tmp]) r (fun b o q w e => ⟨unseat_at w, e⟩) mv)⟩
  refine ⟨by show σ.length = (G.s.set i .un).length; rw [List.length_set]; exact hs.len, remap_ok hs.ok (unseat_re W i), fun j s e (h1 : (G.s.set i .un)[j]? = some s) h2 => ?_, fun n b w => hs.nl n b (go.l b w), hs.pn, by show (G.s.set i .un).length ≤ tmp; rw [List.length_set]; exact hs.sm⟩
  rcases set_key h1 with ⟨rfl, rfl⟩ | ⟨n1, g1⟩
  · trivial
  · refine (hs.sl j s e g1 h2).mv (fun b o q w e => ⟨?_, e⟩) mv
    rw [unseat_ne fun r z => by rw [w] at z; exact n1 (List.cons.inj (Md.ow.inj z)).1]
    exact w
/-- o.m(..), o shared, with things of one's own as arguments -/
theorem ev_methS0 {E : XK} {C : Addr} {m : Str} {to : TE} {ta : TA} {P : Ct → ρ → Prop} (hi : Inst C m t) (h : Ev X true to G t fun G x => Ea X true ta G fun G as => Co0 c G P (.sh t x :: as)) : EvR X false (tMeth C m (spZ c) [] E to ta) G c.r P := fun W H σ Q hs ex q =>
  h W H σ _ hs ex fun v W1 H1 G1 x p m r => by
    obtain ⟨a, dx, fs, rfl, ha, hl⟩ := hi W1 H1 v x m.hs.ok r
    refine ⟨a, dx, fs, rfl, ha, hl, p W1 H1 σ _ m.hs (ex.mv m.go) fun vs W2 H2 G2 as hc m2 ha2 => ?_⟩
    rw [List.append_nil]
    exact hc.sp m2.hs (.cons (t.mv r m2.go) ha2) fun v W' H' G' x p m3 r => q v W' H' G' x p (Mo.trans ⟨(m.go).trans m2.go, m2.hs, fun z => nomatch z⟩ m3) r
/-- truth -/
def TrT (K : PySem.W.Frag) (t : Ty α) (f : α → Bool) : Prop := ∀ W H v x, OKW W H → t.R W H v x → TruV K v H (f x)
theorem et_truth {f : α → Bool} {te : TE} {P : Ct → Bool → Prop} (tr : TrT K t f) (h : Ev X k te G t fun G x => P G (f x)) : Et X k (fun σ H Q => te σ H fun x H' => ∃ k, TruV K x H' k ∧ Q k H') G P := fun W H σ Q hs ex q =>
  h W H σ _ hs ex fun v W' H' G' x p m r => ⟨f x, tr W' H' v x m.hs.ok r, q _ W' H' G' p m⟩
theorem all1 {A : Type _} {p : A → Prop} {a : A} (h : p a) : ∀ x ∈ [a], p x := fun x hx => by rw [List.mem_singleton] at hx; rw [hx]; exact h
theorem allc {A : Type _} {p : A → Prop} {a : A} {l : List A} (h : p a) (hl : ∀ x ∈ l, p x) : ∀ x ∈ a :: l, p x := fun x hx => by
  rcases List.mem_cons.mp hx with rfl | hx
  · exact h
  · exact hl x hx
end
end Y
namespace Y
open PySem PySem.Spec PyProof.Rows L2
section
variable {α : Type} {t : Ty α} {K : PySem.W.Frag}
theorem trL : TrT K (tLs K t) fun xs => !xs.isEmpty := by
  rintro W H v x ok ⟨a, vs, rfl, sq, p⟩
  have e : (!x.isEmpty) = (!vs.isEmpty) := by cases p <;> rfl
  show TruV K (.ref a) H (!x.isEmpty)
  rw [e]
  exact .inl ⟨vs, SqL.of sq.2, rfl⟩
end
end Y
namespace Y
open PySem PySem.Spec PyProof.Rows L2
section
variable {α : Type} {t : Ty α} {K : PySem.W.Frag}
theorem ro_notO (nn : ∀ W H v x, t.R W H v x → v ≠ .non) : RO (fun x y H Q => y = .non ∧ Q (.bl (!decide (x = .non))) H) (tOpt t) tNon (.sh tBl) (fun x _ P => P x.isSome) := by
  rintro W H v w x y Q P ok r rfl c q
  refine ⟨rfl, q _ W H _ c .refl ok ?_⟩
  cases x with
  | none =>
    have r : v = .non := r
    subst r
    rfl
  | some x =>
    have := nn W H v x r
    show V.bl (!decide (v = .non)) = .bl true
    rw [decide_eq_false this]
    rfl
theorem nnI : ∀ W H v x, tInt.R W H v x → v ≠ .non := fun _ _ _ _ r e => by
  have r : _ = V.int _ := r
  rw [r] at e
  cases e
end
end Y
namespace Y
open PySem PySem.Spec PyProof.Rows L2
section
variable {α ρ : Type} {F : Fx ρ} {G : Ct} {N B C : Ct → Prop} {t : Ty α} {K : PySem.W.Frag}
/-- name op= e -/
theorem blk_aug {i : Nat} {te : TE} {g : Int → Int → Int} {a : Int} (ha : G.s[i]? = some (.sh tInt a)) (h : Ev F.X true te G tInt fun G1 b => (G1.p[i]?).join = none ∧ N (G1.set i (.sh tInt (g a b)))) : Blk F (tAug i te (ipI g)) G N B C := fun W0 H0 W H σ D g0 hs n _ _ _ ex => by
  obtain ⟨v, e1, r⟩ := hs.var ha
  refine ⟨v, e1, h W H σ _ hs (exo ex g0) fun v2 W1 H1 G1 b ⟨hf, hn⟩ m r2 => ⟨a, b, r, r2, n _ W1 H1 _ hn (g0.trans m.go) (m.hs.setSh i rfl (free_of hf))⟩⟩
/-- .. where one's own is written in e -/
theorem blk_augO {i : Nat} {te : TE} {g : Int → Int → Int} {a : Int} (ha : G.s[i]? = some (.sh tInt a)) (h : Ev F.X false te G tInt fun G1 b => (G1.p[i]?).join = none ∧ N (G1.set i (.sh tInt (g a b)))) : Blk F (tAug i te (ipI g)) G N B C := fun W0 H0 W H σ D g0 hs n _ _ _ ex => by
  obtain ⟨v, e1, r⟩ := hs.var ha
  refine ⟨v, e1, h W H σ _ hs (exo ex g0) fun v2 W1 H1 G1 b ⟨hf, hn⟩ m r2 => ⟨a, b, r, r2, n _ W1 H1 _ hn (g0.trans m.go) (m.hs.setSh i rfl (free_of hf))⟩⟩
theorem rc_min : RC1 (rMin K) (tLs K tInt) (.sh tInt) false (fun xs P => 0 < xs.length ∧ ∀ m, m ∈ xs → (∀ y ∈ xs, m ≤ y) → P m) := by
  rintro W H v xs Q P ok nl ⟨a, vs, rfl, sq, p⟩ ⟨h0, c⟩ q
  have e : vs = xs.map V.int := by
    clear sq h0 c q
    induction p with
    | nil => rfl
    | cons r _ ih => rw [List.map_cons, ← ih]; congr 1
  subst e
  exact ⟨a, xs, rfl, sq.l, h0, fun m hm hy => q _ W H m (c m hm hy) .refl ok rfl⟩
end
end Y
end

section
set_option maxRecDepth 100000
set_option maxHeartbeats 4000000
namespace KK
open PySem PySem.Spec PyProof.Rows L2 Y
/-- arcs stand in pairs -/
structure Prs (n : Nat) (hs : List Int) (ls : List (List Int)) : Prop where
  xb : ∀ a : Int, 0 ≤ a → a < hs.length → 0 ≤ Builtin.bitXor a 1 ∧ Builtin.bitXor a 1 < hs.length
  tl : ∀ u : Int, 0 ≤ u → u < n → ∀ a ∈ gl ls u, g0 hs (Builtin.bitXor a 1) = u
  mm : ∀ a : Int, 0 ≤ a → a < hs.length → a ∈ gl ls (g0 hs (Builtin.bitXor a 1))
  nd : ∀ u : Int, 0 ≤ u → u < n → (gl ls u).Nodup
def len (ls : List (List Int)) (u : Int) : Int := (gl ls u).length
def arc (ls : List (List Int)) (u k : Int) : Int := g0 (gl ls u) k
/-- what has been tried leads nowhere -/
structure Dead (n : Nat) (hs rs lv : List Int) (ls : List (List Int)) (t : Int) (td : List Int) : Prop where
  ge : ∀ u : Int, 0 ≤ u → u < n → 0 ≤ g0 td u
  no : ∀ u : Int, 0 ≤ u → u < n → ∀ k, 0 ≤ k → k < g0 td u → k < len ls u ∧ (Cl hs rs lv u (arc ls u k) → g0 hs (arc ls u k) ≠ t ∧ len ls (g0 hs (arc ls u k)) ≤ g0 td (g0 hs (arc ls u k)))
/-- the arcs from the source to a node, each the one that is tried -/
inductive PathTo (n : Nat) (hs rs lv : List Int) (ls : List (List Int)) (td : List Int) (s : Int) : List Int → Int → Prop where
  | nil : PathTo n hs rs lv ls td s [] s
  | snoc {p : List Int} {u : Int} : PathTo n hs rs lv ls td s p u → 0 ≤ u → u < n → 0 ≤ g0 td u → g0 td u < len ls u → Cl hs rs lv u (arc ls u (g0 td u)) → PathTo n hs rs lv ls td s (p ++ [arc ls u (g0 td u)]) (g0 hs (arc ls u (g0 td u)))
section
variable {n : Nat} {hs rs lv td td' : List Int} {ls : List (List Int)} {s t : Int}
theorem PathTo.lev {p : List Int} {u : Int} (h : PathTo n hs rs lv ls td s p u) (h0 : g0 lv s = 0) : g0 lv u = p.length := by
  induction h with
  | nil => rw [h0]; rfl
  | snoc _ _ _ _ _ c ih =>
    rw [c.2, ih, List.length_append]
    rfl
theorem PathTo.keep {p : List Int} {u : Int} (h : PathTo n hs rs lv ls td s p u) (k : ∀ v : Int, 0 ≤ v → v < n → g0 lv v < g0 lv u → g0 td' v = g0 td v) : PathTo n hs rs lv ls td' s p u := by
  induction h with
  | nil => exact .nil
  | @snoc p u hp u0 u1 t0 t1 c ih =>
    have e := k u u0 u1 (by rw [c.2]; omega)
    have := PathTo.snoc (td := td') (ih fun v v0 v1 hv => k v v0 v1 (by rw [c.2]; omega)) u0 u1 (by rw [e]; exact t0) (by rw [e]; exact t1) (by rw [e]; exact c)
    rwa [e] at this
theorem PathTo.in {p : List Int} {u : Int} (N : Net n hs rs ls) (h : PathTo n hs rs lv ls td s p u) (s0 : 0 ≤ s) (s1 : s < n) : 0 ≤ u ∧ u < n := by
  cases h with
  | nil => exact ⟨s0, s1⟩
  | snoc _ u0 u1 t0 t1 c =>
    have := N.ab _ u0 u1 _ (g0_mem t0 t1)
    exact N.hb _ this.1 this.2
theorem PathTo.nil_eq {p : List Int} {u : Int} (h : PathTo n hs rs lv ls td s p u) (e : p = []) : u = s := by
  cases h with
  | nil => rfl
  | snoc _ _ _ _ _ _ => exact absurd e (by simp)
theorem PathTo.last {p : List Int} {u : Int} (h : PathTo n hs rs lv ls td s p u) (ne : p ≠ []) : ∃ q v, p = q ++ [arc ls v (g0 td v)] ∧ PathTo n hs rs lv ls td s q v ∧ 0 ≤ v ∧ v < n ∧ 0 ≤ g0 td v ∧ g0 td v < len ls v ∧ Cl hs rs lv v (arc ls v (g0 td v)) ∧ u = g0 hs (arc ls v (g0 td v)) := by
  cases h with
  | nil => exact absurd rfl ne
  | snoc h u0 u1 t0 t1 c => exact ⟨_, _, rfl, h, u0, u1, t0, t1, c, rfl⟩
end
/-! what is left to be tried -/
def rest (n : Nat) (ls : List (List Int)) (td : List Int) : Nat := ((List.range n).map fun (u : Nat) => (len ls (u : Int) - g0 td (u : Int)).toNat).sum
theorem sum_le {f g : Nat → Nat} : ∀ {l : List Nat}, (∀ u ∈ l, f u ≤ g u) → (l.map f).sum ≤ (l.map g).sum
  | [], _ => Nat.le_refl _
  | a :: l, h => by
    have := sum_le (l := l) fun u hu => h u (List.mem_cons_of_mem _ hu)
    have := h a List.mem_cons_self
    simp only [List.map_cons, List.sum_cons]
    omega
theorem sum_lt {f g : Nat → Nat} {v : Nat} : ∀ {l : List Nat}, (∀ u ∈ l, f u ≤ g u) → v ∈ l → f v < g v → (l.map f).sum < (l.map g).sum
  | [], _, hv, _ => by simp at hv
  | a :: l, h, hv, hlt => by
    have ha := h a List.mem_cons_self
    have hl := sum_le (l := l) fun u hu => h u (List.mem_cons_of_mem _ hu)
    simp only [List.map_cons, List.sum_cons]
    rcases List.mem_cons.mp hv with rfl | hv
    · omega
    · have := sum_lt (l := l) (fun u hu => h u (List.mem_cons_of_mem _ hu)) hv hlt
      omega
theorem rest_le {n : Nat} {ls : List (List Int)} {td td' : List Int} (h : ∀ u : Int, 0 ≤ u → u < n → g0 td u ≤ g0 td' u) : rest n ls td' ≤ rest n ls td := sum_le fun u hu => by
  have := h u (by omega) (by have := List.mem_range.mp hu; omega)
  omega
theorem rest_lt {n : Nat} {ls : List (List Int)} {td td' : List Int} {v : Int} (h : ∀ u : Int, 0 ≤ u → u < n → g0 td u ≤ g0 td' u) (v0 : 0 ≤ v) (v1 : v < n) (hl : g0 td v < len ls v) (hv : g0 td v < g0 td' v) : rest n ls td' < rest n ls td := by
  refine sum_lt (v := v.toNat) (fun u hu => ?_) (List.mem_range.mpr (by omega)) ?_
  · have := h u (by omega) (by have := List.mem_range.mp hu; omega)
    omega
  · rw [show ((v.toNat : Nat) : Int) = v from by omega]
    omega
/-- a path, or that there is none -/
structure PathR (n : Nat) (hs rs lv : List Int) (ls : List (List Int)) (s t : Int) (td' r : List Int) : Prop where
  tl : td'.length = n
  dead : Dead n hs rs lv ls t td'
  alt : (r = [] ∧ len ls s ≤ g0 td' s) ∨ (r ≠ [] ∧ PathTo n hs rs lv ls td' s r t)
abbrev ctPath (K : PySem.W.Frag) (C : Addr) : Y.CT (List Int) := ⟨false, .ow (oL K tInt), fun as P _ => ∃ (n : Nat) (hs rs lv td : List Int) (ls : List (List Int)) (s t : Int), as = [.sh (tFlow K C hs rs ls) (), .sh (tLs K tInt) lv, .ow (oL K tInt) td, .sh tInt s, .sh tInt t] ∧
  (Net n hs rs ls ∧ Prs n hs ls ∧ lv.length = n ∧ td.length = n ∧ (0 ≤ s ∧ s < n) ∧ (0 ≤ t ∧ t < n) ∧ s ≠ t ∧ g0 lv s = 0 ∧ (∀ u : Int, 0 ≤ u → u < n → g0 lv u ≤ n) ∧ Dead n hs rs lv ls t td) ∧ ∀ td' r, PathR n hs rs lv ls s t td' r → P [.un, .un, .ow (oL K tInt) td', .un, .un] r⟩

section
variable {n : Nat} {hs rs lv td : List Int} {ls : List (List Int)} {t : Int}
theorem dead_step (N : Net n hs rs ls) (d : Dead n hs rs lv ls t td) (htd : td.length = n) {v j : Int} (v0 : 0 ≤ v) (v1 : v < n) (hj : g0 td v ≤ j)
    (h : ∀ k, g0 td v ≤ k → k < j → k < len ls v ∧ (Cl hs rs lv v (arc ls v k) → g0 hs (arc ls v k) ≠ t ∧ len ls (g0 hs (arc ls v k)) ≤ g0 td (g0 hs (arc ls v k)))) :
    Dead n hs rs lv ls t (td.set v.toNat j) ∧ ∀ u : Int, 0 ≤ u → u < n → g0 td u ≤ g0 (td.set v.toNat j) u := by
  have same : g0 (td.set v.toNat j) v = j := g0_set_same v0 (by rw [htd]; exact v1)
  have mono : ∀ u : Int, 0 ≤ u → u < n → g0 td u ≤ g0 (td.set v.toNat j) u := fun u u0 u1 => by
    by_cases e : u = v
    · subst e; rw [same]; exact hj
    · rw [g0_set_ne v0 u0 e]; exact Int.le_refl _
  refine ⟨⟨fun u u0 u1 => Int.le_trans (d.ge u u0 u1) (mono u u0 u1), fun u u0 u1 k k0 k1 => ?_⟩, mono⟩
  have key : k < len ls u ∧ (Cl hs rs lv u (arc ls u k) → g0 hs (arc ls u k) ≠ t ∧ len ls (g0 hs (arc ls u k)) ≤ g0 td (g0 hs (arc ls u k))) := by
    by_cases e : u = v
    · subst e
      rw [same] at k1
      by_cases hk : k < g0 td u
      · exact d.no u u0 u1 k k0 hk
      · exact h k (by omega) k1
    · rw [g0_set_ne v0 u0 e] at k1
      exact d.no u u0 u1 k k0 k1
  refine ⟨key.1, fun c => ?_⟩
  obtain ⟨a, b⟩ := key.2 c
  have am := N.ab u u0 u1 _ (g0_mem k0 key.1)
  have hm := N.hb _ am.1 am.2
  exact ⟨a, Int.le_trans b (mono _ hm.1 hm.2)⟩
end
section
variable {P : Program} {w : World} {K : PySem.W.Frag} {mg : Str → Option Value} {base : Heap} {C : Addr}
abbrev NYFlowpath : List Str := ["self", "levels", "tried", "source", "sink", "path", "node", "arc"]
theorem scYFlowpath : FnScope NYFlowpath ["self", "levels", "tried", "source", "sink"] (defScope s_Flow_path) := ⟨rfl, rfl, rfl, by decide +kernel, rfl, by decide +kernel, by decide +kernel⟩
theorem y_path (T : Blt mg) (CC : FlowC K C) (F : HasM K C "_path" "Flow._path" s_Flow_path) (YCLIMB : C8.Met P w K mg base 1 C "_climb" (Y.spZ (ctClimb K C)) []) : C8.Met P w K mg base 2 C "_path" (Y.spZ (ctPath K C)) [] := by
  refine metF CC.cl F (fun f fd F => F.binds (ps := ["self", "levels", "tried", "source", "sink"]) fun _ _ _ _ _ _ us hl => match us, hl with | [_, _, _, _, _], _ => rfl) scYFlowpath (fun vs H Q E h => zlen (fun as P XP hc => by obtain ⟨_, _, _, _, _, _, _, _, rfl, _⟩ := hc; rfl) h) (fun f cdv A outer s H vs Q E hr h => ?_)
  have hu := hu_of hr
  refine ⟨_, (pss_cons (ps_set (i := 5) scYFlowpath.nd rfl (Or.inl rfl) (pe_lst pa_nil))
      (pss_cons (ps_set (i := 6) scYFlowpath.nd rfl (Or.inl rfl) (pv 3))
      (pss_cons (ps_while PassesOwn.never (pt_cmpR op_ne (pv 6) (pv 4) (nomark _))
        (pss_cons (ps_set (i := 7) scYFlowpath.nd rfl (Or.inl rfl) (C8.pe_mt YCLIMB hr (by decide) (pv 0) (pa_cons (pv 1) (pa_cons (pv 2) (pa_cons (pv 6) pa_nil)))))
      (pss_one (ps_if (pt_cmpR op_notN (pv 7) pe_non (nomark _)) (pss_cons (ps_expr (pe_bm PySem.F.plainAttrs_list PySem.F.slot_list_append PySem.F.type_list_append mt_append (pv 5) (pa_cons (pv 7) pa_nil)))
      (pss_one (ps_set (i := 6) scYFlowpath.nd rfl (Or.inl rfl) (pe_ix ix_list (pe_fld (pv 0) rfl) (pv 7) (fun _ _ => rfl))))) (pss_one (ps_if (pt_truth (pv 5) (by intro _; rfl)) (pss_cons (ps_set (i := 6) scYFlowpath.nd rfl (Or.inl rfl) (pe_ix ix_list (pe_fld (pv 0) rfl) (pe_op op_xor (pe_bm0 PySem.F.plainAttrs_list PySem.F.slot_list_pop PySem.F.type_list_pop mt_pop (pv 5)) pe_int) (fun _ _ => rfl)))
      (pss_one (ps_augS (pv 2) (pv 6) get_list pe_int ip_add set_list))) (pss_one (ps_ret (pe_lst pa_nil)))))))))
      (pss_one (ps_ret (pv 5)))))), zrun h ?_⟩
  rintro as P XP ⟨n, hs, rs, lv, td, ls, s0, t0, rfl, ⟨N, PR, hlv, htd, ⟨sa, sb⟩, ⟨ta, tb⟩, st, ls0, lvn, dd⟩, hp⟩ hl
  obtain ⟨p0, p1, p2, p3, p4, rfl⟩ := len5 hl
  refine ⟨3, rfl, by decide, ?_⟩
  refine blk_seq (blk_setO (ev_list (K := K) (t := tInt) (es_nil ⟨by decide, rfl, ?_⟩)))
  refine blk_seq (blk_set (ev_var rfl ⟨rfl, ?_⟩))
  refine blk_seq (blk_while (fun m G' => ∃ td' q u, td'.length = n ∧ Dead n hs rs lv ls t0 td' ∧ PathTo n hs rs lv ls td' s0 q u ∧ m = rest n ls td' * (n + 2) + (n + 1 - q.length) ∧
      G' = ⟨false, [.sh (tFlow K C hs rs ls) (), .sh (tLs K tInt) lv, .ow (oL K tInt) td', .sh tInt s0, .sh tInt t0, .ow (oL K tInt) q, .sh tInt u, .un], [some p0, some p1, some p2, some p3, some p4]⟩) _ ⟨td, [], s0, htd, dd, .nil, rfl, rfl⟩ ?_)
  rintro m _ ⟨td1, q, u, hl1, dd1, pq, rfl, rfl⟩
  have ui := pq.in N sa sb
  have lu := pq.lev ls0
  have ql := lvn u ui.1 ui.2
  have Nsm := N.sm
  refine et_b (ev_op ro_neI (ev_var rfl (ev_var rfl ⟨fun hb => ?_, fun hb => ?_⟩)))
  · have ut : u ≠ t0 := by simpa using hb
    refine blk_wipe [7] ?_
    refine blk_seq (blk_set (ev_methS0 (inst_t (fl := flF K hs rs ls) (show ¬ ("_climb" : Str) ∈ [("_heads" : Str), "_rooms", "_leaving"] by decide)) (ev_var rfl (ea_cons (ev_var rfl (ea_own (pl_var rfl) (ea_cons (ev_var rfl (ea_nil ?_)))))))))
    refine ⟨fun h => (nomatch h), Nat.le_of_ble_eq_true rfl, allc trivial (allc trivial (allc trivial (all1 trivial))), (show [2].Nodup by decide), allc (fun i h => (nomatch h)) (allc (fun i h => (nomatch h)) (allc (fun i h => (nomatch h)) (all1 fun i h => (nomatch h)))),
      (fun os r => ∃ td2 j, os = [.un, .un, .ow (oL K tInt) td2, .un] ∧ ClimbR hs rs lv td1 ls u td2 r j), .inl (allc rfl (allc rfl (allc rfl (all1 rfl)))),
      ⟨n, hs, rs, lv, td1, ls, u, rfl, ⟨N, hlv, hl1, ui.1, ui.2, dd1.ge u ui.1 ui.2⟩, fun td2 r j hc => ⟨td2, j, rfl, hc⟩⟩, ?_⟩
    rintro os r ⟨td2, j, rfl, hc⟩ _
    refine ⟨rfl, ?_⟩
    obtain ⟨dd2, mono⟩ := dead_step N dd1 hl1 ui.1 ui.2 hc.ge fun k h1 h2 => ⟨(hc.no k h1 h2).1, fun c => absurd c (hc.no k h1 h2).2⟩
    rw [← hc.tq] at dd2 mono
    have hl2 : td2.length = n := by rw [hc.tq, List.length_set]; exact hl1
    have same : g0 td2 u = j := by rw [hc.tq]; exact g0_set_same ui.1 (by rw [hl1]; exact ui.2)
    have pq2 : PathTo n hs rs lv ls td2 s0 q u := pq.keep fun v v0 v1 hv => by
      rw [hc.tq]
      exact g0_set_ne ui.1 v0 fun e => by rw [e] at hv; omega
    have rl := rest_le (ls := ls) mono
    refine blk_if (et_b (ev_op (ro_notO nnI) (ev_var rfl (ev_c (t := tNon) (x := ()) (fun _ _ => rfl) ⟨fun hb2 => ?_, fun hb2 => ?_⟩))))
    · cases r with
      | none => cases hb2
      | some a =>
        obtain ⟨jl, ea, cl⟩ := hc.so a rfl
        have jge := hc.ge
        have tge := dd1.ge u ui.1 ui.2
        have am := N.ab u ui.1 ui.2 a (by rw [ea]; exact g0_mem (by omega) jl)
        have hm := N.hb _ am.1 am.2
        have pq3 : PathTo n hs rs lv ls td2 s0 (q ++ [a]) (g0 hs a) := by
          have e : a = arc ls u (g0 td2 u) := by rw [same]; exact ea
          have := PathTo.snoc pq2 ui.1 ui.2 (by rw [same]; omega) (by rw [same]; exact jl) (by rw [← e]; exact cl)
          rwa [← e] at this
        have lu3 := pq3.lev ls0
        have ql3 := lvn _ hm.1 hm.2
        rw [List.length_append] at lu3
        simp only [List.length_singleton] at lu3
        refine blk_re (i := 7) (u := tInt) (y := a) rfl (fun _ _ _ r => r) ?_
        refine blk_seq (blk_append (pt_var rfl (by decide)) (ev_var rfl ⟨s1000 (by omega), ?_⟩))
        refine blk_set (ev_op ro_ixL (ev_fld (fo_heads CC) (ev_var rfl (ev_var rfl ⟨_, at_g0 am.1 am.2, rfl, ?_⟩))))
        refine ⟨_, ?_, td2, q ++ [a], g0 hs a, hl2, dd2, pq3, rfl, rfl⟩
        rw [List.length_append]
        simp only [List.length_singleton]
        have := Nat.mul_le_mul_right (n + 2) rl
        omega
    · cases r with
      | some a => cases hb2
      | none =>
        have ex := hc.nn rfl
        refine blk_if (et_view (et_truth trL (ev_var rfl ⟨fun hb3 => ?_, fun hb3 => ?_⟩)))
        · have ne : q ≠ [] := fun e => by rw [e] at hb3; cases hb3
          obtain ⟨q', v, eq, pq', v0, v1, tv0, tv1, cv, ev⟩ := pq2.last ne
          have am := N.ab v v0 v1 _ (g0_mem tv0 tv1)
          have xb := PR.xb _ am.1 am.2
          have tl := PR.tl v v0 v1 _ (g0_mem tv0 tv1)
          refine blk_seq (blk_set (ev_op ro_ixL (ev_fld (fo_heads CC) (ev_var rfl (ev_op ro_I0 (ev_pop (pt_var rfl (by decide)) ⟨arc ls v (g0 td2 v), by rw [eq]; simp, ev_c (t := tInt) (fun _ _ => rfl) ⟨_, at_g0 xb.1 xb.2, rfl, ?_⟩⟩))))))
          refine blk_laug (pt_var rfl (by decide)) (ev_var rfl ?_)
          have tl' : g0 hs (Builtin.bitXor (arc ls v (g0 td2 v)) 1) = v := tl
          rw [tl']
          have vl : v < (td2.length : Int) := by rw [hl2]; exact v1
          refine ⟨_, _, ixN_in v0 vl, get_g0 v0 vl, ev_c (t := tInt) (fun _ _ => rfl) ?_⟩
          obtain ⟨dd3, mono3⟩ := dead_step N dd2 hl2 v0 v1 (j := g0 td2 v + 1) (by omega) fun k h1 h2 => by
            have e : k = g0 td2 v := by omega
            subst e
            refine ⟨tv1, fun _ => ?_⟩
            rw [← ev]
            exact ⟨ut, by rw [same]; exact ex⟩
          have same3 : g0 (td2.set v.toNat (g0 td2 v + 1)) v = g0 td2 v + 1 := g0_set_same v0 vl
          have rl3 := rest_lt mono3 v0 v1 tv1 (by rw [same3]; omega)
          have lvv := pq'.lev ls0
          have lq : q.length = q'.length + 1 := by rw [eq, List.length_append]; rfl
          have pq3 : PathTo n hs rs lv ls (td2.set v.toNat (g0 td2 v + 1)) s0 q' v := pq'.keep fun z z0 z1 hz => g0_set_ne v0 z0 fun e => by rw [e] at hz; omega
          refine ⟨_, ?_, td2.set v.toNat (g0 td2 v + 1), q', v, by rw [List.length_set]; exact hl2, dd3, pq3, rfl, ?_⟩
          · have h1 : (rest n ls (td2.set v.toNat (g0 td2 v + 1)) + 1) * (n + 2) ≤ rest n ls td1 * (n + 2) := Nat.mul_le_mul_right _ (by omega)
            rw [Nat.add_mul] at h1
            omega
          · have ed : q.dropLast = q' := by rw [eq]; simp
            rw [ed]
            rfl
        · have qe : q = [] := by
            cases q with
            | nil => rfl
            | cons _ _ => cases hb3
          subst qe
          have us : u = s0 := pq2.nil_eq rfl
          refine blk_ret (ev_list (K := K) (t := tInt) (es_nil ⟨by decide, ?_⟩))
          exact ⟨rfl, _, [_, _, _, _, _], _, rfl, rfl, .un (.un (.same (.un (.un .nil)))), hp td2 [] ⟨hl2, dd2, .inl ⟨rfl, by rw [← us, same]; exact ex⟩⟩⟩
  · have ut : u = t0 := by simpa using hb
    subst ut
    refine blk_ret (ev_give (i := 5) rfl ?_)
    refine ⟨rfl, _, [_, _, _, _, _], _, rfl, rfl, .un (.un (.same (.un (.un .nil)))), hp td1 q ⟨hl1, dd1, .inr ⟨fun e => ?_, pq⟩⟩⟩
    exact st (pq.nil_eq e).symm
end
end KK
end

section
set_option maxRecDepth 100000
set_option maxHeartbeats 4000000
namespace KK
open PySem PySem.Spec PyProof.Rows L2 Y
/-- levels -/
structure Lev (n : Nat) (hs rs : List Int) (ls : List (List Int)) (ss lv : List Int) : Prop where
  ln : lv.length = n
  ge : ∀ u : Int, 0 ≤ u → u < n → -1 ≤ g0 lv u
  st : ∀ s ∈ ss, g0 lv s = 0
  z : ∀ u : Int, 0 ≤ u → u < n → g0 lv u = 0 → u ∈ ss
  cl : ∀ u : Int, 0 ≤ u → u < n → 0 ≤ g0 lv u → ∀ a ∈ gl ls u, 0 < g0 rs a → 0 ≤ g0 lv (g0 hs a)
  pr : ∀ v : Int, 0 ≤ v → v < n → 0 < g0 lv v → ∃ u : Int, 0 ≤ u ∧ u < n ∧ ∃ a ∈ gl ls u, 0 < g0 rs a ∧ g0 hs a = v ∧ g0 lv v = g0 lv u + 1
  le : ∀ u : Int, 0 ≤ u → u < n → g0 lv u ≤ n
abbrev ctLevels (K : PySem.W.Frag) (C : Addr) : Y.CT (List Int) := ⟨false, .ow (oL K tInt), fun as P _ => ∃ (n : Nat) (hs rs : List Int) (ls : List (List Int)) (st : List Int), as = [.sh (tFlow K C hs rs ls) (), .sh (tLs K tInt) st] ∧
  (Net n hs rs ls ∧ ∀ s ∈ st, 0 ≤ s ∧ s < n) ∧ ∀ lv, Lev n hs rs ls st lv → P [.un, .un] lv⟩
def unl (n : Nat) (lv : List Int) : Nat := ((List.range n).map fun (u : Nat) => if g0 lv (u : Int) < 0 then 1 else 0).sum
theorem unl_le (n : Nat) (lv : List Int) : unl n lv ≤ n := by
  unfold unl
  have h : ∀ l : List Nat, (l.map fun (u : Nat) => if g0 lv (u : Int) < 0 then 1 else 0).sum ≤ l.length := by
    intro l
    induction l with
    | nil => exact Nat.le_refl _
    | cons a l ih =>
      simp only [List.map_cons, List.sum_cons, List.length_cons]
      split <;> omega
  have := h (List.range n)
  rwa [List.length_range] at this
theorem unl_lt {n : Nat} {lv lv' : List Int} {v : Int} (v0 : 0 ≤ v) (v1 : v < n) (h : ∀ u : Int, 0 ≤ u → u < n → u ≠ v → g0 lv' u = g0 lv u) (hv : g0 lv v < 0) (hv' : 0 ≤ g0 lv' v) : unl n lv' < unl n lv := by
  refine sum_lt (v := v.toNat) (fun u hu => ?_) (List.mem_range.mpr (by omega)) ?_
  · have hu := List.mem_range.mp hu
    by_cases e : (u : Int) = v
    · rw [e, if_neg (by omega)]; omega
    · rw [h u (by omega) (by omega) e]; exact Nat.le_refl _
  · rw [show ((v.toNat : Nat) : Int) = v from by omega, if_neg (by omega), if_pos hv]
    omega
/-- between two levels -/
structure OutL (n : Nat) (hs rs : List Int) (ls : List (List Int)) (ss lv : List Int) (d : Int) (bo : List Int) : Prop where
  ln : lv.length = n
  ge : ∀ u : Int, 0 ≤ u → u < n → -1 ≤ g0 lv u
  d0 : 0 ≤ d
  sr : ∀ s ∈ ss, 0 ≤ s ∧ s < n
  st : ∀ s ∈ ss, g0 lv s = 0
  z : ∀ u : Int, 0 ≤ u → u < n → g0 lv u = 0 → u ∈ ss
  le : ∀ u : Int, 0 ≤ u → u < n → g0 lv u ≤ d
  bd : ∀ u : Int, 0 ≤ u → u < n → g0 lv u = d → u ∈ bo
  br : ∀ u ∈ bo, 0 ≤ u ∧ u < n ∧ g0 lv u = d
  cl : ∀ u : Int, 0 ≤ u → u < n → 0 ≤ g0 lv u → g0 lv u < d → ∀ a ∈ gl ls u, 0 < g0 rs a → 0 ≤ g0 lv (g0 hs a)
  pr : ∀ v : Int, 0 ≤ v → v < n → 0 < g0 lv v → ∃ u : Int, 0 ≤ u ∧ u < n ∧ ∃ a ∈ gl ls u, 0 < g0 rs a ∧ g0 hs a = v ∧ g0 lv v = g0 lv u + 1
  nn : bo ≠ [] → d + unl n lv ≤ n
  lm : ∀ u : Int, 0 ≤ u → u < n → g0 lv u ≤ n
/-- within a level: lv0 is what it was at its start -/
structure Bfs (n : Nat) (hs rs : List Int) (ls : List (List Int)) (d : Int) (bo lv0 lv fd : List Int) (done : Int → Int → Prop) : Prop where
  ln : lv.length = n
  old : ∀ v : Int, 0 ≤ v → v < n → 0 ≤ g0 lv0 v → g0 lv v = g0 lv0 v
  new : ∀ v : Int, 0 ≤ v → v < n → g0 lv0 v < 0 → (g0 lv v = -1 ∧ v ∉ fd) ∨ (g0 lv v = d + 1 ∧ v ∈ fd)
  fr : ∀ v ∈ fd, 0 ≤ v ∧ v < n ∧ g0 lv v = d + 1 ∧ g0 lv0 v < 0 ∧ ∃ u ∈ bo, ∃ a ∈ gl ls u, 0 < g0 rs a ∧ g0 hs a = v
  dn : ∀ u a, done u a → 0 < g0 rs a → 0 ≤ g0 lv (g0 hs a)
  un : unl n lv + fd.length ≤ unl n lv0
section
variable {n : Nat} {hs rs st lv lv0 fd bd : List Int} {ls : List (List Int)} {d : Int} {done done' : Int → Int → Prop}
theorem Bfs.start (o : OutL n hs rs ls st lv d bd) : Bfs n hs rs ls d bd lv lv [] (fun _ _ => False) := by
  refine ⟨o.ln, fun v _ _ _ => rfl, fun v v0 v1 h => .inl ⟨?_, by simp⟩, fun v hv => by simp at hv, fun u a h => h.elim, by simp⟩
  have := o.ge v v0 v1
  omega
theorem Bfs.less (b : Bfs n hs rs ls d bd lv0 lv fd done) (h : ∀ u a, done' u a → done u a ∨ (0 < g0 rs a → 0 ≤ g0 lv (g0 hs a))) : Bfs n hs rs ls d bd lv0 lv fd done' := ⟨b.ln, b.old, b.new, b.fr, fun u a x r => (h u a x).elim (fun y => b.dn u a y r) (fun y => y r), b.un⟩
theorem Bfs.put (N : Net n hs rs ls) (o : OutL n hs rs ls st lv0 d bd) (b : Bfs n hs rs ls d bd lv0 lv fd done) {u a : Int} (hu : u ∈ bd) (ha : a ∈ gl ls u) (hr : 0 < g0 rs a) (hl : g0 lv (g0 hs a) < 0) (h : ∀ u' a', done' u' a' → done u' a' ∨ a' = a) :
    Bfs n hs rs ls d bd lv0 (lv.set (g0 hs a).toNat (d + 1)) (fd ++ [g0 hs a]) done' := by
  obtain ⟨u0, u1, ud⟩ := o.br u hu
  have am := N.ab u u0 u1 a ha
  obtain ⟨w0, w1⟩ := N.hb a am.1 am.2
  have d0 := o.d0
  have same : g0 (lv.set (g0 hs a).toNat (d + 1)) (g0 hs a) = d + 1 := g0_set_same w0 (by rw [b.ln]; exact w1)
  have ne : ∀ v : Int, 0 ≤ v → v ≠ g0 hs a → g0 (lv.set (g0 hs a).toNat (d + 1)) v = g0 lv v := fun v v0 e => g0_set_ne w0 v0 e
  have lw : g0 lv0 (g0 hs a) < 0 := by
    by_cases z : 0 ≤ g0 lv0 (g0 hs a)
    · rw [b.old _ w0 w1 z] at hl; omega
    · omega
  refine ⟨by rw [List.length_set]; exact b.ln, fun v v0 v1 hv => ?_, fun v v0 v1 hv => ?_, fun v hv => ?_, fun u' a' hd' r' => ?_, ?_⟩
  · rw [ne v v0 fun e => by rw [e] at hv; omega]
    exact b.old v v0 v1 hv
  · by_cases e : v = g0 hs a
    · subst e; exact .inr ⟨same, by simp⟩
    · rw [ne v v0 e]
      rcases b.new v v0 v1 hv with ⟨x, y⟩ | ⟨x, y⟩
      · exact .inl ⟨x, fun z => by rcases List.mem_append.mp z with z | z; exact y z; exact e (List.mem_singleton.mp z)⟩
      · exact .inr ⟨x, List.mem_append_left _ y⟩
  · rcases List.mem_append.mp hv with hv | hv
    · obtain ⟨v0, v1, vd, vl, r⟩ := b.fr v hv
      refine ⟨v0, v1, ?_, vl, r⟩
      by_cases e : v = g0 hs a
      · rw [e]; exact same
      · rw [ne v v0 e]; exact vd
    · have e := List.mem_singleton.mp hv
      subst e
      exact ⟨w0, w1, same, lw, u, hu, a, ha, hr, rfl⟩
  · rcases h u' a' hd' with z | z
    · by_cases e : g0 hs a' = g0 hs a
      · rw [e, same]; omega
      · have := b.dn u' a' z r'
        by_cases w : 0 ≤ g0 hs a'
        · rw [ne _ w e]; exact this
        · unfold g0 at this ⊢
          rw [List.getD_eq_getElem?_getD, List.getElem?_set]
          rw [List.getD_eq_getElem?_getD] at this
          split
          · split
            · show 0 ≤ d + 1; omega
            · show (0 : Int) ≤ 0; omega
          · exact this
    · subst z
      rw [same]; omega
  · have := unl_lt (lv := lv) (lv' := lv.set (g0 hs a).toNat (d + 1)) w0 w1 (fun z z0 z1 e => ne z z0 e) hl (by rw [same]; omega)
    have := b.un
    rw [List.length_append]
    simp only [List.length_singleton]
    omega
/-- the next level -/
theorem Bfs.next (N : Net n hs rs ls) (o : OutL n hs rs ls st lv0 d bd) (b : Bfs n hs rs ls d bd lv0 lv fd (fun u a => u ∈ bd ∧ a ∈ gl ls u)) (hb : bd ≠ []) : OutL n hs rs ls st lv (d + 1) fd := by
  have d0 := o.d0
  have nn := o.nn hb
  have un := b.un
  have ul := unl_le n lv0
  have cas : ∀ v : Int, 0 ≤ v → v < n → (0 ≤ g0 lv0 v ∧ g0 lv v = g0 lv0 v) ∨ (g0 lv0 v < 0 ∧ g0 lv v = -1 ∧ v ∉ fd) ∨ (g0 lv0 v < 0 ∧ g0 lv v = d + 1 ∧ v ∈ fd) := fun v v0 v1 => by
    by_cases z : 0 ≤ g0 lv0 v
    · exact .inl ⟨z, b.old v v0 v1 z⟩
    · rcases b.new v v0 v1 (by omega) with ⟨x, y⟩ | ⟨x, y⟩
      · exact .inr (.inl ⟨by omega, x, y⟩)
      · exact .inr (.inr ⟨by omega, x, y⟩)
  have fl : fd.length ≤ 1000 := by have := N.sm; omega
  refine ⟨b.ln, fun v v0 v1 => ?_, by omega, o.sr, fun s hs => ?_, fun v v0 v1 hv => ?_, fun v v0 v1 => ?_, fun v v0 v1 hv => ?_, fun v hv => ?_, fun v v0 v1 h1 h2 a ha hr => ?_, fun v v0 v1 hv => ?_, fun _ => ?_, fun v v0 v1 => ?_⟩
  · rcases cas v v0 v1 with ⟨x, y⟩ | ⟨x, y, _⟩ | ⟨x, y, _⟩ <;> omega
  · have e := o.st s hs
    obtain ⟨s0, s1⟩ := o.sr s hs
    rcases cas s s0 s1 with ⟨x, y⟩ | ⟨x, y, _⟩ | ⟨x, y, _⟩ <;> omega
  · rcases cas v v0 v1 with ⟨x, y⟩ | ⟨x, y, _⟩ | ⟨x, y, _⟩
    · exact o.z v v0 v1 (by omega)
    · omega
    · omega
  · have := o.le v v0 v1
    rcases cas v v0 v1 with ⟨x, y⟩ | ⟨x, y, _⟩ | ⟨x, y, _⟩ <;> omega
  · have := o.le v v0 v1
    rcases cas v v0 v1 with ⟨x, y⟩ | ⟨x, y, _⟩ | ⟨x, y, z⟩
    · omega
    · omega
    · exact z
  · obtain ⟨v0, v1, vd, _⟩ := b.fr v hv
    exact ⟨v0, v1, vd⟩
  · have le := o.le v v0 v1
    have hd0 : 0 ≤ g0 lv0 v ∧ g0 lv v = g0 lv0 v := by
      rcases cas v v0 v1 with x | ⟨x, y, _⟩ | ⟨x, y, _⟩
      · exact x
      · omega
      · omega
    by_cases e : g0 lv0 v = d
    · exact b.dn v a ⟨o.bd v v0 v1 e, ha⟩ hr
    · have am := N.ab v v0 v1 a ha
      obtain ⟨w0, w1⟩ := N.hb a am.1 am.2
      have := o.cl v v0 v1 hd0.1 (by omega) a ha hr
      rw [b.old _ w0 w1 this]
      exact this
  · rcases cas v v0 v1 with ⟨x, y⟩ | ⟨x, y, _⟩ | ⟨x, y, z⟩
    · obtain ⟨u, u0, u1, a, ha, hr, e1, e2⟩ := o.pr v v0 v1 (by omega)
      have ge := o.ge u u0 u1
      have : g0 lv u = g0 lv0 u := by
        rcases cas u u0 u1 with ⟨x', y'⟩ | ⟨x', y', _⟩ | ⟨x', y', _⟩
        · exact y'
        · omega
        · omega
      exact ⟨u, u0, u1, a, ha, hr, e1, by omega⟩
    · omega
    · obtain ⟨_, _, vd, _, u, hu, a, ha, hr, e1⟩ := b.fr v z
      obtain ⟨u0, u1, ud⟩ := o.br u hu
      have : g0 lv u = g0 lv0 u := b.old u u0 u1 (by omega)
      exact ⟨u, u0, u1, a, ha, hr, e1, by omega⟩
  · rename_i hf
    have : 0 < fd.length := List.length_pos_iff.mpr hf
    omega
  · have := o.lm v v0 v1
    rcases cas v v0 v1 with ⟨x, y⟩ | ⟨x, y, _⟩ | ⟨x, y, z⟩
    · omega
    · omega
    · have : 0 < fd.length := List.length_pos_of_mem z
      omega
theorem OutL.fin (o : OutL n hs rs ls st lv d []) : Lev n hs rs ls st lv := by
  refine ⟨o.ln, o.ge, o.st, o.z, fun u u0 u1 hu a ha hr => o.cl u u0 u1 hu ?_ a ha hr, o.pr, o.lm⟩
  have := o.le u u0 u1
  by_cases e : g0 lv u = d
  · have := o.bd u u0 u1 e
    simp at this
  · omega
end

theorem ev_neg {X : Xw} {k : Bool} {G : Ct} {te : TE} {P : Ct → Int → Prop} (h : Ev X k te G tInt fun G x => P G (-x)) : Ev X k (tUn (rU fun i => .int (-i)) te) G tInt P := fun W H σ Q hs ex q => h W H σ _ hs ex fun v W' H' G' x p m r => ⟨x, r, q _ W' H' G' _ p m rfl⟩
theorem rep1 (n : Nat) (x : Int) : (List.replicate n [x]).flatten = List.replicate n x := by
  induction n with
  | zero => rfl
  | succ n ih => rw [List.replicate_succ, List.flatten_cons, ih, List.replicate_succ]; rfl
theorem g0_rep {n : Nat} {x u : Int} (u0 : 0 ≤ u) (u1 : u < n) : g0 (List.replicate n x) u = x := by
  unfold g0
  rw [List.getD_eq_getElem?_getD, List.getElem?_replicate, if_pos (by omega)]
  rfl
section
variable {P : Program} {w : World} {K : PySem.W.Frag} {mg : Str → Option Value} {base : Heap} {C : Addr}
abbrev NYFlowlevels : List Str := ["self", "starts", "levels", "node", "border", "found", "arc", "head"]
theorem scYFlowlevels : FnScope NYFlowlevels ["self", "starts"] (defScope s_Flow_levels) := ⟨rfl, rfl, rfl, by decide +kernel, rfl, by decide +kernel, by decide +kernel⟩
theorem y_levels (T : Blt mg) (CC : FlowC K C) (F : HasM K C "_levels" "Flow._levels" s_Flow_levels) : C8.Met P w K mg base 1 C "_levels" (Y.spZ (ctLevels K C)) [] := by
  refine metF CC.cl F (fun f fd F => F.binds (ps := ["self", "starts"]) fun _ _ _ _ _ _ us hl => match us, hl with | [_, _], _ => rfl) scYFlowlevels (fun vs H Q E h => zlen (fun as P XP hc => by obtain ⟨_, _, _, _, _, rfl, _⟩ := hc; rfl) h) (fun f cdv A outer s H vs Q E hr h => ?_)
  have hu := hu_of hr
  refine ⟨_, (pss_cons (ps_set (i := 2) scYFlowlevels.nd rfl (Or.inl rfl) (pe_op op_rep (pe_lst (pa_cons (pe_un un_neg pe_int) pa_nil)) (pe_callB call_len (by rfl) T.b_len PySem.boot_len (pa_cons (pe_fld (pv 0) rfl) pa_nil))))
      (pss_cons (ps_for PassesOwn.never rfl (pi_list (pv 1)) (pg_name (i := 3) scYFlowlevels.nd rfl (Or.inl rfl))
        (pss_one (ps_asg pe_int (pg_sub (pv 2) (pv 3) set_list))))
      (pss_cons (ps_set (i := 4) scYFlowlevels.nd rfl (Or.inl rfl) (pv 1))
      (pss_cons (ps_while PassesOwn.never (pt_truth (pv 4) (by intro _; rfl))
        (pss_cons (ps_set (i := 5) scYFlowlevels.nd rfl (Or.inl rfl) (pe_lst pa_nil))
      (pss_cons (ps_for PassesOwn.never rfl (pi_list (pv 4)) (pg_name (i := 3) scYFlowlevels.nd rfl (Or.inl rfl))
        (pss_one (ps_for PassesOwn.never rfl (pi_list (pe_ix ix_list (pe_fld (pv 0) rfl) (pv 3) (fun _ _ => rfl))) (pg_name (i := 6) scYFlowlevels.nd rfl (Or.inl rfl))
        (pss_cons (ps_set (i := 7) scYFlowlevels.nd rfl (Or.inl rfl) (pe_ix ix_list (pe_fld (pv 0) rfl) (pv 6) (fun _ _ => rfl)))
      (pss_one (ps_if (PW.pt (pw_and (pt_cmpR op_gt (pe_ix ix_list (pe_fld (pv 0) rfl) (pv 6) (fun _ _ => rfl)) pe_int (nomark _)) (pw_and1 (pt_cmpR op_lt (pe_ix ix_list (pv 2) (pv 7) (fun _ _ => rfl)) pe_int (nomark _))))) (pss_cons (ps_asg (pe_op op_add (pe_ix ix_list (pv 2) (pv 3) (fun _ _ => rfl)) pe_int) (pg_sub (pv 2) (pv 7) set_list))
      (pss_one (ps_expr (pe_bm PySem.F.plainAttrs_list PySem.F.slot_list_append PySem.F.type_list_append mt_append (pv 5) (pa_cons (pv 7) pa_nil))))) pss_nil))))))
      (pss_one (ps_set (i := 4) scYFlowlevels.nd rfl (Or.inl rfl) (pv 5))))))
      (pss_one (ps_ret (pv 2))))))), zrun h ?_⟩
  rintro as P XP ⟨n, hs, rs, ls, ss, rfl, ⟨N, hss⟩, hp⟩ hl
  obtain ⟨p0, p1, rfl⟩ := len2 hl
  refine ⟨6, rfl, by decide, ?_⟩
  have Nsm := N.sm
  have Nln := N.ln
  refine blk_seq (blk_setO (ev_op ro_rep (EvR.share (O := oL K tInt) (ev_list (K := K) (t := tInt) (es_cons (ev_neg (ev_c (t := tInt) (fun _ _ => rfl) (es_nil ⟨Nat.le_of_ble_eq_true rfl, ev_cb rc_lenL (ev_fld (fo_leaving CC) (ev_var rfl ⟨fun h => (nomatch h), ⟨?_, ?_, ?_⟩, rfl, ?_⟩))⟩))))))))
  · omega
  · omega
  · exact s1000 (by simp; omega)
  show Blk _ _ (Ct.set _ _ (.ow (oL K tInt) ((List.replicate ls.length [-1]).flatten))) _ _ _
  rw [rep1, Nln]
  have lv0 : ∀ u : Int, 0 ≤ u → u < n → g0 (List.replicate n (-1)) u = -1 := fun u u0 u1 => g0_rep u0 u1
  refine blk_seq (blk_for (vs := [3]) (ei_list (ev_var rfl ⟨(fun i G' => ∃ lv : List Int, lv.length = n ∧ (∀ v : Int, 0 ≤ v → v < n → (v ∈ ss.take i ∧ g0 lv v = 0) ∨ (v ∉ ss.take i ∧ g0 lv v = -1)) ∧
      G' = ⟨false, [.sh (tFlow K C hs rs ls) (), .sh (tLs K tInt) ss, .ow (oL K tInt) lv, .un, .un, .un, .un, .un], [some p0, some p1]⟩), ⟨_, List.length_replicate, fun v v0 v1 => .inr ⟨by simp, lv0 v v0 v1⟩, rfl⟩, ?_, ?_⟩)))
  · rintro i x _ hx ⟨lv, hl, hlv, rfl⟩
    obtain ⟨x0, x1⟩ := hss x (List.mem_of_getElem? hx)
    have xl : x < (lv.length : Int) := by rw [hl]; exact x1
    refine tg_name (by decide) (free_of rfl) (blk_wipe [3] (blk_lput (pt_var rfl (by decide)) (ev_c (t := tInt) (fun _ _ => rfl) (ev_var rfl ⟨_, ixN_in x0 xl, _, by rw [List.length_set]; exact hl, fun v v0 v1 => ?_, rfl⟩))))
    rw [List.take_succ, hx]
    by_cases e : v = x
    · subst e
      exact .inl ⟨by simp, g0_set_same x0 xl⟩
    · rw [g0_set_ne x0 v0 e]
      have : (v ∈ ss.take i ++ (some x).toList ↔ v ∈ ss.take i) := by simp [e]
      rw [this]
      exact hlv v v0 v1
  rintro _ ⟨lv, hl, hlv, rfl⟩
  rw [List.take_of_length_le (Nat.le_refl _)] at hlv
  refine blk_seq (blk_set (ev_var rfl ⟨rfl, ?_⟩))
  have z1 : ∀ v : Int, 0 ≤ v → v < n → g0 lv v = 0 → v ∈ ss := fun v v0 v1 h => by
    rcases hlv v v0 v1 with ⟨a, _⟩ | ⟨_, b⟩
    · exact a
    · omega
  have o0 : OutL n hs rs ls ss lv 0 ss := by
    have cas : ∀ v : Int, 0 ≤ v → v < n → g0 lv v = 0 ∨ g0 lv v = -1 := fun v v0 v1 => (hlv v v0 v1).imp (·.2) (·.2)
    refine ⟨hl, fun u u0 u1 => ?_, Int.le_refl _, hss, fun s hs => ?_, z1, fun u u0 u1 => ?_, z1, fun u hu => ?_, fun u u0 u1 h1 h2 => by omega, fun v v0 v1 h => ?_, fun _ => ?_, fun u u0 u1 => ?_⟩
    · rcases cas u u0 u1 with h | h <;> omega
    · obtain ⟨s0, s1⟩ := hss s hs
      rcases hlv s s0 s1 with ⟨_, h⟩ | ⟨h, _⟩
      · exact h
      · exact absurd hs h
    · rcases cas u u0 u1 with h | h <;> omega
    · obtain ⟨s0, s1⟩ := hss u hu
      refine ⟨s0, s1, ?_⟩
      rcases hlv u s0 s1 with ⟨_, h⟩ | ⟨h, _⟩
      · exact h
      · exact absurd hu h
    · rcases cas v v0 v1 with h | h <;> omega
    · have := unl_le n lv
      omega
    · rcases cas u u0 u1 with h | h <;> omega
  clear hlv z1 hl
  refine blk_seq (blk_while (fun m G' => ∃ d bo lv, OutL n hs rs ls ss lv d bo ∧ m = unl n lv * 2 + (if bo.isEmpty then 0 else 1) ∧
      G' = ⟨false, [.sh (tFlow K C hs rs ls) (), .sh (tLs K tInt) ss, .ow (oL K tInt) lv, .un, .sh (tLs K tInt) bo, .un, .un, .un], [some p0, some p1]⟩) _ ⟨0, ss, lv, o0, rfl, rfl⟩ ?_)
  clear o0 lv lv0
  rintro m _ ⟨d, bo, lv, o, rfl, rfl⟩
  refine et_truth trL (ev_var rfl ⟨fun hb => ?_, fun hb => ?_⟩)
  · have ne : bo ≠ [] := fun e => by rw [e] at hb; cases hb
    refine blk_wipe [3, 5, 6, 7] ?_
    refine blk_seq (blk_setO (ev_list (K := K) (t := tInt) (es_nil ⟨by decide, rfl, ?_⟩)))
    refine blk_seq (blk_for (vs := [3]) (ei_list (ev_var rfl ⟨(fun i G' => ∃ lv1 fd, Bfs n hs rs ls d bo lv lv1 fd (fun u a => u ∈ bo.take i ∧ a ∈ gl ls u) ∧
      G' = ⟨false, [.sh (tFlow K C hs rs ls) (), .sh (tLs K tInt) ss, .ow (oL K tInt) lv1, .un, .sh (tLs K tInt) bo, .ow (oL K tInt) fd, .un, .un], [some p0, some p1]⟩), ⟨lv, [], (Bfs.start o).less (fun u a h => by simp at h), rfl⟩, ?_, ?_⟩)))
    · rintro i x _ hx ⟨lv1, fd, b, rfl⟩
      have hxm := List.mem_of_getElem? hx
      obtain ⟨x0, x1, xd⟩ := o.br x hxm
      have d0 := o.d0
      refine tg_name (by decide) (free_of rfl) (blk_wipe [3, 6, 7] (blk_for (vs := [6]) (ei_list (ev_op ro_ixL (ev_fld (fo_leaving CC) (ev_var rfl (ev_var rfl ⟨_, at_gl x0 (by rw [Nln]; exact x1), ⟨(fun j G' => ∃ lv2 fd2, Bfs n hs rs ls d bo lv lv2 fd2 (fun u a => (u ∈ bo.take i ∧ a ∈ gl ls u) ∨ (u = x ∧ a ∈ (gl ls x).take j)) ∧
        G' = ⟨false, [.sh (tFlow K C hs rs ls) (), .sh (tLs K tInt) ss, .ow (oL K tInt) lv2, .sh tInt x, .sh (tLs K tInt) bo, .ow (oL K tInt) fd2, .un, .un], [some p0, some p1]⟩), ⟨lv1, fd, b.less (fun u a h => h.elim .inl fun z => by simp at z), rfl⟩, ?_, ?_⟩⟩)))))))
      · rintro j a _ ha ⟨lv2, fd2, b2, rfl⟩
        have ham := List.mem_of_getElem? ha
        have am := N.ab x x0 x1 a ham
        obtain ⟨w0, w1⟩ := N.hb a am.1 am.2
        have xl : x < (lv2.length : Int) := by rw [b2.ln]; exact x1
        have wl : g0 hs a < (lv2.length : Int) := by rw [b2.ln]; exact w1
        have take : ∀ u' a', ((u' ∈ bo.take i ∧ a' ∈ gl ls u') ∨ (u' = x ∧ a' ∈ (gl ls x).take (j + 1))) → ((u' ∈ bo.take i ∧ a' ∈ gl ls u') ∨ (u' = x ∧ a' ∈ (gl ls x).take j)) ∨ a' = a := fun u' a' h => by
          rcases h with h | ⟨e, h⟩
          · exact .inl (.inl h)
          · rw [List.take_succ, ha] at h
            rcases List.mem_append.mp h with h | h
            · exact .inl (.inr ⟨e, h⟩)
            · exact .inr (by simpa using h)
        refine tg_name (by decide) (free_of rfl) (blk_wipe [6, 7] ?_)
        refine blk_seq (blk_set (ev_op ro_ixL (ev_fld (fo_heads CC) (ev_var rfl (ev_var rfl ⟨_, at_g0 am.1 am.2, rfl, ?_⟩)))))
        refine blk_if (et_and (et_b (ev_op ro_B0 (ev_op ro_ixL (ev_fld (fo_rooms CC) (ev_var rfl (ev_var rfl ⟨_, at_g0 am.1 (by rw [N.lr]; exact am.2), ev_c (t := tInt) (fun _ _ => rfl) ⟨fun hb1 => ?_, fun hb1 => ?_⟩⟩)))))))
        · have r1 : 0 < g0 rs a := of_decide_eq_true hb1
          refine et_view (et_b (ev_op ro_B0 (ev_op ro_ixL (ev_var rfl (ev_var rfl ⟨_, at_g0 w0 wl, ev_c (t := tInt) (fun _ _ => rfl) ⟨fun hb2 => ?_, fun hb2 => ?_⟩⟩)))))
          · have l1 : g0 lv2 (g0 hs a) < 0 := of_decide_eq_true hb2
            have xv : g0 lv2 x = d := by rw [b2.old x x0 x1 (by omega)]; exact xd
            have un := b2.un
            have ul := unl_le n lv
            refine blk_seq (blk_lput (pt_var rfl (by decide)) (ev_view (r := .sh tInt) flI (ev_op ro_I0 (ev_op ro_ixL (ev_var rfl (ev_var rfl ⟨_, at_g0 x0 xl, ev_c (t := tInt) (fun _ _ => rfl) (ev_var rfl ⟨_, ixN_in w0 wl, ?_⟩)⟩))))))
            rw [xv]
            refine blk_append (pt_var rfl (by decide)) (ev_var rfl ⟨s1000 (by omega), ?_⟩)
            exact ⟨_, _, b2.put N o hxm ham r1 l1 take, rfl⟩
          · have l1 : ¬ g0 lv2 (g0 hs a) < 0 := of_decide_eq_false hb2
            refine blk_next ⟨lv2, fd2, b2.less fun u' a' h => (take u' a' h).imp id fun e _ => ?_, rfl⟩
            rw [e]; omega
        · have r1 : ¬ 0 < g0 rs a := of_decide_eq_false hb1
          refine ⟨fun z => (nomatch z), fun _ => blk_next ⟨lv2, fd2, b2.less fun u' a' h => (take u' a' h).imp id fun e r => ?_, rfl⟩⟩
          rw [e] at r; exact absurd r r1
      · rintro _ ⟨lv2, fd2, b2, rfl⟩
        refine ⟨lv2, fd2, b2.less fun u a h => .inl ?_, rfl⟩
        rw [List.take_succ, hx] at h
        rcases List.mem_append.mp h.1 with z | z
        · exact .inl ⟨z, h.2⟩
        · have e : u = x := by simpa using z
          subst e
          refine .inr ⟨rfl, ?_⟩
          rw [List.take_of_length_le (Nat.le_refl _)]
          exact h.2
    · rintro _ ⟨lv1, fd, b, rfl⟩
      rw [List.take_of_length_le (Nat.le_refl _)] at b
      have o2 := b.next N o ne
      refine blk_frz 5 rfl (blk_set (ev_var rfl ⟨rfl, _, ?_, d + 1, fd, lv1, o2, rfl, rfl⟩))
      have un := b.un
      have e1 : (if bo.isEmpty then 0 else 1) = 1 := by
        cases bo with
        | nil => exact absurd rfl ne
        | cons _ _ => rfl
      rw [e1]
      cases fd with
      | nil => simp at un ⊢; omega
      | cons _ _ => simp at un ⊢; omega
  · have e : bo = [] := by
      cases bo with
      | nil => rfl
      | cons _ _ => cases hb
    subst e
    refine blk_ret (ev_give (i := 2) rfl ?_)
    exact ⟨rfl, _, [_, _], _, rfl, rfl, .un (.un .nil), hp lv o.fin⟩
end
end KK
end

section
set_option maxRecDepth 100000
set_option maxHeartbeats 4000000
namespace KK
open PySem PySem.Spec PyProof.Rows L2 Y
abbrev xo (a : Int) : Int := Builtin.bitXor a 1
theorem xo_xo {a : Int} (h : 0 ≤ a) : xo (xo a) = a := by
  have h2 : xo a = ((a.toNat ^^^ 1 : Nat) : Int) := Bits.bitXor_pp h (by decide)
  have h3 : xo (xo a) = (((xo a).toNat ^^^ 1 : Nat) : Int) := Bits.bitXor_pp (by rw [h2]; omega) (by decide)
  rw [h3, h2, Int.toNat_natCast, Nat.xor_assoc, Nat.xor_self, Nat.xor_zero]
  omega
theorem xo_ne {a : Int} (h : 0 ≤ a) : xo a ≠ a := fun e => by
  have h2 : xo a = ((a.toNat ^^^ 1 : Nat) : Int) := Bits.bitXor_pp h (by decide)
  have h3 : a.toNat ^^^ 1 = a.toNat := by omega
  have h4 : a.toNat ^^^ (a.toNat ^^^ 1) = a.toNat ^^^ a.toNat := by rw [h3]
  rw [← Nat.xor_assoc, Nat.xor_self, Nat.zero_xor] at h4
  cases h4
/-- what leaves a node -/
def rsum (rs l : List Int) : Int := (l.map (g0 rs)).sum
def Rm (rs : List Int) (ls : List (List Int)) (v : Int) : Int := rsum rs (gl ls v)
def bump (rs : List Int) (a d : Int) : List Int := rs.set a.toNat (g0 rs a + d)
theorem bump_len {rs : List Int} {a d : Int} : (bump rs a d).length = rs.length := List.length_set
theorem bump_same {rs : List Int} {a d : Int} (h0 : 0 ≤ a) (h1 : a < rs.length) : g0 (bump rs a d) a = g0 rs a + d := g0_set_same h0 h1
theorem bump_ne {rs : List Int} {a b d : Int} (h0 : 0 ≤ a) (h1 : 0 ≤ b) (n : b ≠ a) : g0 (bump rs a d) b = g0 rs b := g0_set_ne h0 h1 n
theorem rsum_bump {rs : List Int} {a d : Int} (a0 : 0 ≤ a) (a1 : a < rs.length) : ∀ {l : List Int}, l.Nodup → (∀ b ∈ l, 0 ≤ b) → rsum (bump rs a d) l = rsum rs l + if a ∈ l then d else 0
  | [], _, _ => rfl
  | b :: l, nd, h => by
    have ih := rsum_bump a0 a1 (d := d) (l := l) (List.nodup_cons.mp nd).2 fun c hc => h c (List.mem_cons_of_mem _ hc)
    have nb := (List.nodup_cons.mp nd).1
    unfold rsum at ih ⊢
    simp only [List.map_cons, List.sum_cons, ih]
    by_cases e : a = b
    · subst e
      rw [bump_same a0 a1, if_neg nb, if_pos List.mem_cons_self]
      omega
    · rw [bump_ne a0 (h b List.mem_cons_self) fun z => e z.symm]
      have : (a ∈ b :: l) ↔ a ∈ l := by simp [e]
      simp only [this]
      omega
theorem rsum_nn {rs : List Int} : ∀ {l : List Int}, (∀ a ∈ l, 0 ≤ g0 rs a) → 0 ≤ rsum rs l
  | [], _ => Int.le_refl _
  | b :: l, h => by
    have := rsum_nn (l := l) fun c hc => h c (List.mem_cons_of_mem _ hc)
    have := h b List.mem_cons_self
    unfold rsum at *
    simp only [List.map_cons, List.sum_cons]
    omega
section
variable {n : Nat} {hs rs rs1 lv td r : List Int} {ls : List (List Int)} {s t : Int}
theorem Rm_bump (N : Net n hs rs ls) (PR : Prs n hs ls) {a d v : Int} (a0 : 0 ≤ a) (a1 : a < hs.length) (v0 : 0 ≤ v) (v1 : v < n) : Rm (bump rs a d) ls v = Rm rs ls v + if g0 hs (xo a) = v then d else 0 := by
  unfold Rm
  rw [rsum_bump a0 (by rw [N.lr]; exact a1) (PR.nd v v0 v1) fun b hb => (N.ab v v0 v1 b hb).1]
  congr 1
  by_cases e : g0 hs (xo a) = v
  · rw [if_pos e, if_pos (by rw [← e]; exact PR.mm a a0 a1)]
  · rw [if_neg e, if_neg fun h => e (PR.tl v v0 v1 a h)]
/-- the node behind the first i arcs -/
def nd (hs : List Int) (s : Int) (r : List Int) (i : Nat) : Int := match i with
  | 0 => s
  | i + 1 => g0 hs (g0 r (i : Int))
/-- the i-th arc of a path -/
structure ArcI (n : Nat) (hs rs lv : List Int) (s : Int) (r : List Int) (i : Nat) (x : Int) : Prop where
  x0 : 0 ≤ x
  x1 : x < hs.length
  tl : g0 hs (xo x) = nd hs s r i
  lt : g0 lv (g0 hs (xo x)) = i
  lh : g0 lv (g0 hs x) = i + 1
  rm : 0 < g0 rs x
theorem nd_app {p q : List Int} {i : Nat} (h : i ≤ p.length) : nd hs s (p ++ q) i = nd hs s p i := by
  cases i with
  | zero => rfl
  | succ i =>
    show g0 hs (g0 (p ++ q) (i : Int)) = g0 hs (g0 p (i : Int))
    congr 1
    unfold g0
    rw [Int.toNat_natCast, List.getD_eq_getElem?_getD, List.getD_eq_getElem?_getD, List.getElem?_append_left (by omega)]
theorem PathTo.arcs (N : Net n hs rs ls) (PR : Prs n hs ls) (h0 : g0 lv s = 0) {p : List Int} {u : Int} (h : PathTo n hs rs lv ls td s p u) : (∀ i x, p[i]? = some x → ArcI n hs rs lv s p i x) ∧ nd hs s p p.length = u := by
  induction h with
  | nil => exact ⟨fun i x h => by simp at h, rfl⟩
  | @snoc p u hp u0 u1 t0 t1 c ih =>
    have lu := hp.lev h0
    have ha := g0_mem t0 t1
    have am := N.ab u u0 u1 _ ha
    have tl := PR.tl u u0 u1 _ ha
    refine ⟨fun i x hx => ?_, ?_⟩
    · by_cases hi : i < p.length
      · rw [List.getElem?_append_left hi] at hx
        obtain ⟨a, b, cc, d, e, f⟩ := ih.1 i x hx
        exact ⟨a, b, by rw [nd_app (by omega)]; exact cc, d, e, f⟩
      · rw [List.getElem?_append_right (by omega)] at hx
        have : i - p.length = 0 := by
          cases e : i - p.length with
          | zero => rfl
          | succ k => rw [e] at hx; simp at hx
        rw [this] at hx
        cases hx
        obtain rfl : i = p.length := by omega
        refine ⟨am.1, am.2, ?_, ?_, ?_, c.1⟩
        · rw [nd_app (Nat.le_refl _), ih.2]; exact tl
        · show g0 lv (g0 hs (Builtin.bitXor _ 1)) = _
          rw [show g0 hs (Builtin.bitXor (arc ls u (g0 td u)) 1) = u from tl]; exact lu
        · rw [c.2, lu]
    · rw [List.length_append]
      show g0 hs (g0 (p ++ [arc ls u (g0 td u)]) (p.length : Int)) = _
      congr 1
      unfold g0
      rw [Int.toNat_natCast, List.getD_eq_getElem?_getD, List.getElem?_append_right (Nat.le_refl _), Nat.sub_self]
      rfl
/-- while a path is filled -/
structure AugI (n : Nat) (hs rs1 : List Int) (ls : List (List Int)) (s : Int) (r : List Int) (amt : Int) (i : Nat) (rs2 : List Int) : Prop where
  ln : rs2.length = rs1.length
  nn : ∀ a : Int, 0 ≤ a → a < hs.length → 0 ≤ g0 rs2 a
  ps : ∀ a : Int, 0 ≤ a → a < hs.length → g0 rs2 a + g0 rs2 (xo a) = g0 rs1 a + g0 rs1 (xo a)
  un : ∀ a : Int, 0 ≤ a → a < hs.length → a ∉ r.take i → xo a ∉ r.take i → g0 rs2 a = g0 rs1 a
  le : ∀ a : Int, 0 ≤ a → a < hs.length → (∀ x ∈ r.take i, a ≠ xo x) → g0 rs2 a ≤ g0 rs1 a
  rv : ∀ v : Int, 0 ≤ v → v < n → Rm rs2 ls v = Rm rs1 ls v - (if v = s then amt else 0) + (if v = nd hs s r i then amt else 0)
  lo : ∀ a : Int, 0 ≤ a → a < hs.length → g0 rs1 a - amt ≤ g0 rs2 a
theorem AugI.start (hn : ∀ a : Int, 0 ≤ a → a < hs.length → 0 ≤ g0 rs1 a) {amt : Int} (a0 : 0 ≤ amt) : AugI n hs rs1 ls s r amt 0 rs1 := by
  refine ⟨rfl, hn, fun _ _ _ => rfl, fun _ _ _ _ _ => rfl, fun _ _ _ _ => Int.le_refl _, fun v _ _ => ?_, fun a _ _ => by omega⟩
  show _ = _ - (if v = s then amt else 0) + (if v = s then amt else 0)
  omega
theorem AugI.step (N : Net n hs rs1 ls) (PR : Prs n hs ls) (arcs : ∀ i x, r[i]? = some x → ArcI n hs rs1 lv s r i x) {amt : Int} (a0 : 0 ≤ amt) (am : ∀ x ∈ r, amt ≤ g0 rs1 x) {i : Nat} {x : Int} (hx : r[i]? = some x) {rs2 : List Int} (A : AugI n hs rs1 ls s r amt i rs2) :
    AugI n hs rs1 ls s r amt (i + 1) (bump (bump rs2 x (-amt)) (xo x) amt) := by
  obtain ⟨x0, x1, tl, lt, lh, rm⟩ := arcs i x hx
  obtain ⟨y0, y1⟩ := PR.xb x x0 x1
  have l2 : rs2.length = hs.length := A.ln.trans N.lr
  have x1' : x < (rs2.length : Int) := by rw [l2]; exact x1
  have y1' : xo x < ((bump rs2 x (-amt)).length : Int) := by rw [bump_len, l2]; exact y1
  have xn := xo_ne x0
  have gx : g0 (bump (bump rs2 x (-amt)) (xo x) amt) x = g0 rs2 x - amt := by
    rw [bump_ne y0 x0 fun z => xn z.symm, bump_same x0 x1']; omega
  have gy : g0 (bump (bump rs2 x (-amt)) (xo x) amt) (xo x) = g0 rs2 (xo x) + amt := by
    rw [bump_same y0 y1', bump_ne x0 y0 xn]
  have gz : ∀ z : Int, 0 ≤ z → z ≠ x → z ≠ xo x → g0 (bump (bump rs2 x (-amt)) (xo x) amt) z = g0 rs2 z := fun z z0 z1 z2 => by
    rw [bump_ne y0 z0 z2, bump_ne x0 z0 z1]
  have idx : ∀ z ∈ r.take i, ∃ j, j < i ∧ r[j]? = some z := fun z hz => by
    obtain ⟨j, hj⟩ := List.getElem?_of_mem hz
    have hji : j < i := by
      have := (List.getElem?_eq_some_iff.mp hj).1
      rw [List.length_take] at this
      omega
    exact ⟨j, hji, by rwa [List.getElem?_take_of_lt hji] at hj⟩
  have nx : x ∉ r.take i := fun h => by
    obtain ⟨j, hj, hz⟩ := idx x h
    have := (arcs j x hz).lt
    omega
  have ny : xo x ∉ r.take i := fun h => by
    obtain ⟨j, hj, hz⟩ := idx _ h
    have := (arcs j _ hz).lt
    rw [xo_xo x0] at this
    omega
  have ex : g0 rs2 x = g0 rs1 x := A.un x x0 x1 nx ny
  have tk : r.take (i + 1) = r.take i ++ [x] := by rw [List.take_succ, hx]; rfl
  have hxm := am x (List.mem_of_getElem? hx)
  refine ⟨by rw [bump_len, bump_len]; exact A.ln, fun a b0 b1 => ?_, fun a b0 b1 => ?_, fun a b0 b1 h1 h2 => ?_, fun a b0 b1 h1 => ?_, fun v v0 v1 => ?_, fun a b0 b1 => ?_⟩
  rotate_right
  · by_cases e : a = x
    · subst e; rw [gx]; omega
    · have := A.lo a b0 b1
      by_cases e2 : a = xo x
      · subst e2; rw [gy]; omega
      · rw [gz a b0 e e2]; exact this
  · by_cases e : a = x
    · subst e; rw [gx]; omega
    · by_cases e2 : a = xo x
      · subst e2; rw [gy]; have := A.nn _ b0 b1; omega
      · rw [gz a b0 e e2]; exact A.nn a b0 b1
  · by_cases e : a = x
    · subst e
      rw [gx, gy]
      have := A.ps a b0 b1
      omega
    · by_cases e2 : a = xo x
      · subst e2
        have := A.ps x x0 x1
        rw [gy, xo_xo x0, gx]
        omega
      · have n1 : xo a ≠ x := fun z => e2 (by rw [← z, xo_xo b0])
        have n2 : xo a ≠ xo x := fun z => e (by rw [← xo_xo b0, z, xo_xo x0])
        rw [gz a b0 e e2, gz _ (PR.xb a b0 b1).1 n1 n2]
        exact A.ps a b0 b1
  · rw [tk, List.mem_append, not_or] at h1 h2
    have e : a ≠ x := fun z => h1.2 (by rw [z]; exact List.mem_singleton.mpr rfl)
    have e2 : a ≠ xo x := fun z => h2.2 (by rw [z, xo_xo x0]; exact List.mem_singleton.mpr rfl)
    rw [gz a b0 e e2]
    exact A.un a b0 b1 h1.1 h2.1
  · rw [tk] at h1
    have e2 := h1 x (by simp)
    have := A.le a b0 b1 fun z hz => h1 z (List.mem_append_left _ hz)
    by_cases e : a = x
    · subst e; rw [gx]; omega
    · rw [gz a b0 e e2]; exact this
  · have N2 : Net n hs rs2 ls := ⟨N.ln, l2, N.hb, N.ab, N.sm, N.sh, N.sl⟩
    have N3 : Net n hs (bump rs2 x (-amt)) ls := ⟨N.ln, bump_len.trans l2, N.hb, N.ab, N.sm, N.sh, N.sl⟩
    rw [Rm_bump N3 PR y0 y1 v0 v1, Rm_bump N2 PR x0 x1 v0 v1, A.rv v v0 v1, xo_xo x0, tl]
    have e1 : nd hs s r (i + 1) = g0 hs x := by
      show g0 hs (g0 r (i : Int)) = _
      congr 1
      unfold g0
      rw [Int.toNat_natCast, List.getD_eq_getElem?_getD, hx]
      rfl
    rw [e1]
    have c1 : (nd hs s r i = v) ↔ (v = nd hs s r i) := ⟨Eq.symm, Eq.symm⟩
    have c2 : (g0 hs x = v) ↔ (v = g0 hs x) := ⟨Eq.symm, Eq.symm⟩
    simp only [c1, c2]
    split <;> split <;> split <;> omega
end
end KK
end

section
set_option maxRecDepth 100000
set_option maxHeartbeats 4000000
namespace KK
open PySem PySem.Spec PyProof.Rows L2 Y
section
variable {n : Nat} {hs rs rs1 lv td r : List Int} {ls : List (List Int)} {s t : Int}
inductive Alive (n : Nat) (hs rs lv : List Int) (ls : List (List Int)) (t : Int) : Int → Prop where
  | t : Alive n hs rs lv ls t t
  | st {u a : Int} : 0 ≤ u → u < n → a ∈ gl ls u → Cl hs rs lv u a → Alive n hs rs lv ls t (g0 hs a) → Alive n hs rs lv ls t u
theorem Alive.no {v : Int} (d : Dead n hs rs lv ls t td) (h : Alive n hs rs lv ls t v) : v ≠ t → len ls v ≤ g0 td v → False := by
  induction h with
  | t => intro h; exact absurd rfl h
  | @st u a u0 u1 ha c _ ih =>
    intro _ h
    obtain ⟨k, hk⟩ := List.getElem?_of_mem ha
    have hkl : k < (gl ls u).length := (List.getElem?_eq_some_iff.mp hk).1
    have ea : arc ls u (k : Int) = a := by
      unfold arc g0
      rw [Int.toNat_natCast, List.getD_eq_getElem?_getD, hk]
      rfl
    have hlen : (k : Int) < len ls u := by unfold len; omega
    have := (d.no u u0 u1 k (by omega) (by omega)).2 (by rw [ea]; exact c)
    rw [ea] at this
    exact ih this.1 this.2
theorem alive_back (N : Net n hs rs ls) (L : Lev n hs rs ls [s] lv) : ∀ (m : Nat) (v : Int), 0 ≤ v → v < n → g0 lv v = m → Alive n hs rs lv ls t v → Alive n hs rs lv ls t s
  | 0, v, v0, v1, e, h => by
    have := L.z v v0 v1 e
    rw [List.mem_singleton] at this
    rwa [this] at h
  | m + 1, v, v0, v1, e, h => by
    obtain ⟨u, u0, u1, a, ha, hr, e1, e2⟩ := L.pr v v0 v1 (by omega)
    exact alive_back N L m u u0 u1 (by omega) (.st u0 u1 ha ⟨hr, by rw [e1]; exact e2⟩ (by rw [e1]; exact h))
/-- where the sink has a level there is a path -/
theorem no_path (N : Net n hs rs ls) (L : Lev n hs rs ls [s] lv) (t0 : 0 ≤ t) (t1 : t < n) (lt : 0 ≤ g0 lv t) (st : s ≠ t) (d : Dead n hs rs lv ls t td) (ex : len ls s ≤ g0 td s) : False := by
  have : Alive n hs rs lv ls t s := alive_back N L (g0 lv t).toNat t t0 t1 (by omega) .t
  exact this.no d st ex
/-- what a filling leaves -/
structure Aug (n : Nat) (hs rs : List Int) (ls : List (List Int)) (s t : Int) (rs1 : List Int) (tot : Int) : Prop where
  ln : rs1.length = rs.length
  nn : ∀ a : Int, 0 ≤ a → a < hs.length → 0 ≤ g0 rs1 a
  ps : ∀ a : Int, 0 ≤ a → a < hs.length → g0 rs1 a + g0 rs1 (xo a) = g0 rs a + g0 rs (xo a)
  rv : ∀ v : Int, 0 ≤ v → v < n → Rm rs1 ls v = Rm rs ls v - (if v = s then tot else 0) + (if v = t then tot else 0)
  t0 : 0 ≤ tot
  lo : ∀ a : Int, 0 ≤ a → a < hs.length → g0 rs a - tot ≤ g0 rs1 a
theorem Aug.refl (hn : ∀ a : Int, 0 ≤ a → a < hs.length → 0 ≤ g0 rs a) : Aug n hs rs ls s t rs 0 := ⟨rfl, hn, fun _ _ _ => rfl, fun v _ _ => by split <;> split <;> omega, Int.le_refl _, fun a _ _ => by omega⟩
theorem Aug.trans {rs2 : List Int} {a b : Int} (x : Aug n hs rs ls s t rs1 a) (y : Aug n hs rs1 ls s t rs2 b) : Aug n hs rs ls s t rs2 (a + b) := ⟨y.ln.trans x.ln, y.nn, fun z z0 z1 => (y.ps z z0 z1).trans (x.ps z z0 z1), fun v v0 v1 => by
  rw [y.rv v v0 v1, x.rv v v0 v1]
  split <;> split <;> omega, by have := x.t0; have := y.t0; omega, fun z z0 z1 => by have := x.lo z z0 z1; have := y.lo z z0 z1; omega⟩
theorem Net.mvr (N : Net n hs rs ls) (h : rs1.length = rs.length) : Net n hs rs1 ls := ⟨N.ln, h.trans N.lr, N.hb, N.ab, N.sm, N.sh, N.sl⟩
theorem AugI.fin {rs2 : List Int} {amt : Int} (a0 : 0 ≤ amt) (A : AugI n hs rs1 ls s r amt r.length rs2) (e : nd hs s r r.length = t) : Aug n hs rs1 ls s t rs2 amt := ⟨A.ln, A.nn, A.ps, fun v v0 v1 => by rw [A.rv v v0 v1, e], a0, A.lo⟩
/-- what was dead stays dead -/
theorem AugI.dead {rs2 : List Int} {amt : Int} (N : Net n hs rs1 ls) (PR : Prs n hs ls) (arcs : ∀ i x, r[i]? = some x → ArcI n hs rs1 lv s r i x) (A : AugI n hs rs1 ls s r amt r.length rs2) (d : Dead n hs rs1 lv ls t td) : Dead n hs rs2 lv ls t td := by
  refine ⟨d.ge, fun u u0 u1 k k0 k1 => ?_⟩
  obtain ⟨h1, h2⟩ := d.no u u0 u1 k k0 k1
  refine ⟨h1, fun c => h2 ⟨?_, c.2⟩⟩
  have ha := g0_mem k0 h1
  have am := N.ab u u0 u1 _ ha
  have tl := PR.tl u u0 u1 _ ha
  have := A.le (arc ls u k) am.1 am.2 fun x hx e => by
    rw [List.take_of_length_le (Nat.le_refl _)] at hx
    obtain ⟨j, hj⟩ := List.getElem?_of_mem hx
    obtain ⟨x0, x1, _, lt, lh, _⟩ := arcs j x hj
    have tl' : g0 hs (xo (arc ls u k)) = u := tl
    rw [e, xo_xo x0] at tl'
    have c2 := c.2
    rw [e, lt, ← tl', lh] at c2
    omega
  have := c.1
  omega
theorem Rm_nn (N : Net n hs rs ls) (hn : ∀ a : Int, 0 ≤ a → a < hs.length → 0 ≤ g0 rs a) {v : Int} (v0 : 0 ≤ v) (v1 : v < n) : 0 ≤ Rm rs ls v := rsum_nn fun a ha => by
  have := N.ab v v0 v1 a ha
  exact hn a this.1 this.2
end
abbrev ctFS (K : PySem.W.Frag) (C : Addr) : Y.CT Int := ⟨false, .sh tInt, fun as P _ => ∃ (n : Nat) (hs rs lv : List Int) (ls : List (List Int)) (s t : Int), as = [.ow (oFlow K C hs rs ls) (), .sh (tLs K tInt) lv, .sh tInt s, .sh tInt t] ∧
  (Net n hs rs ls ∧ Prs n hs ls ∧ (∀ a : Int, 0 ≤ a → a < hs.length → 0 ≤ g0 rs a) ∧ Lev n hs rs ls [s] lv ∧ (0 ≤ s ∧ s < n) ∧ (0 ≤ t ∧ t < n) ∧ s ≠ t ∧ 0 ≤ g0 lv t) ∧ ∀ rs1 tot, Aug n hs rs ls s t rs1 tot → 1 ≤ tot → P [.ow (oFlow K C hs rs1 ls) (), .un, .un, .un] tot⟩
section
variable {P : Program} {w : World} {K : PySem.W.Frag} {mg : Str → Option Value} {base : Heap} {C : Addr}
abbrev NYFlowfillshortest : List Str := ["self", "levels", "source", "sink", "total", "tried", "path", "amount", "arc"]
theorem scYFlowfillshortest : FnScope NYFlowfillshortest ["self", "levels", "source", "sink"] (defScope s_Flow_fill_shortest) := ⟨rfl, rfl, rfl, by decide +kernel, rfl, by decide +kernel, by decide +kernel⟩
theorem y_fs (T : Blt mg) (B_min : mg "min" = none) (CC : FlowC K C) (F : HasM K C "_fill_shortest" "Flow._fill_shortest" s_Flow_fill_shortest) (YPATH : C8.Met P w K mg base 2 C "_path" (Y.spZ (ctPath K C)) []) : C8.Met P w K mg base 3 C "_fill_shortest" (Y.spZ (ctFS K C)) [] := by
  refine metF CC.cl F (fun f fd F => F.binds (ps := ["self", "levels", "source", "sink"]) fun _ _ _ _ _ _ us hl => match us, hl with | [_, _, _, _], _ => rfl) scYFlowfillshortest (fun vs H Q E h => zlen (fun as P XP hc => by obtain ⟨_, _, _, _, _, _, _, rfl, _⟩ := hc; rfl) h) (fun f cdv A outer s H vs Q E hr h => ?_)
  have hu := hu_of hr
  refine ⟨_, (pss_cons (ps_set (i := 4) scYFlowfillshortest.nd rfl (Or.inl rfl) pe_int)
      (pss_cons (ps_set (i := 5) scYFlowfillshortest.nd rfl (Or.inl rfl) (pe_op op_rep (pe_lst (pa_cons pe_int pa_nil)) (pe_callB call_len (by rfl) T.b_len PySem.boot_len (pa_cons (pv 1) pa_nil))))
      (pss_cons (ps_set (i := 6) scYFlowfillshortest.nd rfl (Or.inl rfl) (C8.pe_mt YPATH hr (by decide) (pv 0) (pa_cons (pv 1) (pa_cons (pv 5) (pa_cons (pv 2) (pa_cons (pv 3) pa_nil))))))
      (pss_cons (ps_while PassesOwn.never (pt_truth (pv 6) (by intro _; rfl))
        (pss_cons (ps_set (i := 7) scYFlowfillshortest.nd rfl (Or.inl rfl) (pe_callB (cr_min rfl) (by rfl) B_min (by decide +kernel) (pa_cons (pe_lc (own := [("arc", 8)]) (g := gName 8) (tt := tYes) rfl scYFlowfillshortest.nd (pi_list (pv 6)) (blkOk_by (own := [("arc", 8)]) (N := NYFlowfillshortest) (sc := defScope s_Flow_fill_shortest) (by decide +kernel)) (fun _ _ _ _ _ => (pg_name (i := 8) scYFlowfillshortest.nd rfl (Or.inl rfl))) (fun _ _ _ _ _ => pts_nil) (fun _ _ _ _ _ => (pe_ix (show IxR _ (rIxL K) from ix_list) (show PE _ _ (tFld K (tVar 0) "_rooms") from pe_fld (pv 0) rfl) (pv 8) (fun _ _ => rfl)))) pa_nil)))
      (pss_cons (ps_for PassesOwn.never rfl (pi_list (pv 6)) (pg_name (i := 8) scYFlowfillshortest.nd rfl (Or.inl rfl))
        (pss_cons (ps_augS (pe_fld (pv 0) rfl) (pv 8) get_list (pv 7) ip_sub set_list)
      (pss_one (ps_augS (pe_fld (pv 0) rfl) (pe_op op_xor (pv 8) pe_int) get_list (pv 7) ip_add set_list))))
      (pss_cons (ps_aug (i := 4) scYFlowfillshortest.nd rfl (Or.inl rfl) (pv 7) ip_add)
      (pss_one (ps_set (i := 6) scYFlowfillshortest.nd rfl (Or.inl rfl) (C8.pe_mt YPATH hr (by decide) (pv 0) (pa_cons (pv 1) (pa_cons (pv 5) (pa_cons (pv 2) (pa_cons (pv 3) pa_nil)))))))))))
      (pss_one (ps_ret (pv 4))))))), zrun h ?_⟩
  rintro as P XP ⟨n, hs, rs, lv, ls, s0, t0, rfl, ⟨N, PR, hn, L, ⟨sa, sb⟩, ⟨ta, tb⟩, st, lt⟩, hp⟩ hl
  obtain ⟨p0, p1, p2, p3, rfl⟩ := len4 hl
  refine ⟨5, rfl, by decide, ?_⟩
  have Nsm := N.sm
  have hlv := L.ln
  have ls0 : g0 lv s0 = 0 := L.st s0 (List.mem_singleton.mpr rfl)
  refine blk_seq (blk_set (ev_c (t := tInt) (fun _ _ => rfl) ⟨rfl, ?_⟩))
  refine blk_seq (blk_setO (ev_op ro_rep (EvR.share (O := oL K tInt) (ev_list (K := K) (t := tInt) (es_cons (ev_c (t := tInt) (fun _ _ => rfl) (es_nil ⟨Nat.le_of_ble_eq_true rfl, ev_cb rc_lenL (ev_var rfl ⟨fun h => (nomatch h), ⟨?_, ?_, ?_⟩, rfl, ?_⟩)⟩)))))))
  · omega
  · omega
  · exact s1000 (by simp; omega)
  show Blk _ _ (Ct.set _ _ (.ow (oL K tInt) ((List.replicate lv.length [0]).flatten))) _ _ _
  rw [rep1, hlv]
  have d0 : Dead n hs rs lv ls t0 (List.replicate n 0) := ⟨fun u u0 u1 => by rw [g0_rep u0 u1]; omega, fun u u0 u1 k k0 k1 => by rw [g0_rep u0 u1] at k1; omega⟩
  have pathR : ∀ {rs1 td1 : List Int} {G : Ct} {X : Xw} {E : XK} {Po : Ct → List Int → Prop}, Aug n hs rs ls s0 t0 rs1 (g0 [] 0) ∨ True → Net n hs rs1 ls → Dead n hs rs1 lv ls t0 td1 → td1.length = n → G.s[0]? = some (.ow (oFlow K C hs rs1 ls) ()) → G.s[1]? = some (.sh (tLs K tInt) lv) → G.s[5]? = some (.ow (oL K tInt) td1) → G.s[2]? = some (.sh tInt s0) → G.s[3]? = some (.sh tInt t0) →
      (∀ td' r, PathR n hs rs1 lv ls s0 t0 td' r → Po (G.set 5 (.ow (oL K tInt) td')) r) →
      EvR X false (tMeth C "_path" (Y.spZ (ctPath K C)) [] E (tVar 0) (tCons (tVar 1) (tCons (tVar 5) (tCons (tVar 2) (tCons (tVar 3) tNil))))) G (.ow (oL K tInt)) Po := by
    intro rs1 td1 G X E Po _ N1 d1 tl1 e0 e1 e5 e2 e3 hk
    refine ev_methV0 (inst_o (fl := flF K hs rs1 ls) (show ¬ ("_path" : Str) ∈ [("_heads" : Str), "_rooms", "_leaving"] by decide)) (pl_var e0) (ea_cons (ev_var e1 (ea_own (pl_var e5) (ea_cons (ev_var e2 (ea_cons (ev_var e3 (ea_nil ?_))))))))
    refine ⟨fun h => (nomatch h), Nat.le_of_ble_eq_true rfl, allc trivial (allc trivial (allc trivial (allc trivial (all1 trivial)))), (show [5].Nodup by decide), allc (fun i h => by cases h; show 0 ∉ [5]; decide) (allc (fun i h => (nomatch h)) (allc (fun i h => (nomatch h)) (allc (fun i h => (nomatch h)) (all1 fun i h => (nomatch h))))),
      (fun os r => ∃ td2, os = [.un, .un, .ow (oL K tInt) td2, .un, .un] ∧ PathR n hs rs1 lv ls s0 t0 td2 r), .inr ⟨flatO_L flI, fun os r h => ?_⟩,
      ⟨n, hs, rs1, lv, td1, ls, s0, t0, rfl, ⟨N1, PR, hlv, tl1, ⟨sa, sb⟩, ⟨ta, tb⟩, st, ls0, L.le, d1⟩, fun td2 r hc => ⟨td2, rfl, hc⟩⟩, ?_⟩
    · obtain ⟨td2, rfl, _⟩ := h
      exact allc trivial (allc trivial (allc (flatO_L flI) (allc trivial (all1 trivial))))
    · rintro os r ⟨td2, rfl, hc⟩ _
      exact hk td2 r hc
  refine blk_seq (blk_setO (pathR (.inr trivial) N d0 List.length_replicate rfl rfl rfl rfl rfl fun td1 r pr => ⟨rfl, ?_⟩))
  refine blk_seq (blk_while (fun m G' => ∃ rs1 td1 r tot, Aug n hs rs ls s0 t0 rs1 tot ∧ PathR n hs rs1 lv ls s0 t0 td1 r ∧ (1 ≤ tot ∨ (tot = 0 ∧ rs1 = rs)) ∧ m = (Rm rs1 ls s0).toNat ∧
      G' = ⟨false, [.ow (oFlow K C hs rs1 ls) (), .sh (tLs K tInt) lv, .sh tInt s0, .sh tInt t0, .sh tInt tot, .ow (oL K tInt) td1, .ow (oL K tInt) r, .un, .un], [some p0, some p1, some p2, some p3]⟩) _ ⟨rs, td1, r, 0, .refl hn, pr, .inr ⟨rfl, rfl⟩, rfl, rfl⟩ ?_)
  clear pr td1 r
  rintro m _ ⟨rs1, td1, r, tot, A, pr, pg, rfl, rfl⟩
  have N1 := N.mvr A.ln
  refine et_view (et_truth trL (ev_var rfl ⟨fun hb => ?_, fun hb => ?_⟩))
  · have ne : r ≠ [] := fun e => by rw [e] at hb; cases hb
    have pt : PathTo n hs rs1 lv ls td1 s0 r t0 := by
      rcases pr.alt with ⟨e, _⟩ | ⟨_, h⟩
      · exact absurd e ne
      · exact h
    obtain ⟨arcs, ndt⟩ := pt.arcs N1 PR ls0
    have pl := pt.lev ls0
    have rl : r.length ≤ 1000 := by have := L.le t0 ta tb; omega
    refine blk_wipe [7, 8] (blk_frz 6 rfl ?_)
    refine blk_seq (blk_set (ev_view (r := .sh tInt) flI (ev_cb rc_min (EvR.share (O := oL K tInt) (ev_lc (K := K) (vs := [8]) (ei_list (ev_var rfl ⟨(fun i ys => ys = (r.take i).map (g0 rs1)), ?_, ?_, rfl, ?_, ?_⟩)))))))
    · exact Nat.lt_of_le_of_lt rl (by decide)
    · intro i hi
      have : i = 8 := by simpa using hi
      subst this
      exact free_of rfl
    · rintro i x ys hx rfl
      obtain ⟨x0, x1, _⟩ := arcs i x hx
      refine tg_name (by decide) (free_of rfl) (et_yes ⟨fun _ => ev_op ro_ixL (ev_fld (fo_rooms CC) (ev_var rfl (ev_var rfl ⟨_, at_g0 x0 (by rw [N1.lr]; exact x1), ?_⟩))), fun h => (nomatch h)⟩)
      show (r.take i).map (g0 rs1) ++ [g0 rs1 x] = (r.take (i + 1)).map (g0 rs1)
      rw [List.take_succ, hx, List.map_append]
      rfl
    · rintro ys rfl
      rw [List.take_of_length_le (Nat.le_refl _)]
      refine ⟨fun h => (nomatch h), by rw [List.length_map]; exact List.length_pos_iff.mpr ne, fun amt hm hle => ⟨rfl, ?_⟩⟩
      have am : ∀ x ∈ r, amt ≤ g0 rs1 x := fun x hx => hle _ (List.mem_map.mpr ⟨x, hx, rfl⟩)
      obtain ⟨y, hy, ey⟩ := List.mem_map.mp hm
      have a1 : 1 ≤ amt := by
        obtain ⟨j, hj⟩ := List.getElem?_of_mem hy
        have := (arcs j y hj).rm
        omega
      refine blk_seq (blk_for (vs := [8]) (ei_list (ev_var rfl ⟨(fun i G' => ∃ rs2, AugI n hs rs1 ls s0 r amt i rs2 ∧
        G' = ⟨false, [.ow (oFlow K C hs rs2 ls) (), .sh (tLs K tInt) lv, .sh tInt s0, .sh tInt t0, .sh tInt tot, .ow (oL K tInt) td1, .sh (tLs K tInt) r, .sh tInt amt, .un], [some p0, some p1, some p2, some p3]⟩), ⟨rs1, .start A.nn (by omega), rfl⟩, ?_, ?_⟩)))
      · rintro i x _ hx ⟨rs2, A2, rfl⟩
        obtain ⟨x0, x1, _⟩ := arcs i x hx
        obtain ⟨y0, y1⟩ := PR.xb x x0 x1
        have l2 : rs2.length = hs.length := A2.ln.trans N1.lr
        have xl : x < (rs2.length : Int) := by rw [l2]; exact x1
        refine tg_name (by decide) (free_of rfl) (blk_wipe [8] ?_)
        refine blk_seq (blk_laug (pl_rooms CC) (ev_var rfl ⟨_, _, ixN_in x0 xl, get_g0 x0 xl, ev_var rfl ?_⟩))
        have e1 : rs2.set x.toNat (g0 rs2 x - amt) = bump rs2 x (-amt) := by unfold bump; rw [Int.sub_eq_add_neg]
        rw [e1]
        have yl : xo x < ((bump rs2 x (-amt)).length : Int) := by rw [bump_len, l2]; exact y1
        refine blk_laug (pl_rooms CC) (ev_op ro_I0 (ev_var rfl (ev_c (t := tInt) (fun _ _ => rfl) ⟨_, _, ixN_in y0 yl, get_g0 y0 yl, ev_var rfl ?_⟩)))
        exact ⟨_, A2.step N1 PR arcs (by omega) am hx, rfl⟩
      · rintro _ ⟨rs2, A2, rfl⟩
        have A3 := A2.fin (by omega) ndt
        have d2 := A2.dead N1 PR arcs pr.dead
        have N2 := N1.mvr A3.ln
        have rv := A3.rv s0 sa sb
        rw [if_pos rfl, if_neg st] at rv
        have r0 := Rm_nn N2 A3.nn sa sb
        refine blk_seq (blk_aug (i := 4) rfl (ev_var rfl ⟨rfl, ?_⟩))
        refine blk_setO (pathR (.inr trivial) N2 d2 pr.tl rfl rfl rfl rfl rfl fun td2 r2 pr2 => ⟨rfl, (Rm rs2 ls s0).toNat, by omega, rs2, td2, r2, tot + amt, A.trans A3, pr2, .inl (by have := A.t0; omega), rfl, rfl⟩)
  · have e : r = [] := by
      cases r with
      | nil => rfl
      | cons _ _ => cases hb
    have t1 : 1 ≤ tot := by
      rcases pg with h | ⟨h1, h2⟩
      · exact h
      · subst h2
        rcases pr.alt with ⟨_, ex⟩ | ⟨h, _⟩
        · exact (no_path N L ta tb lt st pr.dead ex).elim
        · exact absurd e h
    refine blk_ret (ev_var rfl ?_)
    exact ⟨rfl, _, [_, _, _, _], _, rfl, rfl, .same (.un (.un (.un .nil))), hp rs1 tot A t1⟩
end
end KK
end

section
set_option maxRecDepth 100000
set_option maxHeartbeats 4000000
namespace KK
open PySem PySem.Spec PyProof.Rows L2 Y
abbrev ctFill (K : PySem.W.Frag) (C : Addr) : Y.CT Int := ⟨false, .sh tInt, fun as P _ => ∃ (n : Nat) (hs rs : List Int) (ls : List (List Int)) (s t : Int), as = [.ow (oFlow K C hs rs ls) (), .sh tInt s, .sh tInt t] ∧
  (Net n hs rs ls ∧ Prs n hs ls ∧ (∀ a : Int, 0 ≤ a → a < hs.length → 0 ≤ g0 rs a) ∧ (0 ≤ s ∧ s < n) ∧ (0 ≤ t ∧ t < n) ∧ s ≠ t) ∧ ∀ rs1 tot lv, Aug n hs rs ls s t rs1 tot → Lev n hs rs1 ls [s] lv → g0 lv t < 0 → P [.ow (oFlow K C hs rs1 ls) (), .un, .un] tot⟩
abbrev ctReach (K : PySem.W.Frag) (C : Addr) : Y.CT (List Bool) := ⟨false, .sh (tLs K tBl), fun as P _ => ∃ (n : Nat) (hs rs : List Int) (ls : List (List Int)) (st : List Int), as = [.sh (tFlow K C hs rs ls) (), .sh (tLs K tInt) st] ∧
  (Net n hs rs ls ∧ ∀ s ∈ st, 0 ≤ s ∧ s < n) ∧ ∀ lv, Lev n hs rs ls st lv → ∀ os, P os (lv.map fun x => decide (0 ≤ x))⟩
section
variable {P : Program} {w : World} {K : PySem.W.Frag} {mg : Str → Option Value} {base : Heap} {C : Addr}
/-- a look at the levels, of one's own flow -/
theorem ev_levels {n : Nat} {hs rs : List Int} {ls : List (List Int)} {s : Int} {i : Nat} {G : Ct} {X : Xw} {E : XK} {Po : Ct → List Int → Prop} (N : Net n hs rs ls) (s0 : 0 ≤ s) (s1 : s < n) (e0 : G.s[0]? = some (.ow (oFlow K C hs rs ls) ())) (ei : G.s[i]? = some (.sh tInt s))
    (hk : ∀ lv, Lev n hs rs ls [s] lv → Po G lv) : EvR X false (tMeth C "_levels" (Y.spZ (ctLevels K C)) [] E (tVar 0) (tCons (L2.tLst (tCons (tVar i) tNil)) tNil)) G (.ow (oL K tInt)) Po := by
  refine ev_methV0 (inst_o (fl := flF K hs rs ls) (show ¬ ("_levels" : Str) ∈ [("_heads" : Str), "_rooms", "_leaving"] by decide)) (pl_var e0) (ea_cons (EvR.share (O := oL K tInt) (ev_list (K := K) (t := tInt) (es_cons (ev_var ei (es_nil ⟨Nat.le_of_ble_eq_true rfl, ea_nil ?_⟩))))))
  refine ⟨fun h => (nomatch h), Nat.le_of_ble_eq_true rfl, allc trivial (all1 trivial), (show ([] : List Nat).Nodup by decide), allc (fun i h => by cases h; show 0 ∉ []; decide) (all1 fun i h => (nomatch h)),
    (fun os r => os = [.un, .un] ∧ Lev n hs rs ls [s] r), .inr ⟨flatO_L flI, fun os r h => ?_⟩, ⟨n, hs, rs, ls, [s], rfl, ⟨N, all1 ⟨s0, s1⟩⟩, fun lv hL => ⟨rfl, hL⟩⟩, ?_⟩
  · rw [h.1]; exact allc trivial (all1 trivial)
  · rintro os r ⟨rfl, hL⟩ _
    exact hk r hL
abbrev NYFlowfill : List Str := ["self", "source", "sink", "total", "levels"]
theorem scYFlowfill : FnScope NYFlowfill ["self", "source", "sink"] (defScope s_Flow_fill) := ⟨rfl, rfl, rfl, by decide +kernel, rfl, by decide +kernel, by decide +kernel⟩
theorem y_fill (T : Blt mg) (CC : FlowC K C) (F : HasM K C "fill" "Flow.fill" s_Flow_fill) (YLEVELS : C8.Met P w K mg base 1 C "_levels" (Y.spZ (ctLevels K C)) []) (YFS : C8.Met P w K mg base 3 C "_fill_shortest" (Y.spZ (ctFS K C)) []) : C8.Met P w K mg base 4 C "fill" (Y.spZ (ctFill K C)) [] := by
  refine metF CC.cl F (fun f fd F => F.binds (ps := ["self", "source", "sink"]) fun _ _ _ _ _ _ us hl => match us, hl with | [_, _, _], _ => rfl) scYFlowfill (fun vs H Q E h => zlen (fun as P XP hc => by obtain ⟨_, _, _, _, _, _, rfl, _⟩ := hc; rfl) h) (fun f cdv A outer s H vs Q E hr h => ?_)
  have hu := hu_of hr
  refine ⟨_, (pss_cons (ps_set (i := 3) scYFlowfill.nd rfl (Or.inl rfl) pe_int)
      (pss_cons (ps_set (i := 4) scYFlowfill.nd rfl (Or.inl rfl) (C8.pe_mt YLEVELS hr (by decide) (pv 0) (pa_cons (pe_lst (pa_cons (pv 1) pa_nil)) pa_nil)))
      (pss_cons (ps_while PassesOwn.never (pt_cmpR op_ge (pe_ix ix_list (pv 4) (pv 2) (fun _ _ => rfl)) pe_int (nomark _))
        (pss_cons (ps_aug (i := 3) scYFlowfill.nd rfl (Or.inl rfl) (C8.pe_mt YFS hr (by decide) (pv 0) (pa_cons (pv 4) (pa_cons (pv 1) (pa_cons (pv 2) pa_nil)))) ip_add)
      (pss_one (ps_set (i := 4) scYFlowfill.nd rfl (Or.inl rfl) (C8.pe_mt YLEVELS hr (by decide) (pv 0) (pa_cons (pe_lst (pa_cons (pv 1) pa_nil)) pa_nil))))))
      (pss_one (ps_ret (pv 3)))))), zrun h ?_⟩
  rintro as P XP ⟨n, hs, rs, ls, s0, t0, rfl, ⟨N, PR, hn, ⟨sa, sb⟩, ⟨ta, tb⟩, st⟩, hp⟩ hl
  obtain ⟨p0, p1, p2, rfl⟩ := len3 hl
  refine ⟨2, rfl, by decide, ?_⟩
  refine blk_seq (blk_set (ev_c (t := tInt) (fun _ _ => rfl) ⟨rfl, ?_⟩))
  refine blk_seq (blk_setO (ev_levels N sa sb rfl rfl fun lv L => ⟨rfl, ?_⟩))
  refine blk_seq (blk_while (fun m G' => ∃ rs1 lv tot, Aug n hs rs ls s0 t0 rs1 tot ∧ Lev n hs rs1 ls [s0] lv ∧ m = (Rm rs1 ls s0).toNat ∧
      G' = ⟨false, [.ow (oFlow K C hs rs1 ls) (), .sh tInt s0, .sh tInt t0, .sh tInt tot, .ow (oL K tInt) lv], [some p0, some p1, some p2]⟩) _ ⟨rs, lv, 0, .refl hn, L, rfl, rfl⟩ ?_)
  clear L lv
  rintro m _ ⟨rs1, lv, tot, A, L, rfl, rfl⟩
  have N1 := N.mvr A.ln
  refine et_view (et_b (ev_op ro_B0 (ev_op ro_ixL (ev_var rfl (ev_var rfl ⟨_, at_g0 ta (by rw [L.ln]; exact tb), ev_c (t := tInt) (fun _ _ => rfl) ⟨fun hb => ?_, fun hb => ?_⟩⟩)))))
  · have lt : 0 ≤ g0 lv t0 := by have := of_decide_eq_true hb; omega
    refine blk_frz 4 rfl ?_
    refine blk_seq (blk_augO (i := 3) rfl (ev_methO0 (inst_o (fl := flF K hs rs1 ls) (show ¬ ("_fill_shortest" : Str) ∈ [("_heads" : Str), "_rooms", "_leaving"] by decide)) (pl_var rfl) (ea_cons (ev_var rfl (ea_cons (ev_var rfl (ea_cons (ev_var rfl (ea_nil ?_)))))))))
    refine ⟨fun h => (nomatch h), Nat.le_of_ble_eq_true rfl, allc trivial (allc trivial (allc trivial (all1 trivial))), (show [0].Nodup by decide), allc (fun i h => (nomatch h)) (allc (fun i h => (nomatch h)) (allc (fun i h => (nomatch h)) (all1 fun i h => (nomatch h)))),
      (fun os x => ∃ rs2, os = [.ow (oFlow K C hs rs2 ls) (), .un, .un, .un] ∧ Aug n hs rs1 ls s0 t0 rs2 x ∧ 1 ≤ x), .inl (allc rfl (allc rfl (allc rfl (all1 rfl)))), ⟨n, hs, rs1, lv, ls, s0, t0, rfl, ⟨N1, PR, A.nn, L, ⟨sa, sb⟩, ⟨ta, tb⟩, st, lt⟩, fun rs2 x a b => ⟨rs2, rfl, a, b⟩⟩, ?_⟩
    rintro os x ⟨rs2, rfl, A2, x1⟩ _
    refine ⟨rfl, ?_⟩
    have N2 := N1.mvr A2.ln
    have rv := A2.rv s0 sa sb
    rw [if_pos rfl, if_neg st] at rv
    have r0 := Rm_nn N2 A2.nn sa sb
    refine blk_setO (ev_levels N2 sa sb rfl rfl fun lv2 L2 => ⟨rfl, (Rm rs2 ls s0).toNat, by omega, rs2, lv2, tot + x, A.trans A2, L2, rfl, rfl⟩)
  · have lt : g0 lv t0 < 0 := by have := of_decide_eq_false hb; omega
    exact blk_ret (ev_var rfl ⟨rfl, _, [_, _, _], _, rfl, rfl, .same (.un (.un .nil)), hp rs1 tot lv A L lt⟩)
abbrev NYFlowreach : List Str := ["self", "starts", "level"]
end
end KK
end

section
set_option maxRecDepth 100000
set_option maxHeartbeats 4000000
namespace KK
open PySem PySem.Spec PyProof.Rows L2 Y
/-! ### networks, link by link -/
abbrev Lk := Int × Int × Int
/-- the arcs that leave a node -/
def lkArcs (v : Int) (p : Lk × Nat) : List Int := (if p.1.1 = v then [2 * (p.2 : Int)] else []) ++ (if p.1.2.1 = v then [2 * (p.2 : Int) + 1] else [])
def arcsOf (L : List Lk) (v : Int) : List Int := L.zipIdx.flatMap (lkArcs v)
structure Built (n : Nat) (L : List Lk) (hs rs : List Int) (ls : List (List Int)) : Prop where
  hs : hs = L.flatMap fun p => [p.2.1, p.1]
  rs : rs = L.flatMap fun p => [p.2.2, 0]
  ln : ls.length = n
  gs : ∀ v : Int, 0 ≤ v → v < n → gl ls v = arcsOf L v
  ok : ∀ p ∈ L, (0 ≤ p.1 ∧ p.1 < n) ∧ (0 ≤ p.2.1 ∧ p.2.1 < n)
theorem arcsOf_snoc (L : List Lk) (p : Lk) (v : Int) : arcsOf (L ++ [p]) v = arcsOf L v ++ lkArcs v (p, L.length) := by
  unfold arcsOf
  rw [List.zipIdx_append, List.flatMap_append]
  simp
theorem Built.nil (n : Nat) : Built n [] [] [] (List.replicate n []) := by
  refine ⟨rfl, rfl, List.length_replicate, fun v v0 v1 => ?_, fun p hp => by simp at hp⟩
  unfold gl
  rw [List.getD_eq_getElem?_getD, List.getElem?_replicate, if_pos (by omega)]
  rfl
theorem flat2_len {α β : Type} (f g : α → β) : ∀ L : List α, (L.flatMap fun p => [f p, g p]).length = 2 * L.length
  | [] => rfl
  | a :: L => by
    rw [List.flatMap_cons, List.length_append, flat2_len f g L, List.length_cons]
    simp
    omega
theorem flat2_get {α : Type} (f g : α → Int) : ∀ (L : List α) (k : Nat) (p : α), L[k]? = some p → g0 (L.flatMap fun p => [f p, g p]) (2 * (k : Int)) = f p ∧ g0 (L.flatMap fun p => [f p, g p]) (2 * (k : Int) + 1) = g p
  | [], k, p, h => by simp at h
  | a :: L, 0, p, h => by cases h; exact ⟨rfl, rfl⟩
  | a :: L, k + 1, p, h => by
    obtain ⟨h1, h2⟩ := flat2_get f g L k p h
    rw [List.flatMap_cons]
    have sh : ∀ (x y : Int) (l : List Int) (i : Int), 0 ≤ i → g0 ([x, y] ++ l) (i + 2) = g0 l i := fun x y l i h => by
      unfold g0
      rw [show (i + 2).toNat = i.toNat + 2 from by omega]
      rfl
    refine ⟨?_, ?_⟩
    · rw [show (2 * ((k + 1 : Nat) : Int)) = 2 * (k : Int) + 2 from by omega, sh _ _ _ _ (by omega)]; exact h1
    · rw [show (2 * ((k + 1 : Nat) : Int)) + 1 = (2 * (k : Int) + 1) + 2 from by omega, sh _ _ _ _ (by omega)]; exact h2
section
variable {n : Nat} {L : List Lk} {hs rs : List Int} {ls : List (List Int)}
theorem Built.hl (B : Built n L hs rs ls) : hs.length = 2 * L.length := by rw [B.hs]; exact flat2_len _ _ L
theorem Built.rl (B : Built n L hs rs ls) : rs.length = 2 * L.length := by rw [B.rs]; exact flat2_len _ _ L
theorem Built.arc (B : Built n L hs rs ls) {k : Nat} {p : Lk} (h : L[k]? = some p) : g0 hs (2 * (k : Int)) = p.2.1 ∧ g0 hs (2 * (k : Int) + 1) = p.1 ∧ g0 rs (2 * (k : Int)) = p.2.2 ∧ g0 rs (2 * (k : Int) + 1) = 0 := by
  have h1 := flat2_get (fun p : Lk => p.2.1) (fun p => p.1) L k p h
  have h2 := flat2_get (fun p : Lk => p.2.2) (fun _ => 0) L k p h
  rw [B.hs, B.rs]
  exact ⟨h1.1, h1.2, h2.1, h2.2⟩
theorem Built.snoc (B : Built n L hs rs ls) {a b r : Int} (a0 : 0 ≤ a) (a1 : a < n) (b0 : 0 ≤ b) (b1 : b < n) :
    Built n (L ++ [(a, b, r)]) (hs ++ [b] ++ [a]) (rs ++ [r] ++ [0]) ((ls.set a.toNat (gl ls a ++ [(hs.length : Int)])).set b.toNat (gl (ls.set a.toNat (gl ls a ++ [(hs.length : Int)])) b ++ [(hs.length : Int) + 1])) := by
  have al : a < (ls.length : Int) := by rw [B.ln]; exact a1
  have bl : b < ((ls.set a.toNat (gl ls a ++ [(hs.length : Int)])).length : Int) := by rw [List.length_set, B.ln]; exact b1
  have gs_same : ∀ (ls : List (List Int)) (u : Int) (y : List Int), 0 ≤ u → u < ls.length → gl (ls.set u.toNat y) u = y := fun ls u y h0 h1 => by
    unfold gl
    rw [List.getD_eq_getElem?_getD, List.getElem?_set_self (by omega)]
    rfl
  have gs_ne : ∀ (ls : List (List Int)) (u v : Int) (y : List Int), 0 ≤ u → 0 ≤ v → v ≠ u → gl (ls.set u.toNat y) v = gl ls v := fun ls u v y h0 h1 n => by
    unfold gl
    rw [List.getD_eq_getElem?_getD, List.getD_eq_getElem?_getD, List.getElem?_set_ne (by omega)]
  have hl : (hs.length : Int) = 2 * (L.length : Int) := by rw [B.hl]; omega
  refine ⟨?_, ?_, by rw [List.length_set, List.length_set]; exact B.ln, fun v v0 v1 => ?_, fun p hp => ?_⟩
  · rw [List.flatMap_append, ← B.hs]; simp
  · rw [List.flatMap_append, ← B.rs]; simp
  · rw [arcsOf_snoc, ← B.gs v v0 v1]
    unfold lkArcs
    simp only
    by_cases ea : a = v
    · by_cases eb : b = v
      · subst ea
        subst eb
        rw [gs_same _ _ _ b0 bl, gs_same _ _ _ b0 al, if_pos rfl, if_pos rfl, hl]
        simp
      · subst ea
        rw [gs_ne _ _ _ _ b0 a0 (fun z => eb z.symm), gs_same _ _ _ a0 al, if_pos rfl, if_neg eb, hl]
        simp
    · by_cases eb : b = v
      · subst eb
        rw [gs_same _ _ _ b0 bl, gs_ne _ _ _ _ a0 b0 (fun z => ea z.symm), if_neg ea, if_pos rfl, hl]
        simp
      · rw [gs_ne _ _ _ _ b0 v0 (fun z => eb z.symm), gs_ne _ _ _ _ a0 v0 (fun z => ea z.symm), if_neg ea, if_neg eb]
        simp
  · rcases List.mem_append.mp hp with hp | hp
    · exact B.ok p hp
    · rw [List.mem_singleton] at hp
      subst hp
      exact ⟨⟨a0, a1⟩, b0, b1⟩
theorem xo_even (k : Nat) : xo (2 * (k : Int)) = 2 * (k : Int) + 1 := by
  have h : xo (2 * (k : Int)) = (((2 * (k : Int)).toNat ^^^ 1 : Nat) : Int) := Bits.bitXor_pp (by omega) (by decide)
  rw [h, show (2 * (k : Int)).toNat = 2 * k from by omega]
  have : 2 * k ^^^ 1 = 2 * k + 1 := by
    apply Nat.eq_of_testBit_eq
    intro i
    rw [Nat.testBit_xor]
    cases i with
    | zero => simp [Nat.testBit_zero, Nat.add_mod]
    | succ i => simp [Nat.testBit_succ, Nat.mul_add_div]
  rw [this]
  omega
theorem xo_odd (k : Nat) : xo (2 * (k : Int) + 1) = 2 * (k : Int) := by
  rw [← xo_even k]
  exact xo_xo (by omega)
theorem half_cases {a : Int} {m : Nat} (a0 : 0 ≤ a) (a1 : a < 2 * (m : Int)) : ∃ k : Nat, k < m ∧ (a = 2 * (k : Int) ∨ a = 2 * (k : Int) + 1) := by
  refine ⟨(a / 2).toNat, ?_, ?_⟩ <;> omega
theorem mem_arcs {L : List Lk} {v a : Int} : a ∈ arcsOf L v ↔ ∃ (k : Nat) (p : Lk), L[k]? = some p ∧ ((p.1 = v ∧ a = 2 * (k : Int)) ∨ (p.2.1 = v ∧ a = 2 * (k : Int) + 1)) := by
  unfold arcsOf lkArcs
  rw [List.mem_flatMap]
  constructor
  · rintro ⟨⟨p, k⟩, hp, ha⟩
    have hp := List.mem_zipIdx_iff_getElem?.mp hp
    refine ⟨k, p, hp, ?_⟩
    rcases List.mem_append.mp ha with h | h
    · split at h
      · rename_i e; exact .inl ⟨e, by simpa using h⟩
      · simp at h
    · split at h
      · rename_i e; exact .inr ⟨e, by simpa using h⟩
      · simp at h
  · rintro ⟨k, p, hp, h⟩
    refine ⟨(p, k), List.mem_zipIdx_iff_getElem?.mpr hp, ?_⟩
    rcases h with ⟨e, rfl⟩ | ⟨e, rfl⟩
    · simp [e]
    · simp [e]
theorem nodup_arcs (v : Int) : ∀ L : List Lk, (arcsOf L v).Nodup ∧ ∀ a ∈ arcsOf L v, 0 ≤ a ∧ a < 2 * (L.length : Int) := by
  intro L
  refine ⟨?_, fun a ha => ?_⟩
  · have key : ∀ (m : Nat) (L : List Lk), L.length = m → (arcsOf L v).Nodup := by
      intro m
      induction m with
      | zero =>
        intro L h
        cases L with
        | nil => exact List.nodup_nil
        | cons _ _ => cases h
      | succ m ih =>
        intro L h
        have ne : L ≠ [] := fun e => by rw [e] at h; cases h
        have e : L = L.dropLast ++ [L.getLast ne] := (List.dropLast_concat_getLast ne).symm
        rw [e, arcsOf_snoc]
        have hl : L.dropLast.length = m := by rw [List.length_dropLast, h]; rfl
        refine List.nodup_append.mpr ⟨ih _ hl, ?_, ?_⟩
        · unfold lkArcs
          split <;> split <;> simp <;> omega
        · intro a ha b hb z
          subst z
          obtain ⟨k, p, hp, h2⟩ := mem_arcs.mp ha
          have hk := (List.getElem?_eq_some_iff.mp hp).1
          unfold lkArcs at hb
          rcases List.mem_append.mp hb with hb | hb
          · split at hb
            · have hb : a = 2 * (L.dropLast.length : Int) := by simpa using hb
              omega
            · simp at hb
          · split at hb
            · have hb : a = 2 * (L.dropLast.length : Int) + 1 := by simpa using hb
              omega
            · simp at hb
    exact key _ L rfl
  · obtain ⟨k, p, hp, h⟩ := mem_arcs.mp ha
    have hk := (List.getElem?_eq_some_iff.mp hp).1
    omega
theorem Built.net (B : Built n L hs rs ls) (hn : n ≤ 1000) (hL : L.length ≤ 10000) : Net n hs rs ls := by
  have hl := B.hl
  refine ⟨B.ln, by rw [B.rl, hl], fun a a0 a1 => ?_, fun u u0 u1 a ha => ?_, hn, by omega, fun u u0 u1 => ?_⟩
  · obtain ⟨k, hk, h⟩ := half_cases (m := L.length) a0 (by omega)
    have hp := List.getElem?_eq_getElem hk
    obtain ⟨e1, e2, _⟩ := B.arc hp
    have := B.ok _ (List.getElem_mem hk)
    rcases h with rfl | rfl
    · rw [e1]; exact this.2
    · rw [e2]; exact this.1
  · rw [B.gs u u0 u1] at ha
    have := (nodup_arcs u L).2 a ha
    omega
  · rw [B.gs u u0 u1]
    have h : ∀ l : List (Lk × Nat), (l.flatMap (lkArcs u)).length ≤ 2 * l.length := by
      intro l
      induction l with
      | nil => exact Nat.le_refl _
      | cons a l ih =>
        rw [List.flatMap_cons, List.length_append, List.length_cons]
        have : (lkArcs u a).length ≤ 2 := by
          unfold lkArcs
          split <;> split <;> simp
        omega
    have := h L.zipIdx
    rw [List.length_zipIdx] at this
    unfold arcsOf
    omega
theorem Built.prs (B : Built n L hs rs ls) : Prs n hs ls := by
  have hl := B.hl
  have tail : ∀ (k : Nat) (p : Lk), L[k]? = some p → g0 hs (xo (2 * (k : Int))) = p.1 ∧ g0 hs (xo (2 * (k : Int) + 1)) = p.2.1 := fun k p hp => by
    obtain ⟨e1, e2, _⟩ := B.arc hp
    rw [xo_even, xo_odd]
    exact ⟨e2, e1⟩
  refine ⟨fun a a0 a1 => ?_, fun u u0 u1 a ha => ?_, fun a a0 a1 => ?_, fun u u0 u1 => ?_⟩
  · obtain ⟨k, hk, h⟩ := half_cases (m := L.length) a0 (by omega)
    rcases h with rfl | rfl
    · rw [show Builtin.bitXor (2 * (k : Int)) 1 = _ from xo_even k]; omega
    · rw [show Builtin.bitXor (2 * (k : Int) + 1) 1 = _ from xo_odd k]; omega
  · rw [B.gs u u0 u1] at ha
    obtain ⟨k, p, hp, h⟩ := mem_arcs.mp ha
    obtain ⟨t1, t2⟩ := tail k p hp
    rcases h with ⟨e, rfl⟩ | ⟨e, rfl⟩
    · exact t1.trans e
    · exact t2.trans e
  · obtain ⟨k, hk, h⟩ := half_cases (m := L.length) a0 (by omega)
    have hp := List.getElem?_eq_getElem hk
    obtain ⟨t1, t2⟩ := tail k _ hp
    have ok := B.ok _ (List.getElem_mem hk)
    rcases h with rfl | rfl
    · have t1' : g0 hs (Builtin.bitXor (2 * (k : Int)) 1) = _ := t1
      rw [t1', B.gs _ ok.1.1 ok.1.2]
      exact mem_arcs.mpr ⟨k, _, hp, .inl ⟨rfl, rfl⟩⟩
    · have t2' : g0 hs (Builtin.bitXor (2 * (k : Int) + 1) 1) = _ := t2
      rw [t2', B.gs _ ok.2.1 ok.2.2]
      exact mem_arcs.mpr ⟨k, _, hp, .inr ⟨rfl, rfl⟩⟩
  · rw [B.gs u u0 u1]; exact (nodup_arcs u L).1
end
end KK
end

section
set_option maxRecDepth 100000
set_option maxHeartbeats 4000000
/-! enumerate of a dict (locked) -/
namespace PySem
open Sem (wp)
open AutoSeq1 (wpAny_loadPart')
section
variable {prog : Program} {w : World} {A : Around} {E : Value → Shared → Prop} {s : Shared}
theorem wpAny_nextOf_key_item {it d : Addr} {i n ep : Nat} {od : Obj} {es : Array DictEntry} {en : DictEntry} {Q : Value → Shared → Prop} (hit : s.heap.IsKeyIter it d i n ep) (hod : s.heap.get? d = some od) (hdd : od.data = .dict es ep)
    (hsz : es.size = n) (hx : es[i]? = some en) (hQ : ∀ h', h'.IsKeyIter it d (i + 1) n ep → Heap.SameBut it s.heap h' → Q en.key { s with heap := h' }) : wpAny (model prog w) A (Builtin.SmallTypes.nextOf (.ref it)) Q E s := by
  obtain ⟨o, ho, hc, hd⟩ := id hit
  unfold Builtin.SmallTypes.nextOf
  refine wpAny_bind (wpAny_callSpecial?_slot (name := Str.ofString "__next__") hit.typeIs F.slot_dict_keyiterator_next
    (wpAny_call_entry F.slot_dict_keyiterator_next hit.typeIs F.entry_dict_keyiterator_next ?_ (F.args_dict_keyiterator_next_1 _)))
  refine wpAny_bind (wpAny_pure ?_)
  refine wpAny_bind ?_
  refine wpAny_bind ?_
  first | refine wpAny_bind (wpAny_typeNameOfWhole_keyiter hit.typeIs (wpAny_pure ?_)) | refine wpAny_bind (wpAny_typeNameOf_keyiter hit.typeIs (wpAny_pure ?_))
  refine wpAny_bind (wpAny_fieldsOf ho hd ?_)
  have hown : Builtin.Dict_items.ownsTuple "dict_keyiterator" = false := by decide
  simp only [hown, Bool.false_eq_true, if_false]
  show wpAny _ _ (if (Value.ref d == Value.none) = true then _ else _) _ _ s
  rw [if_neg (show ¬ ((Value.ref d == Value.none) = true) from Bool.false_ne_true)]
  refine wpAny_bind (wpAny_pure ?_)
  refine wpAny_bind (wpAny_dictEntries hod hdd ?_)
  rw [if_neg (by rw [hsz]; simp)]
  refine wpAny_bind (wpAny_pure ?_)
  refine wpAny_bind (wpAny_dictEpoch hod hdd ?_)
  rw [if_neg (by simp)]
  refine wpAny_pure ?_
  obtain ⟨hlt', hen⟩ := Array.getElem?_eq_some_iff.mp hx
  simp only [show ¬ ((i : Int) < 0) from by omega, if_false, Int.toNat_natCast, Array.getElem?_eq_getElem hlt']
  refine wpAny_bind ?_
  first | refine wpAny_bind (wpAny_typeNameOfWhole_keyiter hit.typeIs (wpAny_pure ?_)) | refine wpAny_bind (wpAny_typeNameOf_keyiter hit.typeIs (wpAny_pure ?_))
  refine wpAny_bind (wpAny_isOneOf_keyiter hit.typeIs ?_)
  show wpAny _ _ (setField (.ref it) 1 (rawInt ((i : Int) + 1)) >>= _) _ _ s
  refine wpAny_bind (wpAny_setField ho hd (by simp) ?_)
  have hit' : (s.heap.update it (Obj.mapFields (·.setIfInBounds 1 (rawInt ((i : Int) + 1))))).IsKeyIter it d (i + 1) n ep :=
    ⟨_, Heap.get?_update_self _ ho (Obj.isFreed_of_fields (Obj.data_mapFields hd _)), (Obj.cls_mapFields ..).trans hc, by rw [Obj.data_mapFields hd]; simp [rawInt]⟩
  refine wpAny_bind (wpAny_holding ?_)
  refine wpAny_bind (wpAny_isOneOf_keyiter (s := { s with heap := s.heap.update it (Obj.mapFields (·.setIfInBounds 1 (rawInt ((i : Int) + 1)))) }) hit'.typeIs ?_)
  show wpAny _ _ (pure es[i].key) _ _ _
  rw [hen]
  exact wpAny_pure (wpAny_pure ⟨_, rfl, wpAny_pure (hQ _ hit' (Heap.SameBut.update ..))⟩)
theorem wpAny_nextOf_key_end {it d : Addr} {i n ep : Nat} {od : Obj} {es : Array DictEntry} {Q : Value → Shared → Prop} (hh : A.handled = none) (hit : s.heap.IsKeyIter it d i n ep) (hod : s.heap.get? d = some od) (hdd : od.data = .dict es ep)
    (hsz : es.size = n) (hge : n ≤ i) (hE : ∀ h' e, Heap.ExtBut it s.heap h' → (∃ o, h'.get? e = some o ∧ o.cls = .type "StopIteration") → E (.ref e) { s with heap := h' }) : wpAny (model prog w) A (Builtin.SmallTypes.nextOf (.ref it)) Q E s := by
  obtain ⟨o, ho, hc, hd⟩ := id hit
  unfold Builtin.SmallTypes.nextOf
  refine wpAny_bind (wpAny_callSpecial?_slot (name := Str.ofString "__next__") hit.typeIs F.slot_dict_keyiterator_next
    (wpAny_call_entry F.slot_dict_keyiterator_next hit.typeIs F.entry_dict_keyiterator_next ?_ (F.args_dict_keyiterator_next_1 _)))
  refine wpAny_bind (wpAny_pure ?_)
  refine wpAny_bind ?_
  refine wpAny_bind ?_
  first | refine wpAny_bind (wpAny_typeNameOfWhole_keyiter hit.typeIs (wpAny_pure ?_)) | refine wpAny_bind (wpAny_typeNameOf_keyiter hit.typeIs (wpAny_pure ?_))
  refine wpAny_bind (wpAny_fieldsOf ho hd ?_)
  have hown : Builtin.Dict_items.ownsTuple "dict_keyiterator" = false := by decide
  simp only [hown, Bool.false_eq_true, if_false]
  show wpAny _ _ (if (Value.ref d == Value.none) = true then _ else _) _ _ s
  rw [if_neg (show ¬ ((Value.ref d == Value.none) = true) from Bool.false_ne_true)]
  refine wpAny_bind (wpAny_pure ?_)
  refine wpAny_bind (wpAny_dictEntries hod hdd ?_)
  rw [if_neg (by rw [hsz]; simp)]
  refine wpAny_bind (wpAny_pure ?_)
  refine wpAny_bind (wpAny_dictEpoch hod hdd ?_)
  rw [if_neg (by simp)]
  refine wpAny_pure ?_
  have hge' : es.size ≤ i := by rw [hsz]; exact hge
  simp only [show ¬ ((i : Int) < 0) from by omega, if_false, Int.toNat_natCast, Array.getElem?_eq_none hge']
  refine wpAny_bind ?_
  first | refine wpAny_bind (wpAny_typeNameOfWhole_keyiter hit.typeIs (wpAny_pure ?_)) | refine wpAny_bind (wpAny_typeNameOf_keyiter hit.typeIs (wpAny_pure ?_))
  show wpAny _ _ (setField (.ref it) 0 .none >>= _) _ _ s
  refine wpAny_bind (wpAny_setField ho hd (by simp) ?_)
  show wpAny _ _ (newExc (.type "StopIteration") [] >>= _) _ _ _
  refine wpAny_bind ?_
  simp only [newExc, newTuple]
  refine wpAny_bind (wpAny_newObj_type ?_ (by size_fits))
  refine wpAny_bind (m := firstArgMember _ _) (wpAny_of_eq (a := Value.none) (by first | rfl | (simp only [firstArgMember]; rfl)) ?_)
  refine wpAny_newObj_type ?_ (by size_fits)
  simp only [raiseNew]
  refine wpAny_bind (wpAny_handled ?_)
  first | rw [show A.in1.handled = none from hh] | rw [hh]
  refine wpAny_bind (wpAny_pure (wpAny_throw ?_))
  exact hE _ _ (((Heap.SameBut.update ..).extBut.push _).push _) ⟨_, Heap.get?_push_size _ rfl, rfl⟩
end
theorem Draws.keys {prog : Program} {w : World} {A : Around} (hh : A.handled = none) (it d : Addr) (hne : d ≠ it) (od : Obj) (es : Array DictEntry) (ep : Nat) (hdd : od.data = .dict es ep) :
    Draws prog w A it [it, d] es.size (fun i v => ∃ en, es[i]? = some en ∧ v = en.key) (fun i h => h.IsKeyIter it d i es.size ep ∧ h.get? d = some od) where
  live := fun _ _ st => let ⟨o, ho, _⟩ := st.1; ⟨o, ho⟩
  frame := fun _ _ _ st hk => ⟨let ⟨o, ho, r⟩ := st.1; ⟨o, hk it (by simp) o ho, r⟩, hk d (by simp) _ st.2⟩
  item := fun i s Q E hi st hQ => by
    refine wpAny_nextOf_key_item st.1 st.2 hdd rfl (en := es[i]) (by simp [hi]) fun h' hit' hs' => ?_
    exact hQ _ h' s.toks ⟨_, by simp [hi], rfl⟩ ⟨hit', (hs'.2 d hne).trans st.2⟩ hs'
  done := fun s Q E st hE => wpAny_nextOf_key_end hh st.1 st.2 hdd rfl (Nat.le_refl _) hE
theorem meets_enumerate_newD (d : Addr) (od : Obj) (es : Array DictEntry) (ep : Nat) :
    Meets (Builtin.«enumerate.__new__» ⟨[.type "enumerate", .ref d], []⟩) (fun _ R s => ((d == sysModules) = false ∧ s.heap.get? d = some od ∧ od.ExactDict ∧ od.data = .dict es ep) ∧
      R (.ok (.ret (.ref (s.heap.push { cls := .type "dict_keyiterator", data := .fields #[.ref d, .int 0 0, .int es.size 0, .int ep 0] }).objs.size)))
        { s with heap := (s.heap.push { cls := .type "dict_keyiterator", data := .fields #[.ref d, .int 0 0, .int es.size 0, .int ep 0] }).push { cls := .type "enumerate", data := .fields #[.none, .bool false, .ref s.heap.objs.size, rawInt 0, .none, .none] } }) :=
  .of_wp fun prog w A R s h => by
    obtain ⟨hp, g, d', tk, os⟩ := s; obtain ⟨⟨hL0, hL1, hL2, hL3⟩, h⟩ := h
    have hsub := sub_enumerate
    wp_walk using wpAny_loadPart' hL1
    refine wpAny_stack_any fun st => wpAny_pure ?_
    split
    · rename_i c _ _ _ _ _
      cases (c == Value.type "enumerate")
      · wp_walk using wpAny_loadPart' hL1, L2.iter_keys hL0 hL1 hL2 hL3
        exact ⟨_, rfl, h⟩
      · wp_walk using wpAny_loadPart' hL1, L2.iter_keys hL0 hL1 hL2 hL3
        exact ⟨_, rfl, h⟩
    · wp_walk using wpAny_loadPart' hL1, L2.iter_keys hL0 hL1 hL2 hL3
      exact ⟨_, rfl, h⟩
section
variable {prog : Program} {w : World} {A : Around} {E : Value → Shared → Prop} {s : Shared}
theorem call_enumerate_dict {d : Addr} {od : Obj} {es : Array DictEntry} {ep : Nat} {Q : Value → Shared → Prop} (h0 : (d == sysModules) = false) (h1 : s.heap.get? d = some od) (h2 : od.ExactDict) (h3 : od.data = .dict es ep)
    (h : ∀ h', IsEnum h' (s.heap.objs.size + 1) s.heap.objs.size 0 .none → h'.IsKeyIter s.heap.objs.size d 0 es.size ep → h'.objs.size = s.heap.objs.size + 2 →
      (∀ b o, s.heap.get? b = some o → h'.get? b = some o) → Q (.ref (s.heap.objs.size + 1)) { s with heap := h' }) :
    wpAny (model prog w) A (call (.type "enumerate") [.ref d]) Q E s := by
  refine callType_new F.called_enumerate (by decide) (F.typeCall_enumerate_1 _) (F.newCall_enumerate_1 _) (fun obj => F.args_object_init_2 obj _) F.entry_enumerate_new
    (meets_enumerate_newD d od es ep) ⟨⟨h0, h1, h2, h3⟩, ?_⟩
  have hz : (s.heap.push { cls := .type "dict_keyiterator", data := .fields #[.ref d, .int 0 0, .int es.size 0, .int ep 0] }).objs.size = s.heap.objs.size + 1 := Heap.size_push ..
  show _ ∧ _
  rw [hz]
  have he : IsEnum ((s.heap.push { cls := .type "dict_keyiterator", data := .fields #[.ref d, .int 0 0, .int es.size 0, .int ep 0] }).push
      { cls := .type "enumerate", data := .fields #[.none, .bool false, .ref s.heap.objs.size, rawInt 0, .none, .none] }) (s.heap.objs.size + 1) s.heap.objs.size 0 .none := by
    have := Heap.get?_push_size (s.heap.push { cls := .type "dict_keyiterator", data := .fields #[.ref d, .int 0 0, .int es.size 0, .int ep 0] })
      (o := { cls := .type "enumerate", data := .fields #[.none, .bool false, .ref s.heap.objs.size, rawInt 0, .none, .none] }) rfl
    rw [hz] at this; exact this
  refine ⟨⟨_, he, rfl⟩, h _ he ⟨_, Heap.get?_push_of_some _ (Heap.get?_push_size _ rfl), rfl, rfl⟩ (by rw [Heap.size_push, hz]) fun b o x => Heap.get?_push_of_some _ (Heap.get?_push_of_some _ x)⟩
end
end PySem
namespace Own
open PySem PySem.Spec PyProof.Rows L2
/-- the keys of the locked dict at d, each in a new pair -/
def IteD (d : Addr) (o : Obj) (kvs : List (Key × V)) : It :=
  ⟨fun i H => H d = some (.frz o (.dK kvs)) ∧ i < kvs.length, fun i H v H' => ∃ T k u, v = .ref T ∧ H T = none ∧ H' = upd H T (.tup [.int (i : Nat), kV k]) ∧ kvs[i]? = some (k, u), fun i H => H d = some (.frz o (.dK kvs)) ∧ kvs.length = i⟩
theorem turn_enumD {P : Program} {w : World} {K : PySem.W.Frag} {elts : List Expr} {kk : Nat} {tpos : Pos} {d : Addr} {o : Obj} {es : Array DictEntry} {ep : Nat} {kvs : List (Key × V)} (e it : Addr) (hod : o.data = .dict es ep) (hei : e ≠ it) (hed : e ≠ d) (hdi : d ≠ it) :
    Turn P w K (.Tuple elts kk tpos) (IteD d o kvs) [e, it] e (fun i h => (∃ old, IsEnum h e it ((i : Nat) : Int) old) ∧ h.IsKeyIter it d i es.size ep) where
  mem := by simp
  obj := fun i h st b hb => by
    obtain ⟨⟨old, he⟩, ⟨o, ho, hc, hd⟩⟩ := st
    have e' : b = e ∨ b = it := by simpa using hb
    rcases e' with z | z
    · rw [z]; exact ⟨_, he, fun v q => nomatch q⟩
    · rw [z]; exact ⟨o, ho, fun v q => by rw [hd] at q; cases q⟩
  keep := fun i h h' st k => let ⟨⟨old, he⟩, hi⟩ := st; ⟨⟨old, k e (by simp) _ he⟩, hi.at fun o q => k it (by simp) o q⟩
  item := by
    intro X hP hw hK hc i pins s σ H E I hf st hg
    subst hP hw hK
    obtain ⟨⟨old, he⟩, hit⟩ := st
    obtain ⟨hd, hi⟩ := hg
    obtain ⟨hs, hgd, hx, es', ep', vs, hdt, hsz, kv, hm⟩ := I.frzK hd
    obtain ⟨rfl, rfl⟩ := dict_ep hod hdt
    obtain ⟨⟨k, u⟩, hku⟩ : ∃ p, kvs[i]? = some p := ⟨kvs[i], List.getElem?_eq_getElem hi⟩
    obtain ⟨u', hu, ru⟩ := kv_get kv hku
    obtain ⟨od, es2, ho2, hx2, hdt2, hk2, hp2, hn2⟩ := id hm
    rw [hgd] at ho2
    cases ho2
    rw [hod] at hdt2
    cases hdt2
    have hlt : i < es'.size := by rw [hsz]; exact hi
    have hkey : keyIs k es'[i].key = true := (hp2.get? (e := es'[i]) (by simp [hlt]) hu).1
    have hel : e < s.heap.objs.size := Heap.lt_size he
    have hil : it < s.heap.objs.size := by obtain ⟨_, q, _⟩ := hit; exact Heap.lt_size q
    refine wpAny_pyNext_enum_itemD (Draws.keys (A := X.A.in1) (I.ok.hd hc) it d hdi o es' ep' hod) he ⟨hit, hgd⟩ hlt hei (by simp [hei, hed]) fun v h' tk hv ho hit' hT hsz' hk => ?_
    obtain ⟨en, hen, ev⟩ := hv
    have en' : en = es'[i] := by
      rw [Array.getElem?_eq_getElem hlt] at hen
      exact (Option.some.inj hen).symm
    subst en'
    have rk : RelV (kV k) v := by rw [ev]; exact relV_key hkey
    refine ⟨_, rfl, wpAny_letOwnedTupleGo_enum (s := { s with heap := h', toks := tk + 1 }) ho fun h'' he' sb => ?_⟩
    have hT2 : h''.get? s.heap.objs.size = some { cls := .type "tuple", data := .seq #[.int i tk, v] } := (sb.2 _ (Nat.ne_of_gt hel)).trans hT
    have new : ObjOk X.prog X.w (upd H s.heap.objs.size (.tup [.int (i : Nat), kV k])) h'' s.heap.objs.size (.tup [.int (i : Nat), kV k]) :=
      ⟨by show 2 ≤ sizeLine; decide, [.int i tk, v], .cons ⟨_, rfl⟩ (.cons rk .nil), ⟨_, hT2, rfl, _, rfl⟩⟩
    have I1 : Inv X pins σ (upd H s.heap.objs.size (.tup [.int (i : Nat), kV k])) { s with heap := h'', toks := tk + 1 } :=
      I.turnedNew (ch := [e, it]) (fun b ob hb q => (sb.2 b (fun z => hb (by simp [z]))).trans (hk b ob (fun z => hb (by simp [z])) (fun z => hb (by simp [z])) q)) hf (Nat.le_refl _) new
    refine ⟨.ref s.heap.objs.size, _, I1, rfl, ⟨_, k, u, rfl, I.hok.fresh (Nat.le_refl _), rfl, hku⟩, ⟨⟨v, ?_⟩, hit'.1.at fun o q => (sb.2 it (Ne.symm hei)).trans q⟩, fun b hb => ?_⟩
    · have e1 : ((i + 1 : Nat) : Int) = (i : Int) + 1 := by omega
      rw [e1]; exact he'
    · have hb' : b < s.heap.objs.size := by
        have e' : b = e ∨ b = it := by simpa using hb
        rcases e' with z | z
        · rw [z]; exact hel
        · rw [z]; exact hil
      rw [upd_ne (Nat.ne_of_lt hb')]
      exact (hf b hb).1
  done := by
    intro X hP hw hK hc i pins s σ H E I hf st hg
    subst hP hw hK
    obtain ⟨⟨old, he⟩, hit⟩ := st
    obtain ⟨hd, hi⟩ := hg
    obtain ⟨hs, hgd, hx, es', ep', vs, hdt, hsz, kv, hm⟩ := I.frzK hd
    obtain ⟨rfl, rfl⟩ := dict_ep hod hdt
    obtain ⟨f0, f1, f2, f3, f4, f5⟩ := hf it (by simp)
    have hl : i = es'.size := by rw [hsz]; exact hi.symm
    subst hl
    exact wpAny_pyNext_enum_endD (Draws.keys (A := X.A.in1) (I.ok.hd hc) it d hdi o es' ep' hod) he ⟨hit, hgd⟩ fun h' eb => ⟨rfl, I.turned (t' := s.toks) (fun b o hb q => eb b o hb q) f0 f1 f3 f4 f5⟩
  self := fun A i s Q E st h => let ⟨⟨_, he⟩, _⟩ := st; wpAny_pyIter_enum he h
def iEnumD (ta : TA) : TI := fun σ H R => ta σ H fun vs H1 => ∃ d o kvs, vs = [.ref d] ∧ H1 d = some (.frz o (.dK kvs)) ∧ R (IteD d o kvs) H1
theorem pi_enumD {X : Cx} {e : Expr} {ta : TA} {p pos tpos : Pos} {elts : List Expr} {kk : Nat} (hg : Gl X "enumerate") (hm : X.mg "enumerate" = none) (ha : PA X [e] ta) (hs : starEach [e] X.env = [(false, eval e X.env)] := by rfl) :
    PI X (.Tuple elts kk tpos) (.Call (.Name "enumerate" p) [e] [] pos) (iEnumD ta) := by
  refine ⟨fun pins s σ H R I h => ?_⟩
  refine Call_ (ld_blt I hg hm boot_enumerate (PyProof.Rows.callWith_type1 (thn (ha.run pos pins s σ H _ I h) fun us s1 ⟨vs, H1, I1, r1, q1⟩ => ?_) hs rfl))
  obtain ⟨d, o, kvs, ex, hd, q⟩ := q1
  subst ex
  cases r1 with
  | cons r rr =>
    cases rr
    cases r
    obtain ⟨hs', hgd, hx, es, ep, vs', hdt, hsz, kv, hm'⟩ := I1.frzK hd
    have hal : d < s1.heap.objs.size := Heap.lt_size hgd
    refine call_enumerate_dict hs' hgd hx hdt fun h' he hit hsz hk => wpAny_pyIter_enum he ?_
    have I2 : Inv X pins σ H1 { s1 with heap := h' } := I1.kept (t' := s1.toks) hk
    refine ⟨s1.heap.objs.size + 1, [s1.heap.objs.size + 1, s1.heap.objs.size], _, _, H1, rfl, I2, turn_enumD (s1.heap.objs.size + 1) s1.heap.objs.size hdt (Nat.succ_ne_self _) (Nat.ne_of_gt (Nat.lt_succ_of_lt hal)) (Nat.ne_of_lt hal), ⟨⟨.none, he⟩, hit⟩, fun b hb => ?_, q⟩
    have e' : b = s1.heap.objs.size + 1 ∨ b = s1.heap.objs.size := by simpa using hb
    have hle : s1.heap.objs.size ≤ b := by
      rcases e' with z | z
      · rw [z]; exact Nat.le_add_right _ _
      · rw [z]; exact Nat.le_refl _
    exact I1.fpOk hle (I1.hok.fresh hle)
theorem walk_enumD {d : Addr} {o : Obj} {kvs : List (Key × V)} : Walk (IteD d o kvs) kvs.length (fun H => H d = some (.frz o (.dK kvs))) (fun i H v H' => ∃ T k u, v = .ref T ∧ H T = none ∧ H' = upd H T (.tup [.int (i : Nat), kV k]) ∧ kvs[i]? = some (k, u)) :=
  ⟨fun i _ hi q => ⟨q, hi⟩, fun _ q => ⟨q, rfl⟩, fun i H v H' _ q y => y⟩
end Own
end

section
set_option maxRecDepth 100000
set_option maxHeartbeats 4000000
/-! enumerate of a dict -/
namespace Y
open PySem PySem.Spec PyProof.Rows L2
section
variable {α β γ δ : Type} {t : Ty α} {u : Ty β} {X : Xw} {k : Bool} {G : Ct} {K : PySem.W.Frag}
theorem enum_at {κ : Type} {ke : Ky κ} {tk : Ty κ} (ky : KyT ke tk) {td : TE} {W1 : Wd} {H1 : Hp} {σ : L2.St} {a : Addr} {od : Obj} {ws : List (Key × V)} {kvs : List (κ × α)} {Wz : Wd} {Hz : Hp} (hs : Holds G W1 H1 σ) (w : W1 a = .lk) (h : H1 a = some (.frz od (.dK ws)))
    (pp : Paired (fun (p : Key × V) q => p.1 = ke.k q.1 ∧ t.R Wz Hz p.2 q.2) ws kvs) (f : ∀ Q : VK, Q (.ref a) H1 → td σ H1 Q) {P : Ct → List (Int × κ) → Prop} (p : P G (enumZ (kvs.map (·.1)))) : EiAt k (Own.iEnumD (tCons td tNil)) G W1 H1 σ (tT2 K tInt tk) P := fun R q => by
  refine f _ ⟨a, od, ws, rfl, h, ?_⟩
  refine q _ W1 H1 G _ _ _ p (.refl hs) (by rw [enumZ_len, List.length_map, ← pp.length]; exact Own.walk_enumD) (fun W2 H2 g2 _ => (g2.k a _ h (.inr (.inl w))).1) fun W2 H2 i v H3 g2 ok2 hi hy => ?_
  obtain ⟨T, k, v', rfl, hT, rfl, hk⟩ := hy
  obtain ⟨z, hz, r, _⟩ := paired_getL pp hk
  have gn := GoE.new (W := W2) (o := .tup [.int (i : Nat), kV k]) hT
  refine ⟨((i : Int), z.1), W2, by rw [enumZ_get, List.getElem?_map, hz]; rfl, gn, ok2.new hT trivial, T, _, _, rfl, rdNew ok2 hT, rfl, (ky.ok _ _ _ _).mpr (congrArg kV r)⟩
theorem ev_dcE {κ : Type} [DecidableEq δ] {ke0 : Ky κ} {tk0 : Ty κ} (ky0 : KyT ke0 tk0) {ke : Ky δ} {tk : Ty δ} (ky : KyT ke tk) {td : TE} {g : TG} {tt : TT} {tek tev : TE} {vs : List Nat} {P : Ct → List (δ × β) → Prop} {kvs : List (κ × α)} (I : Nat → List (δ × β) → Prop) (hd : Ap td G (tDk ke0 t) fun x => x = kvs) (hz : kvs.length < sizeLine) (fr : G.frees vs) (i0 : I 0 [])
    (ht : ∀ i x ys, (enumZ (kvs.map (·.1)))[i]? = some x → I i ys → Tg g (Ct.wipe G.lk vs) (tT2 K tInt tk0) x vs fun G2 => Et x0 true tt G2 fun G3 b => (b = true → Ev x0 true tek G3 tk fun G4 kk => Ev x0 true tev G4 u fun _ y => I (i + 1) (ys ++ [(kk, y)])) ∧ (b = false → I (i + 1) ys)) (he : ∀ ys, I kvs.length ys → P G (mkD ys)) :
    EvR X k (tEitherE (tLockE (tDc (Own.iEnumD (tCons td tNil)) g tt tek tev vs)) (tDc (Own.iEnumD (tCons td tNil)) g tt tek tev vs)) G (.ow (oD ke u)) P := fun W H σ Q hs ex q => by
  obtain ⟨v, x, rfl, ⟨a, ws, rfl, rd, pp⟩, f⟩ := hd W H σ hs
  refine lock_ev (r := .ow (oD ke u)) hs rd (fun W1 H1 od Q1 w1 h1 mv1 hs1 q1 => ?_) q
  exact dc_core ky (P := fun G' x => P (G'.op G.n) x) (enum_at (K := K) ky0 hs1 w1 h1 pp (fun Q q => f W1 H1 Q mv1 hs1.ok q) (P := fun G1 xs => ∃ I : Nat → List (δ × β) → Prop, xs.length < sizeLine ∧ G1.frees vs ∧ I 0 [] ∧ (∀ i x ys, xs[i]? = some x → I i ys → Tg g (G1.wipe vs) (tT2 K tInt tk0) x vs fun G2 => Et x0 true tt G2 fun G3 b => (b = true → Ev x0 true tek G3 tk fun G4 kk => Ev x0 true tev G4 u fun _ y => I (i + 1) (ys ++ [(kk, y)])) ∧ (b = false → I (i + 1) ys)) ∧ ∀ ys, I xs.length ys → P (G1.op G.n) (mkD ys)) ⟨I, by rw [enumZ_len, List.length_map]; exact hz, fr, i0, ht, by rw [enumZ_len, List.length_map]; exact he⟩) q1
end
end Y
namespace Y
open PySem PySem.Spec PyProof.Rows L2
theorem pe_lock_either {X : Cx} {e : Expr} {te : TE} (h : PE X e te) : PE X e (tEitherE (tLockE te) te) := pe_either (pe_lock h) h
end Y
namespace Y
open PySem PySem.Spec PyProof.Rows L2
section
variable {α ρ : Type} {F : Fx ρ} {G : Ct} {N B C : Ct → Prop} {t : Ty α} {K : PySem.W.Frag} {D : Addr}
/-- self.f = e, where e writes one's own -/
theorem blk_fldM {to tv : TE} {f : Str} (c : Cls K D) (na : NoAttr K D f) (h : Ev F.X false tv G t fun G1 x => ∃ q up fl, Pw to G1 q (oIns D fl) () up ∧ fl.length < 1000 ∧ N (up (.ow (oIns D (putS f (.sh t x) fl)) ()))) : Blk F (sFld K to tv f) G N B C := fun W0 H0 W H σ E g hs n _ _ _ ex => by
  refine h W H σ _ hs (exo ex g) fun v W1 H1 G1 x ⟨q, up, fl, pw, hl, hn⟩ m r => ?_
  obtain ⟨⟨i, r0, rfl, ni⟩, _⟩ := id pw
  refine fld_core (s := .sh t x) (v := v) c na hl pw m.hs .refl m.hs.ok (fun a o wa => t.go r (upd_mv wa)) _ fun a H' g2 hs2 ⟨C2, dx, fs, h1, h2, h3, h4, h5⟩ => ⟨a, C2, dx, fs, rfl, h1, h2, h3, h4, ?_⟩
  subst h5
  exact n _ W1 _ σ hn ((g.trans m.go).trans g2) hs2
end
end Y
end

section
set_option maxRecDepth 100000
set_option maxHeartbeats 4000000
namespace KK
open PySem PySem.Spec PyProof.Rows L2 Y
abbrev Lit := Str × Bool
abbrev tLit (K : PySem.W.Frag) : Y.Ty Lit := tT2 K tStr tBl
structure SidesC (K : PySem.W.Frag) (C : Addr) : Prop where
  cl : Cls K C
  nn : NoAttr K C "_numbers"
  ns : NoAttr K C "_source"
  nk : NoAttr K C "_sink"
  nf : NoAttr K C "_flow"
  na : NoAttr K C "_arcs"
  nt : NoAttr K C "total"
def opp (l : Lit) : Lit := (l.1, !l.2)
def numsOf (ns : List Str) : List (Str × Int) := ns.zipIdx.map fun p => (p.1, (p.2 : Int))
def ix (ns : List Str) (x : Str) : Int := (ns.idxOf x : Nat)
def node (ns : List Str) (l : Lit) : Int := 2 * ix ns l.1 + (if l.2 then 1 else 0)
theorem look_cons {κ α : Type} [DecidableEq κ] (k x : κ) (v : α) (d : List (κ × α)) : lookK ((k, v) :: d) x = if k = x then some v else lookK d x := by
  unfold lookK
  rw [List.find?_cons]
  by_cases e : k = x
  · rw [if_pos e, show decide ((k, v).1 = x) = true from decide_eq_true e]; rfl
  · rw [if_neg e, show decide ((k, v).1 = x) = false from decide_eq_false e]
theorem look_nums {ns : List Str} {x : Str} (h : x ∈ ns) : lookK (numsOf ns) x = some (ix ns x) := by
  have key : ∀ (ns : List Str) (k : Nat), x ∈ ns → lookK ((ns.zipIdx k).map fun p => (p.1, (p.2 : Int))) x = some (((ns.idxOf x + k : Nat)) : Int) := by
    intro ns
    induction ns with
    | nil => intro k h; simp at h
    | cons a ns ih =>
      intro k h
      rw [List.zipIdx_cons, List.map_cons, look_cons]
      by_cases e : a = x
      · subst e
        rw [if_pos rfl, List.idxOf_cons_self, Nat.zero_add]
      · rw [if_neg e]
        have hm : x ∈ ns := by
          rcases List.mem_cons.mp h with z | z
          · exact absurd z.symm e
          · exact z
        rw [ih (k + 1) hm, List.idxOf_cons, show (a == x) = false from beq_eq_false_iff_ne.mpr e, cond_false]
        congr 2
        omega
  exact key ns 0 h
theorem ix_lt {ns : List Str} {x : Str} (h : x ∈ ns) : 0 ≤ ix ns x ∧ ix ns x < ns.length := by
  have := List.idxOf_lt_length_iff.mpr h
  unfold ix
  omega
abbrev ctOpp (K : PySem.W.Frag) : Y.CT Lit := ⟨false, .sh (tLit K), fun as P _ => ∃ l, as = [.sh (tLit K) l] ∧ ∀ os, P os (opp l)⟩
abbrev ctNode (K : PySem.W.Frag) (CS : Addr) : Y.CT Int := ⟨false, .sh tInt, fun as P _ => ∃ (fl : List (Str × Sl)) (ns : List Str) (l : Lit), as = [.sh (tIns CS fl) (), .sh (tLit K) l] ∧ (fl[0]? = some (("_numbers" : Str), Sl.sh (tDk kS tInt) (numsOf ns)) ∧ (fl.map (·.1)).idxOf ("_numbers" : Str) = 0 ∧ l.1 ∈ ns) ∧ ∀ os, P os (node ns l)⟩
section
variable {P : Program} {w : World} {K : PySem.W.Frag} {mg : Str → Option Value} {base : Heap} {C CS : Addr}
abbrev NYopposite : List Str := ["literal", "name", "flag"]
theorem scYopposite : FnScope NYopposite ["literal"] (defScope s_opposite) := ⟨rfl, rfl, rfl, by decide +kernel, rfl, by decide +kernel, by decide +kernel⟩
theorem y_opp (F : Has K mg "opposite" s_opposite) : C8.Cal P w K mg base 1 "opposite" (Y.spZ (ctOpp K)) [] := by
  refine calF F (fun f fd F => F.binds (ps := ["literal"]) fun _ _ _ _ _ _ us hl => match us, hl with | [_], _ => rfl) scYopposite (fun vs H Q E h => zlen (fun as P XP hc => by obtain ⟨_, rfl, _⟩ := hc; rfl) h) (fun f cdv A outer s H vs Q E hr h => ?_)
  have hu := hu_of hr
  refine ⟨_, (pss_cons (ps_asg (pv 0) (pg_tup rfl (pgs_cons (pg_name (i := 1) scYopposite.nd rfl (Or.inl rfl)) (pgs_cons (pg_name (i := 2) scYopposite.nd rfl (Or.inl rfl)) pgs_nil))))
      (pss_one (ps_ret (pe_tup (pa_cons (pv 1) (pa_cons (pe_not (pv 2)) pa_nil)))))), zrun h ?_⟩
  rintro as P XP ⟨l, rfl, hp⟩ hl
  obtain ⟨p0, rfl⟩ := len1 hl
  refine ⟨2, rfl, by decide, ?_⟩
  refine blk_seq (blk_asg (vs := [1, 2]) (ev_var rfl (tg_tup2 (tg_name (by decide) (free_of rfl) (tg_name (by decide) (free_of rfl) ?_)))))
  exact blk_ret (ev_t2 (ev_var rfl (ev_not (ev_var rfl (fin0 [_] _ hp)))))
abbrev NYSidesnode : List Str := ["self", "literal", "name", "flag"]
theorem scYSidesnode : FnScope NYSidesnode ["self", "literal"] (defScope s_Sides_node) := ⟨rfl, rfl, rfl, by decide +kernel, rfl, by decide +kernel, by decide +kernel⟩
theorem y_node (T : Blt mg) (CC : SidesC K CS) (F : HasM K CS "_node" "Sides._node" s_Sides_node) : C8.Met P w K mg base 1 CS "_node" (Y.spZ (ctNode K CS)) [] := by
  refine metF CC.cl F (fun f fd F => F.binds (ps := ["self", "literal"]) fun _ _ _ _ _ _ us hl => match us, hl with | [_, _], _ => rfl) scYSidesnode (fun vs H Q E h => zlen (fun as P XP hc => by obtain ⟨_, _, _, rfl, _⟩ := hc; rfl) h) (fun f cdv A outer s H vs Q E hr h => ?_)
  have hu := hu_of hr
  refine ⟨_, (pss_cons (ps_asg (pv 1) (pg_tup rfl (pgs_cons (pg_name (i := 2) scYSidesnode.nd rfl (Or.inl rfl)) (pgs_cons (pg_name (i := 3) scYSidesnode.nd rfl (Or.inl rfl)) pgs_nil))))
      (pss_one (ps_ret (pe_op op_add (pe_op op_mul pe_int (pe_dget hu (pe_fld (pv 0) rfl) (pv 2) (fun _ _ => rfl))) (pe_ifExp (pt_val (pv 3)) pe_int pe_int))))), zrun h ?_⟩
  rintro as P XP ⟨fl, ns, l, rfl, ⟨h0, h1, hm⟩, hp⟩ hl
  obtain ⟨p0, p1, rfl⟩ := len2 hl
  refine ⟨2, rfl, by decide, ?_⟩
  refine blk_seq (blk_asg (vs := [2, 3]) (ev_var rfl (tg_tup2 (tg_name (by decide) (free_of rfl) (tg_name (by decide) (free_of rfl) ?_)))))
  refine blk_ret (ev_op ro_I0 (ev_op ro_I (ev_c (t := tInt) (fun _ _ => rfl) (ev_dget kyS (ev_fld (fo_sh (fl := fl) (t := tDk kS tInt) 0 CC.cl CC.nn h0 h1) (ev_var rfl (ev_var rfl ⟨_, look_nums hm, .inl ⟨by decide, by decide⟩, ?_⟩)))))))
  refine ev_if (et_b (ev_var rfl ⟨fun hb => ev_c (t := tInt) (fun _ _ => rfl) ?_, fun hb => ev_c (t := tInt) (fun _ _ => rfl) ?_⟩))
  · have : node ns l = 2 * ix ns l.1 + 1 := by unfold node; rw [hb]; rfl
    exact fin0 [_, _] _ (by rw [← this]; exact hp)
  · have : node ns l = 2 * ix ns l.1 + 0 := by unfold node; rw [hb]; rfl
    exact fin0 [_, _] _ (by rw [← this]; exact hp)
end
end KK
end

section
set_option maxRecDepth 100000
set_option maxHeartbeats 4000000
namespace KK
open PySem PySem.Spec PyProof.Rows L2 Y
def gD (d : List (Str × Int)) (x : Str) : Int := (lookK d x).getD 0
abbrev Row := Lit × Lit
abbrev tRow (K : PySem.W.Frag) : Y.Ty Row := tT2 K (tLit K) (tLit K)
def nameLk (ns : List Str) (left right : List (Str × Int)) (x : Str) : List Lk := [(2 * (ns.length : Int), node ns (x, false), gD left x), (node ns (x, true), 2 * (ns.length : Int) + 1, gD right x)]
def rowLk (ns : List Str) (wd : Int) (p : Row) : List Lk := [(node ns (opp p.1), node ns p.2, wd), (node ns (opp p.2), node ns p.1, wd)]
def wideOf (ns : List Str) (left : List (Str × Int)) : Int := 1 + (ns.map (gD left)).sum
def links (ns : List Str) (left right : List (Str × Int)) (rows : List Row) : List Lk := ns.flatMap (nameLk ns left right) ++ rows.flatMap (rowLk ns (wideOf ns left))
def arcL (N m : Nat) : List (Int × Int) := (List.range m).map fun (j : Nat) => (4 * (N : Int) + 4 * (j : Int), 4 * (N : Int) + 4 * (j : Int) + 2)
section
variable (K : PySem.W.Frag) (C : Addr)
abbrev fl1 (ns : List Str) : List (Str × Sl) := [("_numbers", .sh (tDk kS tInt) (numsOf ns))]
abbrev fl2 (ns : List Str) : List (Str × Sl) := [("_numbers", .sh (tDk kS tInt) (numsOf ns)), ("_source", .sh tInt (2 * (ns.length : Int)))]
abbrev fl3 (ns : List Str) : List (Str × Sl) := [("_numbers", .sh (tDk kS tInt) (numsOf ns)), ("_source", .sh tInt (2 * (ns.length : Int))), ("_sink", .sh tInt (2 * (ns.length : Int) + 1))]
abbrev fl4 (ns : List Str) (hs rs : List Int) (ls : List (List Int)) : List (Str × Sl) := [("_numbers", .sh (tDk kS tInt) (numsOf ns)), ("_source", .sh tInt (2 * (ns.length : Int))), ("_sink", .sh tInt (2 * (ns.length : Int) + 1)), ("_flow", .ow (oFlow K C hs rs ls) ())]
abbrev fl5 (ns : List Str) (hs rs : List Int) (ls : List (List Int)) (arcs : List (Int × Int)) : List (Str × Sl) := [("_numbers", .sh (tDk kS tInt) (numsOf ns)), ("_source", .sh tInt (2 * (ns.length : Int))), ("_sink", .sh tInt (2 * (ns.length : Int) + 1)), ("_flow", .ow (oFlow K C hs rs ls) ()), ("_arcs", .ow (oL K (tT2 K tInt tInt)) arcs)]
abbrev fl6 (ns : List Str) (hs rs : List Int) (ls : List (List Int)) (arcs : List (Int × Int)) (tot : Int) : List (Str × Sl) := [("_numbers", .sh (tDk kS tInt) (numsOf ns)), ("_source", .sh tInt (2 * (ns.length : Int))), ("_sink", .sh tInt (2 * (ns.length : Int) + 1)), ("_flow", .ow (oFlow K C hs rs ls) ()), ("_arcs", .ow (oL K (tT2 K tInt tInt)) arcs), ("total", .sh tInt tot)]
end
/-- what the two sides are -/
structure SidesR (ns : List Str) (left right : List (Str × Int)) (rows : List Row) (hs rs0 rs : List Int) (ls : List (List Int)) (tot : Int) (lv : List Int) : Prop where
  bt : Built (2 * ns.length + 2) (links ns left right rows) hs rs0 ls
  ag : Aug (2 * ns.length + 2) hs rs0 ls (2 * (ns.length : Int)) (2 * (ns.length : Int) + 1) rs tot
  lev : Lev (2 * ns.length + 2) hs rs ls [2 * (ns.length : Int)] lv
  no : g0 lv (2 * (ns.length : Int) + 1) < 0
abbrev ctSides (K : PySem.W.Frag) (CS C : Addr) : Y.CT Unit := ⟨true, .sh tNon, fun as P _ => ∃ (rows : List Row) (left right : List (Str × Int)), as = [.ow (oIns CS []) (), .sh (tLs K (tRow K)) rows, .sh (tDk kS tInt) left, .sh (tDk kS tInt) right] ∧
  ((left.map (·.1)).Nodup ∧ left.length ≤ 40 ∧ rows.length ≤ 400 ∧ (∀ p ∈ rows, p.1.1 ∈ left.map (·.1) ∧ p.2.1 ∈ left.map (·.1)) ∧ (∀ x ∈ left.map (·.1), ∃ v, lookK right x = some v ∧ 0 ≤ v) ∧ (∀ x ∈ left.map (·.1), 0 ≤ gD left x)) ∧
  ∀ hs rs0 rs ls tot lv, SidesR (left.map (·.1)) left right rows hs rs0 rs ls tot lv → ∀ o1 o2 o3, P [.ow (oIns CS (fl6 K C (left.map (·.1)) hs rs ls (arcL left.length rows.length) tot)) (), o1, o2, o3] ()⟩
section
variable {P : Program} {w : World} {K : PySem.W.Frag} {mg : Str → Option Value} {base : Heap} {C CS : Addr}
theorem view_own {G : Ct} {fl : List (Str × Sl)} (e0 : G.s[0]? = some (.ow (oIns CS fl) ())) : G.view.s[0]? = some (.sh (tIns CS fl) ()) := by
  show (G.s.map Sl.view)[0]? = _
  rw [List.getElem?_map, e0]
  rfl
theorem view_sh {α : Type} {t : Y.Ty α} {x : α} {G : Ct} {i : Nat} (e0 : G.s[i]? = some (.sh t x)) : G.view.s[i]? = some (.sh t x) := by
  show (G.s.map Sl.view)[i]? = _
  rw [List.getElem?_map, e0]
  rfl
theorem ev_self {X : Xw} {k : Bool} {G : Ct} {fl : List (Str × Sl)} {f : Str} (j : Nat) {v : Int} {Po : Ct → Int → Prop} (c : Cls K CS) (na : NoAttr K CS f) (h : Po G v) (hj : fl[j]? = some (f, .sh tInt v) := by rfl) (hi : (fl.map (·.1)).idxOf f = j := by rfl) (e0 : G.s[0]? = some (.ow (oIns CS fl) ()) := by rfl) :
    EvR X k (tFld K (tVar 0) f) G (.sh tInt) Po := ev_view (r := .sh tInt) flI (ev_fld (fo_sh (fl := fl) (t := tInt) j c na hj hi) (ev_var (view_own e0) h))
theorem ev_node {X : Xw} {k : Bool} {G : Ct} {E : XK} {fl : List (Str × Sl)} {ns : List Str} {l : Lit} {te : TE} {Po : Ct → Int → Prop} (hm : l.1 ∈ ns) (h : Po G (node ns l)) (nf : ¬ ("_node" : Str) ∈ fl.map (·.1)) (ht : ∀ {X : Xw}, Ev X true te G.view (tLit K) fun G' x => x = l ∧ G' = G.view) (h0 : fl[0]? = some (("_numbers" : Str), Sl.sh (tDk kS tInt) (numsOf ns)) := by rfl) (h1 : (fl.map (·.1)).idxOf ("_numbers" : Str) = 0 := by rfl)
    (e0 : G.s[0]? = some (.ow (oIns CS fl) ()) := by rfl) : EvR X k (tMeth CS "_node" (Y.spZ (ctNode K CS)) [] E (tVar 0) (tCons te tNil)) G (.sh tInt) Po := by
  refine ev_view (r := .sh tInt) flI (ev_meth0 (inst_t (fl := fl) nf) (ev_var (view_own e0) (ea_cons (ht.mono ?_))))
  rintro _ x ⟨rfl, rfl⟩
  exact ea_nil ⟨fun h => (nomatch h), allc trivial (all1 trivial), fl, ns, x, rfl, ⟨h0, h1, hm⟩, fun os => h⟩
theorem Built.short {n : Nat} {L : List Lk} {hs rs : List Int} {ls : List (List Int)} (B : Built n L hs rs ls) : ∀ l ∈ ls, l.length ≤ 2 * L.length := fun l hl => by
  obtain ⟨u, hu⟩ := List.getElem?_of_mem hl
  have hul := (List.getElem?_eq_some_iff.mp hu).1
  have e : gl ls (u : Int) = l := by
    unfold gl
    rw [Int.toNat_natCast, List.getD_eq_getElem?_getD, hu]
    rfl
  rw [← e, B.gs _ (by omega) (by rw [← B.ln]; omega)]
  have h : ∀ l : List (Lk × Nat), (l.flatMap (lkArcs (u : Int))).length ≤ 2 * l.length := by
    intro l
    induction l with
    | nil => exact Nat.le_refl _
    | cons a l ih =>
      rw [List.flatMap_cons, List.length_append, List.length_cons]
      have : (lkArcs (u : Int) a).length ≤ 2 := by
        unfold lkArcs
        split <;> split <;> simp
      omega
  have := h L.zipIdx
  rw [List.length_zipIdx] at this
  exact this
/-- one link more -/
theorem ev_link {X : Xw} {G : Ct} {E : XK} {n : Nat} {L : List Lk} {hs rs : List Int} {ls : List (List Int)} {fl : List (Str × Sl)} {a b r : Int} {ta : TA} {Po : Ct → Int → Prop} (CC : SidesC K CS) (B : Built n L hs rs ls) (hL : L.length ≤ 4000) (a0 : 0 ≤ a) (a1 : a < n) (b0 : 0 ≤ b) (b1 : b < n)
    (ha : Ea X true ta G fun _ as => as = [.sh tInt a, .sh tInt b, .sh tInt r])
    (h : ∀ hs' rs' ls', Built n (L ++ [(a, b, r)]) hs' rs' ls' → Po (G.set 0 (.ow (oIns CS (fl.set 3 ("_flow", .ow (oFlow K C hs' rs' ls') ()))) ())) (2 * (L.length : Int)))
    (hj : fl[3]? = some (("_flow" : Str), .ow (oFlow K C hs rs ls) ()) := by rfl) (hi : (fl.map (·.1)).idxOf ("_flow" : Str) = 3 := by rfl) (e0 : G.s[0]? = some (.ow (oIns CS fl) ()) := by rfl) :
    EvR X false (tMeth C "link" (Y.spZ (ctLink K C)) [] E (tFld K (tVar 0) "_flow") ta) G (.sh tInt) Po := by
  have hl := B.hl
  have rl := B.rl
  refine ev_methP0 (inst_o (fl := flF K hs rs ls) (show ¬ ("link" : Str) ∈ [("_heads" : Str), "_rooms", "_leaving"] by decide)) (pw_fld (fl := fl) CC.cl CC.nf hj hi (pw_var (i := 0) e0 (by decide))) (fun W H σ Q hs' ex q => ha W H σ Q hs' ex fun vs W' H' G' as e m r' => q vs W' H' G' as ?_ m r')
  subst e
  refine ⟨fun h => (nomatch h), allc trivial (allc trivial (all1 trivial)), (fun os y => ∃ o1 o2 o3, os = [_, o1, o2, o3] ∧ y = (hs.length : Int)), ⟨hs, rs, ls, a, b, r, rfl, ⟨⟨a0, by rw [B.ln]; exact a1⟩, ⟨b0, by rw [B.ln]; exact b1⟩, by omega, by omega, fun l hl => by have := B.short l hl; omega⟩, fun o1 o2 o3 => ⟨o1, o2, o3, rfl, rfl⟩⟩, ?_⟩
  rintro os y ⟨o1, o2, o3, rfl, rfl⟩
  refine ⟨_, _, rfl, ?_⟩
  rw [show (hs.length : Int) = 2 * (L.length : Int) from by omega]
  have := h _ _ _ (B.snoc a0 a1 b0 b1 (r := r))
  rw [show (hs.length : Int) = 2 * (L.length : Int) from by omega] at this
  exact this
end
end KK
end

section
set_option maxRecDepth 100000
set_option maxHeartbeats 4000000
namespace KK
open PySem PySem.Spec PyProof.Rows L2 Y
theorem fits40 {n : Nat} (h : n ≤ 1000) : n < sizeLine := Nat.lt_of_le_of_lt h (by decide)
theorem enum_swap (ns : List Str) : (enumZ ns).map (fun p => (p.2, p.1)) = numsOf ns := by
  unfold enumZ numsOf
  rw [List.map_map]
  rfl
theorem nums_keys (ns : List Str) : (numsOf ns).map (·.1) = ns := by
  unfold numsOf
  rw [List.map_map]
  have : ∀ (ns : List Str) (k : Nat), (ns.zipIdx k).map ((fun p : Str × Int => p.1) ∘ fun p : Str × Nat => (p.1, (p.2 : Int))) = ns := by
    intro ns
    induction ns with
    | nil => intro k; rfl
    | cons a ns ih => intro k; rw [List.zipIdx_cons, List.map_cons, ih]; rfl
  exact this ns 0
theorem gD_of {d : List (Str × Int)} {x : Str} (h : x ∈ d.map (·.1)) : lookK d x = some (gD d x) := by
  unfold gD
  induction d with
  | nil => simp at h
  | cons p d ih =>
    obtain ⟨a, v⟩ := p
    rw [look_cons]
    by_cases e : a = x
    · rw [if_pos e]; rfl
    · rw [if_neg e]
      refine ih ?_
      rcases List.mem_cons.mp h with z | z
      · exact absurd z.symm e
      · exact z
theorem node_in {ns : List Str} {l : Lit} (h : l.1 ∈ ns) : 0 ≤ node ns l ∧ node ns l < 2 * (ns.length : Int) := by
  have := ix_lt h
  unfold node
  split <;> omega
theorem flat_take {α β : Type} (f : α → List β) (l : List α) (i : Nat) (x : α) (h : l[i]? = some x) : (l.take (i + 1)).flatMap f = (l.take i).flatMap f ++ f x := by
  rw [List.take_succ, h, List.flatMap_append]
  simp
theorem nameLks_len {ns : List Str} {left right : List (Str × Int)} : ∀ l : List Str, (l.flatMap (nameLk ns left right)).length = 2 * l.length
  | [] => rfl
  | a :: l => by rw [List.flatMap_cons, List.length_append, nameLks_len l, List.length_cons]; unfold nameLk; simp; omega
theorem rowLks_len {ns : List Str} {wd : Int} : ∀ l : List Row, (l.flatMap (rowLk ns wd)).length = 2 * l.length
  | [] => rfl
  | a :: l => by rw [List.flatMap_cons, List.length_append, rowLks_len l, List.length_cons]; unfold rowLk; simp; omega
theorem sum_nn : ∀ {l : List Int}, (∀ x ∈ l, 0 ≤ x) → 0 ≤ l.sum
  | [], _ => Int.le_refl _
  | a :: l, h => by
    have := sum_nn (l := l) fun x hx => h x (List.mem_cons_of_mem _ hx)
    have := h a List.mem_cons_self
    rw [List.sum_cons]
    omega
theorem wide_pos {ns : List Str} {left : List (Str × Int)} (h : ∀ x ∈ ns, 0 ≤ gD left x) : 1 ≤ wideOf ns left := by
  unfold wideOf
  have := sum_nn (l := ns.map (gD left)) fun x hx => by
    obtain ⟨y, hy, rfl⟩ := List.mem_map.mp hx
    exact h y hy
  omega
theorem links_nn {ns : List Str} {left right : List (Str × Int)} {rows : List Row} (h : ∀ x ∈ ns, 0 ≤ gD left x) (h2 : ∀ x ∈ ns, 0 ≤ gD right x) : ∀ p ∈ links ns left right rows, 0 ≤ p.2.2 := fun p hp => by
  unfold links at hp
  rcases List.mem_append.mp hp with hp | hp
  · obtain ⟨x, hx, hp⟩ := List.mem_flatMap.mp hp
    unfold nameLk at hp
    rcases List.mem_cons.mp hp with rfl | hp
    · exact h x hx
    · rw [List.mem_singleton] at hp
      subst hp
      exact h2 x hx
  · obtain ⟨x, hx, hp⟩ := List.mem_flatMap.mp hp
    have := wide_pos h
    unfold rowLk at hp
    rcases List.mem_cons.mp hp with rfl | hp
    · show 0 ≤ wideOf ns left; omega
    · rw [List.mem_singleton] at hp
      subst hp
      show 0 ≤ wideOf ns left; omega
section
variable {P : Program} {w : World} {K : PySem.W.Frag} {mg : Str → Option Value} {base : Heap} {C CS : Addr}
abbrev NYSidesinit : List Str := ["self", "rows", "left", "right", "name", "wide", "one", "two", "there", "back", "at"]
theorem scYSidesinit : FnScope NYSidesinit ["self", "rows", "left", "right"] (defScope s_Sides_init) := ⟨rfl, rfl, rfl, by decide +kernel, rfl, by decide +kernel, by decide +kernel⟩
theorem y_sides (T : Blt mg) (B_sum : mg "sum" = none) (CC : SidesC K CS) (F : (∃ f fd, Fun K "__init__" "Sides.__init__" s_Sides_init f fd ∧ Mk K CS f) ∧ mg "Sides" = some (.ref CS)) (YOPP : C8.Cal P w K mg base 1 "opposite" (Y.spZ (ctOpp K)) []) (YNODE : C8.Met P w K mg base 1 CS "_node" (Y.spZ (ctNode K CS)) [])
    (YFLOW : C8.Mak P w K mg base 1 "Flow" C (Y.spZ (ctFInit K C)) []) (YLINK : C8.Met P w K mg base 1 C "link" (Y.spZ (ctLink K C)) []) (YFILL : C8.Met P w K mg base 4 C "fill" (Y.spZ (ctFill K C)) []) : C8.Mak P w K mg base 5 "Sides" CS (Y.spZ (ctSides K CS C)) [] := by
  refine makY F (fun f fd F => F.binds (ps := ["self", "rows", "left", "right"]) fun _ _ _ _ _ _ us hl => match us, hl with | [_, _, _, _], _ => rfl) scYSidesinit (fun vs H Q E h => zlen (fun as P XP hc => by obtain ⟨_, _, _, rfl, _⟩ := hc; rfl) h) (fun f cdv A outer s H vs Q E hr h => ?_)
  have hu := hu_of hr
  refine ⟨_, (pss_cons (ps_fld (pv 0) (pe_lock_either (pe_dc (own := [("at", 10), ("name", 4)]) (g := gTup K 2 (gCons (gName 10) (gCons (gName 4) gNil))) rfl scYSidesinit.nd (Own.pi_enumD (by rfl) T.b_enumerate (pa_cons (pv 2) pa_nil)) (blkOk_by (own := [("at", 10), ("name", 4)]) (N := NYSidesinit) (sc := defScope s_Sides_init) (by decide +kernel)) (fun _ _ _ _ _ => (pg_tup rfl (pgs_cons (pg_name (i := 10) scYSidesinit.nd rfl (Or.inl rfl)) (pgs_cons (pg_name (i := 4) scYSidesinit.nd rfl (Or.inl rfl)) pgs_nil)))) (fun _ _ _ _ _ => pts_nil) (fun _ _ _ _ _ => (pv 4)) (fun _ _ _ _ _ => (pv 10)))) rfl)
      (pss_cons (ps_fld (pv 0) (pe_op op_mul pe_int (pe_callB call_lenD (by rfl) T.b_len PySem.boot_len (pa_cons (pv 2) pa_nil))) rfl)
      (pss_cons (ps_fld (pv 0) (pe_op op_add (pe_fld (pv 0) rfl) pe_int) rfl)
      (pss_cons (ps_fld (pv 0) (C8.pe_mk YFLOW hr (by decide) rfl (pa_cons (pe_op op_add (pe_fld (pv 0) rfl) pe_int) pa_nil)) rfl)
      (pss_cons (ps_forD PassesOwn.never rfl (pv 2) (pg_name (i := 4) scYSidesinit.nd rfl (Or.inl rfl))
        (pss_cons (ps_expr (C8.pe_mt YLINK hr (by decide) (pe_fld (pv 0) rfl) (pa_cons (pe_fld (pv 0) rfl) (pa_cons (C8.pe_mt YNODE hr (by decide) (pv 0) (pa_cons (pe_tup (pa_cons (pv 4) (pa_cons pe_bl pa_nil))) pa_nil)) (pa_cons (pe_dget hu (pv 2) (pv 4) (fun _ _ => rfl)) pa_nil)))))
      (pss_one (ps_expr (C8.pe_mt YLINK hr (by decide) (pe_fld (pv 0) rfl) (pa_cons (C8.pe_mt YNODE hr (by decide) (pv 0) (pa_cons (pe_tup (pa_cons (pv 4) (pa_cons pe_bl pa_nil))) pa_nil)) (pa_cons (pe_fld (pv 0) rfl) (pa_cons (pe_dget hu (pv 3) (pv 4) (fun _ _ => rfl)) pa_nil))))))))
      (pss_cons (ps_set (i := 5) scYSidesinit.nd rfl (Or.inl rfl) (pe_op op_add pe_int (pe_callB (cr_sum rfl) (by rfl) B_sum (by decide +kernel) (pa_cons (pe_lock_either (pe_lc (own := [("name", 4)]) (g := gName 4) (tt := tYes) rfl scYSidesinit.nd (pi_keys (pv 2)) (blkOk_by (own := [("name", 4)]) (N := NYSidesinit) (sc := defScope s_Sides_init) (by decide +kernel)) (fun _ _ _ _ _ => (pg_name (i := 4) scYSidesinit.nd rfl (Or.inl rfl))) (fun _ _ _ _ _ => pts_nil) (fun _ _ _ _ _ => (pe_dget hu (pv 2) (pv 4) (fun _ _ => rfl))))) pa_nil))))
      (pss_cons (ps_fld (pv 0) (pe_lst pa_nil) rfl)
      (pss_cons (ps_for PassesOwn.never rfl (pi_list (pv 1)) (pg_tup rfl (pgs_cons (pg_name (i := 6) scYSidesinit.nd rfl (Or.inl rfl)) (pgs_cons (pg_name (i := 7) scYSidesinit.nd rfl (Or.inl rfl)) pgs_nil)))
        (pss_cons (ps_set (i := 8) scYSidesinit.nd rfl (Or.inl rfl) (C8.pe_mt YLINK hr (by decide) (pe_fld (pv 0) rfl) (pa_cons (C8.pe_mt YNODE hr (by decide) (pv 0) (pa_cons (C8.pe_c YOPP hr (by decide) rfl (pa_cons (pv 6) pa_nil)) pa_nil)) (pa_cons (C8.pe_mt YNODE hr (by decide) (pv 0) (pa_cons (pv 7) pa_nil)) (pa_cons (pv 5) pa_nil)))))
      (pss_cons (ps_set (i := 9) scYSidesinit.nd rfl (Or.inl rfl) (C8.pe_mt YLINK hr (by decide) (pe_fld (pv 0) rfl) (pa_cons (C8.pe_mt YNODE hr (by decide) (pv 0) (pa_cons (C8.pe_c YOPP hr (by decide) rfl (pa_cons (pv 7) pa_nil)) pa_nil)) (pa_cons (C8.pe_mt YNODE hr (by decide) (pv 0) (pa_cons (pv 6) pa_nil)) (pa_cons (pv 5) pa_nil)))))
      (pss_one (ps_expr (pe_bm PySem.F.plainAttrs_list PySem.F.slot_list_append PySem.F.type_list_append mt_append (pe_fld (pv 0) rfl) (pa_cons (pe_tup (pa_cons (pv 8) (pa_cons (pv 9) pa_nil))) pa_nil)))))))
      (pss_one (ps_fld (pv 0) (C8.pe_mt YFILL hr (by decide) (pe_fld (pv 0) rfl) (pa_cons (pe_fld (pv 0) rfl) (pa_cons (pe_fld (pv 0) rfl) pa_nil))) rfl)))))))))), zrun h ?_⟩
  rintro as P XP ⟨rows, left, right, rfl, ⟨nd, l40, r400, hrow, hright, hleft⟩, hp⟩ hl
  obtain ⟨p0, p1, p2, p3, rfl⟩ := len4 hl
  refine ⟨7, rfl, by decide, ?_⟩
  obtain ⟨ns, ens⟩ : ∃ ns, ns = left.map (·.1) := ⟨_, rfl⟩
  have nl : ns.length = left.length := by rw [ens, List.length_map]
  rw [← ens] at nd hrow hright hleft hp
  rw [← nl] at hp
  have N40 : ns.length ≤ 40 := by omega
  have ltl : left.length < sizeLine := fits40 (by omega)
  refine blk_seq (blk_fld CC.cl CC.nn (Nat.le_of_ble_eq_true rfl) (pw_var (i := 0) rfl (by decide)) (EvR.share (O := oD kS tInt) (ev_dcE (K := K) (vs := [10, 4]) kyS kyS (fun i ys => ys = ((enumZ ns).take i).map fun p => (p.2, p.1)) (ap_var (i := 2) (x := left) rfl rfl) ltl ?_ rfl ?_ ?_)))
  · intro i hi
    rcases List.mem_cons.mp hi with rfl | hi
    · exact free_of rfl
    · rw [List.mem_singleton] at hi; subst hi; exact free_of rfl
  · rintro i x ys hx rfl
    rw [← ens] at hx
    refine tg_tup2 (tg_name (by decide) (free_of rfl) (tg_name (by decide) (free_of rfl) (et_yes ⟨fun _ => ev_var rfl (ev_var rfl ?_), fun h => (nomatch h)⟩)))
    show ((enumZ ns).take i).map _ ++ [(x.2, x.1)] = ((enumZ ns).take (i + 1)).map _
    rw [List.take_succ, hx, List.map_append]
    rfl
  · rintro ys rfl
    rw [show left.length = (enumZ ns).length from by rw [enumZ_len, nl], List.take_of_length_le (Nat.le_refl _), enum_swap, mkD_nodup (by rw [nums_keys]; exact nd)]
    refine blk_seq (blk_fld CC.cl CC.ns (Nat.le_of_ble_eq_true rfl) (pw_var (i := 0) rfl (by decide)) (ev_op ro_I (ev_c (t := tInt) (fun _ _ => rfl) (ev_cb rc_lenD (ev_var rfl ⟨fun _ => rfl, .inl ⟨by decide, by decide⟩, ?_⟩)))))
    rw [← nl]
    refine blk_seq (blk_fld CC.cl CC.nk (Nat.le_of_ble_eq_true rfl) (pw_var (i := 0) rfl (by decide)) (ev_op ro_I0 (ev_self (fl := fl2 ns) 1 CC.cl CC.ns (ev_c (t := tInt) (fun _ _ => rfl) ?_))))
    refine blk_seq (blk_fldO CC.cl CC.nf (Nat.le_of_ble_eq_true rfl) (pw_var (i := 0) rfl (by decide)) (ev_make0 (O := oFlow K C [] [] (List.replicate (2 * ns.length + 2) [])) rfl (ea_cons (ev_op ro_I0 (ev_self (fl := fl3 ns) 1 CC.cl CC.ns (ev_c (t := tInt) (fun _ _ => rfl) (ea_nil ?_)))))))
    refine ⟨fun h => (nomatch h), all1 trivial, (fun os y => ∃ s, os = [.ow (oFlow K C [] [] (List.replicate (2 * ns.length + 2) [])) (), s]), ⟨_, rfl, ⟨by omega, by omega⟩, fun s => ⟨s, ?_⟩⟩, ?_⟩
    · rw [show (2 * (ns.length : Int) + 2).toNat = 2 * ns.length + 2 from by omega]
    rintro os y ⟨s, rfl⟩
    refine ⟨(), _, rfl, ?_⟩
    refine blk_seq (blk_forD (vs := [4]) kyS (fun i G' => ∃ hs rs ls, Built (2 * ns.length + 2) ((ns.take i).flatMap (nameLk ns left right)) hs rs ls ∧
      G' = ⟨false, [.ow (oIns CS (fl4 K C ns hs rs ls)) (), .sh (tLs K (tRow K)) rows, .sh (tDk kS tInt) left, .sh (tDk kS tInt) right, .un, .un, .un, .un, .un, .un, .un], [some p0, some p1, some p2, some p3]⟩) (ap_var (i := 2) (x := left) rfl rfl) ⟨[], [], _, .nil _, rfl⟩ ?_ ?_)
    · rintro i x _ hx ⟨hs, rs, ls, B, rfl⟩
      rw [← ens] at hx
      have hxm := List.mem_of_getElem? hx
      have hi : i < ns.length := (List.getElem?_eq_some_iff.mp hx).1
      have hL : ((ns.take i).flatMap (nameLk ns left right)).length = 2 * i := by rw [nameLks_len, List.length_take]; omega
      obtain ⟨a0, a1⟩ := node_in (ns := ns) (l := (x, false)) hxm
      obtain ⟨b0, b1⟩ := node_in (ns := ns) (l := (x, true)) hxm
      obtain ⟨rv, hrv, _⟩ := hright x hxm
      have erv : rv = gD right x := by unfold gD; rw [hrv]; rfl
      subst erv
      refine tg_name (by decide) (free_of rfl) (blk_wipe [4] ?_)
      refine blk_seq (blk_drop (ev_link (fl := fl4 K C ns hs rs ls) (r := gD left x) CC B (by omega) (a := 2 * (ns.length : Int)) (b := node ns (x, false)) (by omega) (by omega) a0 (by omega) (ea_cons (ev_self (fl := fl4 K C ns hs rs ls) 1 CC.cl CC.ns (ea_cons (ev_node (fl := fl4 K C ns hs rs ls) (l := (x, false)) hxm ?_ (show ¬ ("_node" : Str) ∈ [("_numbers" : Str), "_source", "_sink", "_flow"] by decide) (fun {X} => ev_t2 (ev_var (i := 4) (view_sh rfl) (ev_c (t := tBl) (fun _ _ => rfl) ⟨rfl, rfl⟩))))))) fun hs' rs' ls' B' => ?_))
      · exact ea_cons (ev_dget kyS (ev_var rfl (ev_var rfl ⟨_, gD_of (by rw [← ens]; exact hxm), ea_nil rfl⟩)))
      · refine blk_drop (ev_link (fl := fl4 K C ns hs' rs' ls') (r := gD right x) CC B' (by rw [List.length_append, hL]; show 2 * i + 1 ≤ 4000; omega) (a := node ns (x, true)) (b := 2 * (ns.length : Int) + 1) b0 (by omega) (by omega) (by omega) (ea_cons (ev_node (fl := fl4 K C ns hs' rs' ls') (l := (x, true)) hxm ?_ (show ¬ ("_node" : Str) ∈ [("_numbers" : Str), "_source", "_sink", "_flow"] by decide) (fun {X} => ev_t2 (ev_var (i := 4) (view_sh rfl) (ev_c (t := tBl) (fun _ _ => rfl) ⟨rfl, rfl⟩))))) fun hs2 rs2 ls2 B2 => ?_)
        · exact ea_cons (ev_self (fl := fl4 K C ns hs' rs' ls') 2 CC.cl CC.nk (ea_cons (ev_dget kyS (ev_var rfl (ev_var rfl ⟨_, hrv, ea_nil rfl⟩)))))
        · refine ⟨hs2, rs2, ls2, ?_, rfl⟩
          rw [flat_take _ _ _ _ hx]
          rw [List.append_assoc] at B2
          exact B2
    · rintro _ ⟨hs, rs, ls, B, rfl⟩
      rw [← nl, List.take_of_length_le (Nat.le_refl _)] at B
      refine blk_seq (blk_set (ev_op ro_I0 (ev_c (t := tInt) (fun _ _ => rfl) (ev_cb rc_sum (EvR.share (O := oL K tInt) (ev_lcD (K := K) (vs := [4]) kyS (fun i ys => ys = (ns.take i).map (gD left)) (ap_var (i := 2) (x := left) rfl rfl) ltl ?_ rfl ?_ ?_))))))
      · intro i hi
        rw [List.mem_singleton] at hi
        subst hi
        exact free_of rfl
      · rintro i x ys hx rfl
        rw [← ens] at hx
        refine tg_name (by decide) (free_of rfl) (et_yes ⟨fun _ => ev_dget kyS (ev_var rfl (ev_var rfl ⟨_, gD_of (by rw [← ens]; exact List.mem_of_getElem? hx), ?_⟩)), fun h => (nomatch h)⟩)
        show (ns.take i).map (gD left) ++ [gD left x] = (ns.take (i + 1)).map (gD left)
        rw [List.take_succ, hx, List.map_append]
        rfl
      · rintro ys rfl
        rw [← nl, List.take_of_length_le (Nat.le_refl _)]
        refine ⟨fun h => (nomatch h), rfl, ?_⟩
        obtain ⟨wd, ewd⟩ : ∃ wd, wd = wideOf ns left := ⟨_, rfl⟩
        show Blk _ _ (Ct.set _ 5 (.sh tInt (wideOf ns left))) _ _ _
        rw [← ewd]
        refine blk_seq (blk_fldO CC.cl CC.na (Nat.le_of_ble_eq_true rfl) (pw_var (i := 0) rfl (by decide)) (ev_list (K := K) (t := tT2 K tInt tInt) (es_nil ⟨Nat.le_of_ble_eq_true rfl, ?_⟩)))
        refine blk_seq (blk_for (vs := [6, 7]) (ei_list (ev_var rfl ⟨(fun j G' => ∃ hs rs ls, Built (2 * ns.length + 2) (ns.flatMap (nameLk ns left right) ++ (rows.take j).flatMap (rowLk ns wd)) hs rs ls ∧
          G' = ⟨true, [.ow (oIns CS (fl5 K C ns hs rs ls (arcL ns.length j))) (), .sh (tLs K (tRow K)) rows, .sh (tDk kS tInt) left, .sh (tDk kS tInt) right, .un, .sh tInt wd, .un, .un, .un, .un, .un], [some p0, some p1, some p2, some p3]⟩), ⟨hs, rs, ls, by simpa using B, rfl⟩, ?_, ?_⟩)))
        · clear B hs rs ls
          rintro j x _ hx ⟨hs, rs, ls, B, rfl⟩
          have hxm := List.mem_of_getElem? hx
          have hj : j < rows.length := (List.getElem?_eq_some_iff.mp hx).1
          obtain ⟨m1, m2⟩ := hrow x hxm
          have hL : (ns.flatMap (nameLk ns left right) ++ (rows.take j).flatMap (rowLk ns wd)).length = 2 * ns.length + 2 * j := by rw [List.length_append, nameLks_len, rowLks_len, List.length_take]; omega
          obtain ⟨a0, a1⟩ := node_in (ns := ns) (l := opp x.1) m1
          obtain ⟨b0, b1⟩ := node_in (ns := ns) (l := x.2) m2
          obtain ⟨c0, c1⟩ := node_in (ns := ns) (l := opp x.2) m2
          obtain ⟨d0, d1⟩ := node_in (ns := ns) (l := x.1) m1
          refine tg_tup2 (tg_name (by decide) (free_of rfl) (tg_name (by decide) (free_of rfl) (blk_wipe [6, 7, 8, 9] ?_)))
          refine blk_seq (blk_set (ev_link (fl := fl5 K C ns hs rs ls (arcL ns.length j)) (r := wd) CC B (by omega) (a := node ns (opp x.1)) (b := node ns x.2) a0 (by omega) b0 (by omega) (ea_cons (ev_node (fl := fl5 K C ns hs rs ls (arcL ns.length j)) (l := opp x.1) m1 ?_ (show ¬ ("_node" : Str) ∈ [("_numbers" : Str), "_source", "_sink", "_flow", "_arcs"] by decide)
            (fun {X} => ev_call0 (ea_cons (ev_var (i := 6) (view_sh rfl) (ea_nil ⟨fun h => (nomatch h), all1 trivial, x.1, rfl, fun os => ⟨rfl, rfl⟩⟩)))))) fun hs' rs' ls' B' => ⟨rfl, ?_⟩))
          · exact ea_cons (ev_node (fl := fl5 K C ns hs rs ls (arcL ns.length j)) (l := x.2) m2 (ea_cons (ev_var rfl (ea_nil rfl))) (show ¬ ("_node" : Str) ∈ [("_numbers" : Str), "_source", "_sink", "_flow", "_arcs"] by decide) (fun {X} => ev_var (i := 7) (view_sh rfl) ⟨rfl, rfl⟩))
          refine blk_seq (blk_set (ev_link (fl := fl5 K C ns hs' rs' ls' (arcL ns.length j)) (r := wd) CC B' (by rw [List.length_append, hL]; show 2 * ns.length + 2 * j + 1 ≤ 4000; omega) (a := node ns (opp x.2)) (b := node ns x.1) c0 (by omega) d0 (by omega) (ea_cons (ev_node (fl := fl5 K C ns hs' rs' ls' (arcL ns.length j)) (l := opp x.2) m2 ?_ (show ¬ ("_node" : Str) ∈ [("_numbers" : Str), "_source", "_sink", "_flow", "_arcs"] by decide)
            (fun {X} => ev_call0 (ea_cons (ev_var (i := 7) (view_sh rfl) (ea_nil ⟨fun h => (nomatch h), all1 trivial, x.2, rfl, fun os => ⟨rfl, rfl⟩⟩)))))) fun hs2 rs2 ls2 B2 => ⟨rfl, ?_⟩))
          · exact ea_cons (ev_node (fl := fl5 K C ns hs' rs' ls' (arcL ns.length j)) (l := x.1) m1 (ea_cons (ev_var rfl (ea_nil rfl))) (show ¬ ("_node" : Str) ∈ [("_numbers" : Str), "_source", "_sink", "_flow", "_arcs"] by decide) (fun {X} => ev_var (i := 6) (view_sh rfl) ⟨rfl, rfl⟩))
          refine blk_append (pw_fld (fl := fl5 K C ns hs2 rs2 ls2 (arcL ns.length j)) CC.cl CC.na (j := 4) rfl rfl (pw_var (i := 0) rfl (by decide))).pt (ev_t2 (ev_var (i := 8) rfl (ev_var (i := 9) rfl ⟨?_, ?_⟩)))
          · unfold arcL
            rw [List.length_map, List.length_range]
            exact fits40 (by omega)
          · refine ⟨hs2, rs2, ls2, ?_, ?_⟩
            · rw [flat_take _ _ _ _ hx, ← List.append_assoc]
              rw [List.append_assoc] at B2
              exact B2
            · have e1 : arcL ns.length j ++ [((2 * ((ns.flatMap (nameLk ns left right) ++ (rows.take j).flatMap (rowLk ns wd)).length : Int)), (2 * ((ns.flatMap (nameLk ns left right) ++ (rows.take j).flatMap (rowLk ns wd) ++ [(node ns (opp x.1), node ns x.2, wd)]).length : Int)))] = arcL ns.length (j + 1) := by
                rw [List.length_append (as := _ ++ _), hL]
                unfold arcL
                rw [List.range_succ, List.map_append]
                congr 1
                show [_] = [_]
                congr 1
                refine Prod.ext ?_ ?_
                · show (2 * ((2 * ns.length + 2 * j : Nat) : Int)) = 4 * (ns.length : Int) + 4 * (j : Int); omega
                · show (2 * ((2 * ns.length + 2 * j + 1 : Nat) : Int)) = 4 * (ns.length : Int) + 4 * (j : Int) + 2; omega
              rw [← e1]
              rfl
        · clear B hs rs ls
          rintro _ ⟨hs, rs, ls, B, rfl⟩
          rw [List.take_of_length_le (Nat.le_refl _), ewd] at B
          have B : Built (2 * ns.length + 2) (links ns left right rows) hs rs ls := B
          have hL : (links ns left right rows).length = 2 * ns.length + 2 * rows.length := by unfold links; rw [List.length_append, nameLks_len, rowLks_len]
          have NT := B.net (by omega) (by omega)
          have nn : ∀ a : Int, 0 ≤ a → a < hs.length → 0 ≤ g0 rs a := fun a a0 a1 => by
            have hlen := B.hl
            obtain ⟨k, hk, h⟩ := half_cases (m := (links ns left right rows).length) a0 (by omega)
            obtain ⟨_, _, e3, e4⟩ := B.arc (List.getElem?_eq_getElem hk)
            rcases h with rfl | rfl
            · rw [e3]
              exact links_nn hleft (fun x hx => by obtain ⟨v, h1, h2⟩ := hright x hx; unfold gD; rw [h1]; exact h2) _ (List.getElem_mem hk)
            · rw [e4]; exact Int.le_refl _
          refine blk_fldM CC.cl CC.nt (ev_methP0 (inst_o (fl := flF K hs rs ls) (show ¬ ("fill" : Str) ∈ [("_heads" : Str), "_rooms", "_leaving"] by decide)) (pw_fld (fl := fl5 K C ns hs rs ls (arcL ns.length rows.length)) CC.cl CC.nf (j := 3) rfl rfl (pw_var (i := 0) rfl (by decide)))
            (ea_cons (ev_self (fl := fl5 K C ns hs rs ls (arcL ns.length rows.length)) 1 CC.cl CC.ns (ea_cons (ev_self (fl := fl5 K C ns hs rs ls (arcL ns.length rows.length)) 2 CC.cl CC.nk (ea_nil ?_))))))
          refine ⟨fun h => (nomatch h), allc trivial (all1 trivial), (fun os y => ∃ rs1 lv, os = [.ow (oFlow K C hs rs1 ls) (), .un, .un] ∧ SidesR ns left right rows hs rs rs1 ls y lv), ⟨2 * ns.length + 2, hs, rs, ls, _, _, rfl, ⟨NT, B.prs, nn, ⟨by omega, by omega⟩, ⟨by omega, by omega⟩, by omega⟩, fun rs1 tot lv A L no => ⟨rs1, lv, rfl, B, A, L, no⟩⟩, ?_⟩
          rintro os y ⟨rs1, lv, rfl, R⟩
          refine ⟨_, _, rfl, [0], _, _, pw_var (i := 0) rfl (by decide), Nat.le_of_ble_eq_true rfl, (), ⟨rfl, _, [_, _, _, _], _, rfl, rfl, .refl _, hp hs rs rs1 ls y lv R _ _ _⟩, fun _ _ => rfl⟩
end
end KK
end

section
set_option maxRecDepth 100000
set_option maxHeartbeats 4000000
namespace KK
open PySem PySem.Spec PyProof.Rows L2 Y
abbrev tSides (K : PySem.W.Frag) (CS C : Addr) (ns : List Str) (hs rs : List Int) (ls : List (List Int)) (arcs : List (Int × Int)) (tot : Int) : Y.Ty Unit := tIns CS (fl6 K C ns hs rs ls arcs tot)
def gB (re : List Bool) (i : Int) : Bool := re.getD i.toNat false
def valOf (ns : List Str) (re : List Bool) (x : Str) : Int := (if gB re (node ns (x, false)) then 0 else 1) + (if gB re (node ns (x, true)) then 1 else 0)
def readOf (ns : List Str) (re : List Bool) : List (Str × Int) := ns.map fun x => (x, valOf ns re x)
abbrev ctRead (K : PySem.W.Frag) (CS C : Addr) : Y.CT (List (Str × Int)) := ⟨false, .ow (oD kS tInt), fun as P _ => ∃ (ns : List Str) (hs rs : List Int) (ls : List (List Int)) (arcs : List (Int × Int)) (tot : Int) (re : List Bool), as = [.sh (tSides K CS C ns hs rs ls arcs tot) (), .sh (tLs K tBl) re] ∧
  (ns.Nodup ∧ ns.length ≤ 40 ∧ re.length = 2 * ns.length + 2) ∧ ∀ os, P os (readOf ns re)⟩
abbrev ctAnswer (K : PySem.W.Frag) (CS C : Addr) : Y.CT (List (Str × Int)) := ⟨false, .ow (oD kS tInt), fun as P _ => ∃ (ns : List Str) (hs rs : List Int) (ls : List (List Int)) (arcs : List (Int × Int)) (tot : Int), as = [.sh (tSides K CS C ns hs rs ls arcs tot) ()] ∧
  (ns.Nodup ∧ ns.length ≤ 40 ∧ Net (2 * ns.length + 2) hs rs ls) ∧ ∀ lv, Lev (2 * ns.length + 2) hs rs ls [2 * (ns.length : Int)] lv → ∀ os, P os (readOf ns (lv.map fun x => decide (0 ≤ x)))⟩
abbrev ctRowFlows (K : PySem.W.Frag) (CS C : Addr) : Y.CT (List Int) := ⟨false, .ow (oL K tInt), fun as P _ => ∃ (ns : List Str) (hs rs : List Int) (ls : List (List Int)) (arcs : List (Int × Int)) (tot : Int), as = [.sh (tSides K CS C ns hs rs ls arcs tot) ()] ∧
  (arcs.length ≤ 1000 ∧ ∀ p ∈ arcs, (0 ≤ p.1 ∧ p.1 + 1 < rs.length) ∧ (0 ≤ p.2 ∧ p.2 + 1 < rs.length)) ∧ ∀ os, P os (arcs.map fun p => g0 rs (p.1 + 1) + g0 rs (p.2 + 1))⟩
section
variable {P : Program} {w : World} {K : PySem.W.Frag} {mg : Str → Option Value} {base : Heap} {C CS : Addr}
variable {ns : List Str} {hs rs : List Int} {ls : List (List Int)} {arcs : List (Int × Int)} {tot : Int}
theorem fs_tot (CC : SidesC K CS) : FldOf K "total" (tSides K CS C ns hs rs ls arcs tot) tInt (fun _ => tot) := fo_sh (fl := fl6 K C ns hs rs ls arcs tot) (t := tInt) 5 CC.cl CC.nt
abbrev NYSidesread : List Str := ["self", "reached", "x", "name", "in_left", "in_right"]
abbrev NYSidesanswer : List Str := ["self"]
end
end KK
end

section
set_option maxRecDepth 100000
set_option maxHeartbeats 4000000
namespace KK
open PySem PySem.Spec PyProof.Rows L2 Y
/-! ### sums -/
theorem sum_add {α : Type} (f g : α → Int) : ∀ l : List α, (l.map fun x => f x + g x).sum = (l.map f).sum + (l.map g).sum
  | [] => rfl
  | a :: l => by simp only [List.map_cons, List.sum_cons, sum_add f g l]; omega
theorem sum_zero {α : Type} {f : α → Int} : ∀ {l : List α}, (∀ x ∈ l, f x = 0) → (l.map f).sum = 0
  | [], _ => rfl
  | a :: l, h => by
    simp only [List.map_cons, List.sum_cons, h a List.mem_cons_self, sum_zero (l := l) fun x hx => h x (List.mem_cons_of_mem _ hx)]
    rfl
theorem sum_congr {α : Type} {f g : α → Int} : ∀ {l : List α}, (∀ x ∈ l, f x = g x) → (l.map f).sum = (l.map g).sum
  | [], _ => rfl
  | a :: l, h => by simp only [List.map_cons, List.sum_cons, h a List.mem_cons_self, sum_congr (l := l) fun x hx => h x (List.mem_cons_of_mem _ hx)]
theorem sum_le' {α : Type} {f g : α → Int} : ∀ {l : List α}, (∀ x ∈ l, f x ≤ g x) → (l.map f).sum ≤ (l.map g).sum
  | [], _ => Int.le_refl _
  | a :: l, h => by
    have := h a List.mem_cons_self
    have := sum_le' (l := l) fun x hx => h x (List.mem_cons_of_mem _ hx)
    simp only [List.map_cons, List.sum_cons]
    omega
theorem sum_swap {α β : Type} (h : α → β → Int) : ∀ (l : List α) (m : List β), (l.map fun x => (m.map fun y => h x y).sum).sum = (m.map fun y => (l.map fun x => h x y).sum).sum
  | [], m => by simp only [List.map_nil, List.sum_nil]; exact (sum_zero fun _ _ => rfl).symm
  | a :: l, m => by
    simp only [List.map_cons, List.sum_cons, sum_swap h l m]
    exact (sum_add _ _ m).symm
theorem sum_flat {α β : Type} (g : α → List β) (f : β → Int) : ∀ l : List α, ((l.flatMap g).map f).sum = (l.map fun x => ((g x).map f).sum).sum
  | [] => rfl
  | a :: l => by simp only [List.flatMap_cons, List.map_append, List.sum_append, List.map_cons, List.sum_cons, sum_flat g f l]
theorem sum_one {n : Nat} {u : Int} (u0 : 0 ≤ u) (u1 : u < n) (f : Int → Int) : ((List.range n).map fun (v : Nat) => if u = (v : Int) then f v else 0).sum = f u := by
  induction n with
  | zero => omega
  | succ n ih =>
    rw [List.range_succ, List.map_append, List.sum_append]
    simp only [List.map_cons, List.map_nil, List.sum_cons, List.sum_nil]
    by_cases e : u = (n : Int)
    · subst e
      rw [if_pos rfl, sum_zero fun v hv => ?_]
      · omega
      · have := List.mem_range.mp hv
        rw [if_neg (by omega)]
    · rw [if_neg e, ih (by omega)]
      omega
/-! ### flows on links -/
/-- what flows on a link -/
def fw (rs : List Int) (k : Nat) : Int := g0 rs (2 * (k : Int) + 1)
theorem rsum_arcs (rs : List Int) (L : List Lk) (v : Int) : rsum rs (arcsOf L v) = (L.zipIdx.map fun q => (if q.1.1 = v then g0 rs (2 * (q.2 : Int)) else 0) + (if q.1.2.1 = v then g0 rs (2 * (q.2 : Int) + 1) else 0)).sum := by
  unfold rsum arcsOf
  rw [sum_flat]
  refine sum_congr fun q _ => ?_
  unfold lkArcs
  split <;> split <;> simp
structure FlowR (n : Nat) (L : List Lk) (rs : List Int) (s t : Int) (tot : Int) : Prop where
  lo : ∀ (k : Nat) p, L[k]? = some p → 0 ≤ fw rs k ∧ fw rs k ≤ tot ∧ g0 rs (2 * (k : Int)) = p.2.2 - fw rs k ∧ 0 ≤ g0 rs (2 * (k : Int))
  cv : ∀ v : Int, 0 ≤ v → v < n → (L.zipIdx.map fun q => (if q.1.2.1 = v then fw rs q.2 else 0) - (if q.1.1 = v then fw rs q.2 else 0)).sum = (if v = t then tot else 0) - (if v = s then tot else 0)
theorem flowR {n : Nat} {L : List Lk} {hs rs0 rs : List Int} {ls : List (List Int)} {s t tot : Int} (B : Built n L hs rs0 ls) (A : Aug n hs rs0 ls s t rs tot) : FlowR n L rs s t tot := by
  have hl := B.hl
  have lo : ∀ (k : Nat) p, L[k]? = some p → 0 ≤ fw rs k ∧ fw rs k ≤ tot ∧ g0 rs (2 * (k : Int)) = p.2.2 - fw rs k ∧ 0 ≤ g0 rs (2 * (k : Int)) := fun k p hp => by
    have hk := (List.getElem?_eq_some_iff.mp hp).1
    obtain ⟨_, _, e3, e4⟩ := B.arc hp
    have h1 := A.nn (2 * (k : Int) + 1) (by omega) (by omega)
    have h2 := A.nn (2 * (k : Int)) (by omega) (by omega)
    have h3 := A.ps (2 * (k : Int)) (by omega) (by omega)
    have h4 := A.lo (2 * (k : Int)) (by omega) (by omega)
    rw [xo_even, e3, e4] at h3
    rw [e3] at h4
    unfold fw
    refine ⟨h1, by omega, by omega, h2⟩
  refine ⟨lo, fun v v0 v1 => ?_⟩
  have rv := A.rv v v0 v1
  unfold Rm at rv
  rw [B.gs v v0 v1, rsum_arcs, rsum_arcs] at rv
  have e1 : (L.zipIdx.map fun q => (if q.1.1 = v then g0 rs (2 * (q.2 : Int)) else 0) + (if q.1.2.1 = v then g0 rs (2 * (q.2 : Int) + 1) else 0)).sum = (L.zipIdx.map fun q => ((if q.1.1 = v then g0 rs0 (2 * (q.2 : Int)) else 0) + (if q.1.2.1 = v then g0 rs0 (2 * (q.2 : Int) + 1) else 0)) + ((if q.1.2.1 = v then fw rs q.2 else 0) - (if q.1.1 = v then fw rs q.2 else 0))).sum := by
    refine sum_congr fun q hq => ?_
    have hq := List.mem_zipIdx_iff_getElem?.mp hq
    obtain ⟨_, _, h3, _⟩ := lo q.2 q.1 hq
    obtain ⟨_, _, e3, e4⟩ := B.arc hq
    rw [h3, e3, e4]
    show _ = ((if q.1.1 = v then q.1.2.2 else 0) + (if q.1.2.1 = v then 0 else 0)) + ((if q.1.2.1 = v then fw rs q.2 else 0) - (if q.1.1 = v then fw rs q.2 else 0))
    show (if q.1.1 = v then q.1.2.2 - fw rs q.2 else 0) + (if q.1.2.1 = v then fw rs q.2 else 0) = _
    split <;> split <;> omega
  rw [e1, sum_add] at rv
  omega
/-- the cut -/
theorem FlowR.cut {n : Nat} {L : List Lk} {hs rs0 rs : List Int} {ls : List (List Int)} {s t tot : Int} (B : Built n L hs rs0 ls) (F : FlowR n L rs s t tot) (S : Int → Bool) (s0 : 0 ≤ s) (s1 : s < n) (t0 : 0 ≤ t) (t1 : t < n) (hs' : S s = true) (ht : S t = false)
    (cl : ∀ u : Int, 0 ≤ u → u < n → S u = true → ∀ a ∈ arcsOf L u, 0 < g0 rs a → S (g0 hs a) = true) :
    tot = (L.zipIdx.map fun q => if S q.1.1 = true ∧ S q.1.2.1 = false then q.1.2.2 else 0).sum ∧ ∀ (k : Nat) p, L[k]? = some p → (S p.1 = true → S p.2.1 = false → fw rs k = p.2.2) ∧ (S p.1 = false → S p.2.1 = true → fw rs k = 0) := by
  have each : ∀ (k : Nat) p, L[k]? = some p → (S p.1 = true → S p.2.1 = false → fw rs k = p.2.2) ∧ (S p.1 = false → S p.2.1 = true → fw rs k = 0) := fun k p hp => by
    obtain ⟨h1, _, h3, h4⟩ := F.lo k p hp
    obtain ⟨e1, e2, _, _⟩ := B.arc hp
    have ok := B.ok p (List.mem_of_getElem? hp)
    refine ⟨fun a b => ?_, fun a b => ?_⟩
    · by_cases z : 0 < g0 rs (2 * (k : Int))
      · have := cl p.1 ok.1.1 ok.1.2 a (2 * (k : Int)) (mem_arcs.mpr ⟨k, p, hp, .inl ⟨rfl, rfl⟩⟩) z
        rw [e1, b] at this
        cases this
      · omega
    · by_cases z : 0 < fw rs k
      · have := cl p.2.1 ok.2.1 ok.2.2 b (2 * (k : Int) + 1) (mem_arcs.mpr ⟨k, p, hp, .inr ⟨rfl, rfl⟩⟩) z
        rw [e2, a] at this
        cases this
      · omega
  refine ⟨?_, each⟩
  have h : ((List.range n).map fun (v : Nat) => if S (v : Int) = true then (L.zipIdx.map fun q => (if q.1.2.1 = (v : Int) then fw rs q.2 else 0) - (if q.1.1 = (v : Int) then fw rs q.2 else 0)).sum else 0).sum = - tot := by
    have e : ((List.range n).map fun (v : Nat) => if S (v : Int) = true then (L.zipIdx.map fun q => (if q.1.2.1 = (v : Int) then fw rs q.2 else 0) - (if q.1.1 = (v : Int) then fw rs q.2 else 0)).sum else 0).sum = ((List.range n).map fun (v : Nat) => (if t = (v : Int) then (if S (v : Int) = true then tot else 0) else 0) + (if s = (v : Int) then (if S (v : Int) = true then - tot else 0) else 0)).sum := by
      refine sum_congr fun v hv => ?_
      have hv := List.mem_range.mp hv
      rw [F.cv (v : Int) (by omega) (by omega)]
      have c1 : ((v : Int) = t) ↔ (t = (v : Int)) := ⟨Eq.symm, Eq.symm⟩
      have c2 : ((v : Int) = s) ↔ (s = (v : Int)) := ⟨Eq.symm, Eq.symm⟩
      simp only [c1, c2]
      split <;> split <;> split <;> omega
    rw [e, sum_add, sum_one t0 t1 (fun v => if S v = true then tot else 0), sum_one s0 s1 (fun v => if S v = true then - tot else 0), ht, hs']
    simp
  have h2 : ((List.range n).map fun (v : Nat) => if S (v : Int) = true then (L.zipIdx.map fun q => (if q.1.2.1 = (v : Int) then fw rs q.2 else 0) - (if q.1.1 = (v : Int) then fw rs q.2 else 0)).sum else 0).sum = (L.zipIdx.map fun q => ((List.range n).map fun (v : Nat) => (if q.1.2.1 = (v : Int) then (if S (v : Int) = true then fw rs q.2 else 0) else 0) + (if q.1.1 = (v : Int) then (if S (v : Int) = true then - fw rs q.2 else 0) else 0)).sum).sum := by
    rw [← sum_swap]
    refine sum_congr fun v _ => ?_
    by_cases c : S (v : Int) = true
    · rw [if_pos c]
      refine sum_congr fun q _ => ?_
      rw [c]
      simp only [if_true]
      split <;> split <;> omega
    · rw [if_neg c]
      refine (sum_zero fun q _ => ?_).symm
      simp [c]
  have h3 : (L.zipIdx.map fun q => ((List.range n).map fun (v : Nat) => (if q.1.2.1 = (v : Int) then (if S (v : Int) = true then fw rs q.2 else 0) else 0) + (if q.1.1 = (v : Int) then (if S (v : Int) = true then - fw rs q.2 else 0) else 0)).sum).sum = - (L.zipIdx.map fun q => if S q.1.1 = true ∧ S q.1.2.1 = false then q.1.2.2 else 0).sum := by
    have e : ∀ q ∈ L.zipIdx, ((List.range n).map fun (v : Nat) => (if q.1.2.1 = (v : Int) then (if S (v : Int) = true then fw rs q.2 else 0) else 0) + (if q.1.1 = (v : Int) then (if S (v : Int) = true then - fw rs q.2 else 0) else 0)).sum + (if S q.1.1 = true ∧ S q.1.2.1 = false then q.1.2.2 else 0) = 0 := fun q hq => by
      have hq := List.mem_zipIdx_iff_getElem?.mp hq
      have ok := B.ok q.1 (List.mem_of_getElem? hq)
      obtain ⟨x1, x2⟩ := each q.2 q.1 hq
      rw [sum_add, sum_one ok.2.1 ok.2.2 (fun v => if S v = true then fw rs q.2 else 0), sum_one ok.1.1 ok.1.2 (fun v => if S v = true then - fw rs q.2 else 0)]
      cases c1 : S q.1.1 <;> cases c2 : S q.1.2.1 <;> simp only [c1, c2] at x1 x2 ⊢ <;> simp at x1 x2 ⊢ <;> omega
    have := sum_zero e
    rw [sum_add] at this
    omega
  rw [h2, h3] at h
  omega
end KK
end

section
set_option maxRecDepth 100000
set_option maxHeartbeats 4000000
namespace KK
open PySem PySem.Spec PyProof.Rows L2 Y
theorem sum_zip {α : Type} (h : α → Int) : ∀ (l : List α) (k : Nat), ((l.zipIdx k).map fun q => h q.1).sum = (l.map h).sum
  | [], _ => rfl
  | a :: l, k => by simp only [List.zipIdx_cons, List.map_cons, List.sum_cons, sum_zip h l (k + 1)]
theorem sum_zip2 {α : Type} (a b : α → Lk) (h : Lk → Nat → Int) (c : Nat) : ∀ (l : List α) (k : Nat), (((l.flatMap fun x => [a x, b x]).zipIdx (2 * k + c)).map fun q => h q.1 q.2).sum = ((l.zipIdx k).map fun p => h (a p.1) (2 * p.2 + c) + h (b p.1) (2 * p.2 + 1 + c)).sum
  | [], _ => rfl
  | x :: l, k => by
    have ih := sum_zip2 a b h c l (k + 1)
    rw [List.flatMap_cons, List.zipIdx_append, List.map_append, List.sum_append, List.zipIdx_cons, List.map_cons, List.sum_cons]
    have e : 2 * k + c + ([a x, b x] : List Lk).length = 2 * (k + 1) + c := by show 2 * k + c + 2 = _; omega
    rw [e, ih]
    show (h (a x) (2 * k + c) + (h (b x) (2 * k + c + 1) + 0)) + _ = _
    rw [show 2 * k + c + 1 = 2 * k + 1 + c from by omega, List.zipIdx_cons, List.map_cons, List.sum_cons]
    dsimp only
    omega
theorem lsum (ns : List Str) (left right : List (Str × Int)) (rows : List Row) (h : Lk → Nat → Int) : ((links ns left right rows).zipIdx.map fun q => h q.1 q.2).sum =
    (ns.zipIdx.map fun p => h (2 * (ns.length : Int), node ns (p.1, false), gD left p.1) (2 * p.2) + h (node ns (p.1, true), 2 * (ns.length : Int) + 1, gD right p.1) (2 * p.2 + 1)).sum +
    (rows.zipIdx.map fun p => h (node ns (opp p.1.1), node ns p.1.2, wideOf ns left) (2 * p.2 + 2 * ns.length) + h (node ns (opp p.1.2), node ns p.1.1, wideOf ns left) (2 * p.2 + 1 + 2 * ns.length)).sum := by
  unfold links
  rw [List.zipIdx_append, List.map_append, List.sum_append]
  congr 1
  · exact sum_zip2 (fun x => (2 * (ns.length : Int), node ns (x, false), gD left x)) (fun x => (node ns (x, true), 2 * (ns.length : Int) + 1, gD right x)) h 0 ns 0
  · rw [nameLks_len, show 0 + 2 * ns.length = 2 * 0 + 2 * ns.length from rfl]
    exact sum_zip2 (fun p : Row => (node ns (opp p.1), node ns p.2, wideOf ns left)) (fun p => (node ns (opp p.2), node ns p.1, wideOf ns left)) h (2 * ns.length) rows 0
theorem idx_inj : ∀ {ns : List Str} {x y : Str}, x ∈ ns → y ∈ ns → ns.idxOf x = ns.idxOf y → x = y
  | [], _, _, h, _, _ => absurd h (by simp)
  | a :: l, x, y, hx, hy, e => by
    rw [List.idxOf_cons, List.idxOf_cons] at e
    by_cases h1 : a = x
    · by_cases h2 : a = y
      · rw [← h1, ← h2]
      · rw [beq_iff_eq.mpr h1, beq_eq_false_iff_ne.mpr h2] at e
        simp at e
    · by_cases h2 : a = y
      · rw [beq_iff_eq.mpr h2, beq_eq_false_iff_ne.mpr h1] at e
        simp at e
      · rw [beq_eq_false_iff_ne.mpr h1, beq_eq_false_iff_ne.mpr h2] at e
        refine idx_inj (ns := l) ?_ ?_ (by simpa using e)
        · exact (List.mem_cons.mp hx).resolve_left fun e => h1 e.symm
        · exact (List.mem_cons.mp hy).resolve_left fun e => h2 e.symm
theorem node_inj {ns : List Str} {l m : Lit} (hl : l.1 ∈ ns) (hm : m.1 ∈ ns) (e : node ns l = node ns m) : l = m := by
  unfold node ix at e
  have e2 : l.2 = m.2 := by cases h1 : l.2 <;> cases h2 : m.2 <;> simp [h1, h2] at e ⊢ <;> omega
  have e1 : ns.idxOf l.1 = ns.idxOf m.1 := by rw [e2] at e; omega
  exact Prod.ext (idx_inj hl hm e1) e2
/-- what is asked of the sides' arguments -/
structure SidesP (ns : List Str) (left right : List (Str × Int)) (rows : List Row) : Prop where
  nd : ns.Nodup
  l0 : ∀ x ∈ ns, 0 ≤ gD left x
  r0 : ∀ x ∈ ns, 0 ≤ gD right x
  rw : ∀ p ∈ rows, p.1.1 ∈ ns ∧ p.2.1 ∈ ns
def inS (lv : List Int) (v : Int) : Bool := decide (0 ≤ g0 lv v)
section
variable {ns : List Str} {left right : List (Str × Int)} {rows : List Row} {hs rs0 rs lv : List Int} {ls : List (List Int)} {tot : Int}
theorem SidesR.flow (R : SidesR ns left right rows hs rs0 rs ls tot lv) : FlowR (2 * ns.length + 2) (links ns left right rows) rs (2 * (ns.length : Int)) (2 * (ns.length : Int) + 1) tot := flowR R.bt R.ag
/-- the links: names, rows -/
theorem mem_links {p : Lk} : p ∈ links ns left right rows ↔ (∃ x ∈ ns, p = (2 * (ns.length : Int), node ns (x, false), gD left x) ∨ p = (node ns (x, true), 2 * (ns.length : Int) + 1, gD right x)) ∨ ∃ q ∈ rows, p = (node ns (opp q.1), node ns q.2, wideOf ns left) ∨ p = (node ns (opp q.2), node ns q.1, wideOf ns left) := by
  unfold links nameLk rowLk
  simp only [List.mem_append, List.mem_flatMap, List.mem_cons, List.mem_nil_iff, or_false]
theorem zip_mem {α : Type} {l : List α} {q : α × Nat} (h : q ∈ l.zipIdx) : l[q.2]? = some q.1 := List.mem_zipIdx_iff_getElem?.mp h
/-- the sum of what leaves the source -/
theorem SidesR.src (R : SidesR ns left right rows hs rs0 rs ls tot lv) (A : SidesP ns left right rows) : tot = (ns.zipIdx.map fun p => fw rs (2 * p.2)).sum := by
  have F := R.flow
  have cv := F.cv (2 * (ns.length : Int)) (by omega) (by omega)
  rw [if_neg (by omega), if_pos rfl, lsum ns left right rows (fun p k => (if p.2.1 = 2 * (ns.length : Int) then fw rs k else 0) - (if p.1 = 2 * (ns.length : Int) then fw rs k else 0))] at cv
  have e2 : (rows.zipIdx.map fun p : Row × Nat => ((if (node ns (opp p.1.1), node ns p.1.2, wideOf ns left).2.1 = 2 * (ns.length : Int) then fw rs (2 * p.2 + 2 * ns.length) else 0) - (if (node ns (opp p.1.1), node ns p.1.2, wideOf ns left).1 = 2 * (ns.length : Int) then fw rs (2 * p.2 + 2 * ns.length) else 0)) + ((if (node ns (opp p.1.2), node ns p.1.1, wideOf ns left).2.1 = 2 * (ns.length : Int) then fw rs (2 * p.2 + 1 + 2 * ns.length) else 0) - (if (node ns (opp p.1.2), node ns p.1.1, wideOf ns left).1 = 2 * (ns.length : Int) then fw rs (2 * p.2 + 1 + 2 * ns.length) else 0))).sum = 0 := by
    refine sum_zero fun p hp => ?_
    obtain ⟨m1, m2⟩ := A.rw p.1 (List.mem_of_getElem? (zip_mem hp))
    have a1 := node_in (ns := ns) (l := opp p.1.1) m1
    have a2 := node_in (ns := ns) (l := p.1.2) m2
    have a3 := node_in (ns := ns) (l := opp p.1.2) m2
    have a4 := node_in (ns := ns) (l := p.1.1) m1
    show ((if node ns p.1.2 = _ then _ else _) - (if node ns (opp p.1.1) = _ then _ else _)) + ((if node ns p.1.1 = _ then _ else _) - (if node ns (opp p.1.2) = _ then _ else _)) = _
    rw [if_neg (by omega), if_neg (by omega), if_neg (by omega), if_neg (by omega)]
    rfl
  rw [e2] at cv
  have e1 : ∀ p ∈ ns.zipIdx, ((if (2 * (ns.length : Int), node ns (p.1, false), gD left p.1).2.1 = 2 * (ns.length : Int) then fw rs (2 * p.2) else 0) - (if (2 * (ns.length : Int), node ns (p.1, false), gD left p.1).1 = 2 * (ns.length : Int) then fw rs (2 * p.2) else 0)) + ((if (node ns (p.1, true), 2 * (ns.length : Int) + 1, gD right p.1).2.1 = 2 * (ns.length : Int) then fw rs (2 * p.2 + 1) else 0) - (if (node ns (p.1, true), 2 * (ns.length : Int) + 1, gD right p.1).1 = 2 * (ns.length : Int) then fw rs (2 * p.2 + 1) else 0)) + fw rs (2 * p.2) = 0 := fun p hp => by
    have m := List.mem_of_getElem? (zip_mem hp)
    have a1 := node_in (ns := ns) (l := (p.1, false)) m
    have a2 := node_in (ns := ns) (l := (p.1, true)) m
    show ((if node ns (p.1, false) = _ then _ else _) - (if 2 * (ns.length : Int) = 2 * (ns.length : Int) then _ else _)) + ((if 2 * (ns.length : Int) + 1 = _ then _ else _) - (if node ns (p.1, true) = _ then _ else _)) + _ = _
    rw [if_neg (by omega), if_pos rfl, if_neg (by omega), if_neg (by omega)]
    omega
  have := sum_zero e1
  rw [sum_add] at this
  omega
theorem SidesR.link (R : SidesR ns left right rows hs rs0 rs ls tot lv) {x : Str} {i : Nat} (h : ns[i]? = some x) : (links ns left right rows)[2 * i]? = some (2 * (ns.length : Int), node ns (x, false), gD left x) ∧ (links ns left right rows)[2 * i + 1]? = some (node ns (x, true), 2 * (ns.length : Int) + 1, gD right x) := by
  have key : ∀ (l : List Str) (i : Nat), l[i]? = some x → (l.flatMap (nameLk ns left right))[2 * i]? = some (2 * (ns.length : Int), node ns (x, false), gD left x) ∧ (l.flatMap (nameLk ns left right))[2 * i + 1]? = some (node ns (x, true), 2 * (ns.length : Int) + 1, gD right x) := by
    intro l
    induction l with
    | nil => intro i h; simp at h
    | cons a l ih =>
      intro i h
      cases i with
      | zero => cases h; exact ⟨rfl, rfl⟩
      | succ i => exact ih i h
  obtain ⟨k1, k2⟩ := key ns i h
  have hi := (List.getElem?_eq_some_iff.mp h).1
  have hl := nameLks_len (ns := ns) (left := left) (right := right) ns
  unfold links
  rw [List.getElem?_append_left (by omega), List.getElem?_append_left (by omega)]
  exact ⟨k1, k2⟩
theorem SidesR.low (R : SidesR ns left right rows hs rs0 rs ls tot lv) (A : SidesP ns left right rows) : tot < wideOf ns left := by
  have F := R.flow
  have e := R.src A
  have : (ns.zipIdx.map fun p => fw rs (2 * p.2)).sum ≤ (ns.zipIdx.map fun p => gD left p.1).sum := sum_le' fun p hp => by
    obtain ⟨k1, _⟩ := R.link (zip_mem hp)
    obtain ⟨_, _, h3, h4⟩ := F.lo (2 * p.2) _ k1
    have h3 : g0 rs (2 * ((2 * p.2 : Nat) : Int)) = gD left p.1 - fw rs (2 * p.2) := h3
    omega
  rw [sum_zip (gD left) ns 0] at this
  unfold wideOf
  omega
theorem SidesR.cut (R : SidesR ns left right rows hs rs0 rs ls tot lv) (A : SidesP ns left right rows) :
    tot = (ns.map fun x => (if inS lv (node ns (x, false)) = true then 0 else gD left x) + (if inS lv (node ns (x, true)) = true then gD right x else 0)).sum ∧
    ∀ p ∈ rows, (inS lv (node ns (opp p.1)) = true → inS lv (node ns p.2) = true) ∧ (inS lv (node ns (opp p.2)) = true → inS lv (node ns p.1) = true) := by
  have F := R.flow
  have L := R.lev
  have hsrc : inS lv (2 * (ns.length : Int)) = true := decide_eq_true (by rw [L.st _ (List.mem_singleton.mpr rfl)]; omega)
  have hsnk : inS lv (2 * (ns.length : Int) + 1) = false := decide_eq_false (by have := R.no; omega)
  obtain ⟨e, each⟩ := F.cut R.bt (inS lv) (by omega) (by omega) (by omega) (by omega) hsrc hsnk fun u u0 u1 hu a ha hr => by
    have : 0 ≤ g0 lv u := of_decide_eq_true hu
    exact decide_eq_true (L.cl u u0 u1 this a (by rw [R.bt.gs u u0 u1]; exact ha) hr)
  have low := R.low A
  have wide : ∀ p ∈ links ns left right rows, p.2.2 = wideOf ns left → inS lv p.1 = true → inS lv p.2.1 = true := fun p hp w h => by
    cases c : inS lv p.2.1 with
    | true => rfl
    | false =>
      obtain ⟨k, hk⟩ := List.getElem?_of_mem hp
      have := (each k p hk).1 h c
      have := (F.lo k p hk).2.1
      omega
  have cl : ∀ p ∈ rows, (inS lv (node ns (opp p.1)) = true → inS lv (node ns p.2) = true) ∧ (inS lv (node ns (opp p.2)) = true → inS lv (node ns p.1) = true) := fun p hp => ⟨fun h => wide _ (mem_links.mpr (.inr ⟨p, hp, .inl rfl⟩)) rfl h, fun h => wide _ (mem_links.mpr (.inr ⟨p, hp, .inr rfl⟩)) rfl h⟩
  refine ⟨?_, cl⟩
  rw [e, lsum ns left right rows (fun p _ => if inS lv p.1 = true ∧ inS lv p.2.1 = false then p.2.2 else 0), sum_zip (fun p : Row => (if inS lv (node ns (opp p.1), node ns p.2, wideOf ns left).1 = true ∧ inS lv (node ns (opp p.1), node ns p.2, wideOf ns left).2.1 = false then (node ns (opp p.1), node ns p.2, wideOf ns left).2.2 else 0) + (if inS lv (node ns (opp p.2), node ns p.1, wideOf ns left).1 = true ∧ inS lv (node ns (opp p.2), node ns p.1, wideOf ns left).2.1 = false then (node ns (opp p.2), node ns p.1, wideOf ns left).2.2 else 0)) rows 0, sum_zero (l := rows) fun p hp => ?_, Int.add_zero,
    sum_zip (fun x : Str => (if inS lv (2 * (ns.length : Int), node ns (x, false), gD left x).1 = true ∧ inS lv (2 * (ns.length : Int), node ns (x, false), gD left x).2.1 = false then (2 * (ns.length : Int), node ns (x, false), gD left x).2.2 else 0) + (if inS lv (node ns (x, true), 2 * (ns.length : Int) + 1, gD right x).1 = true ∧ inS lv (node ns (x, true), 2 * (ns.length : Int) + 1, gD right x).2.1 = false then (node ns (x, true), 2 * (ns.length : Int) + 1, gD right x).2.2 else 0)) ns 0]
  · refine sum_congr fun x _ => ?_
    show (if inS lv (2 * (ns.length : Int)) = true ∧ inS lv (node ns (x, false)) = false then gD left x else 0) + (if inS lv (node ns (x, true)) = true ∧ inS lv (2 * (ns.length : Int) + 1) = false then gD right x else 0) = _
    rw [hsrc, hsnk]
    cases inS lv (node ns (x, false)) <;> cases inS lv (node ns (x, true)) <;> simp
  · obtain ⟨c1, c2⟩ := cl p hp
    show (if inS lv (node ns (opp p.1)) = true ∧ inS lv (node ns p.2) = false then _ else 0) + (if inS lv (node ns (opp p.2)) = true ∧ inS lv (node ns p.1) = false then _ else 0) = 0
    rw [if_neg fun h => by rw [c1 h.1] at h; exact absurd h.2 (by decide), if_neg fun h => by rw [c2 h.1] at h; exact absurd h.2 (by decide)]
    rfl
end
end KK
end

section
set_option maxRecDepth 100000
set_option maxHeartbeats 4000000
namespace KK
open PySem PySem.Spec PyProof.Rows L2 Y
def tieRow (e : Str × Str) : Row := ((e.1, true), (e.2, true))
theorem sum_hit {f : Nat → Int} {x : Str} : ∀ {l : List Str} {i : Nat} (k : Nat), l.Nodup → l[i]? = some x → ((l.zipIdx k).map fun p => if p.1 = x then f p.2 else 0).sum = f (k + i)
  | [], i, k, _, h => by simp at h
  | a :: l, 0, k, nd, h => by
    cases h
    rw [List.zipIdx_cons, List.map_cons, List.sum_cons, if_pos rfl, sum_zero fun p hp => ?_]
    · show f k + 0 = f (k + 0)
      rw [Int.add_zero, Nat.add_zero]
    · refine if_neg fun e => (List.nodup_cons.mp nd).1 ?_
      rw [← e]
      have := List.mem_map_of_mem (f := Prod.fst) hp
      rwa [List.zipIdx_map_fst] at this
  | a :: l, i + 1, k, nd, h => by
    have h : l[i]? = some x := h
    rw [List.zipIdx_cons, List.map_cons, List.sum_cons, sum_hit (k + 1) (List.nodup_cons.mp nd).2 h, if_neg fun e => (List.nodup_cons.mp nd).1 (by rw [show a = x from e]; exact List.mem_of_getElem? h), show k + 1 + i = k + (i + 1) from by omega]
    exact Int.zero_add _
theorem zip_zi {α : Type} (f : α × Nat → Int) : ∀ (l : List α) (k : Nat), l.zip ((l.zipIdx k).map f) = (l.zipIdx k).map fun p => (p.1, f p)
  | [], _ => rfl
  | a :: l, k => by rw [List.zipIdx_cons, List.map_cons, List.map_cons, List.zip_cons_cons, zip_zi f l (k + 1)]
def rowF (N : Nat) (rs : List Int) (j : Nat) : Int := fw rs (2 * j + 2 * N) + fw rs (2 * j + 1 + 2 * N)
def flowsOf (N : Nat) (rs : List Int) (us : List (Str × Str)) : List Int := us.zipIdx.map fun p => rowF N rs p.2
theorem flows_arcs (N : Nat) (rs : List Int) (us : List (Str × Str)) : ((arcL N us.length).map fun p => g0 rs (p.1 + 1) + g0 rs (p.2 + 1)) = flowsOf N rs us := by
  have e : us.zipIdx.map (fun p => rowF N rs p.2) = (us.zipIdx.map Prod.snd).map (rowF N rs) := by rw [List.map_map]; rfl
  unfold flowsOf arcL
  rw [e, List.zipIdx_map_snd, ← List.range_eq_range', List.map_map]
  refine List.map_congr_left fun j _ => ?_
  show g0 rs (4 * (N : Int) + 4 * (j : Int) + 1) + g0 rs (4 * (N : Int) + 4 * (j : Int) + 2 + 1) = g0 rs (2 * ((2 * j + 2 * N : Nat) : Int) + 1) + g0 rs (2 * ((2 * j + 1 + 2 * N : Nat) : Int) + 1)
  congr 2 <;> omega
/-- prices of the ties -/
structure TieFl (ns : List Str) (pr : Str → Int) (us : List (Str × Str)) (tot : Int) (ys : List Int) : Prop where
  ln : ys.length = us.length
  nn : ∀ y ∈ ys, 0 ≤ y
  tt : ys.sum = tot
  lo : ∀ x ∈ ns, ((us.zip ys).map fun p => (if p.1.1 = x then p.2 else 0) + (if p.1.2 = x then p.2 else 0)).sum ≤ 2 * pr x
/-- an answer -/
structure AnsR (ns : List Str) (pr : Str → Int) (us : List (Str × Str)) (tot : Int) (xv : Str → Int) : Prop where
  r : ∀ x ∈ ns, 0 ≤ xv x ∧ xv x ≤ 2
  t : ∀ e ∈ us, 2 ≤ xv e.1 + xv e.2
  c : (ns.map fun x => pr x * xv x).sum = tot
section
variable {ns : List Str} {pr : List (Str × Int)} {us : List (Str × Str)} {hs rs0 rs lv : List Int} {ls : List (List Int)} {tot : Int}
theorem node_if {l m : Lit} (hl : l.1 ∈ ns) (hm : m.1 ∈ ns) (a b : Int) : (if node ns l = node ns m then a else b) = if l = m then a else b := by
  by_cases e : l = m
  · rw [if_pos e, if_pos (by rw [e])]
  · rw [if_neg e, if_neg fun z => e (node_inj hl hm z)]
theorem zipIdx_tie (h : Row × Nat → Int) (us : List (Str × Str)) : ((us.map tieRow).zipIdx.map h) = us.zipIdx.map fun p => h (tieRow p.1, p.2) := by
  rw [List.zipIdx_map, List.map_map]
  rfl
theorem SidesR.at_ (R : SidesR ns pr pr (us.map tieRow) hs rs0 rs ls tot lv) (nd : ns.Nodup) (hu : ∀ e ∈ us, e.1 ∈ ns ∧ e.2 ∈ ns) {x : Str} {i : Nat} (hx : ns[i]? = some x) :
    (us.zipIdx.map fun p => (if p.1.1 = x then fw rs (2 * p.2 + 2 * ns.length) else 0) + (if p.1.2 = x then fw rs (2 * p.2 + 1 + 2 * ns.length) else 0)).sum = fw rs (2 * i) ∧
    (us.zipIdx.map fun p => (if p.1.2 = x then fw rs (2 * p.2 + 2 * ns.length) else 0) + (if p.1.1 = x then fw rs (2 * p.2 + 1 + 2 * ns.length) else 0)).sum = fw rs (2 * i + 1) := by
  have F := R.flow
  have hm := List.mem_of_getElem? hx
  have key : ∀ b : Bool, (ns.zipIdx.map fun p : Str × Nat => if p.1 = x then (if b then - fw rs (2 * p.2 + 1) else fw rs (2 * p.2)) else 0).sum + (us.zipIdx.map fun p : (Str × Str) × Nat => if b then (if p.1.2 = x then fw rs (2 * p.2 + 2 * ns.length) else 0) + (if p.1.1 = x then fw rs (2 * p.2 + 1 + 2 * ns.length) else 0) else - ((if p.1.1 = x then fw rs (2 * p.2 + 2 * ns.length) else 0) + (if p.1.2 = x then fw rs (2 * p.2 + 1 + 2 * ns.length) else 0))).sum = 0 := fun b => by
    obtain ⟨v0, v1⟩ := node_in (ns := ns) (l := (x, b)) hm
    have cv := F.cv (node ns (x, b)) (by omega) (by omega)
    rw [if_neg (by omega), if_neg (by omega), lsum ns pr pr (us.map tieRow) (fun p k => (if p.2.1 = node ns (x, b) then fw rs k else 0) - (if p.1 = node ns (x, b) then fw rs k else 0)), zipIdx_tie] at cv
    refine Eq.trans ?_ cv
    congr 1
    · refine sum_congr fun p hp => ?_
      have m := List.mem_of_getElem? (zip_mem hp)
      show _ = ((if node ns (p.1, false) = node ns (x, b) then _ else _) - (if 2 * (ns.length : Int) = node ns (x, b) then _ else _)) + ((if 2 * (ns.length : Int) + 1 = node ns (x, b) then _ else _) - (if node ns (p.1, true) = node ns (x, b) then _ else _))
      rw [node_if m hm, node_if m hm, if_neg (c := 2 * (ns.length : Int) = node ns (x, b)) (by omega), if_neg (c := 2 * (ns.length : Int) + 1 = node ns (x, b)) (by omega)]
      by_cases e : p.1 = x <;> cases b <;> simp [e]
    · refine sum_congr fun p hp => ?_
      obtain ⟨m1, m2⟩ := hu p.1 (List.mem_of_getElem? (zip_mem hp))
      show _ = ((if node ns (p.1.2, true) = node ns (x, b) then fw rs (2 * p.2 + 2 * ns.length) else 0) - (if node ns (p.1.1, false) = node ns (x, b) then fw rs (2 * p.2 + 2 * ns.length) else 0)) + ((if node ns (p.1.1, true) = node ns (x, b) then fw rs (2 * p.2 + 1 + 2 * ns.length) else 0) - (if node ns (p.1.2, false) = node ns (x, b) then fw rs (2 * p.2 + 1 + 2 * ns.length) else 0))
      rw [node_if m2 hm, node_if m1 hm, node_if m1 hm, node_if m2 hm]
      cases b <;> by_cases e1 : p.1.1 = x <;> by_cases e2 : p.1.2 = x <;> simp [e1, e2] <;> omega
  have k1 := key false
  have k2 := key true
  have neg : ∀ (f : (Str × Str) × Nat → Int) (l : List ((Str × Str) × Nat)), (l.map fun p => - f p).sum = - (l.map f).sum := fun f l => by
    induction l with
    | nil => rfl
    | cons a l ih => simp only [List.map_cons, List.sum_cons, ih]; omega
  simp only [Bool.false_eq_true, if_false, if_true] at k1 k2
  rw [neg, sum_hit (f := fun k => fw rs (2 * k)) 0 nd hx, Nat.zero_add] at k1
  rw [sum_hit (f := fun k => - fw rs (2 * k + 1)) 0 nd hx, Nat.zero_add] at k2
  constructor <;> omega
theorem SidesR.ties (R : SidesR ns pr pr (us.map tieRow) hs rs0 rs ls tot lv) (A : SidesP ns pr pr (us.map tieRow)) : TieFl ns (gD pr) us tot (flowsOf ns.length rs us) := by
  have F := R.flow
  have hu : ∀ e ∈ us, e.1 ∈ ns ∧ e.2 ∈ ns := fun e he => A.rw (tieRow e) (List.mem_map_of_mem he)
  have ll : (links ns pr pr (us.map tieRow)).length = 2 * ns.length + 2 * us.length := by
    unfold links
    rw [List.length_append, nameLks_len, rowLks_len, List.length_map]
  refine ⟨by rw [flowsOf, List.length_map, List.length_zipIdx], fun y hy => ?_, ?_, fun x hx => ?_⟩
  · obtain ⟨p, hp, rfl⟩ := List.mem_map.mp hy
    have hj := (List.getElem?_eq_some_iff.mp (zip_mem hp)).1
    have h1 := (F.lo (2 * p.2 + 2 * ns.length) _ (List.getElem?_eq_getElem (by omega))).1
    have h2 := (F.lo (2 * p.2 + 1 + 2 * ns.length) _ (List.getElem?_eq_getElem (by omega))).1
    show 0 ≤ rowF _ _ _
    unfold rowF
    omega
  · rw [R.src A]
    have e1 : (ns.zipIdx.map fun p => fw rs (2 * p.2)).sum = (ns.zipIdx.map fun p : Str × Nat => (us.zipIdx.map fun q : (Str × Str) × Nat => (if q.1.1 = p.1 then fw rs (2 * q.2 + 2 * ns.length) else 0) + (if q.1.2 = p.1 then fw rs (2 * q.2 + 1 + 2 * ns.length) else 0)).sum).sum := sum_congr fun p hp => ((R.at_ A.nd hu (zip_mem hp)).1).symm
    rw [e1, sum_swap]
    refine sum_congr fun q hq => ?_
    obtain ⟨m1, m2⟩ := hu q.1 (List.mem_of_getElem? (zip_mem hq))
    rw [sum_add]
    have one : ∀ {a : Str} (v : Int), a ∈ ns → (ns.zipIdx.map fun p : Str × Nat => if a = p.1 then v else 0).sum = v := fun {a} v ha => by
      obtain ⟨i, hi⟩ := List.getElem?_of_mem ha
      have := sum_hit (f := fun _ => v) 0 A.nd hi
      refine Eq.trans (sum_congr fun p _ => ?_) this
      by_cases e : a = p.1
      · rw [if_pos e, if_pos e.symm]
      · rw [if_neg e, if_neg fun z => e z.symm]
    rw [one _ m1, one _ m2]
    rfl
  · obtain ⟨i, hi⟩ := List.getElem?_of_mem hx
    obtain ⟨h1, h2⟩ := R.at_ A.nd hu hi
    obtain ⟨l1, l2⟩ := R.link hi
    have f1 : g0 rs (2 * ((2 * i : Nat) : Int)) = gD pr x - fw rs (2 * i) ∧ 0 ≤ g0 rs (2 * ((2 * i : Nat) : Int)) := (F.lo (2 * i) _ l1).2.2
    have f2 : g0 rs (2 * ((2 * i + 1 : Nat) : Int)) = gD pr x - fw rs (2 * i + 1) ∧ 0 ≤ g0 rs (2 * ((2 * i + 1 : Nat) : Int)) := (F.lo (2 * i + 1) _ l2).2.2
    unfold flowsOf
    rw [zip_zi, List.map_map]
    have : (us.zipIdx.map ((fun p : (Str × Str) × Int => (if p.1.1 = x then p.2 else 0) + (if p.1.2 = x then p.2 else 0)) ∘ fun p => (p.1, rowF ns.length rs p.2))).sum = fw rs (2 * i) + fw rs (2 * i + 1) := by
      rw [← h1, ← h2, ← sum_add]
      refine sum_congr fun p _ => ?_
      show (if p.1.1 = x then rowF ns.length rs p.2 else 0) + (if p.1.2 = x then rowF ns.length rs p.2 else 0) = _
      unfold rowF
      by_cases e1 : p.1.1 = x <;> by_cases e2 : p.1.2 = x <;> simp [e1, e2] <;> omega
    omega
theorem SidesR.ans (R : SidesR ns pr pr (us.map tieRow) hs rs0 rs ls tot lv) (A : SidesP ns pr pr (us.map tieRow)) : AnsR ns (gD pr) us tot (valOf ns (lv.map fun x => decide (0 ≤ x))) := by
  obtain ⟨e, rows⟩ := R.cut A
  have hu : ∀ e ∈ us, e.1 ∈ ns ∧ e.2 ∈ ns := fun e he => A.rw (tieRow e) (List.mem_map_of_mem he)
  have gb : ∀ {l : Lit}, l.1 ∈ ns → gB (lv.map fun x => decide (0 ≤ x)) (node ns l) = inS lv (node ns l) := fun {l} hl => by
    obtain ⟨v0, v1⟩ := node_in (ns := ns) (l := l) hl
    have hl := R.lev.ln
    unfold gB inS g0
    rw [List.getD_eq_getElem?_getD, List.getD_eq_getElem?_getD, List.getElem?_map, List.getElem?_eq_getElem (by omega)]
    rfl
  have val : ∀ {x : Str}, x ∈ ns → valOf ns (lv.map fun x => decide (0 ≤ x)) x = (if inS lv (node ns (x, false)) = true then 0 else 1) + (if inS lv (node ns (x, true)) = true then 1 else 0) := fun {x} hx => by
    unfold valOf
    rw [gb (l := (x, false)) hx, gb (l := (x, true)) hx]
  refine ⟨fun x hx => ?_, fun p hp => ?_, ?_⟩
  · rw [val hx]
    cases inS lv (node ns (x, false)) <;> cases inS lv (node ns (x, true)) <;> decide
  · obtain ⟨m1, m2⟩ := hu p hp
    obtain ⟨c1, c2⟩ := rows (tieRow p) (List.mem_map_of_mem hp)
    have c1 : inS lv (node ns (p.1, false)) = true → inS lv (node ns (p.2, true)) = true := c1
    have c2 : inS lv (node ns (p.2, false)) = true → inS lv (node ns (p.1, true)) = true := c2
    rw [val m1, val m2]
    cases h1 : inS lv (node ns (p.1, false)) <;> cases h2 : inS lv (node ns (p.1, true)) <;> cases h3 : inS lv (node ns (p.2, false)) <;> cases h4 : inS lv (node ns (p.2, true)) <;> simp [h1, h2, h3, h4] at c1 c2 ⊢
  · rw [e]
    refine sum_congr fun x hx => ?_
    rw [val hx]
    cases inS lv (node ns (x, false)) <;> cases inS lv (node ns (x, true)) <;> simp <;> omega
end
end KK
end

section
set_option maxRecDepth 100000
set_option maxHeartbeats 4000000
/-! Typed readings: a value in the heap stands for a value of Lean; a reading is asked in a context of typed slots. -/
namespace Z
open PySem PySem.Spec PyProof.Rows L2
/-- what may become of an address: shared (never written), locked (a dict that is walked), a stream, one's own (written here), another's -/
inductive Md where
  | sh | lk | st | ow | fo
  deriving DecidableEq
abbrev Wd := Addr → Md
/-- to be read -/
def RdW (W : Wd) (H : Hp) (b : Addr) (o : HO) : Prop := (W b = .sh ∧ H b = some o) ∨ ((W b = .lk ∨ W b = .fo) ∧ ∃ od, H b = some (.frz od o))
theorem RdW.rd {W : Wd} {H : Hp} {b : Addr} {o : HO} (h : RdW W H b o) : Rd H b o := by
  rcases h with ⟨_, h⟩ | ⟨_, od, h⟩
  · exact .inl h
  · exact .inr ⟨od, h⟩
/-- what was to be read is to be read, lists stand, streams are streams -/
structure Mv (W : Wd) (H : Hp) (W' : Wd) (H' : Hp) : Prop where
  rd : ∀ b o, RdW W H b o → RdW W' H' b o
  ls : ∀ b vs, W b = .sh → H b = some (.lst vs) → W' b = .sh ∧ H' b = some (.lst vs)
  st : ∀ b, W b = .st → W' b = .st
structure Ty (α : Type) where
  R : Wd → Hp → V → α → Prop
  go : ∀ {W W' : Wd} {H H' : Hp} {v : V} {x : α}, R W H v x → Mv W H W' H' → R W' H' v x
/-- all but one's own stands (streams stay streams) -/
structure Go (W : Wd) (H : Hp) (W' : Wd) (H' : Hp) : Prop where
  k : ∀ b o, H b = some o → (W b = .sh ∨ W b = .lk ∨ W b = .fo) → H' b = some o ∧ W' b = W b
  s : ∀ b, W b = .st → W' b = .st
  l : ∀ b, W' b = .lk → W b = .lk
/-- all stands (streams stay streams) -/
structure GoE (W : Wd) (H : Hp) (W' : Wd) (H' : Hp) : Prop where
  k : ∀ b o, H b = some o → W b ≠ .st → H' b = some o ∧ W' b = W b
  s : ∀ b, W b = .st → W' b = .st
  l : ∀ b, W' b = .lk → W b = .lk
structure OKW (W : Wd) (H : Hp) : Prop where
  st : ∀ b, W b = .st → ∃ c k : Int, H b = some (.lst [.int c, .int k]) ∧ 0 ≤ k
  al : ∀ b, W b ≠ .sh → ∃ o, H b = some o
  nf : ∀ b od u, W b = .ow → H b ≠ some (.frz od u)
  lk : ∀ b, W b = .lk → ∃ od, (∃ ws, H b = some (.frz od (.dK ws))) ∨ ∃ ws, H b = some (.frz od (.dT ws))
  fo : ∀ b od u, W b = .fo → H b = some (.frz od u) → ∃ vs, u = .lst vs
  tp : ∀ b vs, H b = some (.tup vs) → W b = .sh
section
variable {W W1 W2 : Wd} {H H1 H2 : Hp}
theorem Go.refl : Go W H W H := ⟨fun _ _ h _ => ⟨h, rfl⟩, fun _ h => h, fun _ h => h⟩
theorem GoE.refl : GoE W H W H := ⟨fun _ _ h _ => ⟨h, rfl⟩, fun _ h => h, fun _ h => h⟩
theorem Go.trans (a : Go W H W1 H1) (b : Go W1 H1 W2 H2) : Go W H W2 H2 := ⟨fun c o h w => by
  obtain ⟨h1, e1⟩ := a.k c o h w
  obtain ⟨h2, e2⟩ := b.k c o h1 (by rw [e1]; exact w)
  exact ⟨h2, e2.trans e1⟩, fun c h => b.s c (a.s c h), fun c h => a.l c (b.l c h)⟩
theorem GoE.trans (a : GoE W H W1 H1) (b : GoE W1 H1 W2 H2) : GoE W H W2 H2 := ⟨fun c o h w => by
  obtain ⟨h1, e1⟩ := a.k c o h w
  obtain ⟨h2, e2⟩ := b.k c o h1 (by rw [e1]; exact w)
  exact ⟨h2, e2.trans e1⟩, fun c h => b.s c (a.s c h), fun c h => a.l c (b.l c h)⟩
theorem GoE.go (a : GoE W H W1 H1) : Go W H W1 H1 := ⟨fun c o h w => a.k c o h (by rcases w with w | w | w <;> rw [w] <;> decide), a.s, a.l⟩
theorem Go.mv (a : Go W H W1 H1) : Mv W H W1 H1 := ⟨fun b o h => by
  rcases h with ⟨w, h⟩ | ⟨w, od, h⟩
  · obtain ⟨h1, e1⟩ := a.k b _ h (.inl w)
    exact .inl ⟨e1.trans w, h1⟩
  · obtain ⟨h1, e1⟩ := a.k b _ h (.inr w)
    exact .inr ⟨by rw [e1]; exact w, od, h1⟩, fun b vs w h => by
    obtain ⟨h1, e1⟩ := a.k b _ h (.inl w)
    exact ⟨e1.trans w, h1⟩, a.s⟩
theorem Ty.mv {α : Type} (t : Ty α) {v : V} {x : α} (h : t.R W H v x) (g : Go W H W1 H1) : t.R W1 H1 v x := t.go h g.mv
theorem Ty.mvE {α : Type} (t : Ty α) {v : V} {x : α} (h : t.R W H v x) (g : GoE W H W1 H1) : t.R W1 H1 v x := t.mv h g.go
/-- a new object -/
theorem OKW.fresh (ok : OKW W H) {p : Addr} (hp : H p = none) : W p = .sh := by
  cases e : W p with
  | sh => rfl
  | lk => obtain ⟨o, h⟩ := ok.al p (by rw [e]; decide); rw [hp] at h; cases h
  | st => obtain ⟨o, h⟩ := ok.al p (by rw [e]; decide); rw [hp] at h; cases h
  | ow => obtain ⟨o, h⟩ := ok.al p (by rw [e]; decide); rw [hp] at h; cases h
  | fo => obtain ⟨o, h⟩ := ok.al p (by rw [e]; decide); rw [hp] at h; cases h
theorem GoE.new {p : Addr} {o : HO} (hp : H p = none) : GoE W H W (upd H p o) := ⟨fun b u h _ => ⟨by rw [upd_ne (ne_of_none h hp)]; exact h, rfl⟩, fun _ h => h, fun _ h => h⟩
def NoFrz : HO → Prop
  | .frz _ _ => False
  | _ => True
def NoTup : HO → Prop
  | .frz _ _ => False
  | .tup _ => False
  | _ => True
theorem OKW.new (ok : OKW W H) {p : Addr} {o : HO} (hp : H p = none) (nf : NoFrz o) : OKW W (upd H p o) := by
  refine ⟨fun b h => ?_, fun b h => ?_, fun b od u w h => ?_, fun b h => ?_, fun b od u w h => ?_, fun b vs h => ?_⟩
  rotate_right
  · by_cases n : b = p
    · rw [n]; exact ok.fresh hp
    · rw [upd_ne n] at h; exact ok.tp b vs h
  · obtain ⟨c, k, e, z⟩ := ok.st b h
    exact ⟨c, k, by rw [upd_ne (ne_of_none e hp)]; exact e, z⟩
  · obtain ⟨u, e⟩ := ok.al b h
    exact ⟨u, by rw [upd_ne (ne_of_none e hp)]; exact e⟩
  · by_cases n : b = p
    · subst n
      rw [upd_same] at h
      cases h
      exact nf.elim
    · rw [upd_ne n] at h
      exact ok.nf b od u w h
  · obtain ⟨od, ⟨ws, e⟩ | ⟨ws, e⟩⟩ := ok.lk b h
    · exact ⟨od, .inl ⟨ws, by rw [upd_ne (ne_of_none e hp)]; exact e⟩⟩
    · exact ⟨od, .inr ⟨ws, by rw [upd_ne (ne_of_none e hp)]; exact e⟩⟩
  · by_cases n : b = p
    · subst n
      rw [upd_same] at h
      cases h
      exact nf.elim
    · rw [upd_ne n] at h
      exact ok.fo b od u w h
/-- neither a list nor a dict: it stands there itself -/
theorem OKW.exact (ok : OKW W H) {a : Addr} {o : HO} (h : RdW W H a o) (nl : ∀ vs, o ≠ .lst vs) (nd : ∀ ws, o ≠ .dK ws) (nt : ∀ ws, o ≠ .dT ws) : H a = some o := by
  rcases h with ⟨w, h⟩ | ⟨w | w, od, h⟩
  · exact h
  · obtain ⟨od2, ⟨ws, e⟩ | ⟨ws, e⟩⟩ := ok.lk a w
    · rw [h] at e
      cases e
      exact absurd rfl (nd ws)
    · rw [h] at e
      cases e
      exact absurd rfl (nt ws)
  · obtain ⟨vs, e⟩ := ok.fo a od o w h
    exact absurd e (nl vs)
/-- a dict that is not locked -/
theorem OKW.exactD (ok : OKW W H) {a : Addr} {o : HO} (h : RdW W H a o) (n : W a ≠ .lk) (nl : ∀ vs, o ≠ .lst vs) : H a = some o ∧ W a = .sh := by
  rcases h with ⟨w, h⟩ | ⟨w | w, od, h⟩
  · exact ⟨h, w⟩
  · exact absurd w n
  · obtain ⟨vs, e⟩ := ok.fo a od o w h
    exact absurd e (nl vs)
theorem rdNew (ok : OKW W H) {p : Addr} {o : HO} (hp : H p = none) : RdW W (upd H p o) p o := .inl ⟨ok.fresh hp, upd_same⟩
end
/-! ### types -/
def tInt : Ty Int := ⟨fun _ _ v i => v = .int i, fun h _ => h⟩
def tStr : Ty Str := ⟨fun _ _ v i => v = .str i, fun h _ => h⟩
def tBl : Ty Bool := ⟨fun _ _ v i => v = .bl i, fun h _ => h⟩
def tNon : Ty Unit := ⟨fun _ _ v _ => v = .non, fun h _ => h⟩
def tStm : Ty Unit := ⟨fun W _ v _ => ∃ a, v = .ref a ∧ W a = .st, fun ⟨a, e, h⟩ m => ⟨a, e, m.st a h⟩⟩
/-- any value, as it is -/
def tVal : Ty V := ⟨fun _ _ v x => v = x, fun h _ => h⟩
def tOpt {α : Type} (t : Ty α) : Ty (Option α) := ⟨fun W H v x => match x with
  | none => v = .non
  | some y => t.R W H v y, fun {W W' H H' v x} h m => by
  cases x with
  | none => exact h
  | some y => exact t.go h m⟩
def tOr {α β : Type} (t : Ty α) (u : Ty β) : Ty (α ⊕ β) := ⟨fun W H v x => match x with
  | .inl y => t.R W H v y
  | .inr y => u.R W H v y, fun {W W' H H' v x} h m => by
  cases x with
  | inl y => exact t.go h m
  | inr y => exact u.go h m⟩
/-- a list of one's own making -/
def SqW (_ : PySem.W.Frag) (W : Wd) (H : Hp) (a : Addr) (vs : List V) : Prop := W a = .sh ∧ H a = some (.lst vs)
/-- any list that may be read -/
def SqR (K : PySem.W.Frag) (W : Wd) (H : Hp) (a : Addr) (vs : List V) : Prop := RdW W H a (.lst vs) ∨
    ∃ (o : Obj) (its : Array Value) (n : Nat), K.lookup a = some o ∧ o.cls = .type "list" ∧ o.dict = none ∧ o.data = .seq its n ∧ its.size ≤ sizeLine ∧ Vals vs its.toList
def SqTW (_ : PySem.W.Frag) (W : Wd) (H : Hp) (a : Addr) (vs : List V) : Prop := RdW W H a (.tup vs)
section
variable {K : PySem.W.Frag} {W W' : Wd} {H H' : Hp} {a : Addr} {vs : List V}
theorem SqW.l (h : SqW K W H a vs) : SqL K H a vs := .inl (.inl h.2)
theorem SqR.l (h : SqR K W H a vs) : SqL K H a vs := by
  rcases h with h | h
  · exact .inl h.rd
  · exact .inr h
theorem SqW.mv (h : SqW K W H a vs) (m : Mv W H W' H') : SqW K W' H' a vs := m.ls a vs h.1 h.2
theorem SqR.mv (h : SqR K W H a vs) (m : Mv W H W' H') : SqR K W' H' a vs := by
  rcases h with h | h
  · exact .inl (m.rd a _ h)
  · exact .inr h
theorem SqTW.mv (h : SqTW K W H a vs) (m : Mv W H W' H') : SqTW K W' H' a vs := m.rd a _ h
theorem SqTW.at (h : SqTW K W H a vs) (ok : OKW W H) : H a = some (.tup vs) := ok.exact h (fun _ e => by cases e) (fun _ e => by cases e) (fun _ e => by cases e)
end
section
variable (K : PySem.W.Frag)
def tLs {α : Type} (t : Ty α) : Ty (List α) := ⟨fun W H v xs => ∃ a vs, v = .ref a ∧ SqW K W H a vs ∧ Paired (t.R W H) vs xs, by
  rintro W W' H H' v xs ⟨a, vs, e, h, p⟩ m
  exact ⟨a, vs, e, h.mv m, L2.Paired.mapP p fun u x r => t.go r m⟩⟩
/-- the script: ints that are read -/
def tScr : Ty (List Int) := ⟨fun W H v xs => ∃ a, v = .ref a ∧ SqR K W H a (xs.map V.int), by
  rintro W W' H H' v xs ⟨a, e, h⟩ m
  exact ⟨a, e, h.mv m⟩⟩
/-- a tuple of things of one kind -/
def tTu {α : Type} (t : Ty α) : Ty (List α) := ⟨fun W H v xs => ∃ a vs, v = .ref a ∧ SqTW K W H a vs ∧ Paired (t.R W H) vs xs, by
  rintro W W' H H' v xs ⟨a, vs, e, h, p⟩ m
  exact ⟨a, vs, e, h.mv m, L2.Paired.mapP p fun u x r => t.go r m⟩⟩
def tT2 {α β : Type} (t : Ty α) (u : Ty β) : Ty (α × β) := ⟨fun W H v x => ∃ a p q, v = .ref a ∧ SqTW K W H a [p, q] ∧ t.R W H p x.1 ∧ u.R W H q x.2, by
  rintro W W' H H' v xs ⟨a, p, q, e, h, r1, r2⟩ m
  exact ⟨a, p, q, e, h.mv m, t.go r1 m, u.go r2 m⟩⟩
def tT3 {α β γ : Type} (t : Ty α) (u : Ty β) (z : Ty γ) : Ty (α × β × γ) := ⟨fun W H v x => ∃ a p q r, v = .ref a ∧ SqTW K W H a [p, q, r] ∧ t.R W H p x.1 ∧ u.R W H q x.2.1 ∧ z.R W H r x.2.2, by
  rintro W W' H H' v xs ⟨a, p, q, r, e, h, r1, r2, r3⟩ m
  exact ⟨a, p, q, r, e, h.mv m, t.go r1 m, u.go r2 m, z.go r3 m⟩⟩
/-- a list of three things -/
def tL3 {α β γ : Type} (t : Ty α) (u : Ty β) (z : Ty γ) : Ty (α × β × γ) := ⟨fun W H v x => ∃ a p q r, v = .ref a ∧ SqW K W H a [p, q, r] ∧ t.R W H p x.1 ∧ u.R W H q x.2.1 ∧ z.R W H r x.2.2, by
  rintro W W' H H' v xs ⟨a, p, q, r, e, h, r1, r2, r3⟩ m
  exact ⟨a, p, q, r, e, h.mv m, t.go r1 m, u.go r2 m, z.go r3 m⟩⟩
def tL2 {α β : Type} (t : Ty α) (u : Ty β) : Ty (α × β) := ⟨fun W H v x => ∃ a p q, v = .ref a ∧ SqW K W H a [p, q] ∧ t.R W H p x.1 ∧ u.R W H q x.2, by
  rintro W W' H H' v xs ⟨a, p, q, e, h, r1, r2⟩ m
  exact ⟨a, p, q, e, h.mv m, t.go r1 m, u.go r2 m⟩⟩
end
/-- a kind of keys -/
structure Ky (κ : Type) where
  k : κ → Key
  inj : ∀ a b, k a = k b → a = b
def kS : Ky Str := ⟨Sum.inr, fun _ _ h => Sum.inr.inj h⟩
def kI : Ky Int := ⟨Sum.inl, fun _ _ h => Sum.inl.inj h⟩
/-- a dict, its pairs in order -/
def tDk {κ α : Type} (ke : Ky κ) (t : Ty α) : Ty (List (κ × α)) := ⟨fun W H v kvs => ∃ a ws, v = .ref a ∧ RdW W H a (.dK ws) ∧ Paired (fun (p : Key × V) (q : κ × α) => p.1 = ke.k q.1 ∧ t.R W H p.2 q.2) ws kvs, by
  rintro W W' H H' v xs ⟨a, vs, e, h, p⟩ m
  exact ⟨a, vs, e, m.rd _ _ h, L2.Paired.mapP p fun u x r => ⟨r.1, t.go r.2 m⟩⟩⟩
/-! ### contexts -/
inductive Sl : Type 1 where
  | un
  | sh {α : Type} (t : Ty α) (x : α)
  | ol {α : Type} (t : Ty α) (xs : List α)
  | od {κ α : Type} (ke : Ky κ) (t : Ty α) (kvs : List (κ × α))
def Sl.own : Sl → Bool
  | .ol _ _ => true
  | .od _ _ _ => true
  | _ => false
def SlOk (W : Wd) (H : Hp) (s : Sl) (e : Option V) : Prop := match s with
  | .un => True
  | .sh t x => ∃ v, e = some v ∧ t.R W H v x
  | .ol t xs => ∃ a vs, e = some (.ref a) ∧ W a = .ow ∧ H a = some (.lst vs) ∧ Paired (t.R W H) vs xs
  | .od ke t kvs => ∃ a ws, e = some (.ref a) ∧ W a = .ow ∧ H a = some (.dK ws) ∧ Paired (fun (p : Key × V) q => p.1 = ke.k q.1 ∧ t.R W H p.2 q.2) ws kvs
/-- n: no dict is locked -/
structure Ct where
  n : Bool
  s : List Sl
def Ct.set (G : Ct) (i : Nat) (s : Sl) : Ct := ⟨G.n, G.s.set i s⟩
structure Holds (G : Ct) (W : Wd) (H : Hp) (σ : L2.St) : Prop where
  len : σ.length = G.s.length
  ok : OKW W H
  sl : ∀ (i : Nat) s e, G.s[i]? = some s → σ[i]? = some e → SlOk W H s e
  dj : ∀ (i j : Nat) s s' a, G.s[i]? = some s → G.s[j]? = some s' → s.own = true → s'.own = true → σ[i]? = some (some (V.ref a)) → σ[j]? = some (some (V.ref a)) → i = j
  nl : G.n = true → ∀ b, W b ≠ .lk
section
variable {W W1 : Wd} {H H1 : Hp} {G : Ct} {σ : L2.St}
theorem SlOk.goE {s : Sl} {e : Option V} (h : SlOk W H s e) (g : GoE W H W1 H1) : SlOk W1 H1 s e := by
  cases s with
  | un => trivial
  | sh t x => obtain ⟨v, e, r⟩ := h; exact ⟨v, e, t.mvE r g⟩
  | ol t xs =>
    obtain ⟨a, vs, e, w, h, p⟩ := h
    obtain ⟨h1, w1⟩ := g.k a _ h (by rw [w]; decide)
    exact ⟨a, vs, e, w1.trans w, h1, L2.Paired.mapP p fun u x r => t.mvE r g⟩
  | od ke t kvs =>
    obtain ⟨a, vs, e, w, h, p⟩ := h
    obtain ⟨h1, w1⟩ := g.k a _ h (by rw [w]; decide)
    exact ⟨a, vs, e, w1.trans w, h1, L2.Paired.mapP p fun u x r => ⟨r.1, t.mvE r.2 g⟩⟩
theorem Holds.goE (h : Holds G W H σ) (g : GoE W H W1 H1) (ok : OKW W1 H1) : Holds G W1 H1 σ := ⟨h.len, ok, fun i s e a b => (h.sl i s e a b).goE g, h.dj, fun n b w => h.nl n b (g.l b w)⟩
theorem Holds.get {i : Nat} {s : Sl} (h : Holds G W H σ) (e : G.s[i]? = some s) : ∃ z, σ[i]? = some z ∧ SlOk W H s z := by
  have hi : i < σ.length := by rw [h.len]; exact (List.getElem?_eq_some_iff.mp e).1
  exact ⟨σ[i], List.getElem?_eq_getElem hi, h.sl i s _ e (List.getElem?_eq_getElem hi)⟩
theorem Holds.var {α : Type} {t : Ty α} {x : α} {i : Nat} (h : Holds G W H σ) (e : G.s[i]? = some (.sh t x)) : ∃ v, σ[i]? = some (some v) ∧ t.R W H v x := by
  obtain ⟨z, e1, v, rfl, r⟩ := h.get e
  exact ⟨v, e1, r⟩
/-- a slot is stored -/
theorem Holds.set (h : Holds G W H σ) (i : Nat) {s : Sl} {e : Option V} (ok : SlOk W H s e) (new : ∀ (j : Nat) s' a, j ≠ i → s.own = true → e = some (.ref a) → G.s[j]? = some s' → s'.own = true → σ[j]? ≠ some (some (.ref a))) : Holds (G.set i s) W H (σ.set i e) := by
  refine ⟨by show (σ.set i e).length = (G.s.set i s).length; rw [List.length_set, List.length_set]; exact h.len, h.ok, fun j s' e' (h1 : (G.s.set i s)[j]? = some s') h2 => ?_, fun j k s1 s2 a (h1 : (G.s.set i s)[j]? = some s1) (h2 : (G.s.set i s)[k]? = some s2) o1 o2 h3 h4 => ?_, h.nl⟩
  · by_cases hj : i = j
    · subst hj
      rw [List.getElem?_set] at h1 h2
      rw [if_pos rfl] at h1 h2
      split at h1
      · split at h2
        · cases h1; cases h2; exact ok
        · cases h2
      · cases h1
    · rw [List.getElem?_set_ne hj] at h1 h2
      exact h.sl j s' e' h1 h2
  · have key : ∀ {m : Nat} {s3 : Sl} {z : Option V}, (G.s.set i s)[m]? = some s3 → (σ.set i e)[m]? = some z → (m = i ∧ s3 = s ∧ z = e) ∨ (m ≠ i ∧ G.s[m]? = some s3 ∧ σ[m]? = some z) := fun {m s3 z} g1 g2 => by
      by_cases hm : i = m
      · subst hm
        rw [List.getElem?_set, if_pos rfl] at g1 g2
        split at g1
        · split at g2
          · cases g1; cases g2; exact .inl ⟨rfl, rfl, rfl⟩
          · cases g2
        · cases g1
      · rw [List.getElem?_set_ne hm] at g1 g2
        exact .inr ⟨fun z => hm z.symm, g1, g2⟩
    rcases key h1 h3 with ⟨e1, e2, e3⟩ | ⟨n1, g1, g2⟩
    · rcases key h2 h4 with ⟨f1, f2, f3⟩ | ⟨n2, g3, g4⟩
      · rw [e1, f1]
      · subst e2
        exact absurd g4 (new k s2 a n2 o1 e3.symm g3 o2)
    · rcases key h2 h4 with ⟨f1, f2, f3⟩ | ⟨n2, g3, g4⟩
      · subst f2
        exact absurd g2 (new j s1 a n1 o2 f3.symm g1 o1)
      · exact h.dj j k s1 s2 a g1 g3 o1 o2 g2 g4
theorem Holds.setSh (h : Holds G W H σ) (i : Nat) {α : Type} {t : Ty α} {x : α} {v : V} (r : t.R W H v x) : Holds (G.set i (.sh t x)) W H (σ.set i (some v)) :=
  h.set i ⟨v, rfl, r⟩ fun _ _ _ _ z => nomatch z
theorem Holds.setUn (h : Holds G W H σ) (i : Nat) (e : Option V) : Holds (G.set i .un) W H (σ.set i e) := h.set i trivial fun _ _ _ _ z => nomatch z
/-- forgetting a slot -/
theorem Holds.forget (h : Holds G W H σ) (i : Nat) : Holds (G.set i .un) W H σ := by
  by_cases hi : i < σ.length
  · have := h.setUn i σ[i]
    rwa [List.set_getElem_self] at this
  · have e : G.set i .un = G := by
      unfold Ct.set
      rw [List.set_eq_of_length_le (by rw [← h.len]; omega)]
    rw [e]
    exact h
end
/-! ### errors -/
/-- an error: its class, its fields -/
structure Er where
  C : Addr
  fs : Option (List (Str × Sl))
inductive FldsOk (W : Wd) (H : Hp) : List (Str × V) → List (Str × Sl) → Prop where
  | nil : FldsOk W H [] []
  | cons {f : Str} {v : V} {α : Type} {t : Ty α} {x : α} {vs : List (Str × V)} {ss : List (Str × Sl)} : t.R W H v x → FldsOk W H vs ss → FldsOk W H ((f, v) :: vs) ((f, .sh t x) :: ss)
def ErAt (W : Wd) (H : Hp) (e : Er) (d : Option Addr) : Prop := match e.fs, d with
  | none, none => True
  | some fs, some d => ∃ ws, H d = some (.xd ws) ∧ W d = .sh ∧ FldsOk W H ws fs
  | _, _ => False
/-- what is wanted of an exception; which may come -/
structure Xw where
  E : XK
  xp : Er → Prop
def Xw.ok (X : Xw) (W : Wd) (H : Hp) : Prop := ∀ e d W' H', X.xp e → GoE W H W' H' → OKW W' H' → ErAt W' H' e d → X.E (.ref e.C) d H'
theorem Xw.ok.mv {X : Xw} {W W1 : Wd} {H H1 : Hp} (h : X.ok W H) (g : GoE W H W1 H1) : X.ok W1 H1 := fun e d W' H' p g' => h e d W' H' p (g.trans g')
/-! ### expressions -/
def Ev (X : Xw) (te : TE) (G : Ct) {α : Type} (t : Ty α) (P : α → Prop) : Prop :=
  ∀ W H σ (Q : VK), Holds G W H σ → X.ok W H → (∀ v W' H' x, P x → GoE W H W' H' → OKW W' H' → t.R W' H' v x → Q v H') → te σ H Q
def Et (X : Xw) (tt : TT) (G : Ct) (P : Bool → Prop) : Prop :=
  ∀ W H σ (Q : Bool → Hp → Prop), Holds G W H σ → X.ok W H → (∀ b W' H', P b → GoE W H W' H' → OKW W' H' → Q b H') → tt σ H Q
/-- arguments -/
inductive ArgsOk (W : Wd) (H : Hp) : List V → List Sl → Prop where
  | nil : ArgsOk W H [] []
  | cons {v : V} {α : Type} {t : Ty α} {x : α} {vs : List V} {as : List Sl} : t.R W H v x → ArgsOk W H vs as → ArgsOk W H (v :: vs) (.sh t x :: as)
def Ea (X : Xw) (ta : TA) (G : Ct) (P : List Sl → Prop) : Prop :=
  ∀ W H σ (Q : List V → Hp → Prop), Holds G W H σ → X.ok W H → (∀ vs W' H' as, P as → GoE W H W' H' → OKW W' H' → ArgsOk W' H' vs as → Q vs H') → ta σ H Q
section
variable {X : Xw} {G : Ct} {α β γ : Type} {t : Ty α} {u : Ty β} {z : Ty γ} {P : α → Prop}
theorem Ev.mono {te : TE} {P' : α → Prop} (h : Ev X te G t P) (hp : ∀ x, P x → P' x) : Ev X te G t P' := fun W H σ Q hs ex q => h W H σ Q hs ex fun v W' H' x p => q v W' H' x (hp x p)
theorem ev_var {i : Nat} {x : α} (e : G.s[i]? = some (.sh t x)) (p : P x) : Ev X (tVar i) G t P := fun W H σ Q hs ex q => by
  obtain ⟨v, e1, r⟩ := hs.var e
  exact ⟨v, e1, q v W H x p .refl hs.ok r⟩
theorem ev_c {v : V} {x : α} (r : ∀ W H, t.R W H v x) (p : P x) : Ev X (tC v) G t P := fun W H σ Q hs ex q => q v W H x p .refl hs.ok (r W H)
theorem ev_int {i : Int} {P : Int → Prop} (p : P i) : Ev X (tC (.int i)) G tInt P := ev_c (fun _ _ => rfl) p
theorem ev_str {i : Str} {P : Str → Prop} (p : P i) : Ev X (tC (.str i)) G tStr P := ev_c (fun _ _ => rfl) p
/-- an operation of two typed values -/
def RO (r : R2) (t : Ty α) (u : Ty β) (z : Ty γ) (C : α → β → (γ → Prop) → Prop) : Prop :=
  ∀ W H v w x y (Q : VK) (P : γ → Prop), OKW W H → t.R W H v x → u.R W H w y → C x y P → (∀ a W' H' c, P c → GoE W H W' H' → OKW W' H' → z.R W' H' a c → Q a H') → r v w H Q
theorem ev_op {r : R2} {ta tb : TE} {C : α → β → (γ → Prop) → Prop} {P : γ → Prop} (ro : RO r t u z C) (h : Ev X ta G t fun x => Ev X tb G u fun y => C x y P) : Ev X (tOp r ta tb) G z P := fun W H σ Q hs ex q =>
  h W H σ _ hs ex fun v W1 H1 x p g ok rv => p W1 H1 σ _ (hs.goE g ok) (ex.mv g) fun w W2 H2 y c g2 ok2 rw => ro W2 H2 v w x y Q P ok2 (t.mvE rv g2) rw c fun a W3 H3 d pd g3 ok3 r3 => q a W3 H3 d pd ((g.trans g2).trans g3) ok3 r3
theorem ro_I {C : Int → Int → Prop} {g : Int → Int → Int} : RO (rI C fun i j => .int (g i j)) tInt tInt tInt (fun i j P => C i j ∧ P (g i j)) := by
  rintro W H v w x y Q P ok rfl rfl ⟨c, p⟩ q
  exact ⟨_, _, rfl, rfl, c, q _ W H _ p .refl ok rfl⟩
theorem ro_I0 {g : Int → Int → Int} : RO (rI0 fun i j => .int (g i j)) tInt tInt tInt (fun i j P => P (g i j)) := by
  rintro W H v w x y Q P ok rfl rfl p q
  exact ⟨_, _, rfl, rfl, q _ W H _ p .refl ok rfl⟩
/-- values of scalars -/
structure Sc (t : Ty α) where
  f : α → V
  ok : ∀ W H v x, t.R W H v x ↔ v = f x
  eq : ∀ x y, f x = f y ↔ x = y
  fl : ∀ x, flatV (f x) = true
def scI : Sc tInt := ⟨V.int, fun _ _ _ _ => Iff.rfl, fun _ _ => ⟨fun h => V.int.inj h, fun h => by rw [h]⟩, fun _ => rfl⟩
def scS : Sc tStr := ⟨V.str, fun _ _ _ _ => Iff.rfl, fun _ _ => ⟨fun h => V.str.inj h, fun h => by rw [h]⟩, fun _ => rfl⟩
def scB : Sc tBl := ⟨V.bl, fun _ _ _ _ => Iff.rfl, fun _ _ => ⟨fun h => V.bl.inj h, fun h => by rw [h]⟩, fun _ => rfl⟩
theorem ro_eqI : RO rEq tInt tInt tBl (fun i j P => P (decide (i = j))) := by
  rintro W H v w x y Q P ok rfl rfl p q
  refine ⟨rfl, ?_⟩
  have e : decide (V.int x = V.int y) = decide (x = y) := decide_eq_decide.mpr (scI.eq x y)
  rw [e]
  exact q _ W H _ p .refl ok rfl
/-! tests -/
theorem et_test {te : TE} {P : Bool → Prop} (h : Ev X te G tBl P) : Et X (tTest te) G P := fun W H σ Q hs ex q => h W H σ _ hs ex fun v W' H' x p g ok r => ⟨x, r, q x W' H' p g ok⟩
/-! arguments, displays -/
theorem ArgsOk.go {W W1 : Wd} {H H1 : Hp} {vs : List V} {as : List Sl} (h : ArgsOk W H vs as) (m : Mv W H W1 H1) : ArgsOk W1 H1 vs as := by
  induction h with
  | nil => exact .nil
  | cons r _ ih => exact .cons (Ty.go _ r m) ih
theorem FldsOk.go {W W1 : Wd} {H H1 : Hp} {vs : List (Str × V)} {as : List (Str × Sl)} (h : FldsOk W H vs as) (m : Mv W H W1 H1) : FldsOk W1 H1 vs as := by
  induction h with
  | nil => exact .nil
  | cons r _ ih => exact .cons (Ty.go _ r m) ih
theorem ArgsOk.len {W : Wd} {H : Hp} {vs : List V} {as : List Sl} (h : ArgsOk W H vs as) : vs.length = as.length := by
  induction h with
  | nil => rfl
  | cons _ _ ih => simp [ih]
theorem ea_nil {P : List Sl → Prop} (p : P []) : Ea X tNil G P := fun W H σ Q hs ex q => q [] W H [] p .refl hs.ok .nil
theorem ea_cons {te : TE} {ta : TA} {P : List Sl → Prop} (h : Ev X te G t fun x => Ea X ta G fun as => P (.sh t x :: as)) : Ea X (tCons te ta) G P := fun W H σ Q hs ex q =>
  h W H σ _ hs ex fun v W1 H1 x p g ok r => p W1 H1 σ _ (hs.goE g ok) (ex.mv g) fun vs W2 H2 as p2 g2 ok2 r2 => q (v :: vs) W2 H2 _ p2 (g.trans g2) ok2 (.cons (t.mvE r g2) r2)
end
end Z
end

section
set_option maxRecDepth 100000
set_option maxHeartbeats 4000000
/-! Statements, calls, loops, comprehensions over typed slots. -/
namespace Z
open PySem PySem.Spec PyProof.Rows L2
/-- a def's wishes: what is wanted of what it hands back, of what it raises -/
structure Fx (ρ : Type) where
  tr : Ty ρ
  rt : ρ → Prop
  X : Xw
def Blk {ρ : Type} (F : Fx ρ) (ts : TS) (G : Ct) (N B C : Ct → Prop) : Prop :=
  ∀ W0 H0 W H σ (D : Ends), Go W0 H0 W H → Holds G W H σ →
    (∀ G' W' H' σ', N G' → Go W0 H0 W' H' → Holds G' W' H' σ' → D.nx σ' H') →
    (∀ G' W' H' σ', B G' → Go W0 H0 W' H' → Holds G' W' H' σ' → D.bk σ' H') →
    (∀ G' W' H' σ', C G' → Go W0 H0 W' H' → Holds G' W' H' σ' → D.ct σ' H') →
    (∀ v W' H' x, F.rt x → Go W0 H0 W' H' → OKW W' H' → F.tr.R W' H' v x → D.rt v H') →
    (∀ e d W' H', F.X.xp e → Go W0 H0 W' H' → OKW W' H' → ErAt W' H' e d → F.X.E (.ref e.C) d H') → ts D σ H
theorem exo {X : Xw} {W0 W : Wd} {H0 H : Hp} (ex : ∀ e d W' H', X.xp e → Go W0 H0 W' H' → OKW W' H' → ErAt W' H' e d → X.E (.ref e.C) d H') (g : Go W0 H0 W H) : X.ok W H := fun e d W' H' p g' => ex e d W' H' p (g.trans g'.go)
section
variable {ρ : Type} {F : Fx ρ} {G : Ct} {N B C : Ct → Prop} {α β γ : Type} {t : Ty α} {u : Ty β}
theorem blk_next (h : N G) : Blk F tNext G N B C := fun W0 H0 W H σ D g hs n _ _ _ _ => n G W H σ h g hs
theorem blk_seq {a b : TS} (h : Blk F a G (fun G' => Blk F b G' N B C) B C) : Blk F (tSeq a b) G N B C := fun W0 H0 W H σ D g hs n bk ct rt ex =>
  h W0 H0 W H σ { D with nx := b D } g hs (fun G' W' H' σ' hb g' hs' => hb W0 H0 W' H' σ' D g' hs' n bk ct rt ex) bk ct rt ex
theorem blk_ret {te : TE} (h : Ev F.X te G F.tr F.rt) : Blk F (tRet te) G N B C := fun W0 H0 W H σ D g hs _ _ _ rt ex => h W H σ _ hs (exo ex g) fun v W' H' x p g' ok r => rt v W' H' x p (g.trans g'.go) ok r
theorem blk_if {c : TT} {a b : TS} (h : Et F.X c G fun x => (x = true → Blk F a G N B C) ∧ (x = false → Blk F b G N B C)) : Blk F (tIfS c a b) G N B C := fun W0 H0 W H σ D g hs n bk ct rt ex => h W H σ _ hs (exo ex g) fun x W1 H1 p g1 ok => by
  cases x with
  | true => exact p.1 rfl W0 H0 W1 H1 σ D (g.trans g1.go) (hs.goE g1 ok) n bk ct rt ex
  | false => exact p.2 rfl W0 H0 W1 H1 σ D (g.trans g1.go) (hs.goE g1 ok) n bk ct rt ex
/-! ### targets -/
def Tg (g : TG) (G : Ct) (t : Ty α) (x : α) (vs : List Nat) (N : Ct → Prop) : Prop :=
  ∀ W H σ v (Q : L2.St → Hp → Prop), Holds G W H σ → t.R W H v x → (∀ G' σ', N G' → Holds G' W H σ' → σ'.length = σ.length → (∀ i, i ∉ vs → σ'[i]? = σ[i]?) → Q σ' H) → g v σ H Q
theorem tg_name {i : Nat} {x : α} {vs : List Nat} (hi : i ∈ vs) (h : N (G.set i (.sh t x))) : Tg (gName i) G t x vs N := fun W H σ v Q hs r q => q _ _ h (hs.setSh i r) (by rw [List.length_set]) fun j hj => List.getElem?_set_ne (fun e => hj (by rw [← e]; exact hi))
theorem blk_asg {te : TE} {g : TG} {vs : List Nat} (h : Ev F.X te G t fun x => Tg g G t x vs N) : Blk F (tAsg te g) G N B C := fun W0 H0 W H σ D g0 hs n _ _ _ ex => h W H σ _ hs (exo ex g0) fun v W1 H1 x p g1 ok r => p W1 H1 σ v _ (hs.goE g1 ok) r fun G' σ' q hs' _ _ => n G' W1 H1 σ' q (g0.trans g1.go) hs'
theorem blk_set {te : TE} {i : Nat} (h : Ev F.X te G t fun x => N (G.set i (.sh t x))) : Blk F (tAsg te (gName i)) G N B C := blk_asg (vs := [i]) (h.mono fun _ q => tg_name List.mem_cons_self q)
/-! ### one's own lists and dicts -/
def setW (W : Wd) (a : Addr) (m : Md) : Wd := fun b => if b = a then m else W b
theorem setW_same {W : Wd} {a : Addr} {m : Md} : setW W a m a = m := if_pos rfl
theorem setW_ne {W : Wd} {a b : Addr} {m : Md} (h : b ≠ a) : setW W a m b = W b := if_neg h
inductive AllSh (t : Ty α) : List Sl → List α → Prop where
  | nil : AllSh t [] []
  | cons {x : α} {as : List Sl} {xs : List α} : AllSh t as xs → AllSh t (.sh t x :: as) (x :: xs)
/-! ### loops -/
/-- what is walked: its items -/
def Ei (X : Xw) (wi : TI) (G : Ct) (t : Ty α) (P : List α → Prop) : Prop :=
  ∀ W H σ (R : It → Hp → Prop), Holds G W H σ → X.ok W H → (∀ J W1 H1 xs (Gh : Hp → Prop) (Y : Nat → Hp → V → Hp → Prop), P xs → GoE W H W1 H1 → OKW W1 H1 → Walk J xs.length Gh Y → (∀ W2 H2, Go W1 H1 W2 H2 → OKW W2 H2 → Gh H2) →
    (∀ W2 H2 i v H3, Go W1 H1 W2 H2 → OKW W2 H2 → i < xs.length → Y i H2 v H3 → ∃ x W3, xs[i]? = some x ∧ GoE W2 H2 W3 H3 ∧ OKW W3 H3 ∧ t.R W3 H3 v x) → R J H1) → wi σ H R
/-- for: V i tells the contexts that may be ahead of turn i -/
theorem blk_for {wi : TI} {g : TG} {tb : TS} {vs : List Nat} (V : List α → Nat → Ct → Prop) (h : Ei F.X wi G t fun xs => V xs 0 G ∧
      (∀ i x G', xs[i]? = some x → V xs i G' → Tg g G' t x vs fun G2 => Blk F tb G2 (V xs (i + 1)) N (V xs (i + 1))) ∧ ∀ G', V xs xs.length G' → N G') : Blk F (tFor wi g tb) G N B C := fun W0 H0 W H σ D g0 hs n bk ct rt ex =>
  h W H σ _ hs (exo ex g0) fun J W1 H1 xs Gh Y ⟨h0, ht, he⟩ g1 ok1 wk st yd => by
    refine for_it wk (fun i σ2 H2 => ∃ G2 W2, V xs i G2 ∧ Go W1 H1 W2 H2 ∧ Go W0 H0 W2 H2 ∧ Holds G2 W2 H2 σ2) ⟨G, W1, h0, .refl, g0.trans g1.go, hs.goE g1 ok1⟩ (fun i σ2 H2 _ ⟨G2, W2, _, ga, _, hs2⟩ => st W2 H2 ga hs2.ok) ?_ ?_
    · rintro i v σ2 H2 H3 hi ⟨G2, W2, hv, ga, gb, hs2⟩ hy
      obtain ⟨x, W3, hx, g3, ok3, r⟩ := yd W2 H2 i v H3 ga hs2.ok hi hy
      refine ht i x G2 hx hv W3 H3 σ2 v _ (hs2.goE g3 ok3) r fun G4 σ4 hb hs4 _ _ => ?_
      refine hb W3 H3 W3 H3 σ4 _ .refl hs4 (fun G5 W5 H5 σ5 hv5 g5 hs5 => ⟨G5, W5, hv5, (ga.trans g3.go).trans g5, (gb.trans g3.go).trans g5, hs5⟩) (fun G5 W5 H5 σ5 hv5 g5 hs5 => n G5 W5 H5 σ5 hv5 ((gb.trans g3.go).trans g5) hs5)
        (fun G5 W5 H5 σ5 hv5 g5 hs5 => ⟨G5, W5, hv5, (ga.trans g3.go).trans g5, (gb.trans g3.go).trans g5, hs5⟩) (fun v5 W5 H5 x5 hx5 g5 ok5 r5 => rt v5 W5 H5 x5 hx5 ((gb.trans g3.go).trans g5) ok5 r5)
        (fun e d W5 H5 hx5 g5 ok5 r5 => ex e d W5 H5 hx5 ((gb.trans g3.go).trans g5) ok5 r5)
    · rintro σ2 H2 ⟨G2, W2, hv, ga, gb, hs2⟩
      exact n G2 W2 H2 σ2 (he G2 hv) gb hs2
end
end Z
end

section
set_option maxRecDepth 100000
set_option maxHeartbeats 4000000
/-! Typed promises: what a def does with typed arguments. -/
namespace Z
open PySem PySem.Spec PyProof.Rows L2
structure CT (ρ : Type) where
  n : Bool
  tr : Ty ρ
  ct : List Sl → (ρ → Prop) → (Er → Prop) → Prop
/-- behind a call: the caller's own is the caller's own again -/
def hide (W : Wd) : Wd := fun b => if W b = .ow then .fo else W b
def unhide (W Wc : Wd) : Wd := fun b => if W b = .ow then .ow else Wc b
theorem hide_ow {W : Wd} {b : Addr} (h : W b = .ow) : hide W b = .fo := if_pos h
theorem hide_ne {W : Wd} {b : Addr} (h : W b ≠ .ow) : hide W b = W b := if_neg h
theorem unhide_ow {W Wc : Wd} {b : Addr} (h : W b = .ow) : unhide W Wc b = .ow := if_pos h
theorem unhide_ne {W Wc : Wd} {b : Addr} (h : W b ≠ .ow) : unhide W Wc b = Wc b := if_neg h
theorem hide_no {W : Wd} (b : Addr) : hide W b ≠ .ow := by
  by_cases h : W b = .ow
  · rw [hide_ow h]; decide
  · rw [hide_ne h]; exact h
theorem hide_lk {W : Wd} {b : Addr} (h : hide W b = .lk) : W b = .lk := by
  by_cases n : W b = .ow
  · rw [hide_ow n] at h; cases h
  · rwa [hide_ne n] at h
theorem hide_st {W : Wd} {b : Addr} : W b = .st → hide W b = .st := fun h => by rw [hide_ne (by rw [h]; decide)]; exact h
theorem hide_mv {W : Wd} {H : Hp} : Mv W H (hide W) H := by
  refine ⟨fun b o h => ?_, fun b vs w h => ⟨by rw [hide_ne (by rw [w]; decide)]; exact w, h⟩, fun b h => hide_st h⟩
  have n : W b ≠ .ow := by rcases h with ⟨w, _⟩ | ⟨w | w, _⟩ <;> rw [w] <;> decide
  unfold RdW
  rw [hide_ne n]
  exact h
theorem OKW.hide {W : Wd} {H : Hp} (ok : OKW W H) : OKW (hide W) H := by
  refine ⟨fun b h => ?_, fun b h => ?_, fun b od u w => absurd w (hide_no b), fun b h => ok.lk b (hide_lk h), fun b od u w h => ?_, fun b vs h => by rw [hide_ne (by rw [ok.tp b vs h]; decide)]; exact ok.tp b vs h⟩
  · by_cases n : W b = .ow
    · rw [hide_ow n] at h; cases h
    · rw [hide_ne n] at h; exact ok.st b h
  · by_cases n : W b = .ow
    · exact ok.al b (by rw [n]; decide)
    · rw [hide_ne n] at h; exact ok.al b h
  · by_cases n : W b = .ow
    · exact absurd h (ok.nf b od u n)
    · rw [hide_ne n] at w; exact ok.fo b od u w h
section
variable {W Wc : Wd} {H H' : Hp}
theorem call_back (ok : OKW W H) (g : Go (hide W) H Wc H') (okc : OKW Wc H') : GoE W H (unhide W Wc) H' ∧ OKW (unhide W Wc) H' ∧ Mv Wc H' (unhide W Wc) H' := by
  have own : ∀ b, W b = .ow → ∃ o, H b = some o ∧ H' b = some o ∧ Wc b = .fo := fun b h => by
    obtain ⟨o, e⟩ := ok.al b (by rw [h]; decide)
    obtain ⟨e1, e2⟩ := g.k b o e (.inr (.inr (hide_ow h)))
    exact ⟨o, e, e1, e2.trans (hide_ow h)⟩
  refine ⟨⟨fun b o e n => ?_, fun b h => ?_, fun b h => ?_⟩, ⟨fun b h => ?_, fun b h => ?_, fun b od u w e => ?_, fun b h => ?_, fun b od u w e => ?_, fun b vs h => ?_⟩, ⟨fun b o h => ?_, fun b vs w h => ?_, fun b h => ?_⟩⟩
  · by_cases w : W b = .ow
    · obtain ⟨o', e0, e1, _⟩ := own b w
      rw [e] at e0; cases e0
      exact ⟨e1, (unhide_ow w).trans w.symm⟩
    · obtain ⟨e1, e2⟩ := g.k b o e (by
        rw [hide_ne w]
        cases q : W b with
        | sh => exact .inl rfl
        | lk => exact .inr (.inl rfl)
        | st => exact absurd q n
        | ow => exact absurd q w
        | fo => exact .inr (.inr rfl))
      exact ⟨e1, by rw [unhide_ne w, e2, hide_ne w]⟩
  · rw [unhide_ne (by rw [h]; decide)]; exact g.s b (hide_st h)
  · by_cases w : W b = .ow
    · rw [unhide_ow w] at h; cases h
    · rw [unhide_ne w] at h; exact hide_lk (g.l b h)
  · by_cases w : W b = .ow
    · rw [unhide_ow w] at h; cases h
    · rw [unhide_ne w] at h; exact okc.st b h
  · by_cases w : W b = .ow
    · obtain ⟨o, _, e, _⟩ := own b w
      exact ⟨o, e⟩
    · rw [unhide_ne w] at h; exact okc.al b h
  · by_cases q : W b = .ow
    · obtain ⟨o, e0, e1, _⟩ := own b q
      rw [e1] at e; cases e
      exact ok.nf b od u q e0
    · rw [unhide_ne q] at w; exact okc.nf b od u w e
  · by_cases w : W b = .ow
    · rw [unhide_ow w] at h; cases h
    · rw [unhide_ne w] at h; exact okc.lk b h
  · by_cases q : W b = .ow
    · rw [unhide_ow q] at w; cases w
    · rw [unhide_ne q] at w; exact okc.fo b od u w e
  · by_cases q : W b = .ow
    · obtain ⟨o2, e0, e1, e⟩ := own b q
      rw [e1] at h; cases h
      have := ok.tp b vs e0
      rw [q] at this; cases this
    · rw [unhide_ne q]; exact okc.tp b vs h
  · by_cases q : W b = .ow
    · obtain ⟨o2, e0, e1, e⟩ := own b q
      rcases h with ⟨w, _⟩ | ⟨w | w, od, e2⟩
      · rw [e] at w; cases w
      · rw [e] at w; cases w
      · rw [e1] at e2; cases e2; exact absurd e0 (ok.nf b od o q)
    · unfold RdW
      rw [unhide_ne q]
      exact h
  · have n : W b ≠ .ow := fun q => by
      obtain ⟨_, _, _, e⟩ := own b q
      rw [e] at w; cases w
    exact ⟨by rw [unhide_ne n]; exact w, h⟩
  · have n : W b ≠ .ow := fun q => by
      obtain ⟨_, _, _, e⟩ := own b q
      rw [e] at h; cases h
    rw [unhide_ne n]
    exact h
end
/-- the promise of a def, by typed arguments -/
def spZ {ρ : Type} (c : CT ρ) : Sp := fun vs H Q E => ∃ W as P XP, OKW W H ∧ (∀ b, W b ≠ .ow) ∧ (c.n = true → ∀ b, W b ≠ .lk) ∧ ArgsOk W H vs as ∧ c.ct as P XP ∧
  (∀ v W' H' x, P x → Go W H W' H' → OKW W' H' → c.tr.R W' H' v x → Q v H') ∧ (∀ e d W' H', XP e → Go W H W' H' → OKW W' H' → ErAt W' H' e d → E (.ref e.C) d H')
section
variable {ρ α β : Type} {X : Xw} {G : Ct} {c : CT ρ} {P : ρ → Prop}
theorem ErAt.go {W W' : Wd} {H : Hp} {e : Er} {d : Option Addr} (h : ErAt W H e d) (m : Mv W H W' H) : ErAt W' H e d := by
  unfold ErAt at h ⊢
  cases e1 : e.fs with
  | none =>
    rw [e1] at h
    cases d with
    | none => trivial
    | some d => exact h.elim
  | some fs =>
    rw [e1] at h
    cases d with
    | none => exact h.elim
    | some d =>
      obtain ⟨ws, h1, h2, h3⟩ := h
      refine ⟨ws, h1, ?_, h3.go m⟩
      rcases m.rd d _ (.inl ⟨h2, h1⟩) with ⟨w, _⟩ | ⟨_, od, q⟩
      · exact w
      · rw [h1] at q; cases q
/-- the callee's promise, as the caller reads it -/
theorem sp_at {W : Wd} {H : Hp} {vs : List V} {as : List Sl} {Q : VK} {E : XK} {XP : Er → Prop} (ok : OKW W H) (nl : c.n = true → ∀ b, W b ≠ .lk) (ha : ArgsOk W H vs as) (hc : c.ct as P XP) (q : ∀ v W' H' x, P x → GoE W H W' H' → OKW W' H' → c.tr.R W' H' v x → Q v H')
    (ex : ∀ e d W' H', XP e → GoE W H W' H' → OKW W' H' → ErAt W' H' e d → E (.ref e.C) d H') : spZ c vs H Q E := by
  refine ⟨hide W, as, P, XP, ok.hide, hide_no, fun n b w => nl n b (hide_lk w), ha.go hide_mv, hc, fun v Wc H' x p g okc r => ?_, fun e d Wc H' p g okc r => ?_⟩
  · obtain ⟨g1, ok1, mv⟩ := call_back ok g okc
    exact q v _ H' x p g1 ok1 (c.tr.go r mv)
  · obtain ⟨g1, ok1, mv⟩ := call_back ok g okc
    exact ex e d _ H' p g1 ok1 (r.go mv)
/-- of a def that lets nothing out -/
theorem ev_call0 {E : XK} {ta : TA} (hn : c.n = true → G.n = true) (h : Ea X ta G fun as => c.ct as P fun _ => False) : Ev X (tCall (spZ c) [] E ta) G c.tr P := fun W H σ Q hs ex q =>
  h W H σ _ hs ex fun vs W1 H1 as hc g ok ha => by
    show spZ c (vs ++ []) H1 Q E
    rw [List.append_nil]
    exact sp_at ok (fun n b w => (hs.goE g ok).nl (hn n) b w) ha hc (fun v W' H' x p g2 ok2 r => q v W' H' x p (g.trans g2) ok2 r) fun e d W' H' p => p.elim
/-- an instance of the class at C -/
def Inst (C : Addr) (m : Str) (t : Ty α) : Prop := ∀ W H v x, OKW W H → t.R W H v x → ∃ a dx fs, v = .ref a ∧ H a = some (.ins C dx fs) ∧ fs.lookup m = none
end
/-- the slots at a def's entry -/
theorem entry {W : Wd} {H : Hp} {n : Bool} : ∀ {vs : List V} {as : List Sl} (k : Nat), OKW W H → (n = true → ∀ b, W b ≠ .lk) → ArgsOk W H vs as → Holds ⟨n, as ++ List.replicate k .un⟩ W H (vs.map some ++ List.replicate k none) := by
  intro vs as k ok nl ha
  have sl : ∀ (i : Nat) s e, (as ++ List.replicate k Sl.un)[i]? = some s → (vs.map some ++ List.replicate k (none : Option V))[i]? = some e → SlOk W H s e ∧ s.own = false := by
    induction ha with
    | nil =>
      intro i s e h1 h2
      have h1 : (List.replicate k Sl.un)[i]? = some s := h1
      rw [List.getElem?_replicate] at h1
      split at h1
      · cases h1; exact ⟨trivial, rfl⟩
      · cases h1
    | cons r _ ih =>
      intro i s e h1 h2
      cases i with
      | zero =>
        cases h1
        cases h2
        exact ⟨⟨_, rfl, r⟩, rfl⟩
      | succ i => exact ih i s e h1 h2
  refine ⟨by simp [ha.len], ok, fun i s e h1 h2 => (sl i s e h1 h2).1, fun i j s s' a h1 h2 o1 o2 h3 h4 => ?_, nl⟩
  have := (sl i s _ h1 h3).2
  rw [o1] at this
  cases this
/-- a def's body -/
theorem zrun {ρ : Type} {c : CT ρ} {E : XK} {vs : List V} {H : Hp} {Q : VK} {t : TS} {N : List Str} (h : spZ c vs H Q E)
    (b : ∀ as P XP, c.ct as P XP → ∃ k, N.length = as.length + k ∧ Blk ⟨c.tr, P, ⟨E, XP⟩⟩ t ⟨c.n, as ++ List.replicate k .un⟩ (fun _ => ∃ x, P x ∧ ∀ W H, c.tr.R W H .non x) (fun _ => False) (fun _ => False)) :
    t { nx := fun _ H' => Q .non H', rt := Q } (L2.start N vs) H := by
  obtain ⟨W, as, P, XP, ok, _, nl, ha, hc, q, ex⟩ := h
  obtain ⟨k, hk, hb⟩ := b as P XP hc
  have e : L2.start N vs = vs.map some ++ List.replicate k none := by
    unfold L2.start
    rw [hk, ha.len, Nat.add_sub_cancel_left]
  rw [e]
  exact hb W H W H _ _ .refl (entry k ok nl ha) (fun G' W' H' σ' ⟨x, p, r⟩ g hs => q .non W' H' x p g hs.ok (r W' H')) (fun _ _ _ _ z => z.elim) (fun _ _ _ _ z => z.elim) (fun v W' H' x p g ok r => q v W' H' x p g ok r) fun e d W' H' p g ok r => ex e d W' H' p g ok r
theorem zlen {ρ : Type} {c : CT ρ} {vs : List V} {H : Hp} {Q : VK} {E : XK} {ps : List Str} (hl : ∀ as P XP, c.ct as P XP → as.length = ps.length) (h : spZ c vs H Q E) : vs.length = ps.length := by
  obtain ⟨W, as, P, XP, _, _, _, ha, hc, _, _⟩ := h
  rw [ha.len]
  exact hl as P XP hc
end Z
end

section
set_option maxRecDepth 100000
set_option maxHeartbeats 4000000
/-! Displays, items, built-in calls, dicts, comprehensions, what is walked. -/
namespace Z
open PySem PySem.Spec PyProof.Rows L2
section
variable {α β γ : Type} {R : α → β → Prop}
theorem paired_eq {f : β → α} : ∀ {xs : List α} {ys : List β}, Paired (fun x y => x = f y) xs ys → xs = ys.map f
  | _, _, .nil => rfl
  | _, _, .cons r p => by rw [List.map_cons, ← paired_eq p, r]
end
variable {K : PySem.W.Frag}
section
variable {X : Xw} {G : Ct} {α β γ δ : Type} {t : Ty α} {u : Ty β} {z : Ty γ}
/-! ### displays -/
/-- a new object of the arguments -/
theorem ev_tup {T : Ty γ} {ta : TA} {P : γ → Prop} (h : Ea X ta G fun as => as.length ≤ sizeLine ∧ ∃ x, P x ∧ ∀ W H vs a, ArgsOk W H vs as → RdW W H a (.tup vs) → T.R W H (.ref a) x) : Ev X (tTup ta) G T P := fun W H σ Q hs ex q =>
  h W H σ _ hs ex fun vs W1 H1 as ⟨hl, x, p, r⟩ g ok ha => ⟨by rw [ha.len]; exact hl, fun a hp => by
    have g2 := GoE.new (W := W1) (o := .tup vs) hp
    exact q _ W1 _ x p (g.trans g2) (ok.new hp trivial) (r W1 _ vs a (ha.go g2.go.mv) (rdNew ok hp))⟩
theorem small {n : Nat} (h : n ≤ 1000) : n ≤ sizeLine := Nat.le_trans h (by decide)
theorem ev_t2 {ta tb : TE} {P : α × β → Prop} (h : Ev X ta G t fun x => Ev X tb G u fun y => P (x, y)) : Ev X (tTup (tCons ta (tCons tb tNil))) G (tT2 K t u) P :=
  ev_tup (ea_cons (h.mono fun x hx => ea_cons (hx.mono fun y p => ea_nil ⟨small (show 2 ≤ 1000 by decide), (x, y), p, fun W H vs a ha rd => by
    cases ha with
    | cons r1 ha => cases ha with
      | cons r2 ha => cases ha; exact ⟨a, _, _, rfl, rd, r1, r2⟩⟩)))
/-! ### items -/
theorem ro_ixS : RO rIxS tStr tInt tStr (fun s i P => s.length ≤ sizeLine ∧ (∃ c, atI s.cps.toList i = some c) ∧ ∀ c, atI s.cps.toList i = some c → P ⟨#[c]⟩) := by
  rintro W H v w s i Q P ok rfl rfl ⟨hl, ⟨c, hc⟩, p⟩ q
  have p := p c hc
  exact ⟨s, i, c, rfl, rfl, hl, hc, q _ W H _ p .refl ok rfl⟩
/-! ### built-in calls of one thing -/
def RC1 (r : List V → Hp → VK → Prop) (t : Ty α) (u : Ty β) (n : Bool) (C : α → (β → Prop) → Prop) : Prop :=
  ∀ W H v x (Q : VK) (P : β → Prop), OKW W H → (n = true → ∀ b, W b ≠ .lk) → t.R W H v x → C x P → (∀ a W' H' c, P c → GoE W H W' H' → OKW W' H' → u.R W' H' a c → Q a H') → r [v] H Q
abbrev rLenA (K : PySem.W.Frag) : List V → Hp → VK → Prop := fun xs H Q => ∃ x n, xs = [x] ∧ LenV K x H n ∧ Q (.int n) H
theorem paired_f {W : Wd} {H : Hp} (s : Sc t) {vs : List V} {xs : List α} (p : Paired (t.R W H) vs xs) : vs = xs.map s.f := paired_eq (L2.Paired.mapP p fun u x r => (s.ok W H u x).mp r)
abbrev rListA (K : PySem.W.Frag) : List V → Hp → VK → Prop := fun xs H Q => ∃ p ys, xs = [.ref p] ∧ (SqL K H p ys ∨ SqT K H p ys) ∧ ∀ l, H l = none → Q (.ref l) (upd H l (.lst ys))
/-- the type of a dict's keys, as values -/
structure KyT {κ : Type} (ke : Ky κ) (tk : Ty κ) : Prop where
  ok : ∀ W H v k, tk.R W H v k ↔ v = kV (ke.k k)
abbrev rTupA (K : PySem.W.Frag) : List V → Hp → VK → Prop := fun xs H Q => ∃ p ys, xs = [.ref p] ∧ ((SqL K H p ys ∧ ∀ l, H l = none → Q (.ref l) (upd H l (.tup ys))) ∨ (SqT K H p ys ∧ Q (.ref p) H))
/-! ### in, not in -/
theorem inV_map (s : Sc t) [DecidableEq α] (x : α) (xs : List α) (he : ∀ x y, eqV (s.f y) (s.f x) = decide (x = y)) : inV (s.f x) (xs.map s.f) = decide (x ∈ xs) := by
  unfold inV
  rw [List.any_map]
  induction xs with
  | nil => simp
  | cons y ys ih =>
    rw [List.any_cons, ih]
    show (eqV (s.f y) (s.f x) || _) = _
    rw [he]
    by_cases h : x = y <;> simp [h]
theorem eqV_str (x y : Str) : eqV (.str y) (.str x) = decide (x = y) := by
  show (y == x) = _
  by_cases h : x = y
  · subst h; simp
  · rw [decide_eq_false h]
    simpa using fun e => h e.symm
theorem flat_map (s : Sc t) (xs : List α) : (xs.map s.f).all flatV = true := by
  rw [List.all_map, List.all_eq_true]
  exact fun x _ => s.fl x
theorem ro_notInSL : RO (rIn K true) tStr (tLs K tStr) tBl (fun x xs P => P (!decide (x ∈ xs))) := by
  rintro W H v w x xs Q P ok rfl ⟨a, vs, rfl, sq, p⟩ c q
  have e := paired_f scS p
  subst e
  refine ⟨a, _, rfl, .inl sq.l, rfl, flat_map scS xs, ?_⟩
  have := inV_map scS x xs eqV_str
  show Q (.bl (!inV (scS.f x) (xs.map scS.f))) H
  rw [this]
  exact q _ W H _ c .refl ok rfl
end
/-! ### dicts -/
section
variable {X : Xw} {G : Ct} {κ α β : Type} [DecidableEq κ] {ke : Ky κ} {tk : Ty κ} {t : Ty α}
def lookK (kvs : List (κ × α)) (k : κ) : Option α := (kvs.find? fun p => decide (p.1 = k)).map (·.2)
def hasK (kvs : List (κ × α)) (k : κ) : Bool := (lookK kvs k).isSome
def putZ (kvs : List (κ × α)) (k : κ) (x : α) : List (κ × α) := if hasK kvs k then kvs.map fun p => if p.1 = k then (p.1, x) else p else kvs ++ [(k, x)]
end
end Z
end

section
set_option maxRecDepth 100000
set_option maxHeartbeats 4000000
/-! What is walked; loops over dicts; comprehensions. -/
namespace Z
open PySem PySem.Spec PyProof.Rows L2
/-- within a comprehension nothing may be raised -/
def x0 : Xw := ⟨fun _ _ _ => False, fun _ => False⟩
variable {K : PySem.W.Frag}
section
variable {α β γ ρ : Type} {t : Ty α} {u : Ty β} {X : Xw} {G : Ct}
/-- what is walked, from here -/
def EiAt (wi : TI) (W : Wd) (H : Hp) (σ : L2.St) (t : Ty α) (P : List α → Prop) : Prop :=
  ∀ (R : It → Hp → Prop), (∀ J W1 H1 xs (Gh : Hp → Prop) (Y : Nat → Hp → V → Hp → Prop), P xs → GoE W H W1 H1 → OKW W1 H1 → Walk J xs.length Gh Y → (∀ W2 H2, Go W1 H1 W2 H2 → OKW W2 H2 → Gh H2) →
    (∀ W2 H2 i v H3, Go W1 H1 W2 H2 → OKW W2 H2 → i < xs.length → Y i H2 v H3 → ∃ x W3, xs[i]? = some x ∧ GoE W2 H2 W3 H3 ∧ OKW W3 H3 ∧ t.R W3 H3 v x) → R J H1) → wi σ H R
def chars (z : Str) : List Str := z.cps.toList.map fun c => ⟨#[c]⟩
theorem ei_str {te : TE} {P : List Str → Prop} (h : Ev X te G tStr fun z => P (chars z)) : Ei X (iStr te) G tStr P := fun W H σ R hs ex q => h W H σ _ hs ex fun v W1 H1 z p g ok r => by
  subst r
  refine ⟨z, rfl, q _ W1 H1 _ _ _ p g ok (by unfold chars; rw [List.length_map]; exact walk_str) (fun _ _ _ _ => trivial) fun W2 H2 i v H3 g2 ok2 hi hy => ?_⟩
  obtain ⟨rfl, c, hc, rfl⟩ := hy
  refine ⟨⟨#[c]⟩, W2, ?_, .refl, ok2, rfl⟩
  unfold chars
  rw [List.getElem?_map, Array.getElem?_toList, hc]
  rfl
def rangeZ (i j : Int) : List Int := (List.range (j - i).toNat).map fun (k : Nat) => i + (k : Int)
theorem rangeZ_len (i j : Int) : (rangeZ i j).length = (j - i).toNat := by unfold rangeZ; rw [List.length_map, List.length_range]
theorem rangeZ_get {i j : Int} {k : Nat} {x : Int} (h : (rangeZ i j)[k]? = some x) : x = i + k ∧ k < (j - i).toNat := by
  unfold rangeZ at h
  rw [List.getElem?_map] at h
  by_cases hk : k < (j - i).toNat
  · rw [List.getElem?_range hk] at h
    exact ⟨(Option.some.inj h).symm, hk⟩
  · rw [List.getElem?_eq_none (by rw [List.length_range]; omega)] at h
    cases h
theorem ei_range1 {te : TE} {P : List Int → Prop} (h : Ev X te G tInt fun n => (-(2 ^ 62) ≤ n ∧ n < 2 ^ 62) ∧ P (rangeZ 0 n)) : Ei X (iRng1 (tCons te tNil)) G tInt P := fun W H σ R hs ex q => h W H σ _ hs ex fun v W1 H1 n ⟨⟨h1, h2⟩, p⟩ g ok r => by
  subst r
  refine ⟨n, rfl, h1, h2, q _ W1 H1 _ _ _ p g ok (by rw [rangeZ_len, Int.sub_zero]; exact walk_range) (fun _ _ _ _ => trivial) fun W2 H2 i v H3 g2 ok2 hi hy => ?_⟩
  obtain ⟨rfl, rfl⟩ := hy
  refine ⟨0 + i, W2, ?_, .refl, ok2, rfl⟩
  rw [rangeZ_len] at hi
  unfold rangeZ
  rw [List.getElem?_map, List.getElem?_range hi]
  rfl
def enumZ (xs : List α) : List (Int × α) := xs.zipIdx.map fun p => ((p.2 : Int), p.1)
/-! ### a path to a thing: it may be read again where all stands -/
def Ap (te : TE) (G : Ct) (t : Ty α) (P : α → Prop) : Prop := ∀ W H σ, Holds G W H σ → ∃ v x, P x ∧ t.R W H v x ∧ ∀ W' H' (Q : VK), Mv W H W' H' → OKW W' H' → Q v H' → te σ H' Q
/-! ### a dict is locked, and opened again -/
end
/-! ### loops -/
section
variable {ρ α β : Type} {F : Fx ρ} {G : Ct} {N B C : Ct → Prop} {t : Ty α} {u : Ty β}
/-- one reading or another -/
def tEither (a b : TS) : TS := fun D σ H => a D σ H ∨ b D σ H
def tEitherE (a b : TE) : TE := fun σ H Q => a σ H Q ∨ b σ H Q
/-! ### comprehensions -/
def Ct.wipe (G : Ct) : List Nat → Ct
  | [] => G
  | i :: is => (Ct.wipe G is).set i .un
/-- what a comprehension may give: R x l tells what one item may give (nothing, or one thing) -/
inductive Chop (R : α → List β → Prop) : List α → List β → Prop where
  | nil : Chop R [] []
  | cons {x : α} {xs : List α} {l ys : List β} : R x l → Chop R xs ys → Chop R (x :: xs) (l ++ ys)
end
end Z
end

section
set_option maxRecDepth 100000
set_option maxHeartbeats 4000000
namespace Z
open PySem PySem.Spec PyProof.Rows L2
variable {K : PySem.W.Frag}
section
variable {α β γ ρ : Type} {t : Ty α} {u : Ty β} {X : Xw} {G : Ct} {F : Fx ρ} {N B C : Ct → Prop}
/-! ### dict comprehensions -/
variable {κ δ : Type} [DecidableEq δ]
def mkD (ys : List (δ × β)) : List (δ × β) := ys.foldl (fun d p => putZ d p.1 p.2) []
end
/-! ### one's own things, looked at -/
def Sl.view (K : PySem.W.Frag) : Sl → Sl
  | .ol t xs => .sh (tLs K t) xs
  | .od ke t kvs => .sh (tDk ke t) kvs
  | s => s
def Ct.view (K : PySem.W.Frag) (G : Ct) : Ct := ⟨G.n, G.s.map (Sl.view K)⟩
/-- nothing of the heap is asked -/
def Flat {α : Type} (t : Ty α) : Prop := ∀ W H W' H' v x, t.R W H v x → t.R W' H' v x
def show' (W : Wd) : Wd := fun b => if W b = .ow then .sh else W b
section
variable {α β γ ρ : Type} {t : Ty α} {u : Ty β} {X : Xw} {G : Ct}
/-! ### slices -/
def Eo (X : Xw) (to : TO) (G : Ct) (P : Option Int → Prop) : Prop := ∀ W H σ (Q : Option Int → Hp → Prop), Holds G W H σ → X.ok W H → (∀ i W' H', P i → GoE W H W' H' → OKW W' H' → Q i H') → to σ H Q
def SLI (r : V → Option Int → Option Int → Hp → VK → Prop) (t : Ty α) (u : Ty β) (C : α → Option Int → Option Int → (β → Prop) → Prop) : Prop :=
  ∀ W H v x lo hi (Q : VK) (P : β → Prop), OKW W H → t.R W H v x → C x lo hi P → (∀ a W' H' c, P c → GoE W H W' H' → OKW W' H' → u.R W' H' a c → Q a H') → r v lo hi H Q
def cutZ (xs : List α) (lo hi : Option Int) : List α := (xs.drop (HT.sIx xs.length 0 lo)).take (HT.sIx xs.length xs.length hi - HT.sIx xs.length 0 lo)
/-! ### texts -/
theorem ro_addS : RO (fun x y H Q => ∃ i j, x = .str i ∧ y = .str j ∧ i.length + j.length ≤ sizeLine ∧ Q (.str (i ++ j)) H) tStr tStr tStr (fun a b P => a.length + b.length ≤ sizeLine ∧ P (a ++ b)) := by
  rintro W H v w x y Q P ok rfl rfl ⟨hl, c⟩ q
  exact ⟨x, y, rfl, rfl, hl, q _ W H _ c .refl ok rfl⟩
/-! ### an attribute of an instance -/
def FldOf (K : PySem.W.Frag) (f : Str) (T : Ty α) (u : Ty β) (get : α → β) : Prop := ∀ W H v x, T.R W H v x → ∃ a C dx fs w, v = .ref a ∧ RdW W H a (.ins C dx fs) ∧ Cls K C ∧ NoAttr K C f ∧ fs.lookup f = some w ∧ u.R W H w (get x)
/-! ### sorted -/
end
end Z
end

section
set_option maxRecDepth 100000
set_option maxHeartbeats 4000000
namespace Z
open PySem PySem.Spec PyProof.Rows L2
variable {K : PySem.W.Frag}
section
variable {α β γ ρ : Type} {t : Ty α} {u : Ty β} {X : Xw} {G : Ct} {F : Fx ρ} {N B C : Ct → Prop}
theorem Holds.forgets {W : Wd} {H : Hp} {σ : L2.St} (h : Holds G W H σ) : ∀ is, Holds (G.wipe is) W H σ
  | [] => h
  | i :: is => (Holds.forgets h is).forget i
/-- slots forgotten at a block's end -/
theorem blk_wipe {a : TS} (is : List Nat) (h : Blk F a G (fun G' => N (G'.wipe is)) B (fun G' => C (G'.wipe is))) : Blk F a G N B C := fun W0 H0 W H σ D g hs n bk ct rt ex =>
  h W0 H0 W H σ D g hs (fun G' W' H' σ' q g' hs' => n _ W' H' σ' q g' (hs'.forgets is)) bk (fun G' W' H' σ' q g' hs' => ct _ W' H' σ' q g' (hs'.forgets is)) rt ex
/-! ### raise -/
end
end Z
end

section
set_option maxRecDepth 100000
set_option maxHeartbeats 4000000
namespace KK
open PySem PySem.Spec PyProof.Rows L2 Z
def spDrawG : Sp := fun vs H Q _ => ∃ (a : Addr) (n c k : Int), vs = [.ref a, .int n] ∧ H a = some (.lst [.int c, .int k]) ∧ 0 ≤ k ∧ 0 < n ∧ n < 2 ^ 200 ∧ ∀ r c' k', 0 ≤ r → r < n → 0 ≤ k' → Q (.int r) (upd H a (.lst [.int c', .int k']))
section
variable {P : Program} {w : World} {K : PySem.W.Frag} {mg : Str → Option Value} {base : Heap}
theorem c_drawG (T : Blt mg) (F : Has K mg "_law_draw" s_law_draw) : C8.Cal P w K mg base 1 "_law_draw" spDrawG [] := by
  refine calF F (fun f fd F => F.binds (ps := ["_law_stream_here", "_law_many"]) fun _ _ _ _ _ _ us hl => match us, hl with | [_, _], _ => rfl) scDraw (fun vs H Q E h => ?_) (fun f cdv A outer s H vs Q E hr h => ?_)
  · obtain ⟨a, n, c, k, rfl, _⟩ := h
    rfl
  · obtain ⟨a, n, c, k, rfl, hA, hk0, hn, hn2, q⟩ := h
    refine ⟨_, (pss_cons (ps_if (pt_cmpR op_ge (pe_ix ix_list (pv 0) pe_int (fun _ _ => rfl)) (pe_op op_pow pe_int pe_int) (nomark _)) (pss_cons (ps_set (i := 2) scDraw.nd rfl (Or.inl rfl) (pe_op op_modN (pe_callTy call_int1 (by rfl) T.b_int (by decide +kernel) (pa_cons (pe_ix ix_list (pv 0) pe_int (fun _ _ => rfl)) pa_nil)) (pv 1)))
      (pss_cons (ps_asg (pe_op op_fdivW (pe_callTy call_int1 (by rfl) T.b_int (by decide +kernel) (pa_cons (pe_ix ix_list (pv 0) pe_int (fun _ _ => rfl)) pa_nil)) (pv 1)) (pg_sub (pv 0) pe_int set_list))
      (pss_one (ps_ret (pv 2))))) pss_nil)
      (pss_cons (ps_set (i := 3) scDraw.nd rfl (Or.inl rfl) (pe_op op_modN (pe_op op_add (pe_op op_add (pe_op op_mul (pe_op op_modN (pe_callTy call_int1 (by rfl) T.b_int (by decide +kernel) (pa_cons (pe_ix ix_list (pv 0) pe_int (fun _ _ => rfl)) pa_nil)) pe_int) pe_int) (pe_op op_mul (pe_ix ix_list (pv 0) pe_int (fun _ _ => rfl)) pe_int)) pe_int) pe_int))
      (pss_cons (ps_set (i := 3) scDraw.nd rfl (Or.inl rfl) (pe_op op_modN (pe_op op_mul (pv 3) (pe_op op_add (pe_op op_fdivW (pv 3) pe_int) pe_int)) pe_int))
      (pss_cons (ps_set (i := 3) scDraw.nd rfl (Or.inl rfl) (pe_op op_modN (pe_op op_mul (pv 3) (pe_op op_add (pe_op op_fdivW (pv 3) pe_int) pe_int)) pe_int))
      (pss_cons (ps_asg (pe_op op_add (pe_ix ix_list (pv 0) pe_int (fun _ _ => rfl)) pe_int) (pg_sub (pv 0) pe_int set_list))
      (pss_one (ps_ret (pe_op op_modN (pe_op op_fdivW (pv 3) pe_int) (pv 1))))))))), ?_⟩
    have hL : SqL K H a [.int c, .int k] := SqL.of hA
    have i0 : atI ([.int c, .int k] : List V) 0 = some (.int c) := atI_nat (j := 0) rfl
    have i1 : atI ([.int c, .int k] : List V) 1 = some (.int k) := atI_nat (j := 1) rfl
    refine ⟨_, rfl, a, _, _, _, rfl, rfl, hL, i0, _, _, rfl, rfl, ⟨by decide, by decide, by decide⟩, _, _, rfl, rfl, _, rfl, ?_⟩
    refine ite2 (fun hlt => ?_) (fun hlt => ?_)
    · refine ⟨_, rfl, a, _, _, _, rfl, rfl, hL, i0, .inl ⟨_, rfl, ?_⟩⟩
      refine ⟨_, rfl, _, _, rfl, rfl, (show n ≠ 0 by omega), ?_⟩
      refine ⟨_, rfl, a, _, _, _, rfl, rfl, hL, i0, .inl ⟨_, rfl, _, rfl, _, _, rfl, rfl, ⟨hn, ?_⟩, ?_⟩⟩
      · exact log200 hn hn2
      · refine ⟨_, rfl, a, _, _, 0, rfl, rfl, hA, rfl, ?_⟩
        exact ⟨_, rfl, q _ _ _ (fm0 hn).1 (fm0 hn).2 hk0⟩
    · have d1 : CDivW 0 1009 := ⟨by decide, by decide +kernel⟩
      have d2 : CDivW 0 2003 := ⟨by decide, by decide +kernel⟩
      have d3 : CDivW 0 16 := ⟨by decide, by decide +kernel⟩
      have n1 : (2147483647 : Int) ≠ 0 := by decide
      have n2 : (2147483399 : Int) ≠ 0 := by decide
      have m1 : ∀ i : Int, -(2 ^ 64) < i.fmod 2147483647 ∧ i.fmod 2147483647 < 2 ^ 64 := fun i => mulOk (by decide) (by decide)
      have m2 : ∀ i : Int, -(2 ^ 64) < i.fmod 2147483399 ∧ i.fmod 2147483399 < 2 ^ 64 := fun i => mulOk (by decide) (by decide)
      refine ⟨_, rfl, a, _, _, _, rfl, rfl, hL, i0, .inl ⟨_, rfl, _, _, rfl, rfl, n1, _, _, rfl, rfl, .inl (m1 _), ?_⟩⟩
      refine ⟨_, rfl, a, _, _, _, rfl, rfl, hL, i1, _, _, rfl, rfl, .inr ⟨by decide, by decide⟩, _, _, rfl, rfl, _, _, rfl, rfl, _, _, rfl, rfl, n1, ?_⟩
      refine ⟨_, rfl, _, rfl, _, _, rfl, rfl, d1, _, _, rfl, rfl, _, _, rfl, rfl, .inl (m1 _), _, _, rfl, rfl, n1, ?_⟩
      refine ⟨_, rfl, _, rfl, _, _, rfl, rfl, d2, _, _, rfl, rfl, _, _, rfl, rfl, .inl (m1 _), _, _, rfl, rfl, n2, ?_⟩
      refine ⟨_, rfl, a, _, _, _, rfl, rfl, hL, i1, _, _, rfl, rfl, _, rfl, a, _, _, 1, rfl, rfl, hA, rfl, ?_⟩
      refine ⟨_, rfl, _, _, rfl, rfl, d3, _, rfl, _, _, rfl, rfl, (show n ≠ 0 by omega), ?_⟩
      exact q _ _ _ (fm0 hn).1 (fm0 hn).2 (by omega)
/-! ### typed -/
abbrev ctDraw : CT Int := ⟨false, tInt, fun as P _ => ∃ n, as = [.sh tStm (), .sh tInt n] ∧ (0 < n ∧ n < 2 ^ 200) ∧ ∀ r, (0 ≤ r ∧ r < n) → P r⟩
theorem st_write {W : Wd} {H : Hp} {a : Addr} {c k : Int} (ok : OKW W H) (w : W a = .st) (hk : 0 ≤ k) : Go W H W (upd H a (.lst [.int c, .int k])) ∧ OKW W (upd H a (.lst [.int c, .int k])) := by
  have ne : ∀ b, W b ≠ .st → b ≠ a := fun b h e => h (by rw [e]; exact w)
  refine ⟨⟨fun b o h q => ⟨by rw [upd_ne (ne b (by rcases q with q | q | q <;> rw [q] <;> decide))]; exact h, rfl⟩, fun _ h => h, fun _ h => h⟩, ⟨fun b h => ?_, fun b h => ?_, fun b od u w2 e => ?_, fun b h => ?_, fun b od u w2 e => ?_, fun b vs e => by
    have n : b ≠ a := fun z => by rw [z, upd_same] at e; cases e
    rw [upd_ne n] at e; exact ok.tp b vs e⟩⟩
  · by_cases n : b = a
    · exact ⟨c, k, by rw [n, upd_same], hk⟩
    · rw [upd_ne n]; exact ok.st b h
  · by_cases n : b = a
    · exact ⟨_, by rw [n, upd_same]⟩
    · rw [upd_ne n]; exact ok.al b h
  · rw [upd_ne (ne b (by rw [w2]; decide))] at e; exact ok.nf b od u w2 e
  · rw [upd_ne (ne b (by rw [h]; decide))]; exact ok.lk b h
  · rw [upd_ne (ne b (by rw [w2]; decide))] at e; exact ok.fo b od u w2 e
theorem z_draw (T : Blt mg) (F : Has K mg "_law_draw" s_law_draw) : C8.Cal P w K mg base 1 "_law_draw" (spZ ctDraw) [] := by
  refine Own.cal_of (c_drawG T F) ?_
  rintro vs H Q E ⟨W, as, P, XP, ok, _, _, ha, ⟨n, rfl, ⟨h1, h2⟩, hp⟩, q, _⟩
  cases ha with
  | cons r1 ha => cases ha with
    | cons r2 ha =>
      cases ha
      obtain ⟨a, rfl, w⟩ := r1
      cases r2
      obtain ⟨c, k, e, hk⟩ := ok.st a w
      refine ⟨a, n, c, k, rfl, e, hk, h1, h2, fun r c' k' h3 h4 h5 => ?_⟩
      obtain ⟨g, ok2⟩ := st_write (c := c') (k := k') ok w h5
      exact q (.int r) W _ r (hp r ⟨h3, h4⟩) g ok2 rfl
abbrev ctStream (K : PySem.W.Frag) : CT Unit := ⟨false, tStm, fun as P _ => ∃ xs j, as = [.sh (tScr K) xs, .sh tInt j] ∧ (xs.length ≤ 1000 ∧ 0 ≤ j ∧ j ≤ 100) ∧ P ()⟩
theorem z_stream (T : Blt mg) (F : Has K mg "_law_stream" s_law_stream) : C8.Cal P w K mg base 1 "_law_stream" (spZ (ctStream K)) [] := by
  refine Own.cal_of (c_stream T F) ?_
  rintro vs H Q E ⟨W, as, P, XP, ok, _, _, ha, ⟨xs, j, rfl, ⟨h1, h2, h3⟩, hp⟩, q, _⟩
  cases ha with
  | cons r1 ha => cases ha with
    | cons r2 ha =>
      cases ha
      obtain ⟨a, rfl, sq⟩ := r1
      cases r2
      refine ⟨a, xs, j, rfl, sq.l, h1, h2, h3, fun p c hn => ?_⟩
      have fr := ok.fresh hn
      have ne : ∀ b o, H b = some o → b ≠ p := fun b o e => ne_of_none e hn
      refine q (.ref p) (setW W p .st) _ () hp ⟨fun b o e w => ⟨by rw [upd_ne (ne b o e)]; exact e, setW_ne (ne b o e)⟩, fun b w => ?_, fun b w => ?_⟩ ⟨fun b h => ?_, fun b h => ?_, fun b od u w e => ?_, fun b h => ?_, fun b od u w e => ?_, fun b vs e => by
        have n : b ≠ p := fun z => by rw [z, upd_same] at e; cases e
        rw [upd_ne n] at e; rw [setW_ne n]; exact ok.tp b vs e⟩ ⟨p, rfl, setW_same⟩
      · by_cases n : b = p
        · rw [n, setW_same]
        · rw [setW_ne n]; exact w
      · by_cases n : b = p
        · rw [n, setW_same] at w; cases w
        · rw [setW_ne n] at w; exact w
      · by_cases n : b = p
        · exact ⟨c, _, by rw [n, upd_same], by omega⟩
        · rw [setW_ne n] at h; rw [upd_ne n]; exact ok.st b h
      · by_cases n : b = p
        · exact ⟨_, by rw [n, upd_same]⟩
        · rw [setW_ne n] at h; rw [upd_ne n]; exact ok.al b h
      · by_cases n : b = p
        · rw [n, setW_same] at w; cases w
        · rw [setW_ne n] at w; rw [upd_ne n] at e; exact ok.nf b od u w e
      · by_cases n : b = p
        · rw [n, setW_same] at h; cases h
        · rw [setW_ne n] at h; rw [upd_ne n]; exact ok.lk b h
      · by_cases n : b = p
        · rw [n, setW_same] at w; cases w
        · rw [setW_ne n] at w; rw [upd_ne n] at e; exact ok.fo b od u w e
end
end KK
end

section
set_option maxRecDepth 100000
set_option maxHeartbeats 4000000
/-! tuple(d), d a dict: its keys -/
namespace PySem
open Sem (wp)
section
variable {prog : Program} {w : World} {A : Around} {E : Value → Shared → Prop} {s : Shared} {T : String} {r d : Addr} {n : Nat} {P : Nat → Value → Prop} {OK : Heap → Prop}
end
end PySem
namespace Own
open PySem PySem.Spec PyProof.Rows L2
end Own
end

section
set_option maxRecDepth 100000
set_option maxHeartbeats 4000000
namespace KK
open PySem PySem.Spec PyProof.Rows L2
/-- a web made of a dict of prices and a list of ties -/
def spWebOf (C : Addr) : Sp := fun vs H Q _ => ∃ (d tl : Addr) (ns : List Str) (ps : List Int) (xs : List V) (ts : List (Str × Str)), vs = [.ref d, .ref tl] ∧ H d = some (.dK (prK ns ps)) ∧ H tl = some (.lst xs) ∧ Ties H xs ts ∧ ps.length = ns.length ∧ NsOk ns ∧ TsOk ns ts ∧ PrOk ps ∧
  ∀ o dx dp tl2 ys ms qs us H', Same H H' → H o = none → H dp = none → H tl2 = none → WebAt H' C o dx dp tl2 ys ms qs us → WebOk ns ps ts ms qs us → Q (.ref o) H'
section
variable {P : Program} {w : World} {K : PySem.W.Frag} {mg : Str → Option Value} {base : Heap} {C : Addr}
abbrev Nwebof : List Str := ["prices", "ties"]
end
end KK
end

section
set_option maxRecDepth 100000
set_option maxHeartbeats 4000000
namespace KK
open PySem PySem.Spec PyProof.Rows L2
abbrev tieD (p : Str × Str) : PyData := .tuple [.str p.1, .str p.2]
end KK
end

section
set_option maxRecDepth 100000
set_option maxHeartbeats 4000000
/-! {**a, k: v}, {**a, **b} -/
namespace OwnM
open PySem
open Sem (wp)
section
variable {prog : Program} {w : World} {K : Type} [DecidableEq K] {knd : KeyKind prog w K} {A : Around} {E : Value → Shared → Prop} {s : Shared}
end
end OwnM
end

section
set_option maxRecDepth 100000
set_option maxHeartbeats 4000000
namespace OwnM
open PySem PySem.Spec PyProof.Rows L2
section
variable {X : Cx} {pins : List (Addr × Obj)} {σ : L2.St} {H : Hp} {s : Shared}
/-- {**x, **y} -/
def tStar2 (t1 t2 : TE) : TE := fun σ H Q => ∀ p, H p = none → t1 σ (upd H p (.dK [])) fun x H1 => ∃ a ks, x = .ref a ∧ H1 a = some (.dK ks) ∧ a ≠ p ∧ H1 p = some (.dK []) ∧ (mergeK [] ks).length ≤ 1000 ∧ ks.length ≤ 1000 ∧
  t2 σ (upd H1 p (.dK (mergeK [] ks))) fun y H2 => ∃ b ls, y = .ref b ∧ H2 b = some (.dK ls) ∧ b ≠ p ∧ H2 p = some (.dK (mergeK [] ks)) ∧ ls.length ≤ 1000 ∧ Q (.ref p) (upd H2 p (.dK (mergeK (mergeK [] ks) ls)))
/-- {**x, k: v}: the pair in a dict of its own, at r, then merged -/
def tStar1 (t1 tk tv : TE) : TE := fun σ H Q => ∀ p, H p = none → t1 σ (upd H p (.dK [])) fun x H1 => ∃ a ks, x = .ref a ∧ H1 a = some (.dK ks) ∧ a ≠ p ∧ H1 p = some (.dK []) ∧ (mergeK [] ks).length ≤ 1000 ∧ ks.length ≤ 1000 ∧
  ∀ r, upd H1 p (.dK (mergeK [] ks)) r = none → tk σ (upd (upd H1 p (.dK (mergeK [] ks))) r (.dK [])) fun y H2 => tv σ H2 fun z H3 => ∃ k, y = kV k ∧ H3 r = some (.dK []) ∧ r ≠ p ∧ H3 p = some (.dK (mergeK [] ks)) ∧
    Q (.ref p) (upd (upd H3 r (.dK (mergeK [] [(k, z)]))) p (.dK (mergeK (mergeK [] ks) (mergeK [] [(k, z)]))))
end
end OwnM
end

section
set_option maxRecDepth 100000
set_option maxHeartbeats 4000000
namespace KK
open PySem PySem.Spec PyProof.Rows L2
theorem ordP_idem (p : Str × Str) : ordP (ordP p) = ordP p := by
  unfold ordP
  cases h : Own.ltS p.2 p.1 with
  | true =>
    rw [if_pos rfl]
    show (if Own.ltS p.1 p.2 = true then _ else _) = _
    rw [Own.ltS_asym h, if_neg Bool.false_ne_true]
  | false =>
    rw [if_neg Bool.false_ne_true, h, if_neg Bool.false_ne_true]
/-- a web whose parts are sound -/
structure WebS (H : Hp) (C o dx dp tl : Addr) (xs : List V) (ms : List Str) (qs : List Int) (us : List (Str × Str)) : Prop where
  wa : WebAt H C o dx dp tl xs ms qs us
  ql : qs.length = ms.length
  no : NsOk ms
  to : TsOk ms us
  po : PrOk qs
def spIsPrice (K : PySem.W.Frag) : Sp := fun vs H Q _ => ∃ (p : Int), vs = [.int p] ∧ 1 ≤ p ∧ p ≤ 10 ^ 30 ∧ Q (.bl true) H
def spWithPrice (C : Addr) : Sp := fun vs H Q _ => ∃ o dx dp tl xs ms qs us x i p, vs = [.ref o, .str x, .int p] ∧ WebS H C o dx dp tl xs ms qs us ∧ ms[i]? = some x ∧ 1 ≤ p ∧ p ≤ 10 ^ 30 ∧
  ∀ o2 dx2 dp2 tl2 ys ms2 qs2 us2 H', Same H H' → H o2 = none → H dp2 = none → H tl2 = none → WebAt H' C o2 dx2 dp2 tl2 ys ms2 qs2 us2 → WebOk ms (qs.set i p) us ms2 qs2 us2 → Q (.ref o2) H'
section
variable {P : Program} {w : World} {K : PySem.W.Frag} {mg : Str → Option Value} {base : Heap} {C : Addr}
def spWithTie (C : Addr) : Sp := fun vs H Q _ => ∃ o dx dp tl xs ms qs us x y, vs = [.ref o, .str x, .str y] ∧ WebS H C o dx dp tl xs ms qs us ∧ x ∈ ms ∧ y ∈ ms ∧ x ≠ y ∧ ordP (x, y) ∉ us ∧ us.length < 400 ∧ (∀ p ∈ us, ordP p = p) ∧
  ∀ o2 dx2 dp2 tl2 ys ms2 qs2 us2 H', Same H H' → H o2 = none → H dp2 = none → H tl2 = none → WebAt H' C o2 dx2 dp2 tl2 ys ms2 qs2 us2 → WebOk ms qs (us ++ [ordP (x, y)]) ms2 qs2 us2 → Q (.ref o2) H'
end
end KK
end

section
set_option maxRecDepth 100000
set_option maxHeartbeats 4000000
namespace KK
open PySem PySem.Spec PyProof.Rows L2
def spCut (C : Addr) : Sp := fun vs H Q _ => ∃ o dx dp tl xs ms qs us x y, vs = [.ref o, .str x, .str y] ∧ WebS H C o dx dp tl xs ms qs us ∧ x ∈ ms ∧ y ∈ ms ∧ ordP (x, y) ∈ us ∧
  ∀ o2 dx2 dp2 tl2 ys ms2 qs2 us2 H', Same H H' → H o2 = none → H dp2 = none → H tl2 = none → WebAt H' C o2 dx2 dp2 tl2 ys ms2 qs2 us2 → WebOk ms qs (us.filter fun p => !decide (p = ordP (x, y))) ms2 qs2 us2 → Q (.ref o2) H'
section
variable {P : Program} {w : World} {K : PySem.W.Frag} {mg : Str → Option Value} {base : Heap} {C : Addr}
end
end KK
end

section
set_option maxRecDepth 100000
set_option maxHeartbeats 4000000
/-! x == y, both dicts from texts to ints: both answers -/
namespace Own
open PySem PySem.Spec PyProof.Rows L2
def dZ (zs : List (Str × Int)) : List (Key × V) := zs.map fun e => (Sum.inr e.1, V.int e.2)
def lookZ (zs : List (Str × Int)) (x : Str) : Option Int := (zs.find? fun e => decide (e.1 = x)).map (·.2)
def eqZ (zs ws : List (Str × Int)) : Bool := (zs.length == ws.length) && zs.all fun e => decide (lookZ ws e.1 = some e.2)
section
variable {X : Cx}
def rEqZ : R2 := fun x y H Q => ∃ a b zs ws, x = .ref a ∧ y = .ref b ∧ H a = some (.dK (dZ zs)) ∧ H b = some (.dK (dZ ws)) ∧ Q (.bl (eqZ zs ws)) H
end
end Own
end

section
set_option maxRecDepth 100000
set_option maxHeartbeats 4000000
namespace KK
open PySem PySem.Spec PyProof.Rows L2
/-- two webs compared -/
def webEq (ms : List Str) (qs : List Int) (us : List (Str × Str)) (ms2 : List Str) (qs2 : List Int) (us2 : List (Str × Str)) : Bool := Own.eqZ (ms.zip qs) (ms2.zip qs2) && decide (us = us2)
def spEq (C : Addr) : Sp := fun vs H Q _ => ∃ o dx dp tl xs ms qs us o2 dx2 dp2 tl2 xs2 ms2 qs2 us2, vs = [.ref o, .ref o2] ∧ WebAt H C o dx dp tl xs ms qs us ∧ WebAt H C o2 dx2 dp2 tl2 xs2 ms2 qs2 us2 ∧
  (∀ p ∈ us, NameOk p.1 ∧ NameOk p.2) ∧ (∀ p ∈ us2, NameOk p.1 ∧ NameOk p.2) ∧ Q (.bl (webEq ms qs us ms2 qs2 us2)) H
section
variable {P : Program} {w : World} {K : PySem.W.Frag} {mg : Str → Option Value} {base : Heap} {C : Addr}
abbrev NWebeq : List Str := ["self", "other"]
end
end KK
end

section
set_option maxRecDepth 100000
set_option maxHeartbeats 4000000
namespace KK
open PySem PySem.Spec PyProof.Rows L2
/-- sound parts -/
structure Pts (ns : List Str) (ps : List Int) (ts : List (Str × Str)) : Prop where
  pl : ps.length = ns.length
  no : NsOk ns
  to : TsOk ns ts
  po : PrOk ps
theorem map_prF {ns : List Str} {ps : List Int} (hn : ns.Nodup) (hl : ps.length = ns.length) : ns.map (prF ns ps) = ps := by
  apply List.ext_getElem?
  intro i
  rw [List.getElem?_map]
  by_cases h : i < ns.length
  · obtain ⟨r, h1, h2⟩ := prK_some hn hl (List.getElem?_eq_getElem h)
    have e : prF ns ps ns[i] = r := by unfold prF; rw [h2]
    rw [List.getElem?_eq_getElem h, h1]
    show some (prF ns ps ns[i]) = some r
    rw [e]
  · rw [List.getElem?_eq_none (by omega), List.getElem?_eq_none (by omega)]
    rfl
theorem ordP_ord (p : Str × Str) : ordP (ordP p) = ordP p := ordP_idem p
theorem ordP_in {ns : List Str} {p : Str × Str} (h : TieOk ns p) : TieOk ns (ordP p) := by
  unfold ordP
  split
  · exact ⟨h.b, h.a, fun z => h.ne z.symm⟩
  · exact h
theorem WebOk.pts {ns ms : List Str} {ps qs : List Int} {ts us : List (Str × Str)} (h : WebOk ns ps ts ms qs us) (p : Pts ns ps ts) : Pts ms qs us ∧ ∀ q ∈ us, ordP q = q := by
  have lm : ms.length = ns.length := h.pm.length_eq
  have nd : ms.Nodup := h.pm.nodup_iff.mpr p.no.nd
  have lu : us.length = ts.length := by rw [h.pu.length_eq, List.length_map]
  have fix : ∀ q ∈ us, ordP q = q := fun q hq => by
    obtain ⟨t, _, rfl⟩ := List.mem_map.mp (h.pu.mem_iff.mp hq)
    exact ordP_ord t
  refine ⟨⟨h.ql, ⟨by rw [lm]; exact p.no.lo, by rw [lm]; exact p.no.hi, nd, fun x hx => p.no.ok x (h.pm.mem_iff.mp hx)⟩, ⟨fun q hq => ?_, ?_, by rw [lu]; exact p.to.hi⟩, fun z hz => ?_⟩, fix⟩
  · obtain ⟨t, ht, rfl⟩ := List.mem_map.mp (h.pu.mem_iff.mp hq)
    have t1 := ordP_in (p.to.ok t ht)
    exact ⟨h.pm.mem_iff.mpr t1.a, h.pm.mem_iff.mpr t1.b, t1.ne⟩
  · have e : us.map ordP = us := by
      conv => rhs; rw [← List.map_id us]
      exact List.map_congr_left fix
    rw [e]
    exact h.pu.nodup_iff.mpr p.to.nd
  · obtain ⟨i, hi⟩ := List.getElem?_of_mem hz
    have hlt : i < ms.length := by
      obtain ⟨h1, _⟩ := List.getElem?_eq_some_iff.mp hi
      rw [h.ql] at h1
      exact h1
    obtain ⟨r, h1, h2⟩ := prK_some nd h.ql (List.getElem?_eq_getElem hlt)
    rw [hi] at h1
    cases h1
    have hxn : ms[i] ∈ ns := h.pm.mem_iff.mp (List.getElem_mem _)
    rw [h.pq _ hxn] at h2
    obtain ⟨j, hj⟩ := List.getElem?_of_mem hxn
    obtain ⟨r', h3, h4⟩ := prK_some p.no.nd p.pl hj
    rw [h4] at h2
    cases h2
    exact p.po _ (List.mem_of_getElem? h3)
/-- the same parts, whatever their order -/
structure Sames (ns : List Str) (ps : List Int) (ts : List (Str × Str)) (ns2 : List Str) (ps2 : List Int) (ts2 : List (Str × Str)) : Prop where
  pn : ns.Perm ns2
  pp : ∀ x ∈ ns, prF ns ps x = prF ns2 ps2 x
  pt : (ts.map ordP).Perm (ts2.map ordP)
end KK
end

section
set_option maxRecDepth 100000
set_option maxHeartbeats 4000000
namespace KK
open PySem PySem.Spec PyProof.Rows L2 Z
structure WebZ where
  ms : List Str
  qs : List Int
  us : List (Str × Str)
  deriving DecidableEq
structure WfZ (w : WebZ) : Prop where
  p : Pts w.ms w.qs w.us
  am : Own.AscS w.ms
  au : Own.AscP w.us
  fx : ∀ e ∈ w.us, ordP e = e
theorem same_ok {W : Wd} {H H' : Hp} (ok : OKW W H) (s : Same H H') : OKW W H' := by
  have fr : ∀ b, W b ≠ .sh → ∃ o, H b = some o ∧ H' b = some o := fun b h => by
    obtain ⟨o, e⟩ := ok.al b h
    exact ⟨o, e, s _ _ e⟩
  refine ⟨fun b h => ?_, fun b h => ?_, fun b od u w e => ?_, fun b h => ?_, fun b od u w e => ?_, fun b vs e => ?_⟩
  · obtain ⟨c, k, e, z⟩ := ok.st b h
    exact ⟨c, k, s _ _ e, z⟩
  · obtain ⟨o, _, e⟩ := fr b h
    exact ⟨o, e⟩
  · obtain ⟨o, e0, e1⟩ := fr b (by rw [w]; decide)
    rw [e1] at e; cases e
    exact ok.nf b od u w e0
  · obtain ⟨od, ⟨ws, e⟩ | ⟨ws, e⟩⟩ := ok.lk b h
    · exact ⟨od, .inl ⟨ws, s _ _ e⟩⟩
    · exact ⟨od, .inr ⟨ws, s _ _ e⟩⟩
  · obtain ⟨o, e0, e1⟩ := fr b (by rw [w]; decide)
    rw [e1] at e; cases e
    exact ok.fo b od u w e0
  · cases e0 : H b with
    | none => exact ok.fresh e0
    | some o =>
      have := s _ _ e0
      rw [this] at e; cases e
      exact ok.tp b vs e0
theorem same_go {W : Wd} {H H' : Hp} (s : Same H H') : Go W H W H' := ⟨fun b o h _ => ⟨s _ _ h, rfl⟩, fun _ h => h, fun _ h => h⟩
theorem ties_of_pair {K : PySem.W.Frag} {W : Wd} {H : Hp} (ok : OKW W H) : ∀ {xs : List V} {us : List (Str × Str)}, Paired ((tT2 K tStr tStr).R W H) xs us → Ties H xs us
  | _, _, .nil => .nil
  | _, _, .cons r p => by
    obtain ⟨a, p1, p2, rfl, sq, rfl, rfl⟩ := r
    exact .cons ⟨a, rfl, sq.at ok⟩ (ties_of_pair ok p)
theorem pair_of_ties {K : PySem.W.Frag} {W : Wd} {H : Hp} (ok : OKW W H) : ∀ {xs : List V} {us : List (Str × Str)}, Ties H xs us → Paired ((tT2 K tStr tStr).R W H) xs us
  | _, _, .nil => .nil
  | _, _, .cons r p => by
    obtain ⟨a, rfl, e⟩ := r
    exact .cons ⟨a, _, _, rfl, .inl ⟨ok.tp a _ e, e⟩, rfl, rfl⟩ (pair_of_ties ok p)
section
variable (K : PySem.W.Frag) (C : Addr)
def tWeb : Z.Ty WebZ := ⟨fun W H v w => WfZ w ∧ ∃ o dx dp tl xs, v = .ref o ∧ RdW W H o (.ins C dx [("_prices", .ref dp), ("_ties", .ref tl)]) ∧ RdW W H dp (.dK (prK w.ms w.qs)) ∧ (W tl = .sh ∧ H tl = some (.lst xs)) ∧ Paired ((tT2 K tStr tStr).R W H) xs w.us, by
  rintro W W' H H' v w ⟨wf, o, dx, dp, tl, xs, e, h1, h2, h3, p⟩ m
  exact ⟨wf, o, dx, dp, tl, xs, e, m.rd _ _ h1, m.rd _ _ h2, m.ls _ _ h3.1 h3.2, L2.Paired.mapP p fun u x r => Z.Ty.go _ r m⟩⟩
end
variable {K : PySem.W.Frag} {C : Addr}
theorem web_at {W : Wd} {H : Hp} {v : V} {w : WebZ} (ok : OKW W H) (nl : ∀ b, W b ≠ .lk) (h : (tWeb K C).R W H v w) : WfZ w ∧ ∃ o dx dp tl xs, v = .ref o ∧ WebAt H C o dx dp tl xs w.ms w.qs w.us := by
  obtain ⟨wf, o, dx, dp, tl, xs, e, h1, h2, h3, p⟩ := h
  exact ⟨wf, o, dx, dp, tl, xs, e, ok.exact h1 (fun _ e => by cases e) (fun _ e => by cases e) (fun _ e => by cases e), (ok.exactD h2 (nl dp) (fun _ e => by cases e)).1, h3.2, ties_of_pair ok p⟩
theorem wf_of {ns ms : List Str} {ps qs : List Int} {ts us : List (Str × Str)} (h : WebOk ns ps ts ms qs us) (p : Pts ns ps ts) : WfZ ⟨ms, qs, us⟩ := ⟨(h.pts p).1, h.am, h.au, (h.pts p).2⟩
end KK
end

section
set_option maxRecDepth 100000
set_option maxHeartbeats 4000000
namespace KK
open PySem PySem.Spec PyProof.Rows L2 Z
abbrev ctPair (K : PySem.W.Frag) : CT (Str × Str) := ⟨false, tT2 K tStr tStr, fun as P _ => ∃ a b, as = [.sh tStm (), .sh tStr a, .sh tStr b] ∧ ∀ p, (p = (a, b) ∨ p = (b, a)) → P p⟩
abbrev ctAmount : CT Int := ⟨false, tInt, fun as P _ => ∃ n, as = [.sh tStm (), .sh tInt n] ∧ ∀ r, (1 ≤ r ∧ r ≤ 10 ^ 30) → P r⟩
section
variable {P : Program} {w : World} {K : PySem.W.Frag} {mg : Str → Option Value} {base : Heap}
theorem z_pair (T : Blt mg) (F : Has K mg "_law_pair" s_law_pair) (ZDRAW : C8.Cal P w K mg base 1 "_law_draw" (spZ ctDraw) []) : C8.Cal P w K mg base 2 "_law_pair" (spZ (ctPair K)) [] := by
  refine calF F (fun f fd F => F.binds (ps := ["_law_stream_here", "_law_a", "_law_b"]) fun _ _ _ _ _ _ us hl => match us, hl with | [_, _, _], _ => rfl) scLpair (fun vs H Q E h => zlen (fun as P XP hc => by obtain ⟨_, _, rfl, _⟩ := hc; rfl) h) (fun f cdv A outer s H vs Q E hr h => ?_)
  have hu := hu_of hr
  refine ⟨_, (pss_cons (ps_if (pt_cmpR op_eq (C8.pe_c ZDRAW hr (by decide) rfl (pa_cons (pv 0) (pa_cons pe_int pa_nil))) pe_int (nomark _)) (pss_one (ps_ret (pe_tup (pa_cons (pv 1) (pa_cons (pv 2) pa_nil))))) pss_nil)
      (pss_one (ps_ret (pe_tup (pa_cons (pv 2) (pa_cons (pv 1) pa_nil)))))), zrun h ?_⟩
  rintro as P XP ⟨a, b, rfl, hp⟩
  refine ⟨0, rfl, ?_⟩
  refine (blk_seq (blk_if (et_test (ev_op ro_eqI (ev_call0 (by first | exact fun _ => rfl | exact fun h => nomatch h) (ea_cons (ev_var rfl (ea_cons (ev_int (ea_nil ⟨_, rfl, ?_, fun r1 hr1 => (ev_int ⟨fun hb => (blk_ret (ev_t2 (K := K) (ev_var rfl (ev_var rfl ?_)))), fun hb => (blk_next (blk_ret (ev_t2 (K := K) (ev_var rfl (ev_var rfl ?_)))))⟩)⟩))))))))))
  · exact ⟨by decide, by decide⟩
  · exact hp _ (.inl rfl)
  · exact hp _ (.inr rfl)

theorem z_amount (T : Blt mg) (F : Has K mg "_law_amount" s_law_amount) (ZDRAW : C8.Cal P w K mg base 1 "_law_draw" (spZ ctDraw) []) : C8.Cal P w K mg base 2 "_law_amount" (spZ ctAmount) [] := by
  refine calF F (fun f fd F => F.binds (ps := ["_law_stream_here", "_law_scale"]) fun _ _ _ _ _ _ us hl => match us, hl with | [_, _], _ => rfl) scLamount (fun vs H Q E h => zlen (fun as P XP hc => by obtain ⟨_, rfl, _⟩ := hc; rfl) h) (fun f cdv A outer s H vs Q E hr h => ?_)
  have hu := hu_of hr
  refine ⟨_, (pss_cons (ps_if (pt_cmpR op_eq (pv 1) pe_int (nomark _)) (pss_one (ps_ret (pe_op op_add pe_int (C8.pe_c ZDRAW hr (by decide) rfl (pa_cons (pv 0) (pa_cons pe_int pa_nil)))))) pss_nil)
      (pss_cons (ps_if (pt_cmpR op_eq (pv 1) pe_int (nomark _)) (pss_one (ps_ret (pe_op op_add pe_int (C8.pe_c ZDRAW hr (by decide) rfl (pa_cons (pv 0) (pa_cons pe_int pa_nil)))))) pss_nil)
      (pss_cons (ps_set (i := 2) scLamount.nd rfl (Or.inl rfl) (C8.pe_c ZDRAW hr (by decide) rfl (pa_cons (pv 0) (pa_cons pe_int pa_nil))))
      (pss_cons (ps_if (pt_cmpR op_eq (pv 2) pe_int (nomark _)) (pss_one (ps_ret (pe_op op_add pe_int (C8.pe_c ZDRAW hr (by decide) rfl (pa_cons (pv 0) (pa_cons pe_int pa_nil)))))) pss_nil)
      (pss_cons (ps_if (pt_cmpR op_eq (pv 2) pe_int (nomark _)) (pss_one (ps_ret (pe_op op_sub (pe_op op_pow pe_int pe_int) (C8.pe_c ZDRAW hr (by decide) rfl (pa_cons (pv 0) (pa_cons pe_int pa_nil)))))) pss_nil)
      (pss_one (ps_ret (pe_op op_add pe_int (C8.pe_c ZDRAW hr (by decide) rfl (pa_cons (pv 0) (pa_cons (pe_op op_pow pe_int pe_int) pa_nil))))))))))), zrun h ?_⟩
  rintro as P XP ⟨n, rfl, hp⟩
  refine ⟨1, rfl, ?_⟩
  refine (blk_seq (blk_if (et_test (ev_op ro_eqI (ev_var rfl (ev_int ⟨fun hb => (blk_ret (ev_op ro_I0 (ev_int (ev_call0 (by first | exact fun _ => rfl | exact fun h => nomatch h) (ea_cons (ev_var rfl (ea_cons (ev_int (ea_nil ⟨_, rfl, ?_, fun r1 hr1 => ?_⟩))))))))), fun hb => (blk_next (blk_seq (blk_if (et_test (ev_op ro_eqI (ev_var rfl (ev_int ⟨fun hb => (blk_ret (ev_op ro_I0 (ev_int (ev_call0 (by first | exact fun _ => rfl | exact fun h => nomatch h) (ea_cons (ev_var rfl (ea_cons (ev_int (ea_nil ⟨_, rfl, ?_, fun r2 hr2 => ?_⟩))))))))), fun hb => (blk_next (blk_seq (blk_set (ev_call0 (by first | exact fun _ => rfl | exact fun h => nomatch h) (ea_cons (ev_var rfl (ea_cons (ev_int (ea_nil ⟨_, rfl, ?_, fun r3 hr3 => (blk_seq (blk_if (et_test (ev_op ro_eqI (ev_var rfl (ev_int ⟨fun hb => (blk_ret (ev_op ro_I0 (ev_int (ev_call0 (by first | exact fun _ => rfl | exact fun h => nomatch h) (ea_cons (ev_var rfl (ea_cons (ev_int (ea_nil ⟨_, rfl, ?_, fun r4 hr4 => ?_⟩))))))))), fun hb => (blk_next (blk_seq (blk_if (et_test (ev_op ro_eqI (ev_var rfl (ev_int ⟨fun hb => (blk_ret (ev_op ro_I0 (ev_op ro_I (ev_int (ev_int ⟨?_, (ev_call0 (by first | exact fun _ => rfl | exact fun h => nomatch h) (ea_cons (ev_var rfl (ea_cons (ev_int (ea_nil ⟨_, rfl, ?_, fun r5 hr5 => ?_⟩))))))⟩))))), fun hb => (blk_next (blk_ret (ev_op ro_I0 (ev_int (ev_call0 (by first | exact fun _ => rfl | exact fun h => nomatch h) (ea_cons (ev_var rfl (ea_cons (ev_op ro_I (ev_int (ev_int ⟨?_, (ea_nil ⟨_, rfl, ?_, fun r6 hr6 => ?_⟩)⟩)))))))))))⟩)))))))⟩))))))⟩)))))))))⟩)))))))⟩))))))
  all_goals first | exact ⟨by decide, by decide⟩ | exact ⟨by decide, by decide, by decide⟩ | skip
  all_goals first | (refine hp _ ?_; omega) | skip
  · refine hp _ ?_
    have e : (10 : Int) ^ Int.toNat 30 = 10 ^ 30 := rfl
    rw [e]
    omega
  · refine hp _ ?_
    have h2 : r6 < 10 ^ 30 := hr6.2
    omega
end
end KK
end

section
set_option maxRecDepth 100000
set_option maxHeartbeats 4000000
namespace KK
open PySem PySem.Spec PyProof.Rows L2 Z
abbrev ctName (T : Ty (List Str)) : CT Str := ⟨false, tStr, fun as P _ => ∃ ys, as = [.sh tStm (), .sh T ys] ∧ ys.length ≤ 60 ∧ ∀ x, (NameOk x ∧ x ∉ ys) → P x⟩
theorem chars_at {z : Str} {i : Nat} {x : Str} (h : (chars z)[i]? = some x) : ∃ c, z.cps[i]? = some c ∧ x = ⟨#[c]⟩ := by
  unfold chars at h
  rw [List.getElem?_map, Array.getElem?_toList] at h
  obtain ⟨c, h1, h2⟩ := Option.map_eq_some_iff.mp h
  exact ⟨c, h1, h2.symm⟩
theorem chars_len (z : Str) : (chars z).length = z.cps.size := by unfold chars; rw [List.length_map, Array.length_toList]
section
variable {P : Program} {w : World} {K : PySem.W.Frag} {mg : Str → Option Value} {base : Heap}
theorem z_name (T : Blt mg) {TY : Ty (List Str)} (RN : RO (rIn K true) tStr TY tBl (fun x xs P => P (!decide (x ∈ xs)))) (F : Has K mg "_law_name" s_law_name) (ZDRAW : C8.Cal P w K mg base 1 "_law_draw" (spZ ctDraw) []) : C8.Cal P w K mg base 2 "_law_name" (spZ (ctName TY)) [] := by
  refine calF F (fun f fd F => F.binds (ps := ["_law_stream_here", "_law_used"]) fun _ _ _ _ _ _ us hl => match us, hl with | [_, _], _ => rfl) scLname (fun vs H Q E h => zlen (fun as P XP hc => by obtain ⟨_, rfl, _⟩ := hc; rfl) h) (fun f cdv A outer s H vs Q E hr h => ?_)
  have hu := hu_of hr
  refine ⟨_, (pss_cons (ps_set (i := 2) scLname.nd rfl (Or.inl rfl) (pe_op op_add pe_int (C8.pe_c ZDRAW hr (by decide) rfl (pa_cons (pv 0) (pa_cons pe_int pa_nil)))))
      (pss_cons (ps_set (i := 3) scLname.nd rfl (Or.inl rfl) pe_str)
      (pss_cons (ps_for PassesOwn.never rfl (pi_range1 rfl T.b_range (pa_cons (pv 2) pa_nil)) (pg_name (i := 4) scLname.nd rfl (Or.inl rfl))
        (pss_one (ps_set (i := 3) scLname.nd rfl (Or.inl rfl) (pe_op op_add_str (pv 3) (pe_ix ix_str pe_str (C8.pe_c ZDRAW hr (by decide) rfl (pa_cons (pv 0) (pa_cons pe_int pa_nil))) (fun _ _ => rfl))))))
      (pss_cons (ps_if (pt_cmpR op_notIn_seq (pv 3) (pv 1) (by rfl)) (pss_one (ps_ret (pv 3))) pss_nil)
      (pss_cons (ps_for PassesOwn.never rfl (pi_str pe_str) (pg_name (i := 5) scLname.nd rfl (Or.inl rfl))
        (pss_one (ps_for PassesOwn.never rfl (pi_str pe_str) (pg_name (i := 6) scLname.nd rfl (Or.inl rfl))
        (pss_one (ps_if (pt_cmpR op_notIn_seq (pe_op op_add_str (pv 5) (pv 6)) (pv 1) (by rfl)) (pss_one (ps_ret (pe_op op_add_str (pv 5) (pv 6)))) pss_nil)))))
      (pss_one (ps_ret (pv 3)))))))), zrun h ?_⟩
  rintro as P XP ⟨ys, rfl, hlen, hp⟩
  refine ⟨5, rfl, ?_⟩
  refine (blk_seq (blk_set (ev_op ro_I0 (ev_int (ev_call0 (by first | exact fun _ => rfl | exact fun h => nomatch h) (ea_cons (ev_var rfl (ea_cons (ev_int (ea_nil ⟨_, rfl, ?_, fun r1 hr1 => (blk_seq (blk_set (ev_str (blk_seq (blk_for (vs := [4]) (fun _ i G' => ∃ z : Str, z.cps.toList.length = i ∧ CsOk z.cps.toList ∧ G' = ⟨false, [.sh tStm (), .sh TY ys, .sh tInt (1 + r1), .sh tStr z, .un, .un, .un]⟩) (ei_range1 (ev_var rfl ⟨?_, ⟨?_, ?_, ?_⟩⟩)))))))⟩))))))))))
  · exact ⟨by decide, by decide⟩
  · omega
  · refine ⟨"", rfl, fun c hc => ?_, rfl⟩
    have e : (PySem.Str.ofString "").cps.toList = [] := by decide +kernel
    rw [e] at hc
    simp at hc
  · rintro i x _ hx ⟨z, hl, hc, rfl⟩
    obtain ⟨rfl, hi⟩ := rangeZ_get hx
    refine (tg_name (by decide) (blk_wipe [4] (blk_set (ev_op ro_addS (ev_var rfl (ev_op ro_ixS (ev_str (ev_call0 (by first | exact fun _ => rfl | exact fun h => nomatch h) (ea_cons (ev_var rfl (ea_cons (ev_int (ea_nil ⟨_, rfl, ?_, fun r2 hr2 => ⟨?_, ?_, fun v1 hv1 => ⟨?_, ?_⟩⟩⟩)))))))))))))
    · exact ⟨by decide, by decide⟩
    · exact fits (by decide +kernel)
    · exact ⟨_, at_ofN (z := r2) (j := r2.toNat) (by omega) (abc_all r2.toNat (by omega))⟩
    · exact fits (by rw [len_cps, hl]; show i + 1 ≤ 100000; omega)
    · refine ⟨z ++ ⟨#[v1]⟩, by rw [cps_app, List.length_append, hl]; rfl, ?_, rfl⟩
      rw [cps_app]
      intro c h
      rcases List.mem_append.mp h with h | h
      · exact hc c h
      · have e := at_ofN (z := r2) (j := r2.toNat) (by omega) (abc_all r2.toNat (by omega))
        rw [hv1] at e
        have e2 : c = v1 := by simpa using h
        injection e with e
        omega
  · rintro _ ⟨z, hl, hc, rfl⟩
    rw [rangeZ_len] at hl
    have hz : NameOk z := ⟨by omega, by omega, hc⟩
    refine (blk_seq (blk_if (et_test (ev_op RN (ev_var rfl (ev_var rfl ⟨fun hb => (blk_ret (ev_var rfl ?_)), fun hb => (blk_next (blk_seq (blk_for (vs := [5]) (fun _ i G' => (∀ i' < i, ∀ j < 26, two i' j ∈ ys) ∧ G' = ⟨false, [.sh tStm (), .sh TY ys, .sh tInt (1 + r1), .sh tStr z, .un, .un, .un]⟩) (ei_str (ev_str ⟨?_, ?_, ?_⟩)))))⟩))))))
    · exact hp z ⟨hz, by simpa using hb⟩
    · exact ⟨fun i' hi' => absurd hi' (Nat.not_lt_zero _), rfl⟩
    · rintro i x _ hx ⟨hall, rfl⟩
      obtain ⟨c, hc1, rfl⟩ := chars_at hx
      have hi : i < 3 := by
        have := (Array.getElem?_eq_some_iff.mp hc1).1
        rw [q_len] at this
        exact this
      rw [q_at hi] at hc1
      cases hc1
      refine (tg_name (by decide) (blk_wipe [6, 5] (blk_for (vs := [6]) (fun _ j G' => (∀ j' < j, two i j' ∈ ys) ∧ G' = ⟨false, [.sh tStm (), .sh TY ys, .sh tInt (1 + r1), .sh tStr z, .un, .sh tStr ⟨#[qzv i]⟩, .un]⟩) (ei_str (ev_str ⟨?_, ?_, ?_⟩)))))
      · exact ⟨fun j' hj' => absurd hj' (Nat.not_lt_zero _), rfl⟩
      · rintro j x _ hx ⟨hin, rfl⟩
        obtain ⟨c, hc2, rfl⟩ := chars_at hx
        have hj : j < 26 := by
          have := (Array.getElem?_eq_some_iff.mp hc2).1
          rw [abc_len] at this
          exact this
        rw [abc_at hj] at hc2
        cases hc2
        refine (tg_name (by decide) (blk_wipe [6] (blk_if (et_test (ev_op RN (ev_op ro_addS (ev_var rfl (ev_var rfl ⟨?_, (ev_var rfl ⟨fun hb => (blk_ret (ev_op ro_addS (ev_var rfl (ev_var rfl ⟨?_, ?_⟩)))), fun hb => (blk_next ?_)⟩)⟩))))))))
        · exact fits (by show 1 + 1 ≤ 100000; decide)
        · exact fits (by show 1 + 1 ≤ 100000; decide)
        · exact hp _ ⟨two_ok hj, by simpa using hb⟩
        · refine ⟨fun j' hj' => ?_, rfl⟩
          by_cases ej : j' = j
          · rw [ej]; unfold two; simpa using hb
          · exact hin j' (by omega)
      · rintro _ ⟨hin, rfl⟩
        rw [chars_len, abc_len] at hin
        refine ⟨fun i' hi' j hj => ?_, rfl⟩
        by_cases ei : i' = i
        · rw [ei]; exact hin j hj
        · exact hall i' (by omega) j hj
    · rintro _ ⟨hall, rfl⟩
      rw [chars_len, q_len] at hall
      exfalso
      have := pigeon allTwo_nd (ys := ys) fun z hz => by
        unfold allTwo at hz
        obtain ⟨i, hi, hz⟩ := List.mem_flatMap.mp hz
        obtain ⟨j, hj, rfl⟩ := List.mem_map.mp hz
        exact hall i (List.mem_range.mp hi) j (List.mem_range.mp hj)
      rw [allTwo_len] at this
      omega
end
end KK
end

section
set_option maxRecDepth 100000
set_option maxHeartbeats 4000000
namespace KK
open PySem PySem.Spec PyProof.Rows L2 Z
abbrev tParts (K : PySem.W.Frag) : Z.Ty (List Str × List (Str × Str) × List (Str × Int)) := tL3 K (tTu K tStr) (tLs K (tT2 K tStr tStr)) (tDk kS tInt)
/-- sound parts of a web -/
structure PtsZ (p : List Str × List (Str × Str) × List (Str × Int)) : Prop where
  no : NsOk p.1
  to : TsOk p.1 p.2.1
  ks : (p.2.2.map (·.1)).Perm p.1
  po : ∀ e ∈ p.2.2, 1 ≤ e.2 ∧ e.2 ≤ 10 ^ 30
theorem PtsZ.kn {p : List Str × List (Str × Str) × List (Str × Int)} (h : PtsZ p) : (p.2.2.map (·.1)).Nodup := h.ks.nodup_iff.mpr h.no.nd
abbrev ctParts (K : PySem.W.Frag) : CT (List Str × List (Str × Str) × List (Str × Int)) := ⟨true, tParts K, fun as P _ => ∃ lo hi, as = [.sh tStm (), .sh tInt lo, .sh tInt hi] ∧ (1 ≤ lo ∧ lo ≤ hi ∧ hi ≤ 19) ∧ ∀ r, (PtsZ r ∧ lo ≤ (r.1.length : Int) ∧ (r.1.length : Int) ≤ hi) → P r⟩
section
variable {P : Program} {w : World} {K : PySem.W.Frag} {mg : Str → Option Value} {base : Heap}
end
end KK
end

section
set_option maxRecDepth 100000
set_option maxHeartbeats 4000000
namespace KK
open PySem PySem.Spec PyProof.Rows L2
def spWebIs (C : Addr) : Sp := fun vs H Q _ => ∃ (o dx dp tl : Addr) (ys : List V) (ms : List Str) (qs : List Int) (us : List (Str × Str)) (r pl tl0 d0 : Addr) (ns : List Str) (ps : List Int) (xs : List V) (ts : List (Str × Str)),
  vs = [.ref o, .ref r] ∧ WebAt H C o dx dp tl ys ms qs us ∧ PartsAt H r pl tl0 d0 ns ps xs ts ∧ WebOk ns ps ts ms qs us ∧ ∀ H', Same H H' → Q (.bl true) H'
section
variable {P : Program} {w : World} {K : PySem.W.Frag} {mg : Str → Option Value} {base : Heap} {C : Addr}
end
end KK
end

section
set_option maxRecDepth 100000
set_option maxHeartbeats 4000000
namespace KK
open PySem PySem.Spec PyProof.Rows L2
def spLawWeb (C : Addr) : Sp := fun vs H Q _ => ∃ r pl tl d ns ps xs ts, vs = [.ref r] ∧ PartsAt H r pl tl d ns ps xs ts ∧
  ∀ o dx dp tl2 ys ms qs us H', Same H H' → H o = none → H dp = none → H tl2 = none → WebAt H' C o dx dp tl2 ys ms qs us → WebOk ns ps ts ms qs us → Q (.ref o) H'
section
variable {P : Program} {w : World} {K : PySem.W.Frag} {mg : Str → Option Value} {base : Heap} {C : Addr}
end
end KK
end

section
set_option maxRecDepth 100000
set_option maxHeartbeats 4000000
namespace Z
open PySem PySem.Spec PyProof.Rows L2
variable {K : PySem.W.Frag}
section
variable {α β γ ρ : Type} {t : Ty α} {u : Ty β} {X : Xw} {G : Ct} {F : Fx ρ} {N B C : Ct → Prop}
/-- a list whose first item is a text -/
def tHd : Ty Str := ⟨fun W H v s => ∃ a vs, v = .ref a ∧ W a = .sh ∧ H a = some (.lst (.str s :: vs)), by
  rintro W W' H H' v s ⟨a, vs, e, w, h⟩ m
  obtain ⟨w2, h2⟩ := m.ls a _ w h
  exact ⟨a, vs, e, w2, h2⟩⟩
end
end Z
end

section
set_option maxRecDepth 100000
set_option maxHeartbeats 4000000
/-! try with several clauses 'except x as n', all of one name n -/
namespace Own
open PySem PySem.Spec PyProof.Rows L2
abbrev Hnd : Type := Value × (Addr → Value → Option Addr → TS)
/-- behind a clause its name is gone -/
def ends (i : Nat) (D : Ends) : Ends where
  nx := fun τ J => D.nx (τ.set i none) J
  rt := D.rt
  bk := fun τ J => D.bk (τ.set i none) J
  ct := fun τ J => D.ct (τ.set i none) J
def wEach (K : PySem.W.Frag) (Wo : WX) (D : Ends) (i : Nat) : List Hnd → WX
  | [] => Wo
  | z :: r => fun q d τ J => ∃ b, PySem.W.exmOne K q z.1 = some b ∧ (b = true → ∀ e, J e = none → z.2 e q d (ends i D) (τ.set i (some (.ref e))) J) ∧ (b = false → wEach K Wo D i r q d τ J)
inductive Each (X : Cx) (n : Str) : List ExceptHandler → List Hnd → Prop
  | nil : Each X n [] []
  | cons {y : Str} {cl : Value} {tz : Addr → Value → Option Addr → TS} {f : Stmt} {fs : List Stmt} {p1 p2 : Pos} {ks : List ExceptHandler} {r : List Hnd} :
      Names X y cl → (∀ (e : Addr) (o : Obj) (q : Value) (d : Option Addr) (pn : List (Addr × Obj)), Zc q d o → (∃ vs, o.data = .fields vs) → PSs (X.suite e ((e, o) :: pn)) (f :: fs) (tz e q d)) →
      Each X n ks r → Each X n (.ExceptHandler (some (.Name y p1)) (some n) (f :: fs) p2 :: ks) ((cl, tz) :: r)
/-- the exception e has come down into the frame -/
structure Down (X : Cx) (pins : List (Addr × Obj)) (τ : L2.St) (J : Hp) (e : Addr) (q : Value) (d : Option Addr) (G : Heap) (s0 u : Shared) : Prop where
  inv : Inv X pins τ J s0
  nb : ∀ b o, s0.heap.get? b = some o → b ∉ frs X.stack → G.get? b = some o
  up : s0.heap.UpToSlots u.heap
  fl : HandSPX.FlyingZ G (X.env :: X.outer) e (Zc q d) u.heap
  na : J e = none
  os : u.os = s0.os
  ag : AllBare u.gens
section
variable {X : Cx} {pins : List (Addr × Obj)} {τ : L2.St} {J : Hp} {e : Addr} {q : Value} {d : Option Addr} {G : Heap} {s0 u : Shared} {n : Str} {i : Nat} {D : Ends} {Wo : WX}
end
end Own
end

section
set_option maxRecDepth 100000
set_option maxHeartbeats 4000000
/-! what is raised and caught; one of two types -/
namespace Z
open PySem PySem.Spec PyProof.Rows L2
/-! ### a + b by the class's own __add__, in a try's body -/
def tAddS (C : Addr) (sp : Sp) (E : L2.St → XK) (ta tb : TE) : TE := fun σ H Q => ta σ H fun x H1 => tb σ H1 fun y H2 => Own.rOpO C sp (E σ) x y H2 Q
structure MetX (P : Program) (w : World) (K : PySem.W.Frag) (mg : Str → Option Value) (base : Heap) (k : Nat) (C : Addr) (m : Str) (sp : Sp) : Prop where
  ex : ∃ (f : Addr) (fd : FuncData) (ps : List Str), Cls K C ∧ Meth K C m f ∧ FnOk P w K mg base (L2.CX P w) k f fd ps sp ∧ Binds K fd ps []
section
variable {X : Cx} {W : WX} {k j : Nat} {C : Addr} {sp : Sp} {a b : Expr} {ta tb : TE} {pos : Pos}
end
/-! ### an exception in hand -/
theorem FldsOk.mv {W W' : Wd} {H H' : Hp} (m : Mv W H W' H') : ∀ {vs : List (Str × V)} {ss : List (Str × Sl)}, FldsOk W H vs ss → FldsOk W' H' vs ss
  | _, _, .nil => .nil
  | _, _, .cons r p => .cons (Z.Ty.go _ r m) (p.mv m)
def ErIn (W : Wd) (H : Hp) (e : Er) (d : Option Addr) : Prop := ∀ fs, e.fs = some fs → ∃ dd ws, d = some dd ∧ RdW W H dd (.xd ws) ∧ FldsOk W H ws fs
def tErr (a : Addr) (e : Er) (d : Option Addr) : Z.Ty Unit := ⟨fun W H v _ => v = .ref a ∧ ErIn W H e d, by
  rintro W W' H H' v _ ⟨e1, h⟩ m
  refine ⟨e1, fun fs e2 => ?_⟩
  obtain ⟨dd, ws, h1, h2, h3⟩ := h fs e2
  exact ⟨dd, ws, h1, m.rd _ _ h2, h3.mv m⟩⟩
section
variable {α β ρ : Type} {t : Z.Ty α} {u : Z.Ty β} {X : Xw} {G : Ct} {F : Fx ρ} {N B C : Ct → Prop}
/-! ### the clauses -/
def Catch (F : Fx ρ) (G : Ct) (N B C : Ct → Prop) (K : PySem.W.Frag) (Wo : WX) (i : Nat) (r : List Own.Hnd) (e : Er) : Prop :=
  ∀ W0 H0 W H σ (D : Ends) d, Go W0 H0 W H → Holds G W H σ →
    (∀ G' W' H' σ', N G' → Go W0 H0 W' H' → Holds G' W' H' σ' → D.nx σ' H') →
    (∀ G' W' H' σ', B G' → Go W0 H0 W' H' → Holds G' W' H' σ' → D.bk σ' H') →
    (∀ G' W' H' σ', C G' → Go W0 H0 W' H' → Holds G' W' H' σ' → D.ct σ' H') →
    (∀ v W' H' x, F.rt x → Go W0 H0 W' H' → OKW W' H' → F.tr.R W' H' v x → D.rt v H') →
    (∀ e d W' H', F.X.xp e → Go W0 H0 W' H' → OKW W' H' → ErAt W' H' e d → F.X.E (.ref e.C) d H') → ErAt W H e d → Own.wEach K Wo D i r (.ref e.C) d σ H
variable {K : PySem.W.Frag} {Wo : WX} {i : Nat} {z : Own.Hnd} {r : List Own.Hnd} {e : Er}
/-! ### one of two -/
def tSum (t : Z.Ty α) (u : Z.Ty β) : Z.Ty (α ⊕ β) := ⟨fun W H v x => match x with
  | .inl a => t.R W H v a
  | .inr b => u.R W H v b, by
  rintro W W' H H' v (a | b) h m
  · exact t.go h m
  · exact u.go h m⟩
end
end Z
end

section
set_option maxRecDepth 100000
set_option maxHeartbeats 4000000
namespace Z
open PySem PySem.Spec PyProof.Rows L2
end Z
namespace KK
open PySem PySem.Spec PyProof.Rows L2 Z
section
variable {P : Program} {w : World} {K : PySem.W.Frag} {mg : Str → Option Value} {base : Heap} {C : Addr}
theorem met_of {P : Program} {w : World} {K : PySem.W.Frag} {mg : Str → Option Value} {base : Heap} {k : Nat} {C : Addr} {m : Str} {sp1 sp2 : Sp} {dvs : List V} (c : C8.Met P w K mg base k C m sp1 dvs) (h : ∀ vs H Q E, sp2 vs H Q E → sp1 vs H Q E) : C8.Met P w K mg base k C m sp2 dvs := by
  obtain ⟨f, fd, ps, ds, c1, c2, c3, c4, c5⟩ := c.ex
  exact ⟨f, fd, ps, ds, c1, c2, c3.imp h, c4, c5⟩
theorem prF_at {ns : List Str} {ps : List Int} (h : PrOk ps) (hn : ns.Nodup) (hl : ps.length = ns.length) {x : Str} (hx : x ∈ ns) : 1 ≤ prF ns ps x ∧ prF ns ps x ≤ 10 ^ 30 := by
  obtain ⟨i, hi⟩ := List.getElem?_of_mem hx
  obtain ⟨r, h1, h2⟩ := prK_some hn hl hi
  have e : prF ns ps x = r := by unfold prF; rw [h2]
  rw [e]
  exact h _ (List.mem_of_getElem? h1)
/-- the prices in the order of the names -/
def prP (p : List Str × List (Str × Str) × List (Str × Int)) : List Int := p.1.map (prF (p.2.2.map (·.1)) (p.2.2.map (·.2)))
/-- a web of parts -/
abbrev ctWebL (K : PySem.W.Frag) (C : Addr) : CT WebZ := ⟨true, tWeb K C, fun as P _ => ∃ p, as = [.sh (tParts K) p] ∧ PtsZ p ∧ ∀ r, (WfZ r ∧ WebOk p.1 (prP p) p.2.1 r.ms r.qs r.us) → P r⟩
theorem PtsZ.pts {p : List Str × List (Str × Str) × List (Str × Int)} (h : PtsZ p) : Pts p.1 (prP p) p.2.1 :=
  ⟨List.length_map .., h.no, h.to, fun z hz => by
    obtain ⟨x, hx, rfl⟩ := List.mem_map.mp hz
    refine prF_at (fun z hz => ?_) h.kn (by rw [List.length_map, List.length_map]) (h.ks.mem_iff.mpr hx)
    obtain ⟨e, he, rfl⟩ := List.mem_map.mp hz
    exact h.po e he⟩
theorem PtsZ.pk {p : List Str × List (Str × Str) × List (Str × Int)} (h : PtsZ p) : (prK (p.2.2.map (·.1)) (p.2.2.map (·.2))).Perm (prK p.1 (prP p)) := by
  have e := map_prF (ps := p.2.2.map (·.2)) h.kn (by rw [List.length_map, List.length_map])
  conv => lhs; rw [← e]
  unfold prP
  rw [prK_fun, prK_fun]
  exact h.ks.map _
end
abbrev ctCopy : CT (List (Str × Int)) := ⟨true, tDk kS tInt, fun as P _ => ∃ d, as = [.sh (tDk kS tInt) d] ∧ ((d.map (·.1)).Nodup ∧ d.length ≤ 40) ∧ P d⟩
section
variable {P : Program} {w : World} {K : PySem.W.Frag} {mg : Str → Option Value} {base : Heap}
abbrev ctWebIs (K : PySem.W.Frag) (C : Addr) : CT Bool := ⟨true, tBl, fun as P _ => ∃ z p, as = [.sh (tWeb K C) z, .sh (tParts K) p] ∧ (PtsZ p ∧ WebOk p.1 (prP p) p.2.1 z.ms z.qs z.us) ∧ P true⟩
end
end KK
end

section
set_option maxRecDepth 100000
set_option maxHeartbeats 4000000
namespace KK
open PySem PySem.Spec PyProof.Rows L2
/-- a method with keyword-only defaults -/
def HasMD (K : PySem.W.Frag) (C : Addr) (m qual : Str) (st : Stmt) (kws : List (Str × V)) : Prop := ∃ f fd, FunD K m qual (defArgs st) (defBody st) (defScope st) [] kws f fd ∧ Meth K C m f
def spWithPlace (C : Addr) : Sp := fun vs H Q _ => ∃ o dx dp tl xs ms qs us x p, vs = [.ref o, .str x, .int p] ∧ WebS H C o dx dp tl xs ms qs us ∧ NameOk x ∧ x ∉ ms ∧ ms.length < 40 ∧ 1 ≤ p ∧ p ≤ 10 ^ 30 ∧
  ∀ o2 dx2 dp2 tl2 ys ms2 qs2 us2 H', Same H H' → H o2 = none → H dp2 = none → H tl2 = none → WebAt H' C o2 dx2 dp2 tl2 ys ms2 qs2 us2 → WebOk (ms ++ [x]) (qs ++ [p]) us ms2 qs2 us2 → Q (.ref o2) H'
section
variable {P : Program} {w : World} {K : PySem.W.Frag} {mg : Str → Option Value} {base : Heap} {C : Addr}
end
end KK
end

section
set_option maxRecDepth 100000
set_option maxHeartbeats 4000000
namespace KK
open PySem PySem.Spec PyProof.Rows L2
def within (ns : List Str) (p : Str × Str) : Bool := decide (p.1 ∈ ns) && decide (p.2 ∈ ns)
/-- names in the order in which they come first -/
def firsts (ns : List Str) : List Str := ns.foldl (fun d x => if x ∈ d then d else d ++ [x]) []
def spPart (C : Addr) : Sp := fun vs H Q _ => ∃ o dx dp tl xs ms qs us nl ns ds, vs = [.ref o, .ref nl] ∧ WebS H C o dx dp tl xs ms qs us ∧ H nl = some (.lst (ns.map V.str)) ∧ ds = firsts ns ∧ ns.length ≤ 1000 ∧ NsOk ds ∧ (∀ x ∈ ns, x ∈ ms) ∧
  ∀ o2 dx2 dp2 tl2 ys ms2 qs2 us2 H', Same H H' → H o2 = none → H dp2 = none → H tl2 = none → WebAt H' C o2 dx2 dp2 tl2 ys ms2 qs2 us2 → WebOk ds (ds.map (prF ms qs)) (us.filter (within ds)) ms2 qs2 us2 → Q (.ref o2) H'
section
variable {P : Program} {w : World} {K : PySem.W.Frag} {mg : Str → Option Value} {base : Heap} {C : Addr}
end
end KK
end

section
set_option maxRecDepth 100000
set_option maxHeartbeats 4000000
namespace KK
open PySem PySem.Spec PyProof.Rows L2
def spWithout (C : Addr) : Sp := fun vs H Q _ => ∃ o dx dp tl xs ms qs us x, vs = [.ref o, .str x] ∧ WebS H C o dx dp tl xs ms qs us ∧ x ∈ ms ∧ 1 < ms.length ∧
  ∀ o2 dx2 dp2 tl2 ys ms2 qs2 us2 H', Same H H' → H o2 = none → H dp2 = none → H tl2 = none → WebAt H' C o2 dx2 dp2 tl2 ys ms2 qs2 us2 →
    WebOk (ms.filter fun z => !decide (z = x)) ((ms.filter fun z => !decide (z = x)).map (prF ms qs)) (us.filter (within (ms.filter fun z => !decide (z = x)))) ms2 qs2 us2 → Q (.ref o2) H'
section
variable {P : Program} {w : World} {K : PySem.W.Frag} {mg : Str → Option Value} {base : Heap} {C : Addr}
end
end KK
end

section
set_option maxRecDepth 100000
set_option maxHeartbeats 4000000
namespace KK
open PySem PySem.Spec PyProof.Rows L2 Z
section
variable {P : Program} {w : World} {K : PySem.W.Frag} {mg : Str → Option Value} {base : Heap} {C : Addr}
/-! promises of the methods, where they raise nothing -/
abbrev ctPrice (K : PySem.W.Frag) (C : Addr) : CT WebZ := ⟨true, tWeb K C, fun as P _ => ∃ z x p, as = [.sh (tWeb K C) z, .sh tStr x, .sh tInt p] ∧ (x ∈ z.ms ∧ 1 ≤ p ∧ p ≤ 10 ^ 30) ∧ ∀ r, (WfZ z ∧ ∃ i, z.ms[i]? = some x ∧ WebOk z.ms (z.qs.set i p) z.us r.ms r.qs r.us) → P r⟩
end
end KK
end

section
set_option maxRecDepth 100000
set_option maxHeartbeats 4000000
namespace KK
open PySem PySem.Spec PyProof.Rows L2 Z
abbrev ctLaw (K : PySem.W.Frag) : CT Bool := ⟨true, tBl, fun as P _ => ∃ xs, as = [.sh (tScr K) xs] ∧ xs.length ≤ 1000 ∧ P true⟩
section
variable {P : Program} {w : World} {K : PySem.W.Frag} {mg : Str → Option Value} {base : Heap}
theorem calG {x : Str} {st : Stmt} {N ps : List Str} {k : Nat} {sp : Sp} (F : Has K mg x st) (S : FnScope N ps (defScope st)) (len : ∀ vs H Q E, sp vs H Q E → vs.length = ps.length)
    (hbody : ∀ (f : Addr) (cdv : Value) (A : Around) (outer : List Env) (s : Shared) (H : Hp) (vs : List V) (Q : VK) (E : XK), Room k (A.deeper (envOfC x (defScope st) s.heap.objs.size f cdv)) → sp vs H Q E →
      ∃ t, PSs (cxOf CX0 P w K mg base N x (defScope st) f cdv A outer s H E).nox (defBody st) t ∧ t { nx := fun _ H' => Q .non H', rt := Q } (start N vs) H) : ∃ f fd, Fun K x x st f fd ∧ mg x = some (.ref f) ∧ FnOk P w K mg base CX0 (k + 1) f fd ps sp := by
  obtain ⟨f, fd, F, hm⟩ := F
  exact ⟨f, fd, F, hm, F.ok S len (hbody f)⟩
end
end KK
end

section
set_option maxRecDepth 100000
set_option maxHeartbeats 4000000
/-! What the Z layer has shown, told to the Y layer. -/
namespace Y
open PySem PySem.Spec PyProof.Rows L2
open Classical in
/-- to be read by -/
noncomputable def toR (W : Wd) : Z.Wd := fun b => match W b with
  | .sh => .sh
  | .lk => .lk
  | .fo => .fo
  | .st φ => if φ = IsStm then .st else .ow
  | .ow _ => .ow
open Classical in
/-- to be called in -/
noncomputable def toC (W : Wd) : Z.Wd := fun b => match W b with
  | .sh => .sh
  | .lk => .lk
  | .fo => .fo
  | .st φ => if φ = IsStm then .st else .fo
  | .ow _ => .fo
section
variable {W : Wd} {H : Hp} {b : Addr}
theorem toR_sh : toR W b = .sh ↔ W b = .sh := by
  unfold toR
  cases W b with
  | st φ => simp only; split <;> simp
  | _ => simp
theorem toR_lk : toR W b = .lk ↔ W b = .lk := by
  unfold toR
  cases W b with
  | st φ => simp only; split <;> simp
  | _ => simp
theorem toR_fo : toR W b = .fo ↔ W b = .fo := by
  unfold toR
  cases W b with
  | st φ => simp only; split <;> simp
  | _ => simp
theorem toR_st : toR W b = .st ↔ W b = .st IsStm := by
  unfold toR
  cases W b with
  | st φ =>
    simp only
    split
    · rename_i e; simp [e]
    · rename_i e; simp [e]
  | _ => simp
theorem toC_sh : toC W b = .sh ↔ W b = .sh := by
  unfold toC
  cases W b with
  | st φ => simp only; split <;> simp
  | _ => simp
theorem toC_lk : toC W b = .lk ↔ W b = .lk := by
  unfold toC
  cases W b with
  | st φ => simp only; split <;> simp
  | _ => simp
theorem toC_st : toC W b = .st ↔ W b = .st IsStm := by
  unfold toC
  cases W b with
  | st φ =>
    simp only
    split
    · rename_i e; simp [e]
    · rename_i e; simp [e]
  | _ => simp
theorem toC_ow : toC W b ≠ .ow := by
  unfold toC
  cases W b with
  | st φ => simp only; split <;> simp
  | _ => simp
theorem toC_fo : toC W b = .fo ↔ (W b = .fo ∨ (∃ p, W b = .ow p) ∨ ∃ φ, W b = .st φ ∧ φ ≠ IsStm) := by
  unfold toC
  cases W b with
  | st φ =>
    simp only
    split
    · rename_i e; simp [e]
    · rename_i e; simp [e]
  | _ => simp
theorem rdR {o : HO} : Z.RdW (toR W) H b o ↔ RdW W H b o := by
  unfold Z.RdW RdW
  rw [toR_sh, toR_lk, toR_fo]
end
theorem toR_mv {W W' : Wd} {H H' : Hp} (m : Mv W H W' H') : Z.Mv (toR W) H (toR W') H' := ⟨fun b o h => rdR.mpr (m.rd b o (rdR.mp h)), fun b vs w h => by
  obtain ⟨a, c⟩ := m.ls b vs (toR_sh.mp w) h
  exact ⟨toR_sh.mpr a, c⟩, fun b h => toR_st.mpr (m.st b _ (toR_st.mp h))⟩
theorem toRC_mv {W : Wd} {H : Hp} : Z.Mv (toR W) H (toC W) H := ⟨fun b o h => by
  have h := rdR.mp h
  rcases h with ⟨w, h⟩ | ⟨w | w, od, h⟩
  · exact .inl ⟨toC_sh.mpr w, h⟩
  · exact .inr ⟨.inl (toC_lk.mpr w), od, h⟩
  · exact .inr ⟨.inr (toC_fo.mpr (.inl w)), od, h⟩, fun b vs w h => ⟨toC_sh.mpr (toR_sh.mp w), h⟩, fun b h => toC_st.mpr (toR_st.mp h)⟩
/-- a reading of the Z layer -/
def Lift {α : Type} (t : Z.Ty α) : Ty α := ⟨fun W H v x => t.R (toR W) H v x, fun h m => t.go h (toR_mv m)⟩
/-- one reading on both layers -/
def Same {α : Type} (t : Ty α) (u : Z.Ty α) : Prop := ∀ W H v x, t.R W H v x ↔ u.R (toR W) H v x
section
variable {α β γ : Type} {t : Ty α} {u : Ty β} {z : Ty γ} {t' : Z.Ty α} {u' : Z.Ty β} {z' : Z.Ty γ} {K : PySem.W.Frag}
theorem same_lift : Same (Lift t') t' := fun _ _ _ _ => Iff.rfl
theorem same_int : Same tInt Z.tInt := fun _ _ _ _ => Iff.rfl
theorem same_str : Same tStr Z.tStr := fun _ _ _ _ => Iff.rfl
theorem same_stm : Same tStm Z.tStm := fun W H v x => ⟨fun ⟨a, e, h⟩ => ⟨a, e, toR_st.mpr h⟩, fun ⟨a, e, h⟩ => ⟨a, e, toR_st.mp h⟩⟩
theorem sqW {W : Wd} {H : Hp} {a : Addr} {vs : List V} : Z.SqW K (toR W) H a vs ↔ SqW K W H a vs := by
  unfold Z.SqW SqW
  rw [toR_sh]
theorem sqTW {W : Wd} {H : Hp} {a : Addr} {vs : List V} : Z.SqTW K (toR W) H a vs ↔ SqTW K W H a vs := rdR
theorem same_scr : Same (tScr K) (Z.tScr K) := fun W H v x => by
  constructor
  · rintro ⟨a, e, h | h⟩
    · exact ⟨a, e, .inl (rdR.mpr h)⟩
    · exact ⟨a, e, .inr h⟩
  · rintro ⟨a, e, h | h⟩
    · exact ⟨a, e, .inl (rdR.mp h)⟩
    · exact ⟨a, e, .inr h⟩
theorem same_ls (s : Same t t') : Same (tLs K t) (Z.tLs K t') := fun W H v x => by
  constructor
  · rintro ⟨a, vs, e, h, p⟩
    exact ⟨a, vs, e, sqW.mpr h, L2.Paired.mapP p fun _ _ r => (s _ _ _ _).mp r⟩
  · rintro ⟨a, vs, e, h, p⟩
    exact ⟨a, vs, e, sqW.mp h, L2.Paired.mapP p fun _ _ r => (s _ _ _ _).mpr r⟩
theorem same_t2 (s : Same t t') (s2 : Same u u') : Same (tT2 K t u) (Z.tT2 K t' u') := fun W H v x => by
  constructor
  · rintro ⟨a, p, q, e, h, r1, r2⟩
    exact ⟨a, p, q, e, sqTW.mpr h, (s _ _ _ _).mp r1, (s2 _ _ _ _).mp r2⟩
  · rintro ⟨a, p, q, e, h, r1, r2⟩
    exact ⟨a, p, q, e, sqTW.mp h, (s _ _ _ _).mpr r1, (s2 _ _ _ _).mpr r2⟩
def kyZ {κ : Type} (ke : Ky κ) : Z.Ky κ := ⟨ke.k, ke.inj⟩
end
/-! ### promises -/
/-- slots on both layers -/
inductive SlS : List Sl → List Z.Sl → Prop where
  | nil : SlS [] []
  | cons {α : Type} {t : Ty α} {u : Z.Ty α} {x : α} {as : List Sl} {bs : List Z.Sl} : Same t u → SlS as bs → SlS (.sh t x :: as) (.sh u x :: bs)
theorem SlS.args {W : Wd} {H : Hp} {as : List Sl} {bs : List Z.Sl} (h : SlS as bs) : ∀ {vs : List V}, vs.length = as.length → (∀ (k : Nat) v s, vs[k]? = some v → as[k]? = some s → s.at [k] W H v) → Z.ArgsOk (toR W) H vs bs := by
  have key : ∀ {as : List Sl} {bs : List Z.Sl}, SlS as bs → ∀ (n : Nat) {vs : List V}, vs.length = as.length → (∀ (k : Nat) v s, vs[k]? = some v → as[k]? = some s → s.at [n + k] W H v) → Z.ArgsOk (toR W) H vs bs := by
    intro as bs h
    induction h with
    | nil =>
      intro n vs hl _
      cases vs with
      | nil => exact .nil
      | cons _ _ => cases hl
    | @cons α t u x as bs s _ ih =>
      intro n vs hl hk
      cases vs with
      | nil => cases hl
      | cons v vs =>
        refine .cons ((s _ _ _ _).mp (hk 0 v (.sh t x) rfl rfl)) (ih (n + 1) (Nat.succ.inj hl) fun k v' s' h1 h2 => ?_)
        have := hk (k + 1) v' s' h1 h2
        rwa [show n + 1 + k = n + (k + 1) from by omega]
  intro vs hl hk
  exact key h 0 hl fun k v s h1 h2 => by rw [Nat.zero_add]; exact hk k v s h1 h2
open Classical in
/-- what stands behind a call of the Z layer -/
noncomputable def backW (W : Wd) (Wz : Z.Wd) : Wd := fun b => match W b with
  | .ow p => .ow p
  | .st φ => .st φ
  | _ => match Wz b with
    | .sh => .sh
    | .lk => .lk
    | .st => .st IsStm
    | _ => .fo
section
variable {W : Wd} {H H' : Hp} {Wz : Z.Wd}
theorem toC_ok (ok : OKW W H) : Z.OKW (toC W) H := by
  refine ⟨fun b h => ?_, fun b h => ?_, fun b od u w => absurd w toC_ow, fun b h => ok.lk b (toC_lk.mp h), fun b od u w h => ?_, fun b vs h => toC_sh.mpr (ok.tp b vs h)⟩
  · obtain ⟨o, h1, ⟨c, k, rfl, hk⟩, _⟩ := ok.st b _ (toC_st.mp h)
    exact ⟨c, k, h1, hk⟩
  · exact ok.al b fun e => h (toC_sh.mpr e)
  · rcases toC_fo.mp w with w | ⟨p, w⟩ | ⟨φ, w, _⟩
    · exact ok.fo b od u w h
    · exact absurd h (ok.nf b p od u w)
    · obtain ⟨o, h1, _, nf⟩ := ok.st b φ w
      rw [h] at h1
      cases h1
      exact nf.elim
theorem back_keep (ok : OKW W H) (g : Z.Go (toC W) H Wz H') {b : Addr} (h : (∃ p, W b = .ow p) ∨ ∃ φ, W b = .st φ ∧ φ ≠ IsStm) : ∃ o, H b = some o ∧ H' b = some o ∧ Wz b = .fo ∧ NoFrz o := by
  have w : toC W b = .fo := toC_fo.mpr (.inr h)
  obtain ⟨o, e⟩ := ok.al b (by rcases h with ⟨p, h⟩ | ⟨φ, h, _⟩ <;> rw [h] <;> exact fun z => nomatch z)
  obtain ⟨h1, w1⟩ := g.k b o e (.inr (.inr w))
  refine ⟨o, e, h1, w1.trans w, ?_⟩
  rcases h with ⟨p, h⟩ | ⟨φ, h, _⟩
  · cases o with
    | frz od u => exact absurd e (ok.nf b p od u h)
    | _ => trivial
  · obtain ⟨o', h2, _, nf⟩ := ok.st b φ h
    rw [e] at h2
    cases h2
    exact nf
theorem back_else (n1 : ∀ p, W b ≠ .ow p) (n2 : ∀ φ, W b ≠ .st φ) : backW W Wz b = (match Wz b with | .sh => .sh | .lk => .lk | .st => .st IsStm | _ => .fo) := by
  unfold backW
  cases e : W b with
  | ow p => exact absurd e (n1 p)
  | st φ => exact absurd e (n2 φ)
  | _ => rfl
theorem back_ok (ok : OKW W H) (g : Z.Go (toC W) H Wz H') (okz : Z.OKW Wz H') : Go W H (backW W Wz) H' ∧ OKW (backW W Wz) H' ∧ Z.Mv Wz H' (toR (backW W Wz)) H' := by
  have cas : ∀ b, ((∃ p, W b = .ow p) ∨ ∃ φ, W b = .st φ ∧ φ ≠ IsStm) ∨ W b = .st IsStm ∨ ((∀ p, W b ≠ .ow p) ∧ ∀ φ, W b ≠ .st φ) := fun b => by
    cases e : W b with
    | ow p => exact .inl (.inl ⟨p, rfl⟩)
    | st φ =>
      by_cases h : φ = IsStm
      · exact .inr (.inl (by rw [h]))
      · exact .inl (.inr ⟨φ, rfl, h⟩)
    | _ => exact .inr (.inr ⟨fun p z => (nomatch z), fun φ z => (nomatch z)⟩)
  have owE : ∀ {b p}, W b = .ow p → backW W Wz b = .ow p := fun {b p} h => by unfold backW; rw [h]
  have stE : ∀ {b φ}, W b = .st φ → backW W Wz b = .st φ := fun {b φ} h => by unfold backW; rw [h]
  have own : ∀ {b p}, backW W Wz b = .ow p → W b = .ow p := fun {b p} h => by
    rcases cas b with (⟨q, e⟩ | ⟨φ, e, _⟩) | e | ⟨n1, n2⟩
    · rw [owE e] at h; cases h; exact e
    · rw [stE e] at h; cases h
    · rw [stE e] at h; cases h
    · rw [back_else n1 n2] at h
      cases e2 : Wz b <;> rw [e2] at h <;> cases h
  refine ⟨⟨fun b o h w => ?_, fun b φ h => stE h, fun b h => ?_⟩, ⟨fun b φ h => ?_, fun b h => ?_, fun b p od u w h => ?_, fun b h => ?_, fun b od u w h => ?_, fun b vs h => ?_⟩, ⟨fun b o h => ?_, fun b vs w h => ?_, fun b h => ?_⟩⟩
  · have wz : toC W b = .sh ∨ toC W b = .lk ∨ toC W b = .fo := by
      rcases w with w | w | w
      · exact .inl (toC_sh.mpr w)
      · exact .inr (.inl (toC_lk.mpr w))
      · exact .inr (.inr (toC_fo.mpr (.inl w)))
    obtain ⟨h1, w1⟩ := g.k b o h wz
    refine ⟨h1, ?_⟩
    rw [back_else (fun p e => by rcases w with w | w | w <;> (rw [w] at e; cases e)) (fun p e => by rcases w with w | w | w <;> (rw [w] at e; cases e)), w1]
    clear wz w1
    rcases w with w | w | w
    · rw [toC_sh.mpr w, w]
    · rw [toC_lk.mpr w, w]
    · rw [toC_fo.mpr (.inl w), w]
  · rcases cas b with (⟨q, e⟩ | ⟨φ, e, _⟩) | e | ⟨n1, n2⟩
    · rw [owE e] at h; cases h
    · rw [stE e] at h; cases h
    · rw [stE e] at h; cases h
    · rw [back_else n1 n2] at h
      cases e2 : Wz b with
      | lk => exact toC_lk.mp (g.l b e2)
      | _ => rw [e2] at h; cases h
  · rcases cas b with c | e | ⟨n1, n2⟩
    · obtain ⟨o, h0, h1, _, nf⟩ := back_keep ok g c
      rcases c with ⟨q, e⟩ | ⟨ψ, e, _⟩
      · rw [owE e] at h; cases h
      · rw [stE e] at h; cases h
        obtain ⟨o', h2, hp, _⟩ := ok.st b φ e
        rw [h0] at h2; cases h2
        exact ⟨o, h1, hp, nf⟩
    · rw [stE e] at h
      cases h
      obtain ⟨c, k, h1, hk⟩ := okz.st b (g.s b (toC_st.mpr e))
      exact ⟨_, h1, ⟨c, k, rfl, hk⟩, trivial⟩
    · rw [back_else n1 n2] at h
      cases e2 : Wz b with
      | st =>
        rw [e2] at h
        cases h
        obtain ⟨c, k, h1, hk⟩ := okz.st b e2
        exact ⟨_, h1, ⟨c, k, rfl, hk⟩, trivial⟩
      | _ => rw [e2] at h; cases h
  · rcases cas b with c | e | ⟨n1, n2⟩
    · obtain ⟨o, _, h1, _⟩ := back_keep ok g c
      exact ⟨o, h1⟩
    · obtain ⟨c, k, h1, _⟩ := okz.st b (g.s b (toC_st.mpr e))
      exact ⟨_, h1⟩
    · rw [back_else n1 n2] at h
      refine okz.al b fun e2 => h ?_
      rw [e2]
  · have e := own w
    obtain ⟨o, _, h1, _, nf⟩ := back_keep ok g (.inl ⟨p, e⟩)
    rw [h] at h1
    cases h1
    exact nf
  · rcases cas b with (⟨q, e⟩ | ⟨φ, e, _⟩) | e | ⟨n1, n2⟩
    · rw [owE e] at h; cases h
    · rw [stE e] at h; cases h
    · rw [stE e] at h; cases h
    · rw [back_else n1 n2] at h
      cases e2 : Wz b with
      | lk => exact okz.lk b e2
      | _ => rw [e2] at h; cases h
  · rcases cas b with (⟨q, e⟩ | ⟨φ, e, _⟩) | e | ⟨n1, n2⟩
    · rw [owE e] at w; cases w
    · rw [stE e] at w; cases w
    · rw [stE e] at w; cases w
    · rw [back_else n1 n2] at w
      cases e2 : Wz b with
      | fo => exact okz.fo b od u e2 h
      | ow => exact absurd h (okz.nf b od u e2)
      | _ => rw [e2] at w; cases w
  · have ws := okz.tp b vs h
    rcases cas b with c | e | ⟨n1, n2⟩
    · obtain ⟨_, _, _, w, _⟩ := back_keep ok g c
      rw [ws] at w; cases w
    · have := g.s b (toC_st.mpr e)
      rw [ws] at this; cases this
    · rw [back_else n1 n2, ws]
  · refine rdR.mpr ?_
    rcases cas b with c | e | ⟨n1, n2⟩
    · obtain ⟨o2, _, h1, w, nf⟩ := back_keep ok g c
      rcases h with ⟨w2, _⟩ | ⟨w2 | w2, od, h2⟩
      · rw [w] at w2; cases w2
      · rw [w] at w2; cases w2
      · rw [h1] at h2; cases h2; exact nf.elim
    · have := g.s b (toC_st.mpr e)
      rcases h with ⟨w2, _⟩ | ⟨w2 | w2, od, h2⟩ <;> (rw [this] at w2; cases w2)
    · have eb := back_else (Wz := Wz) n1 n2
      rcases h with ⟨w2, h2⟩ | ⟨w2 | w2, od, h2⟩
      · rw [w2] at eb; exact .inl ⟨eb, h2⟩
      · rw [w2] at eb; exact .inr ⟨.inl eb, od, h2⟩
      · rw [w2] at eb; exact .inr ⟨.inr eb, od, h2⟩
  · refine ⟨toR_sh.mpr ?_, h⟩
    rcases cas b with c | e | ⟨n1, n2⟩
    · obtain ⟨_, _, _, w2, _⟩ := back_keep ok g c
      rw [w] at w2; cases w2
    · have := g.s b (toC_st.mpr e)
      rw [w] at this; cases this
    · rw [back_else n1 n2, w]
  · refine toR_st.mpr ?_
    rcases cas b with c | e | ⟨n1, n2⟩
    · obtain ⟨_, _, _, w2, _⟩ := back_keep ok g c
      rw [h] at w2; cases w2
    · exact stE e
    · rw [back_else n1 n2, h]
end
/-- a promise without errors -/
theorem of_z {ρ : Type} {c : CT ρ} {cz : Z.CT ρ} {t : Ty ρ} (hr : c.r = .sh t) (st : Same t cz.tr) (hn : cz.n = true → c.n = true)
    (h : ∀ as P XP, c.ct as P XP → ∃ bs Pz, SlS as bs ∧ cz.ct bs Pz (fun _ => False) ∧ ∀ x, Pz x → ∀ os, P os x) {vs : List V} {H : Hp} {Q : VK} {E : XK} (s : spZ c vs H Q E) : Z.spZ cz vs H Q E := by
  obtain ⟨W, as, P, XP, ok, nl, ha, hc, q, _⟩ := s
  obtain ⟨bs, Pz, sl, hz, hp⟩ := h as P XP hc
  refine ⟨toC W, bs, Pz, fun _ => False, toC_ok ok, fun b => toC_ow, fun n b w => nl (hn n) b (toC_lk.mp w), (sl.args ha.1 ha.2).go toRC_mv, hz, fun v Wz H' x p g okz r => ?_, fun e d Wz H' z => z.elim⟩
  obtain ⟨g2, ok2, mv⟩ := back_ok ok g okz
  refine q v _ H' (as.map fun _ => .un) x (hp x p _) g2 ok2 ⟨by rw [List.length_map]; exact ha.1, fun k v s h1 h2 => ?_⟩ ?_
  · rw [List.getElem?_map] at h2
    obtain ⟨_, _, rfl⟩ := Option.map_eq_some_iff.mp h2
    trivial
  · rw [hr]
    exact (st _ _ _ _).mpr (cz.tr.go r mv)
theorem cal_z {ρ : Type} {P : Program} {w : World} {K : PySem.W.Frag} {mg : Str → Option Value} {base : Heap} {k : Nat} {f : Str} {c : CT ρ} {cz : Z.CT ρ} {t : Ty ρ} (C : C8.Cal P w K mg base k f (Z.spZ cz) []) (hr : c.r = .sh t) (st : Same t cz.tr) (hn : cz.n = true → c.n = true)
    (h : ∀ as P XP, c.ct as P XP → ∃ bs Pz, SlS as bs ∧ cz.ct bs Pz (fun _ => False) ∧ ∀ x, Pz x → ∀ os, P os x) : C8.Cal P w K mg base k f (spZ c) [] := by
  obtain ⟨f, fd, ps, ds, F, hm, kp, b, d⟩ := C.ex
  exact ⟨f, fd, ps, ds, F.imp fun vs H Q E s => of_z hr st hn h s, hm, kp, b, d⟩
theorem met_z {ρ : Type} {P : Program} {w : World} {K : PySem.W.Frag} {mg : Str → Option Value} {base : Heap} {k : Nat} {D : Addr} {f : Str} {c : CT ρ} {cz : Z.CT ρ} {t : Ty ρ} (C : C8.Met P w K mg base k D f (Z.spZ cz) []) (hr : c.r = .sh t) (st : Same t cz.tr) (hn : cz.n = true → c.n = true)
    (h : ∀ as P XP, c.ct as P XP → ∃ bs Pz, SlS as bs ∧ cz.ct bs Pz (fun _ => False) ∧ ∀ x, Pz x → ∀ os, P os x) : C8.Met P w K mg base k D f (spZ c) [] := by
  obtain ⟨f, fd, ps, ds, c1, c2, F, b, d⟩ := C.ex
  exact ⟨f, fd, ps, ds, c1, c2, F.imp fun vs H Q E s => of_z hr st hn h s, b, d⟩
end Y
end

section
set_option maxRecDepth 100000
set_option maxHeartbeats 4000000
/-! A thing of one's own whose shape is told by what it holds. -/
namespace Y
open PySem PySem.Spec PyProof.Rows L2
section
variable {β : Type}
def tBox (f : β → Ty Unit) : Ty β := ⟨fun W H v x => (f x).R W H v (), fun h m => (f _).go h m⟩
def oBox (f : β → OT Unit) : OT β := ⟨fun p W H v x => (f x).R p W H v (), tBox fun x => (f x).sv, fun h k m => (f _).mv h k m, fun h k m => (f _).fz h k m⟩
theorem fo_box {γ : Type} {K : PySem.W.Frag} {nm : Str} {f : β → Ty Unit} {u : Ty γ} {get : β → γ} (h : ∀ x, FldOf K nm (f x) u fun _ => get x) : FldOf K nm (tBox f) u get := fun W H v x r => h x W H v () r
end
/-- slots that say less -/
inductive SlsTo : List Sl → List Sl → Prop where
  | nil : SlsTo [] []
  | cons {s s' : Sl} {as bs : List Sl} : (∀ p W H v, s.at p W H v → s'.at p W H v) → SlsTo as bs → SlsTo (s :: as) (s' :: bs)
theorem SlsTo.refl : ∀ as, SlsTo as as
  | [] => .nil
  | _ :: l => .cons (fun _ _ _ _ h => h) (.refl l)
theorem SlsTo.at {as bs : List Sl} (h : SlsTo as bs) : as.length = bs.length ∧ ∀ (k : Nat) s', bs[k]? = some s' → ∃ s, as[k]? = some s ∧ ∀ p W H v, s.at p W H v → s'.at p W H v := by
  induction h with
  | nil => exact ⟨rfl, fun k s' h => by simp at h⟩
  | cons a _ ih =>
    refine ⟨by simp [ih.1], fun k s' h => ?_⟩
    cases k with
    | zero => cases h; exact ⟨_, rfl, a⟩
    | succ k => exact ih.2 k s' h
theorem SlsTo.ok {W : Wd} {H : Hp} {vs : List V} {as bs : List Sl} (h : SlsTo as bs) (o : SlsOk W H vs as) : SlsOk W H vs bs := by
  refine ⟨o.1.trans h.at.1, fun k v s h1 h2 => ?_⟩
  obtain ⟨s0, h3, g⟩ := h.at.2 k s h2
  exact g _ _ _ _ (o.2 k v s0 h1 h3)
section
variable {ρ : Type} {c c' : CT ρ}
/-- c' asks for c -/
def CtTo (c' c : CT ρ) : Prop := (c.n = true → c'.n = true) ∧ c'.r = c.r ∧ ∀ as P XP, c'.ct as P XP → ∃ as' P' XP', SlsTo as as' ∧ c.ct as' P' XP' ∧ (∀ os x, P' os x → ∃ os', SlsTo os os' ∧ P os' x) ∧ ∀ os e, XP' os e → ∃ os', SlsTo os os' ∧ XP os' e
theorem sp_to (t : CtTo c' c) {vs : List V} {H : Hp} {Q : VK} {E : XK} (h : spZ c' vs H Q E) : spZ c vs H Q E := by
  obtain ⟨W, as, P, XP, ok, nl, ha, hc, q, e⟩ := h
  obtain ⟨t1, t2, t3⟩ := t
  obtain ⟨as', P', XP', s, hc', p1, p2⟩ := t3 as P XP hc
  refine ⟨W, as', P', XP', ok, fun n => nl (t1 n), s.ok ha, hc', fun v W' H' os x p g ok' so r => ?_, fun er d W' H' os p g ok' so ea => ?_⟩
  · obtain ⟨os', s', p'⟩ := p1 os x p
    exact q v W' H' os' x p' g ok' (s'.ok so) (by rw [t2]; exact r)
  · obtain ⟨os', s', p'⟩ := p2 os er p
    exact e er d W' H' os' p' g ok' (s'.ok so) ea
variable {P : Program} {w : World} {K : PySem.W.Frag} {mg : Str → Option Value} {base : Heap} {k : Nat} {D : Addr} {f : Str}
theorem mak_to {dvs : List V} (C : C8.Mak P w K mg base k f D (spZ c) dvs) (t : CtTo c' c) : C8.Mak P w K mg base k f D (spZ c') dvs := by
  obtain ⟨f, fd, ps, ds, M, F, hm, b, d⟩ := C.ex
  exact ⟨f, fd, ps, ds, M, F.imp fun vs H Q E s => sp_to t s, hm, b, d⟩
end
end Y
end

section
set_option maxRecDepth 100000
set_option maxHeartbeats 4000000
/-! dict(zip(xs, ys)), its keys tuples; d.clear() of such a dict -/
namespace PySem
end PySem
namespace L2
open PySem PySem.Spec PyProof.Rows
/-- dict(zip(a, b)): the keys are a's items, tuples of ints and texts that differ -/
def tDictZip (K : PySem.W.Frag) (ta : TA) : TE := fun σ H Q => ta σ H fun vs H1 => ∃ (a b : Addr) (ks : List (Addr × List Key)) (ys : List V), vs = [.ref a, .ref b] ∧ SqL K H1 a (ks.map fun e => V.ref e.1) ∧ SqL K H1 b ys ∧
  (∀ e ∈ ks, H1 e.1 = some (.tup (e.2.map kV))) ∧ ys.length = ks.length ∧ (ks.map (·.2)).Nodup ∧ ∀ p, H1 p = none → Q (.ref p) (upd H1 p (.dT ((ks.map (·.2)).zip ys)))
section
variable {X : Cx} {e e2 : Expr} {ta : TA} {pd pos pz posz : Pos}
end
/-! ### d.clear(), of a dict whose keys are tuples -/
def rTClear : V → List V → Hp → VK → Prop := fun x vs H Q => ∃ (a : Addr) (kvs : List (List Key × V)), x = .ref a ∧ vs = [] ∧ H a = some (.dT kvs) ∧ Q .non (upd H a (.dT []))
section
variable {X : Cx} {o : Expr} {to : TE} {apos cpos : Pos}
end
end L2
end

section
set_option maxRecDepth 100000
set_option maxHeartbeats 4000000
/-! dicts whose keys are pairs of texts; isinstance(x, dict), isinstance of ints -/
namespace Y
open PySem PySem.Spec PyProof.Rows L2
abbrev kP (p : Str × Str) : List Key := [Sum.inr p.1, Sum.inr p.2]
def tDP {α : Type} (t : Ty α) : Ty (List ((Str × Str) × α)) := ⟨fun W H v kvs => ∃ a ws, v = .ref a ∧ RdW W H a (.dT ws) ∧ Paired (fun (p : List Key × V) (q : (Str × Str) × α) => p.1 = kP q.1 ∧ t.R W H p.2 q.2) ws kvs, by
  rintro W W' H H' v xs ⟨a, vs, e, h, p⟩ m
  exact ⟨a, vs, e, m.rd _ _ h, L2.Paired.mapP p fun u x r => ⟨r.1, t.go r.2 m⟩⟩⟩
def oDP {α : Type} (t : Ty α) : OT (List ((Str × Str) × α)) where
  R p W H v xs := ∃ a ws, v = .ref a ∧ W a = .ow p ∧ H a = some (.dT ws) ∧ Paired (fun (p : List Key × V) (q : (Str × Str) × α) => p.1 = kP q.1 ∧ t.R W H p.2 q.2) ws xs
  sv := tDP t
  mv := by
    rintro p p' W W' H H' v xs ⟨a, vs, e, w, h, r⟩ k m
    obtain ⟨w1, h1⟩ := k a _ [] (by rw [List.append_nil]; exact w) h
    exact ⟨a, vs, e, by rw [List.append_nil] at w1; exact w1, h1, L2.Paired.mapP r fun u x r => ⟨r.1, t.go r.2 m⟩⟩
  fz := by
    rintro p W W' H H' v xs ⟨a, vs, e, w, h, r⟩ k m
    obtain ⟨w1, h1⟩ := k a _ [] (by rw [List.append_nil]; exact w) h
    exact ⟨a, vs, e, .inl ⟨w1, h1⟩, L2.Paired.mapP r fun u x r => ⟨r.1, t.go r.2 m⟩⟩
section
variable {α ρ : Type} {K : PySem.W.Frag} {X : Xw} {k : Bool} {G : Ct} {t : Ty α}
abbrev tPr (K : PySem.W.Frag) : Ty (Str × Str) := tT2 K tStr tStr
theorem pr_at {W : Wd} {H : Hp} {v : V} {x : Str × Str} (ok : OKW W H) (h : (tPr K).R W H v x) : ∃ a, v = .ref a ∧ H a = some (.tup ((kP x).map kV)) := by
  obtain ⟨a, p, q, rfl, sq, rfl, rfl⟩ := h
  exact ⟨a, rfl, sq.at ok⟩
/-- isinstance(x, T) -/
theorem ev_isi {T : String} {b : Bool} {te : TE} {A : String} {P : Ct → Bool → Prop} (ty : ∀ W H v x, OKW W H → (G.n = true → ∀ b, W b ≠ .lk) → t.R W H v x → TyX K H v (.type A)) (kb : kitB A T = some b) (h : Ev X k te G t fun G1 _ => G1.n = G.n ∧ P G1 b) :
    Ev X k (tCB (rIsi K) (tCons te (tCons (tC (.ty T)) tNil))) G tBl P := fun W H σ Q hs ex q =>
  h W H σ _ hs ex fun v W1 H1 G1 x ⟨hn, p⟩ m r => ⟨v, .ty T, .type A, .type T, b, rfl, .ty T, ty W1 H1 v x m.hs.ok (fun e => m.hs.nl (hn.trans e)) r, kit_ty kb, q _ W1 H1 G1 b p m rfl⟩
end
section
variable {α ρ : Type} {F : Fx ρ} {G : Ct} {N B C : Ct → Prop} {t : Ty α} {K : PySem.W.Frag}
end
end Y
end

section
set_option maxRecDepth 100000
set_option maxHeartbeats 4000000
namespace KK
open PySem PySem.Spec PyProof.Rows L2
/-! ### webs, told to the Y layer -/
section
variable {P : Program} {w : World} {K : PySem.W.Frag} {mg : Str → Option Value} {base : Heap} {C : Addr}
abbrev ctPlacesZ (K : PySem.W.Frag) (C : Addr) : Z.CT (List Str) := ⟨true, Z.tLs K Z.tStr, fun as P _ => ∃ z, as = [.sh (tWeb K C) z] ∧ P z.ms⟩
abbrev ctTiesZ (K : PySem.W.Frag) (C : Addr) : Z.CT (List (Str × Str)) := ⟨true, Z.tLs K (Z.tT2 K Z.tStr Z.tStr), fun as P _ => ∃ z, as = [.sh (tWeb K C) z] ∧ P z.us⟩
abbrev ctPriceZ (K : PySem.W.Frag) (C : Addr) : Z.CT Int := ⟨true, Z.tInt, fun as P _ => ∃ z x, as = [.sh (tWeb K C) z, .sh Z.tStr x] ∧ x ∈ z.ms ∧ P (prF z.ms z.qs x)⟩
theorem paired_str {W : Z.Wd} {H : Hp} : ∀ ms : List Str, Paired (Z.tStr.R W H) (ms.map V.str) ms
  | [] => .nil
  | _ :: l => .cons rfl (paired_str l)
theorem z_places (c : C8.Met P w K mg base 1 C "places" (spPlaces C) []) : C8.Met P w K mg base 1 C "places" (Z.spZ (ctPlacesZ K C)) [] := by
  refine met_of c ?_
  rintro vs H Q E ⟨W, as, P, XP, ok, _, nl, ha, ⟨z, rfl, hp⟩, q, _⟩
  cases ha with
  | cons r1 ha =>
    cases ha
    obtain ⟨wf, o, dx, dp, tl, xs, rfl, wa⟩ := web_at ok (nl rfl) r1
    exact ⟨o, dx, dp, tl, xs, _, _, _, rfl, wa, wf.p.pl, fun p hn => q _ W _ _ hp (same_go (Same.new hn)) (same_ok ok (Same.new hn)) ⟨p, _, rfl, ⟨ok.fresh hn, upd_same⟩, paired_str _⟩⟩
theorem z_ties (c : C8.Met P w K mg base 1 C "ties" (spTies C) []) : C8.Met P w K mg base 1 C "ties" (Z.spZ (ctTiesZ K C)) [] := by
  refine met_of c ?_
  rintro vs H Q E ⟨W, as, P, XP, ok, _, nl, ha, ⟨z, rfl, hp⟩, q, _⟩
  cases ha with
  | cons r1 ha =>
    cases ha
    obtain ⟨wf, o, dx, dp, tl, xs, rfl, wa⟩ := web_at ok (nl rfl) r1
    have pr := pair_of_ties (K := K) ok wa.ti
    exact ⟨o, dx, dp, tl, xs, _, _, _, rfl, wa, fun p hn => q _ W _ _ hp (same_go (Same.new hn)) (same_ok ok (Same.new hn)) ⟨p, _, rfl, ⟨ok.fresh hn, upd_same⟩, L2.Paired.mapP pr fun u x r => Z.Ty.go _ r (same_go (Same.new hn)).mv⟩⟩
theorem z_price (c : C8.Met P w K mg base 3 C "price" (spPrice C) []) : C8.Met P w K mg base 3 C "price" (Z.spZ (ctPriceZ K C)) [] := by
  refine met_of c ?_
  rintro vs H Q E ⟨W, as, P, XP, ok, _, nl, ha, ⟨z, x, rfl, hx, hp⟩, q, _⟩
  cases ha with
  | cons r1 ha => cases ha with
    | cons r2 ha =>
      cases ha
      cases r2
      obtain ⟨wf, o, dx, dp, tl, xs, rfl, wa⟩ := web_at ok (nl rfl) r1
      obtain ⟨i, hi⟩ := List.getElem?_of_mem hx
      obtain ⟨r, h1, h2⟩ := prK_some wf.p.no.nd wf.p.pl hi
      have e : prF z.ms z.qs x = r := by unfold prF; rw [h2]
      rw [e] at hp
      exact ⟨o, dx, dp, tl, xs, _, _, _, x, r, rfl, wa, h2, q _ W _ _ hp .refl ok rfl⟩
open Y
abbrev yWeb (K : PySem.W.Frag) (C : Addr) : Y.Ty WebZ := Lift (tWeb K C)
abbrev yParts (K : PySem.W.Frag) : Y.Ty (List Str × List (Str × Str) × List (Str × Int)) := tL3 K (tTu K tStr) (tLs K (tT2 K tStr tStr)) (tDk kS tInt)
abbrev ctPlaces (K : PySem.W.Frag) (C : Addr) : Y.CT (List Str) := ⟨true, .sh (tLs K tStr), fun as P _ => ∃ z, as = [.sh (yWeb K C) z] ∧ ∀ os, P os z.ms⟩
abbrev ctTies (K : PySem.W.Frag) (C : Addr) : Y.CT (List (Str × Str)) := ⟨true, .sh (tLs K (tT2 K tStr tStr)), fun as P _ => ∃ z, as = [.sh (yWeb K C) z] ∧ ∀ os, P os z.us⟩
abbrev ctPrc (K : PySem.W.Frag) (C : Addr) : Y.CT Int := ⟨true, .sh tInt, fun as P _ => ∃ z x, as = [.sh (yWeb K C) z, .sh tStr x] ∧ x ∈ z.ms ∧ ∀ os, P os (prF z.ms z.qs x)⟩
theorem y_places (c : C8.Met P w K mg base 1 C "places" (spPlaces C) []) : C8.Met P w K mg base 1 C "places" (Y.spZ (ctPlaces K C)) [] :=
  met_z (z_places c) rfl (same_ls same_str) (fun _ => rfl) fun as P XP ⟨z, e, hp⟩ => ⟨_, fun r => r = z.ms, by rw [e]; exact .cons same_lift .nil, ⟨z, rfl, rfl⟩, fun x e os => by rw [e]; exact hp os⟩
theorem y_ties (c : C8.Met P w K mg base 1 C "ties" (spTies C) []) : C8.Met P w K mg base 1 C "ties" (Y.spZ (ctTies K C)) [] :=
  met_z (z_ties c) rfl (same_ls (same_t2 same_str same_str)) (fun _ => rfl) fun as P XP ⟨z, e, hp⟩ => ⟨_, fun r => r = z.us, by rw [e]; exact .cons same_lift .nil, ⟨z, rfl, rfl⟩, fun x e os => by rw [e]; exact hp os⟩
theorem y_price (c : C8.Met P w K mg base 3 C "price" (spPrice C) []) : C8.Met P w K mg base 3 C "price" (Y.spZ (ctPrc K C)) [] :=
  met_z (z_price c) rfl same_int (fun _ => rfl) fun as P XP ⟨z, x, e, hx, hp⟩ => ⟨_, fun r => r = prF z.ms z.qs x, by rw [e]; exact .cons same_lift (.cons same_str .nil), ⟨z, x, rfl, hx, rfl⟩, fun x e os => by rw [e]; exact hp os⟩
/-! ### draws -/
abbrev yDraw : Y.CT Int := ⟨false, .sh tInt, fun as P _ => ∃ n, as = [.sh tStm (), .sh tInt n] ∧ (0 < n ∧ n < 2 ^ 200) ∧ ∀ r, (0 ≤ r ∧ r < n) → ∀ os, P os r⟩
abbrev yStream (K : PySem.W.Frag) : Y.CT Unit := ⟨false, .sh tStm, fun as P _ => ∃ xs j, as = [.sh (tScr K) xs, .sh tInt j] ∧ (xs.length ≤ 1000 ∧ 0 ≤ j ∧ j ≤ 100) ∧ ∀ os, P os ()⟩
abbrev yName (K : PySem.W.Frag) : Y.CT Str := ⟨false, .sh tStr, fun as P _ => ∃ ys, as = [.sh tStm (), .sh (tLs K tStr) ys] ∧ ys.length ≤ 60 ∧ ∀ x, (NameOk x ∧ x ∉ ys) → ∀ os, P os x⟩
abbrev yAmount : Y.CT Int := ⟨false, .sh tInt, fun as P _ => ∃ n, as = [.sh tStm (), .sh tInt n] ∧ ∀ r, (1 ≤ r ∧ r ≤ 10 ^ 30) → ∀ os, P os r⟩
abbrev yWebL (K : PySem.W.Frag) (C : Addr) : Y.CT WebZ := ⟨true, .sh (yWeb K C), fun as P _ => ∃ p, as = [.sh (yParts K) p] ∧ PtsZ p ∧ ∀ r, (WfZ r ∧ WebOk p.1 (prP p) p.2.1 r.ms r.qs r.us) → ∀ os, P os r⟩
abbrev yCopy : Y.CT (List (Str × Int)) := ⟨true, .sh (tDk kS tInt), fun as P _ => ∃ d, as = [.sh (tDk kS tInt) d] ∧ ((d.map (·.1)).Nodup ∧ d.length ≤ 40) ∧ ∀ os, P os d⟩
abbrev yWithPrice (K : PySem.W.Frag) (C : Addr) : Y.CT WebZ := ⟨true, .sh (yWeb K C), fun as P _ => ∃ z x p, as = [.sh (yWeb K C) z, .sh tStr x, .sh tInt p] ∧ (x ∈ z.ms ∧ 1 ≤ p ∧ p ≤ 10 ^ 30) ∧ ∀ r, (WfZ z ∧ ∃ i, z.ms[i]? = some x ∧ WebOk z.ms (z.qs.set i p) z.us r.ms r.qs r.us) → ∀ os, P os r⟩
theorem y_draw (c : C8.Cal P w K mg base 1 "_law_draw" (Z.spZ ctDraw) []) : C8.Cal P w K mg base 1 "_law_draw" (Y.spZ yDraw) [] :=
  cal_z c rfl same_int (fun h => h) fun as P XP ⟨n, e, h, hp⟩ => ⟨_, fun r => 0 ≤ r ∧ r < n, by rw [e]; exact .cons same_stm (.cons same_int .nil), ⟨n, rfl, h, fun r hr => hr⟩, fun x hx os => hp x hx os⟩
theorem y_stream (c : C8.Cal P w K mg base 1 "_law_stream" (Z.spZ (ctStream K)) []) : C8.Cal P w K mg base 1 "_law_stream" (Y.spZ (yStream K)) [] :=
  cal_z c rfl same_stm (fun h => h) fun as P XP ⟨xs, j, e, h, hp⟩ => ⟨_, fun r => True, by rw [e]; exact .cons same_scr (.cons same_int .nil), ⟨xs, j, rfl, h, trivial⟩, fun x hx os => hp os⟩
theorem y_name (c : C8.Cal P w K mg base 2 "_law_name" (Z.spZ (ctName (Z.tLs K Z.tStr))) []) : C8.Cal P w K mg base 2 "_law_name" (Y.spZ (yName K)) [] :=
  cal_z c rfl same_str (fun h => h) fun as P XP ⟨ys, e, h, hp⟩ => ⟨_, fun r => NameOk r ∧ r ∉ ys, by rw [e]; exact .cons same_stm (.cons (same_ls same_str) .nil), ⟨ys, rfl, h, fun r hr => hr⟩, fun x hx os => hp x hx os⟩
theorem y_amount (c : C8.Cal P w K mg base 2 "_law_amount" (Z.spZ ctAmount) []) : C8.Cal P w K mg base 2 "_law_amount" (Y.spZ yAmount) [] :=
  cal_z c rfl same_int (fun h => h) fun as P XP ⟨n, e, hp⟩ => ⟨_, fun r => 1 ≤ r ∧ r ≤ 10 ^ 30, by rw [e]; exact .cons same_stm (.cons same_int .nil), ⟨n, rfl, fun r hr => hr⟩, fun x hx os => hp x hx os⟩
theorem instYW {m : Str} (h : m ≠ "_prices" ∧ m ≠ "_ties") : Y.Inst C m (yWeb K C) := fun W H v x ok r => by
  obtain ⟨_, o, dx, dp, tl, xs, rfl, h1, _⟩ := r
  have h1 := rdR.mp h1
  refine ⟨o, dx, _, rfl, ok.exact h1 (fun _ e => by cases e) (fun _ e => by cases e) (fun _ e => by cases e), ?_⟩
  have e1 : (m == ("_prices" : Str)) = false := beq_eq_false_iff_ne.mpr h.1
  have e2 : (m == ("_ties" : Str)) = false := beq_eq_false_iff_ne.mpr h.2
  rw [List.lookup_cons, e1, List.lookup_cons, e2]
  rfl
end
end KK
end

section
set_option maxRecDepth 100000
set_option maxHeartbeats 4000000
namespace KK
open PySem PySem.Spec PyProof.Rows L2 Y
/-! ### sides as one thing -/
structure SD where
  ns : List Str
  hs : List Int
  rs : List Int
  ls : List (List Int)
  arcs : List (Int × Int)
  tot : Int
abbrev fSd (K : PySem.W.Frag) (CS C : Addr) (d : SD) : OT Unit := oIns CS (fl6 K C d.ns d.hs d.rs d.ls d.arcs d.tot)
abbrev oSd (K : PySem.W.Frag) (CS C : Addr) : OT SD := oBox (fSd K CS C)
abbrev tSd (K : PySem.W.Frag) (CS C : Addr) : Y.Ty SD := tBox fun d => (fSd K CS C d).sv
abbrev ctSidesB (K : PySem.W.Frag) (CS C : Addr) : Y.CT Unit := ⟨true, .sh tNon, fun as P _ => ∃ (rows : List Row) (left right : List (Str × Int)), as = [.ow (oIns CS []) (), .sh (tLs K (tRow K)) rows, .sh (tDk kS tInt) left, .sh (tDk kS tInt) right] ∧
  ((left.map (·.1)).Nodup ∧ left.length ≤ 40 ∧ rows.length ≤ 400 ∧ (∀ p ∈ rows, p.1.1 ∈ left.map (·.1) ∧ p.2.1 ∈ left.map (·.1)) ∧ (∀ x ∈ left.map (·.1), ∃ v, lookK right x = some v ∧ 0 ≤ v) ∧ (∀ x ∈ left.map (·.1), 0 ≤ gD left x)) ∧
  ∀ hs rs0 rs ls tot lv, SidesR (left.map (·.1)) left right rows hs rs0 rs ls tot lv → ∀ r, P (.ow (oSd K CS C) ⟨left.map (·.1), hs, rs, ls, arcL left.length rows.length, tot⟩ :: r) ()⟩
theorem to_sides {K : PySem.W.Frag} {CS C : Addr} : CtTo (ctSidesB K CS C) (ctSides K CS C) := by
  refine ⟨fun h => h, rfl, ?_⟩
  rintro as P XP ⟨rows, left, right, e, h, hp⟩
  refine ⟨as, fun os x => ∃ hs rs ls tot r, os = .ow (oIns CS (fl6 K C (left.map (·.1)) hs rs ls (arcL left.length rows.length) tot)) () :: r ∧ P (.ow (oSd K CS C) ⟨left.map (·.1), hs, rs, ls, arcL left.length rows.length, tot⟩ :: r) (), XP, .refl _, ⟨rows, left, right, e, h, fun hs rs0 rs ls tot lv R o1 o2 o3 => ⟨hs, rs, ls, tot, [o1, o2, o3], rfl, hp _ _ _ _ _ _ R _⟩⟩, ?_, fun os e h => ⟨os, .refl _, h⟩⟩
  rintro os ⟨⟩ ⟨hs, rs, ls, tot, r, rfl, q⟩
  obtain ⟨d, ed⟩ : ∃ d : SD, d = ⟨left.map (·.1), hs, rs, ls, arcL left.length rows.length, tot⟩ := ⟨_, rfl⟩
  rw [← ed] at q
  have e : oIns CS (fl6 K C (left.map (·.1)) hs rs ls (arcL left.length rows.length) tot) = fSd K CS C d := by rw [ed]
  rw [e]
  exact ⟨_, SlsTo.cons (s' := .ow (oSd K CS C) d) (fun p W H v h => h) (.refl r), q⟩
abbrev yAnsB (K : PySem.W.Frag) (CS C : Addr) : Y.CT (List (Str × Int)) := ⟨false, .ow (oD kS tInt), fun as P _ => ∃ d, as = [.sh (tSd K CS C) d] ∧
  (d.ns.Nodup ∧ d.ns.length ≤ 40 ∧ Net (2 * d.ns.length + 2) d.hs d.rs d.ls) ∧ ∀ lv, Lev (2 * d.ns.length + 2) d.hs d.rs d.ls [2 * (d.ns.length : Int)] lv → ∀ os, P os (readOf d.ns (lv.map fun x => decide (0 ≤ x)))⟩
abbrev yRowB (K : PySem.W.Frag) (CS C : Addr) : Y.CT (List Int) := ⟨false, .ow (oL K tInt), fun as P _ => ∃ d, as = [.sh (tSd K CS C) d] ∧
  (d.arcs.length ≤ 1000 ∧ ∀ p ∈ d.arcs, (0 ≤ p.1 ∧ p.1 + 1 < d.rs.length) ∧ (0 ≤ p.2 ∧ p.2 + 1 < d.rs.length)) ∧ ∀ os, P os (d.arcs.map fun p => g0 d.rs (p.1 + 1) + g0 d.rs (p.2 + 1))⟩
/-! ### what a web's sides are -/
def prW (z : WebZ) (x : Str) : Int := prF z.ms z.qs x
def prD (z : WebZ) : List (Str × Int) := z.ms.map fun x => (x, prW z x)
theorem prD_keys (z : WebZ) : (prD z).map (·.1) = z.ms := by
  unfold prD
  rw [List.map_map]
  exact List.map_id _
theorem look_fun {f : Str → Int} {x : Str} : ∀ {l : List Str}, x ∈ l → lookK (l.map fun x => (x, f x)) x = some (f x)
  | [], h => by simp at h
  | a :: l, h => by
    rw [List.map_cons, look_cons]
    by_cases e : a = x
    · rw [if_pos e, e]
    · rw [if_neg e]
      exact look_fun ((List.mem_cons.mp h).resolve_left fun z => e z.symm)
theorem look_prD {z : WebZ} {x : Str} (h : x ∈ z.ms) : lookK (prD z) x = some (prW z x) := look_fun h
theorem gD_prD {z : WebZ} {x : Str} (h : x ∈ z.ms) : gD (prD z) x = prW z x := by
  unfold gD
  rw [look_prD h]
  rfl
theorem prW_pos {z : WebZ} (wf : WfZ z) {x : Str} (h : x ∈ z.ms) : 1 ≤ prW z x := (prF_at wf.p.po wf.p.no.nd wf.p.pl h).1
def Opt (z : WebZ) (v : Int) : Prop := (∃ xv, AnsR z.ms (prW z) z.us v xv) ∧ ∃ ys, TieFl z.ms (prW z) z.us v ys
structure SofR (z : WebZ) (d : SD) : Prop where
  ns : d.ns = z.ms
  ar : d.arcs = arcL z.ms.length z.us.length
  sd : ∃ rs0 lv, SidesR z.ms (prD z) (prD z) (z.us.map tieRow) d.hs rs0 d.rs d.ls d.tot lv
theorem AnsR.to {ns : List Str} {f g : Str → Int} {us : List (Str × Str)} {v : Int} {xv : Str → Int} (h : AnsR ns f us v xv) (e : ∀ x ∈ ns, f x = g x) : AnsR ns g us v xv := ⟨h.r, h.t, by
  rw [← h.c]
  exact sum_congr fun x hx => by rw [e x hx]⟩
theorem TieFl.to {ns : List Str} {f g : Str → Int} {us : List (Str × Str)} {v : Int} {ys : List Int} (h : TieFl ns f us v ys) (e : ∀ x ∈ ns, f x = g x) : TieFl ns g us v ys := ⟨h.ln, h.nn, h.tt, fun x hx => by rw [← e x hx]; exact h.lo x hx⟩
theorem sidesP {z : WebZ} (wf : WfZ z) : SidesP z.ms (prD z) (prD z) (z.us.map tieRow) := by
  refine ⟨wf.p.no.nd, fun x hx => ?_, fun x hx => ?_, fun p hp => ?_⟩
  · rw [gD_prD hx]; have := prW_pos wf hx; omega
  · rw [gD_prD hx]; have := prW_pos wf hx; omega
  · obtain ⟨e, he, rfl⟩ := List.mem_map.mp hp
    exact ⟨(wf.p.to.ok e he).a, (wf.p.to.ok e he).b⟩
theorem Lev.sub {n : Nat} {hs rs ss lv lv' : List Int} {ls : List (List Int)} (a : Lev n hs rs ls ss lv) (b : Lev n hs rs ls ss lv') (N : Net n hs rs ls) : ∀ (k : Nat) (u : Int), 0 ≤ u → u < n → g0 lv u = k → 0 ≤ g0 lv' u := by
  intro k
  induction k with
  | zero =>
    intro u u0 u1 h
    rw [b.st u (a.z u u0 u1 h)]
    exact Int.le_refl _
  | succ k ih =>
    intro u u0 u1 h
    obtain ⟨v, v0, v1, c, hc, hr, e1, e2⟩ := a.pr u u0 u1 (by omega)
    have := b.cl v v0 v1 (ih v v0 v1 (by omega)) c hc hr
    rwa [e1] at this
theorem SofR.opt {z : WebZ} {d : SD} (wf : WfZ z) (h : SofR z d) : TieFl z.ms (prW z) z.us d.tot (d.arcs.map fun p => g0 d.rs (p.1 + 1) + g0 d.rs (p.2 + 1)) ∧
    ∀ lv, Lev (2 * d.ns.length + 2) d.hs d.rs d.ls [2 * (d.ns.length : Int)] lv → AnsR z.ms (prW z) z.us d.tot (valOf z.ms (lv.map fun x => decide (0 ≤ x))) := by
  obtain ⟨rs0, lv0, R⟩ := h.sd
  have A := sidesP wf
  refine ⟨?_, fun lv L => ?_⟩
  · rw [h.ar, flows_arcs]
    exact (R.ties A).to fun x hx => gD_prD hx
  · rw [h.ns] at L
    have ll : (links z.ms (prD z) (prD z) (z.us.map tieRow)).length = 2 * z.ms.length + 2 * z.us.length := by
      unfold links
      rw [List.length_append, nameLks_len, rowLks_len, List.length_map]
    have h40 := wf.p.no.hi
    have h400 := wf.p.to.hi
    have N : Net (2 * z.ms.length + 2) d.hs d.rs d.ls := (R.bt.net (by omega) (by omega)).mvr R.ag.ln
    have no : g0 lv (2 * (z.ms.length : Int) + 1) < 0 := by
      have h1 := R.no
      apply Classical.byContradiction
      intro h2
      have := L.sub R.lev N (g0 lv (2 * (z.ms.length : Int) + 1)).toNat (2 * (z.ms.length : Int) + 1) (by omega) (by omega) (by omega)
      omega
    have R2 : SidesR z.ms (prD z) (prD z) (z.us.map tieRow) d.hs rs0 d.rs d.ls d.tot lv := ⟨R.bt, R.ag, L, no⟩
    exact (R2.ans A).to fun x hx => gD_prD hx
theorem SofR.net {z : WebZ} {d : SD} (wf : WfZ z) (h : SofR z d) : (d.ns.Nodup ∧ d.ns.length ≤ 40 ∧ Net (2 * d.ns.length + 2) d.hs d.rs d.ls) ∧ (∃ lv, Lev (2 * d.ns.length + 2) d.hs d.rs d.ls [2 * (d.ns.length : Int)] lv) ∧
    (d.arcs.length ≤ 1000 ∧ ∀ p ∈ d.arcs, (0 ≤ p.1 ∧ p.1 + 1 < d.rs.length) ∧ (0 ≤ p.2 ∧ p.2 + 1 < d.rs.length)) := by
  obtain ⟨rs0, lv0, R⟩ := h.sd
  have ll : (links z.ms (prD z) (prD z) (z.us.map tieRow)).length = 2 * z.ms.length + 2 * z.us.length := by
    unfold links
    rw [List.length_append, nameLks_len, rowLks_len, List.length_map]
  have h40 := wf.p.no.hi
  have h400 := wf.p.to.hi
  have N : Net (2 * z.ms.length + 2) d.hs d.rs d.ls := (R.bt.net (by omega) (by omega)).mvr R.ag.ln
  rw [h.ns, h.ar]
  refine ⟨⟨wf.p.no.nd, h40, N⟩, ⟨lv0, R.lev⟩, ?_, fun p hp => ?_⟩
  · unfold arcL
    rw [List.length_map, List.length_range]
    omega
  · obtain ⟨j, hj, rfl⟩ := List.mem_map.mp hp
    have := List.mem_range.mp hj
    have := N.lr
    have := R.bt.hl
    show (0 ≤ 4 * (z.ms.length : Int) + 4 * (j : Int) ∧ 4 * (z.ms.length : Int) + 4 * (j : Int) + 1 < d.rs.length) ∧ (0 ≤ 4 * (z.ms.length : Int) + 4 * (j : Int) + 2 ∧ 4 * (z.ms.length : Int) + 4 * (j : Int) + 2 + 1 < d.rs.length)
    omega
/-! ### weak duality -/
theorem sum_mul {α : Type} (c : Int) (f : α → Int) : ∀ l : List α, (l.map fun x => c * f x).sum = c * (l.map f).sum
  | [] => by simp
  | a :: l => by simp only [List.map_cons, List.sum_cons, sum_mul c f l, Int.mul_add]
theorem dual {ns : List Str} {pr : Str → Int} {us : List (Str × Str)} {t1 t2 : Int} {xv : Str → Int} {ys : List Int} (a : AnsR ns pr us t1 xv) (b : TieFl ns pr us t2 ys) (nd : ns.Nodup) (hu : ∀ e ∈ us, e.1 ∈ ns ∧ e.2 ∈ ns) : t2 ≤ t1 := by
  have one : ∀ {x : Str} (f : Str → Int), x ∈ ns → (ns.map fun y => if x = y then f y else 0).sum = f x := fun {x} f hx => by
    obtain ⟨i, hi⟩ := List.getElem?_of_mem hx
    have := sum_hit (f := fun _ => f x) 0 nd hi
    refine Eq.trans ?_ this
    rw [← sum_zip (fun y => if x = y then f y else 0) ns 0]
    refine sum_congr fun p _ => ?_
    by_cases e : x = p.1
    · rw [if_pos e, if_pos e.symm, e]
    · rw [if_neg e, if_neg fun z => e z.symm]
  have e1 : ((us.zip ys).map fun p => p.2).sum = t2 := by
    rw [List.map_snd_zip (by rw [b.ln]; exact Nat.le_refl _)]
    exact b.tt
  have h1 : ((us.zip ys).map fun p => 2 * p.2).sum ≤ ((us.zip ys).map fun p => p.2 * xv p.1.1 + p.2 * xv p.1.2).sum := sum_le' fun p hp => by
    have m := List.of_mem_zip hp
    have h := a.t _ m.1
    have h0 := b.nn _ m.2
    have := Int.mul_le_mul_of_nonneg_left h h0
    rw [Int.mul_add] at this
    omega
  have h2 : ((us.zip ys).map fun p => p.2 * xv p.1.1 + p.2 * xv p.1.2).sum = (ns.map fun x => xv x * ((us.zip ys).map fun p => (if p.1.1 = x then p.2 else 0) + (if p.1.2 = x then p.2 else 0)).sum).sum := by
    have s : (ns.map fun x => xv x * ((us.zip ys).map fun p => (if p.1.1 = x then p.2 else 0) + (if p.1.2 = x then p.2 else 0)).sum).sum = (ns.map fun x => ((us.zip ys).map fun p => (if p.1.1 = x then p.2 * xv x else 0) + (if p.1.2 = x then p.2 * xv x else 0)).sum).sum := sum_congr fun x _ => by
      rw [← sum_mul]
      refine sum_congr fun p _ => ?_
      rw [Int.mul_comm]
      by_cases e1 : p.1.1 = x <;> by_cases e2 : p.1.2 = x <;> simp [e1, e2, Int.add_mul]
    rw [s, sum_swap]
    refine sum_congr fun p hp => ?_
    obtain ⟨m1, m2⟩ := hu _ (List.of_mem_zip hp).1
    rw [sum_add, one (fun x => p.2 * xv x) m1, one (fun x => p.2 * xv x) m2]
  have h3 : (ns.map fun x => xv x * ((us.zip ys).map fun p => (if p.1.1 = x then p.2 else 0) + (if p.1.2 = x then p.2 else 0)).sum).sum ≤ (ns.map fun x => 2 * (pr x * xv x)).sum := sum_le' fun x hx => by
    have h := b.lo x hx
    have := Int.mul_le_mul_of_nonneg_left h (a.r x hx).1
    rw [show 2 * (pr x * xv x) = xv x * (2 * pr x) from by rw [← Int.mul_assoc, Int.mul_comm]]
    exact this
  rw [sum_mul, a.c] at h3
  rw [sum_mul, e1] at h1
  omega
end KK
end

section
set_option maxRecDepth 100000
set_option maxHeartbeats 4000000
/-! name = {..: .. for ..} on one line -/
namespace L2
open PySem PySem.Spec PyProof.Rows
section
variable {X : Cx}
theorem ps_setDc {i : Nat} {y : Str} {py : Pos} {kx vx tg iter : Expr} {ifs : List Expr} {scope : Scope} {own : List (Str × Nat)} {pos spos : Pos} {wi : TI} {g : TG} {tt : TT} {tk tv : TE} (hc : X.calm = true) (hN : X.N.Nodup) (hy : X.N[i]? = some y) (hyl : X.env.scope.names.lookup y = some .local)
    (hsw : swapsWith (.DictComp kx vx [⟨tg, iter, ifs, 0⟩] scope pos) (some (.Name y py)) spos.line X.env = pure true) (hi : PI X tg iter wi) (ok : BlkOk X.N X.env.scope scope own)
    (hg : ∀ (s : Shared) (H : Hp) (C : Addr) (cl : List (Str × Addr)) (fp : List Addr), PG (X.blk s H scope (compEnvC scope cl C X.env) fp) tg g) (ht : ∀ (s : Shared) (H : Hp) (C : Addr) (cl : List (Str × Addr)) (fp : List Addr), PTs (X.blk s H scope (compEnvC scope cl C X.env) fp) ifs tt)
    (hk : ∀ (s : Shared) (H : Hp) (C : Addr) (cl : List (Str × Addr)) (fp : List Addr), PE (X.blk s H scope (compEnvC scope cl C X.env) fp) kx tk)
    (he : ∀ (s : Shared) (H : Hp) (C : Addr) (cl : List (Str × Addr)) (fp : List Addr), PE (X.blk s H scope (compEnvC scope cl C X.env) fp) vx tv) (hs : ∀ x, foldedSetIterable iter X.env x = pure x := by intro _; rfl) :
    PS X (.Assign [.Name y py] (.DictComp kx vx [⟨tg, iter, ifs, 0⟩] scope pos) spos) (tAsg (tDc wi g tt tk tv (own.map (·.2))) (gName i)) := by
  refine ⟨fun pins s σ H D I h => ?_⟩
  rw [exec_Assign_Name_used _ _ _ _ hsw]
  refine wpAny_bind (wpAny_standAt (wpAny_bind ?_))
  show wpAny _ X.A (do let _ ← comprehension (.DictComp kx vx [⟨tg, iter, ifs, 0⟩] scope pos) scope X.env (firstIterPos [⟨tg, iter, ifs, 0⟩] pos) newDict false (eval iter X.env) (some (assign (.Name y py) X.env))) _ _ s
  have h : tDc wi g tt tk tv (own.map (·.2)) σ H (fun x H1 => gName i x σ H1 D.nx) := h
  refine wpAny_bind (thn (dc_core (Qf := fun _ s' => SP X pins D .next s') hc hN I hi ok hg ht hk he hs h fun L C s' m H' I' q hn f => ?_) fun _ s' hq => wpAny_pure (wpAny_pure hq))
  show wpAny _ _ (assign (.Name y py) X.env (.ref L)) _ _ _
  refine wpAny_assign_Name (store_ok2 (v := V.ref L) I' hN hy (.inl hyl) rfl (fun s2 I2 ⟨a, sb, ha⟩ => ?_) (.inr hyl))
  obtain ⟨f0, f1, f2, f3, f4, f5⟩ := f
  have haC : C ≠ a := by
    rcases ha with z | z
    · rw [z]; exact f1
    · exact fun e => f4 y a z e.symm
  refine ⟨m, hn.sameBut sb haC, fun h3 sb3 => ?_⟩
  exact ⟨_, H', I2.turned (t' := s2.toks) (fun b o hb e => (sb3.2 b hb).trans e) f0 f1 f3 f4 f5, q⟩
theorem sw_trueD {kx vx : Expr} {gs : List Comprehension} {scope : Scope} {pos py : Pos} {y : Str} {l : Nat} {env : Env} (hk : env.scope.kind = .function) (hy : env.scope.names.lookup y = some .local) (hl : (py.line == pos.line) = true)
    (ha : (scope.names.any fun (n, k) => n == y && (k == .local || k == .cell)) = false) : swapsWith (.DictComp kx vx gs scope pos) (some (.Name y py)) l env = pure true := by
  have ky : env.kindOf y = some .local := hy
  have hb : env.blockKind = .function := by unfold Env.blockKind; rw [hk]; rfl
  unfold swapsWith
  simp only [hb, ky, ha, Expr.pos, hl]
  rfl
end
end L2
end

section
set_option maxRecDepth 100000
set_option maxHeartbeats 4000000
namespace KK
open PySem PySem.Spec PyProof.Rows L2 Y
abbrev yRows (K : PySem.W.Frag) (CW : Addr) : Y.CT (List Row) := ⟨true, .ow (oL K (tRow K)), fun as P _ => ∃ z, as = [.sh (yWeb K CW) z] ∧ WfZ z ∧ ∀ os, P os (z.us.map tieRow)⟩
abbrev ySof (K : PySem.W.Frag) (CW CS C : Addr) : Y.CT SD := ⟨true, .sh (tSd K CS C), fun as P _ => ∃ z, as = [.sh (yWeb K CW) z] ∧ WfZ z ∧ ∀ d, SofR z d → ∀ os, P os d⟩
abbrev yWorth (K : PySem.W.Frag) (CW : Addr) : Y.CT Int := ⟨true, .sh tInt, fun as P _ => ∃ z, as = [.sh (yWeb K CW) z] ∧ WfZ z ∧ ∀ v, Opt z v → ∀ os, P os v⟩
abbrev yAnsW (K : PySem.W.Frag) (CW : Addr) : Y.CT (List (Str × Int)) := ⟨true, .ow (oD kS tInt), fun as P _ => ∃ z, as = [.sh (yWeb K CW) z] ∧ WfZ z ∧ ∀ v xv, Opt z v → AnsR z.ms (prW z) z.us v xv → ∀ os, P os (z.ms.map fun x => (x, xv x))⟩
abbrev yTieP (K : PySem.W.Frag) (CW : Addr) : Y.CT (List ((Str × Str) × Int)) := ⟨true, .ow (oDP tInt), fun as P _ => ∃ z, as = [.sh (yWeb K CW) z] ∧ WfZ z ∧ ∀ v ys, Opt z v → TieFl z.ms (prW z) z.us v ys → ∀ os, P os (z.us.zip ys)⟩
section
variable {P : Program} {w : World} {K : PySem.W.Frag} {mg : Str → Option Value} {base : Heap} {C CS CW : Addr}
abbrev NYtierows : List Str := ["web", "a", "b"]
theorem scYtierows : FnScope NYtierows ["web"] (defScope s_tie_rows) := ⟨rfl, rfl, rfl, by decide +kernel, rfl, by decide +kernel, by decide +kernel⟩
theorem y_rows (T : Blt mg) (F : Has K mg "tie_rows" s_tie_rows) (YTIES : C8.Met P w K mg base 1 CW "ties" (Y.spZ (ctTies K CW)) []) : C8.Cal P w K mg base 2 "tie_rows" (Y.spZ (yRows K CW)) [] := by
  refine calF F (fun f fd F => F.binds (ps := ["web"]) fun _ _ _ _ _ _ us hl => match us, hl with | [_], _ => rfl) scYtierows (fun vs H Q E h => zlen (fun as P XP hc => by obtain ⟨_, rfl, _⟩ := hc; rfl) h) (fun f cdv A outer s H vs Q E hr h => ?_)
  have hu := hu_of hr
  refine ⟨_, (pss_one (ps_ret (pe_lc (own := [("a", 1), ("b", 2)]) (g := gTup K 2 (gCons (gName 1) (gCons (gName 2) gNil))) (tt := tYes) rfl scYtierows.nd (pi_list (C8.pe_mt0 YTIES hr (by decide) (pv 0))) (blkOk_by (own := [("a", 1), ("b", 2)]) (N := NYtierows) (sc := defScope s_tie_rows) (by decide +kernel)) (fun _ _ _ _ _ => (pg_tup rfl (pgs_cons (pg_name (i := 1) scYtierows.nd rfl (Or.inl rfl)) (pgs_cons (pg_name (i := 2) scYtierows.nd rfl (Or.inl rfl)) pgs_nil)))) (fun _ _ _ _ _ => pts_nil) (fun _ _ _ _ _ => (pe_tup (pa_cons (pe_tup (pa_cons (pv 1) (pa_cons pe_bl pa_nil))) (pa_cons (pe_tup (pa_cons (pv 2) (pa_cons pe_bl pa_nil))) pa_nil))))))), zrun h ?_⟩
  rintro as P XP ⟨z, rfl, wf, hp⟩ hl
  obtain ⟨p0, rfl⟩ := len1 hl
  refine ⟨2, rfl, by decide, ?_⟩
  refine blk_ret (ev_lc (K := K) (vs := [1, 2]) (ei_list (ev_meth0 (instYW (by decide)) (ev_var rfl (ea_nil ⟨fun _ => rfl, all1 trivial, z, rfl, fun _ => ⟨(fun i ys => ys = (z.us.take i).map tieRow), fits40 (by have := wf.p.to.hi; omega), ?_, rfl, ?_, ?_⟩⟩)))))
  · intro i hi
    rcases List.mem_cons.mp hi with rfl | hi
    · exact free_of rfl
    · rw [List.mem_singleton] at hi; subst hi; exact free_of rfl
  · rintro i x ys hx rfl
    refine tg_tup2 (tg_name (by decide) (free_of rfl) (tg_name (by decide) (free_of rfl) (et_yes ⟨fun _ => ev_t2 (ev_t2 (ev_var rfl (ev_c (t := tBl) (fun _ _ => rfl) (ev_t2 (ev_var rfl (ev_c (t := tBl) (fun _ _ => rfl) ?_)))))), fun h => (nomatch h)⟩)))
    show (z.us.take i).map tieRow ++ [_] = (z.us.take (i + 1)).map tieRow
    rw [List.take_succ, hx, List.map_append]
    rfl
  · rintro ys rfl
    rw [List.take_of_length_le (Nat.le_refl _)]
    exact fin0 [_] _ hp
abbrev NYsides : List Str := ["web", "prices", "place"]
theorem scYsides : FnScope NYsides ["web"] (defScope s_sides) := ⟨rfl, rfl, rfl, by decide +kernel, rfl, by decide +kernel, by decide +kernel⟩
theorem y_sof (T : Blt mg) (F : Has K mg "sides" s_sides) (YPLACES : C8.Met P w K mg base 1 CW "places" (Y.spZ (ctPlaces K CW)) []) (YPRICE : C8.Met P w K mg base 3 CW "price" (Y.spZ (ctPrc K CW)) []) (YROWS : C8.Cal P w K mg base 2 "tie_rows" (Y.spZ (yRows K CW)) [])
    (YSIDES : C8.Mak P w K mg base 5 "Sides" CS (Y.spZ (ctSidesB K CS C)) []) : C8.Cal P w K mg base 7 "sides" (Y.spZ (ySof K CW CS C)) [] := by
  refine calF F (fun f fd F => F.binds (ps := ["web"]) fun _ _ _ _ _ _ us hl => match us, hl with | [_], _ => rfl) scYsides (fun vs H Q E h => zlen (fun as P XP hc => by obtain ⟨_, rfl, _⟩ := hc; rfl) h) (fun f cdv A outer s H vs Q E hr h => ?_)
  have hu := hu_of hr
  refine ⟨_, (pss_cons (ps_setDc (i := 1) (own := [("place", 2)]) (g := gName 2) rfl scYsides.nd rfl rfl (sw_trueD rfl rfl rfl (by decide +kernel)) (pi_list (C8.pe_mt0 YPLACES hr (by decide) (pv 0))) (blkOk_by (own := [("place", 2)]) (N := NYsides) (sc := defScope s_sides) (by decide +kernel)) (fun _ _ _ _ _ => (pg_name (i := 2) scYsides.nd rfl (Or.inl rfl))) (fun _ _ _ _ _ => pts_nil) (fun _ _ _ _ _ => (pv 2)) (fun _ _ _ _ _ => (C8.pe_mt YPRICE hr (by decide) (pv 0) (pa_cons (pv 2) pa_nil))))
      (pss_one (ps_ret (C8.pe_mk YSIDES hr (by decide) rfl (pa_cons (C8.pe_c YROWS hr (by decide) rfl (pa_cons (pv 0) pa_nil)) (pa_cons (pv 1) (pa_cons (pv 1) pa_nil))))))), zrun h ?_⟩
  rintro as P XP ⟨z, rfl, wf, hp⟩ hl
  obtain ⟨p0, rfl⟩ := len1 hl
  refine ⟨2, rfl, by decide, ?_⟩
  refine blk_seq (blk_setO (ev_dc (vs := [2]) (u := tInt) kyS (ei_list (ev_meth0 (instYW (by decide)) (ev_var rfl (ea_nil ⟨fun _ => rfl, all1 trivial, z, rfl, fun _ => ⟨(fun i ys => ys = (prD z).take i), fits40 (by have := wf.p.no.hi; omega), ?_, rfl, ?_, ?_⟩⟩))))))
  · intro i hi
    rw [List.mem_singleton] at hi; subst hi; exact free_of rfl
  · rintro i x ys hx rfl
    refine tg_name (by decide) (free_of rfl) (et_yes ⟨fun _ => ev_var rfl (ev_meth0 (instYW (by decide)) (ev_var rfl (ea_cons (ev_var rfl (ea_nil ⟨fun _ => rfl, allc trivial (all1 trivial), z, x, rfl, List.mem_of_getElem? hx, fun _ => ?_⟩))))), fun h => (nomatch h)⟩)
    show (prD z).take i ++ [_] = (prD z).take (i + 1)
    rw [List.take_succ]
    unfold prD
    rw [List.getElem?_map, hx]
    rfl
  · rintro ys rfl
    have hl : z.ms.length = (prD z).length := (List.length_map ..).symm
    rw [hl, List.take_of_length_le (Nat.le_refl _), mkD_nodup (by rw [prD_keys]; exact wf.p.no.nd)]
    refine ⟨rfl, blk_frz 1 rfl (blk_ret (EvR.share (O := oSd K CS C) (ev_make0 rfl (ea_cons (EvR.share (O := oL K (tRow K)) (ev_call0 (ea_cons (ev_var rfl (ea_nil ⟨fun _ => rfl, all1 trivial, z, rfl, wf, fun _ => ?_⟩)))))))))⟩
    refine ea_cons (ev_var rfl (ea_cons (ev_var rfl (ea_nil ⟨fun _ => rfl, allc trivial (allc trivial (all1 trivial)), (fun os _ => ∃ d r, os = .ow (oSd K CS C) d :: r ∧ SofR z d), ⟨z.us.map tieRow, prD z, prD z, rfl, ?_, fun hs rs0 rs ls tot lv R r => ⟨_, r, rfl, ?_, ?_, rs0, lv, ?_⟩⟩, ?_⟩))))
    · rw [prD_keys, ← hl]
      refine ⟨wf.p.no.nd, wf.p.no.hi, by rw [List.length_map]; exact wf.p.to.hi, (sidesP wf).rw, fun x hx => ⟨_, look_prD hx, ?_⟩, fun x hx => (sidesP wf).l0 x hx⟩
      have := prW_pos wf hx
      omega
    · exact prD_keys z
    · show arcL _ _ = arcL _ _
      rw [hl, List.length_map]
    · rw [prD_keys] at R
      exact R
    · rintro os y ⟨d, r, rfl, h⟩
      exact ⟨d, r, rfl, fin0 [_] _ (hp d h)⟩
abbrev NYworth : List Str := ["web"]
theorem scYworth : FnScope NYworth ["web"] (defScope s_worth) := ⟨rfl, rfl, rfl, by decide +kernel, rfl, by decide +kernel, by decide +kernel⟩
theorem y_worth (T : Blt mg) (CC : SidesC K CS) (F : Has K mg "worth" s_worth) (YSOF : C8.Cal P w K mg base 7 "sides" (Y.spZ (ySof K CW CS C)) []) : C8.Cal P w K mg base 8 "worth" (Y.spZ (yWorth K CW)) [] := by
  refine calF F (fun f fd F => F.binds (ps := ["web"]) fun _ _ _ _ _ _ us hl => match us, hl with | [_], _ => rfl) scYworth (fun vs H Q E h => zlen (fun as P XP hc => by obtain ⟨_, rfl, _⟩ := hc; rfl) h) (fun f cdv A outer s H vs Q E hr h => ?_)
  have hu := hu_of hr
  refine ⟨_, (pss_one (ps_ret (pe_fld (C8.pe_c YSOF hr (by decide) rfl (pa_cons (pv 0) pa_nil)) rfl))), zrun h ?_⟩
  rintro as P XP ⟨z, rfl, wf, hp⟩ hl
  obtain ⟨p0, rfl⟩ := len1 hl
  refine ⟨0, rfl, by decide, ?_⟩
  refine blk_ret (ev_fld (fo_box (get := SD.tot) fun d => fs_tot CC) (ev_call0 (ea_cons (ev_var rfl (ea_nil ⟨fun _ => rfl, all1 trivial, z, rfl, wf, fun d h _ => ?_⟩)))))
  obtain ⟨o1, o2⟩ := h.opt wf
  obtain ⟨_, ⟨lv, L⟩, _⟩ := h.net wf
  exact fin0 [_] _ (hp d.tot ⟨⟨_, o2 lv L⟩, _, o1⟩)
end
end KK
end

section
set_option maxRecDepth 100000
set_option maxHeartbeats 4000000
namespace KK
open PySem PySem.Spec PyProof.Rows L2 Y
section
variable {K : PySem.W.Frag}
theorem ev_draw {X : Xw} {k : Bool} {G : Ct} {E : XK} {tn : TE} {i : Nat} {P : Ct → Int → Prop} (e : G.s[i]? = some (.sh tStm ())) (h : Ev X k tn G tInt fun G1 n => (0 < n ∧ n < 2 ^ 200) ∧ ∀ r, 0 ≤ r → r < n → P G1 r) : Ev X k (tCall (Y.spZ yDraw) [] E (tCons (tVar i) (tCons tn tNil))) G tInt P :=
  ev_call0 (ea_cons (ev_var e (ea_cons (h.mono fun G1 n q => ea_nil ⟨fun h => (nomatch h), allc trivial (all1 trivial), n, rfl, q.1, fun r hr _ => q.2 r hr.1 hr.2⟩))))
end
abbrev yWide (K : PySem.W.Frag) : Y.CT (List Str × List (Str × Str) × List (Str × Int)) := ⟨true, .sh (yParts K), fun as P _ => ∃ lo hi tr, as = [.sh tStm (), .sh tInt lo, .sh tInt hi, .sh tInt tr] ∧ (1 ≤ lo ∧ lo ≤ hi ∧ hi ≤ 40 ∧ 0 ≤ tr ∧ tr ≤ 400) ∧ ∀ r, PtsZ r → ∀ os, P os r⟩
abbrev yLint : Y.CT Bool := ⟨false, .sh tBl, fun as P _ => ∃ i, as = [.sh tInt i] ∧ ∀ os, P os true⟩
abbrev yUp (K : PySem.W.Frag) : Y.CT (Str × Str) := ⟨false, .sh (tPr K), fun as P _ => ∃ p, as = [.sh (tPr K) p] ∧ ∀ os, P os (upP p)⟩
abbrev yCopyO : Y.CT (List (Str × Int)) := ⟨true, .ow (oD kS tInt), fun as P _ => ∃ d, as = [.sh (tDk kS tInt) d] ∧ ((d.map (·.1)).Nodup ∧ d.length ≤ 40) ∧ ∀ os, P os d⟩
section
variable {P : Program} {w : World} {K : PySem.W.Frag} {mg : Str → Option Value} {base : Heap}
abbrev NYLisinteger : List Str := ["_law_value"]
theorem scYLisinteger : FnScope NYLisinteger ["_law_value"] (defScope s_law_is_integer) := ⟨rfl, rfl, rfl, by decide +kernel, rfl, by decide +kernel, by decide +kernel⟩
theorem y_lint (T : Blt mg) (F : Has K mg "_law_is_integer" s_law_is_integer) : C8.Cal P w K mg base 1 "_law_is_integer" (Y.spZ yLint) [] := by
  refine calF F (fun f fd F => F.binds (ps := ["_law_value"]) fun _ _ _ _ _ _ us hl => match us, hl with | [_], _ => rfl) scYLisinteger (fun vs H Q E h => zlen (fun as P XP hc => by obtain ⟨_, rfl, _⟩ := hc; rfl) h) (fun f cdv A outer s H vs Q E hr h => ?_)
  have hu := hu_of hr
  refine ⟨_, (pss_one (ps_ret (pe_and (pe_callB call_isi (by rfl) T.b_isinstance (by decide +kernel) (pa_cons (pv 0) (pa_cons (pe_bltn (v := .ty "int") (by rfl) T.b_int (by decide +kernel) rfl) pa_nil))) (pe_one (pe_not (pe_callB call_isi (by rfl) T.b_isinstance (by decide +kernel) (pa_cons (pv 0) (pa_cons (pe_bltn (v := .ty "bool") (by rfl) T.b_bool (by decide +kernel) rfl) pa_nil)))))))), zrun h ?_⟩
  rintro as P XP ⟨i, rfl, hp⟩ hl
  obtain ⟨p0, rfl⟩ := len1 hl
  refine ⟨0, rfl, by decide, ?_⟩
  have ti : ∀ (W : Wd) (H : Hp) (v : V) (x : Int), OKW W H → (False → True) → tInt.R W H v x → TyX K H v (.type "int") := fun W H v x _ _ r => by cases r; exact .base (.int _)
  refine blk_ret (ev_and (ev_isi (A := "int") (b := true) (fun W H v x ok _ r => ti W H v x ok (fun z => z.elim) r) (by decide +kernel) (ev_var rfl ⟨rfl, fun _ => ev_not (ev_isi (A := "int") (b := false) (fun W H v x ok _ r => ti W H v x ok (fun z => z.elim) r) (by decide +kernel) (ev_var rfl ⟨rfl, fin0 [_] _ hp⟩)), fun h => (nomatch h)⟩)))
end
end KK
end

section
set_option maxRecDepth 100000
set_option maxHeartbeats 4000000
namespace KK
open PySem PySem.Spec PyProof.Rows L2 Y
section
variable {P : Program} {w : World} {K : PySem.W.Frag} {mg : Str → Option Value} {base : Heap}
end
end KK
end

section
set_option maxRecDepth 100000
set_option maxHeartbeats 4000000
namespace KK
open PySem PySem.Spec PyProof.Rows L2 Y
abbrev ySpent (K : PySem.W.Frag) : Y.CT Int := ⟨false, .sh tInt, fun as P _ => ∃ p d, as = [.sh (yParts K) p, .sh (tDk kS tInt) d] ∧ (∀ x ∈ p.1, lookK p.2.2 x = some (gD p.2.2 x) ∧ lookK d x = some (gD d x) ∧ -(2 ^ 64) < gD d x ∧ gD d x < 2 ^ 64) ∧ ∀ os, P os ((p.1.map fun x => gD p.2.2 x * gD d x).sum)⟩
abbrev yAnsIs (K : PySem.W.Frag) : Y.CT Bool := ⟨true, .sh tBl, fun as P _ => ∃ p d, as = [.sh (yParts K) p, .sh (tDk kS tInt) d] ∧ (d.length = p.1.length ∧ (∀ x ∈ p.1, lookK d x = some (gD d x) ∧ 0 ≤ gD d x ∧ gD d x ≤ 2) ∧ ∀ e ∈ p.2.1, lookK d e.1 = some (gD d e.1) ∧ lookK d e.2 = some (gD d e.2) ∧ 2 ≤ gD d e.1 + gD d e.2) ∧ ∀ os, P os true⟩
section
variable {P : Program} {w : World} {K : PySem.W.Frag} {mg : Str → Option Value} {base : Heap}
end
end KK
end

section
set_option maxRecDepth 100000
set_option maxHeartbeats 4000000
namespace KK
open PySem PySem.Spec PyProof.Rows L2 Y
/-- what is put on x by the ties us -/
def loadU (f : Str × Str → Int) (us : List (Str × Str)) (x : Str) : Int := (us.map fun e => (if (upP e).1 = x then f e else 0) + (if (upP e).2 = x then f e else 0)).sum
structure PrsR (p : List Str × List (Str × Str) × List (Str × Int)) (y : List ((Str × Str) × Int)) (v : Int) (f : Str × Str → Int) : Prop where
  nd : p.1.Nodup
  hi : p.1.length ≤ 40
  pr : ∀ x ∈ p.1, lookK p.2.2 x = some (gD p.2.2 x)
  ln : y.length = p.2.1.length
  at_ : ∀ e ∈ p.2.1, lookK y (upP e) = some (f e) ∧ 0 ≤ f e ∧ (upP e).1 ∈ p.1 ∧ (upP e).2 ∈ p.1
  tt : (p.2.1.map f).sum = v
  lo : ∀ x ∈ p.1, loadU f p.2.1 x ≤ 2 * gD p.2.2 x
abbrev yPrs (K : PySem.W.Frag) : Y.CT Bool := ⟨true, .sh tBl, fun as P _ => ∃ p y v, as = [.sh (yParts K) p, .sh (tDP tInt) y, .sh tInt v] ∧ (∃ f, PrsR p y v f) ∧ ∀ os, P os true⟩
def atD (ns : List Str) (g : Str → Int) : List (Str × Int) := ns.map fun x => (x, g x)
theorem look_atD {ns : List Str} {g : Str → Int} {x : Str} (h : x ∈ ns) : lookK (atD ns g) x = some (g x) := look_fun h
section
variable {P : Program} {w : World} {K : PySem.W.Frag} {mg : Str → Option Value} {base : Heap}
end
end KK
end

section
set_option maxRecDepth 100000
set_option maxHeartbeats 4000000
namespace KK
open PySem PySem.Spec PyProof.Rows L2 Y
theorem perm_sum {α : Type} (f : α → Int) {l l' : List α} (h : l.Perm l') : (l.map f).sum = (l'.map f).sum := by
  induction h with
  | nil => rfl
  | cons x _ ih => simp only [List.map_cons, List.sum_cons, ih]
  | swap x y l => simp only [List.map_cons, List.sum_cons]; omega
  | trans _ _ ih1 ih2 => exact ih1.trans ih2
theorem look_ix {κ α : Type} [DecidableEq κ] {kvs : List (κ × α)} (hn : (kvs.map (·.1)).Nodup) {e : κ × α} (h : e ∈ kvs) : lookK kvs e.1 = some e.2 := by
  induction kvs with
  | nil => simp at h
  | cons z kvs ih =>
    obtain ⟨k, v⟩ := z
    rw [List.map_cons, List.nodup_cons] at hn
    rw [look_cons]
    rcases List.mem_cons.mp h with rfl | h
    · rw [if_pos rfl]
    · rw [if_neg fun z => hn.1 (by rw [show (k, v).1 = k from rfl, z]; exact List.mem_map_of_mem (f := (·.1)) h)]
      exact ih hn.2 h
theorem prF_ix {ns : List Str} {ps : List Int} (hn : ns.Nodup) (hl : ps.length = ns.length) {x : Str} {i : Nat} (h : ns[i]? = some x) : ps[i]? = some (prF ns ps x) := by
  obtain ⟨r, h1, h2⟩ := prK_some hn hl h
  have e : prF ns ps x = r := by unfold prF; rw [h2]
  rw [h1, e]
/-- a web stands for these parts -/
structure Mat (z : WebZ) (p : List Str × List (Str × Str) × List (Str × Int)) : Prop where
  wf : WfZ z
  pt : PtsZ p
  pm : z.ms.Perm p.1
  pu : z.us.Perm (p.2.1.map ordP)
  pr : ∀ x ∈ p.1, prW z x = gD p.2.2 x ∧ lookK p.2.2 x = some (gD p.2.2 x)
theorem pts_look {p : List Str × List (Str × Str) × List (Str × Int)} (h : PtsZ p) {x : Str} (hx : x ∈ p.1) : lookK p.2.2 x = some (gD p.2.2 x) ∧ prF (p.2.2.map (·.1)) (p.2.2.map (·.2)) x = gD p.2.2 x := by
  have hm : x ∈ p.2.2.map (·.1) := h.ks.mem_iff.mpr hx
  obtain ⟨e, he, rfl⟩ := List.mem_map.mp hm
  have l := look_ix h.kn he
  have g : gD p.2.2 e.1 = e.2 := by unfold gD; rw [l]; rfl
  refine ⟨by rw [g]; exact l, ?_⟩
  obtain ⟨i, hi⟩ := List.getElem?_of_mem he
  have := prF_ix (ps := p.2.2.map (·.2)) h.kn (by rw [List.length_map, List.length_map]) (i := i) (x := e.1) (by rw [List.getElem?_map, hi]; rfl)
  rw [List.getElem?_map, hi] at this
  rw [g]
  exact (Option.some.inj this).symm
theorem mat_web {z : WebZ} {p : List Str × List (Str × Str) × List (Str × Int)} (wf : WfZ z) (h : PtsZ p) (w : WebOk p.1 (prP p) p.2.1 z.ms z.qs z.us) : Mat z p := by
  refine ⟨wf, h, w.pm, w.pu, fun x hx => ?_⟩
  obtain ⟨l, g⟩ := pts_look h hx
  refine ⟨?_, l⟩
  rw [← g]
  have e1 : prW z x = prF p.1 (prP p) x := by
    unfold prW prF
    rw [w.pq x hx]
  rw [e1]
  obtain ⟨i, hi⟩ := List.getElem?_of_mem hx
  have := prF_ix (ps := prP p) h.no.nd (List.length_map ..) hi
  unfold prP at this ⊢
  rw [List.getElem?_map, hi] at this
  exact (Option.some.inj this).symm
/-- the prices of a tie, by its dict -/
def gP (y : List ((Str × Str) × Int)) (e : Str × Str) : Int := (lookK y e).getD 0
section
variable {z : WebZ} {p : List Str × List (Str × Str) × List (Str × Int)} {v : Int} {xv : Str → Int} {ys : List Int}
end
end KK
end

section
set_option maxRecDepth 100000
set_option maxHeartbeats 4000000
namespace KK
open PySem PySem.Spec PyProof.Rows L2 Y
/-! answers, their cost, the best -/
section
variable {K : PySem.W.Frag} {mg : Str → Option Value} {CW : Addr}
end
/-- a dict that is an answer -/
structure AnsD (z : WebZ) (d : List (Str × Int)) : Prop where
  pm : (d.map (·.1)).Perm z.ms
  r : ∀ x ∈ z.ms, lookK d x = some (gD d x) ∧ 0 ≤ gD d x ∧ gD d x ≤ 2
  t : ∀ e ∈ z.us, 2 ≤ gD d e.1 + gD d e.2
abbrev yInt : Y.CT Bool := ⟨false, .sh tBl, fun as P _ => ∃ i, as = [.sh tInt i] ∧ ∀ os, P os true⟩
abbrev yBet : Y.CT Bool := ⟨false, .sh tBl, fun as P _ => ∃ i lo hi, as = [.sh tInt i, .sh tInt lo, .sh tInt hi] ∧ ∀ os, P os (decide (lo ≤ i) && decide (i ≤ hi))⟩
abbrev yJust (K : PySem.W.Frag) : Y.CT Bool := ⟨true, .sh tBl, fun as P _ => ∃ d ns, as = [.sh (tDk kS tInt) d, .sh (tLs K tStr) ns] ∧ (d.length = ns.length ∧ ns.length ≤ 1000 ∧ ∀ x ∈ ns, hasK d x = true) ∧ ∀ os, P os true⟩
abbrev yVals (K : PySem.W.Frag) : Y.CT Bool := ⟨true, .sh tBl, fun as P _ => ∃ d ns, as = [.sh (tDk kS tInt) d, .sh (tLs K tStr) ns] ∧ (d.length = ns.length ∧ ns.length ≤ 1000 ∧ ∀ x ∈ ns, lookK d x = some (gD d x) ∧ 0 ≤ gD d x ∧ gD d x ≤ 2) ∧ ∀ os, P os true⟩
abbrev yIsAns (K : PySem.W.Frag) (CW : Addr) : Y.CT Bool := ⟨true, .sh tBl, fun as P _ => ∃ z d, as = [.sh (yWeb K CW) z, .sh (tDk kS tInt) d] ∧ (WfZ z ∧ AnsD z d) ∧ ∀ os, P os true⟩
abbrev yCost (K : PySem.W.Frag) (CW : Addr) : Y.CT Int := ⟨true, .sh tInt, fun as P _ => ∃ z d, as = [.sh (yWeb K CW) z, .sh (tDk kS tInt) d] ∧ (WfZ z ∧ AnsD z d) ∧ ∀ os, P os ((z.ms.map fun x => prW z x * gD d x).sum)⟩
abbrev yBest (K : PySem.W.Frag) (CW : Addr) : Y.CT Bool := ⟨true, .sh tBl, fun as P _ => ∃ z d, as = [.sh (yWeb K CW) z, .sh (tDk kS tInt) d] ∧ (WfZ z ∧ AnsD z d) ∧ ∀ v, Opt z v → ∀ os, P os (decide ((z.ms.map fun x => prW z x * gD d x).sum = v))⟩
abbrev yAmong : Y.CT Bool := ⟨false, .sh tBl, fun as P _ => ∃ x d, as = [.sh tStr x, .sh (tDk kS tInt) d] ∧ ∀ os, P os (hasK d x)⟩
abbrev yNeed (K : PySem.W.Frag) (CW : Addr) : Y.CT Unit := ⟨false, .sh tNon, fun as P _ => ∃ z x, as = [.sh (yWeb K CW) z, .sh tStr x] ∧ (WfZ z ∧ x ∈ z.ms) ∧ ∀ os, P os ()⟩
abbrev yPrc2 (K : PySem.W.Frag) (CW : Addr) : Y.CT Int := ⟨false, .sh tInt, fun as P _ => ∃ z x, as = [.sh (yWeb K CW) z, .sh tStr x] ∧ (WfZ z ∧ x ∈ z.ms) ∧ ∀ os, P os (prW z x)⟩
section
variable {P : Program} {w : World} {K : PySem.W.Frag} {mg : Str → Option Value} {base : Heap} {CW : Addr}
abbrev NYisinteger : List Str := ["value"]
abbrev NYisbetween : List Str := ["value", "low", "high"]
abbrev NYhasjust : List Str := ["value", "keys", "key"]
end
end KK
end

section
set_option maxRecDepth 100000
set_option maxHeartbeats 4000000
namespace KK
open PySem PySem.Spec PyProof.Rows L2 Y
section
variable {P : Program} {w : World} {K : PySem.W.Frag} {mg : Str → Option Value} {base : Heap} {CW : Addr}
abbrev NYisamong : List Str := ["value", "names"]
abbrev NYWebneed : List Str := ["self", "place"]
abbrev NYWebprice : List Str := ["self", "place"]
end
end KK
end

section
set_option maxRecDepth 100000
set_option maxHeartbeats 4000000
/-! a + b by the class's own __add__, where it raises nothing; p[i] of a pair, i drawn -/
namespace Y
open PySem PySem.Spec PyProof.Rows L2
section
variable {α ρ : Type} {X : Xw} {k : Bool} {G : Ct} {t : Ty α} {c : CT ρ} {K : PySem.W.Frag}
end
end Y
end

section
set_option maxRecDepth 100000
set_option maxHeartbeats 4000000
/-! {} with pairs as keys, d[p] = v; min of two -/
namespace Y
open PySem PySem.Spec PyProof.Rows L2
section
variable {α ρ : Type} {X : Xw} {k : Bool} {G : Ct} {t : Ty α} {K : PySem.W.Frag}
theorem ev_min2 {te tf : TE} {P : Ct → Int → Prop} (h : Ev X k te G tInt fun G i => Ev X k tf G tInt fun G j => P G (if j < i then j else i)) :
    Ev X k (tCB (fun xs H Q => ∃ i j, xs = [.int i, .int j] ∧ Q (.int (if j < i then j else i)) H) (tCons te (tCons tf tNil))) G tInt P := fun W H σ Q hs ex q =>
  h W H σ _ hs ex fun v W1 H1 G1 x p m r => p W1 H1 σ _ m.hs (ex.mv m.go) fun w1 W2 H2 G2 y p2 m2 r2 => by
    cases r
    cases r2
    exact ⟨x, y, rfl, q _ W2 H2 G2 _ p2 (m.trans m2) rfl⟩
end
section
variable {α ρ : Type} {F : Fx ρ} {G : Ct} {N B C : Ct → Prop} {t : Ty α} {K : PySem.W.Frag}
end
end Y
end

section
set_option maxRecDepth 100000
set_option maxHeartbeats 4000000
/-! a list [a, b, c] of one's own, its third one's own too -/
namespace Y
open PySem PySem.Spec PyProof.Rows L2
section
variable {α β γ : Type}
def oL3 (K : PySem.W.Frag) (t : Ty α) (u : Ty β) (O : OT γ) : OT (α × β × γ) where
  R p W H v x := ∃ a v1 v2 v3, v = .ref a ∧ W a = .ow p ∧ H a = some (.lst [v1, v2, v3]) ∧ t.R W H v1 x.1 ∧ u.R W H v2 x.2.1 ∧ O.R (p ++ [2]) W H v3 x.2.2
  sv := tL3 K t u O.sv
  mv := by
    rintro p p' W W' H H' v x ⟨a, v1, v2, v3, e, w, h, r1, r2, r3⟩ kk m
    obtain ⟨w1, h1⟩ := kk a _ [] (by rw [List.append_nil]; exact w) h
    refine ⟨a, v1, v2, v3, e, by rw [List.append_nil] at w1; exact w1, h1, t.go r1 m, u.go r2 m, O.mv r3 (fun b o q w e => ?_) m⟩
    have := kk b o ([2] ++ q) (by rw [← List.append_assoc]; exact w) e
    rwa [← List.append_assoc] at this
  fz := by
    rintro p W W' H H' v x ⟨a, v1, v2, v3, e, w, h, r1, r2, r3⟩ kk m
    obtain ⟨w1, h1⟩ := kk a _ [] (by rw [List.append_nil]; exact w) h
    exact ⟨a, v1, v2, v3, e, ⟨w1, h1⟩, t.go r1 m, u.go r2 m, O.fz r3 (fun b o q w e => kk b o ([2] ++ q) (by rw [← List.append_assoc]; exact w) e) m⟩
variable {G : Ct} {K : PySem.W.Frag} {t : Ty α} {u : Ty β}
end
end Y
end

section
set_option maxRecDepth 100000
set_option maxHeartbeats 4000000
/-! a list of three made with an own third; dicts with pairs as keys, walked; a string in a pair -/
namespace Y
open PySem PySem.Spec PyProof.Rows L2
section
variable {α β γ κ ρ : Type} {t : Ty α} {u : Ty β} {X : Xw} {k : Bool} {G : Ct} {K : PySem.W.Frag}
end

section
variable {α β γ : Type} {t : Ty α} {u : Ty β} {X : Xw} {k : Bool} {G : Ct} {K : PySem.W.Frag}
/-- what is new and hangs nowhere hangs as the third item of what is new -/
def push2 (W : Wd) : Wd := fun b => match W b with
  | .ow (j :: r) => if j = tmp then .ow (tmp :: 2 :: r) else .ow (j :: r)
  | w => w
end
end Y
namespace Y
open PySem PySem.Spec PyProof.Rows L2
section
variable {K : PySem.W.Frag}
end
end Y
namespace Y
open PySem PySem.Spec PyProof.Rows L2
section
variable {α : Type} {X : Xw} {k : Bool} {G : Ct} {t : Ty α} {K : PySem.W.Frag}
end
end Y
namespace Y
open PySem PySem.Spec PyProof.Rows L2
section
variable {α β γ : Type} {X : Xw} {k : Bool} {G : Ct} {t : Ty α} {u : Ty β} {K : PySem.W.Frag}
end
end Y
end

section
set_option maxRecDepth 100000
set_option maxHeartbeats 4000000
namespace KK
open PySem PySem.Spec PyProof.Rows L2 Y
/-! Web(places, ties, prices), made in a law -/
theorem pairs_prKY {W : Y.Wd} {H : Hp} : ∀ {ws : List (Key × V)} {kvs : List (Str × Int)}, Paired (fun (p : Key × V) (q : Str × Int) => p.1 = kS.k q.1 ∧ tInt.R W H p.2 q.2) ws kvs → ws = prK (kvs.map (·.1)) (kvs.map (·.2))
  | _, _, .nil => rfl
  | _, _, .cons r p => by
    have ih := pairs_prKY p
    unfold prK at ih ⊢
    rw [List.map_cons, List.map_cons, List.zip_cons_cons, List.map_cons, ← ih]
    congr 1
    exact Prod.ext r.1 r.2
theorem ties_prY {K : PySem.W.Frag} {W : Y.Wd} {H : Hp} (ok : OKW W H) : ∀ {xs : List V} {us : List (Str × Str)}, Paired ((tPr K).R W H) xs us → Ties H xs us
  | _, _, .nil => .nil
  | _, _, .cons r p => by
    obtain ⟨a, e, h⟩ := pr_at ok r
    exact .cons ⟨a, e, h⟩ (ties_prY ok p)
theorem pr_tiesY {K : PySem.W.Frag} {W : Y.Wd} {H : Hp} (ok : OKW W H) : ∀ {xs : List V} {us : List (Str × Str)}, Ties H xs us → Paired ((Z.tT2 K Z.tStr Z.tStr).R (toR W) H) xs us
  | _, _, .nil => .nil
  | _, _, .cons r p => by
    obtain ⟨a, rfl, e⟩ := r
    exact .cons ⟨a, _, _, rfl, .inl ⟨toR_sh.mpr (ok.tp a _ e), e⟩, rfl, rfl⟩ (pr_tiesY ok p)
theorem same_okY {W : Y.Wd} {H H' : Hp} (ok : OKW W H) (s : ∀ b o, H b = some o → H' b = some o) : OKW W H' := by
  have fr : ∀ b, W b ≠ .sh → ∃ o, H b = some o ∧ H' b = some o := fun b h => by
    obtain ⟨o, e⟩ := ok.al b h
    exact ⟨o, e, s _ _ e⟩
  refine ⟨fun b φ h => ?_, fun b h => ?_, fun b p od u w e => ?_, fun b h => ?_, fun b od u w e => ?_, fun b vs e => ?_⟩
  · obtain ⟨o, e, z⟩ := ok.st b φ h
    exact ⟨o, s _ _ e, z⟩
  · obtain ⟨o, _, e⟩ := fr b h
    exact ⟨o, e⟩
  · obtain ⟨o, e0, e1⟩ := fr b (by rw [w]; exact fun z => nomatch z)
    rw [e1] at e; cases e
    exact ok.nf b p od u w e0
  · obtain ⟨od, ⟨ws, e⟩ | ⟨ws, e⟩⟩ := ok.lk b h
    · exact ⟨od, .inl ⟨ws, s _ _ e⟩⟩
    · exact ⟨od, .inr ⟨ws, s _ _ e⟩⟩
  · obtain ⟨o, e0, e1⟩ := fr b (by rw [w]; exact fun z => nomatch z)
    rw [e1] at e; cases e
    exact ok.fo b od u w e0
  · cases e0 : H b with
    | none => exact ok.fresh e0
    | some o =>
      have := s _ _ e0
      rw [this] at e; cases e
      exact ok.tp b vs e0
section
variable {K : PySem.W.Frag} {C : Addr} {X : Y.Xw} {k : Bool} {G : Ct}
theorem ev_mkWeb {ta : TA} {E : XK} {P : Ct → WebZ → Prop} (h : Ea X k ta G fun G as => G.n = true ∧ ∃ p, as = [.sh (tTu K tStr) p.1, .sh (tLs K (tPr K)) p.2.1, .sh (tDk kS tInt) p.2.2] ∧ PtsZ p ∧ ∀ r, (WfZ r ∧ WebOk p.1 (prP p) p.2.1 r.ms r.qs r.us) → P G r) :
    Ev X k (tMake C (spInit K C) [] E ta) G (yWeb K C) P := fun W H σ Q hs ex q =>
  h W H σ _ hs ex fun vs W1 H1 G1 as ⟨hn, p, e, hz, hp⟩ m ha x dx hx hdx hne => by
    subst e
    rw [List.append_nil]
    cases ha with
    | cons r1 ha => cases ha with
      | cons r2 ha => cases ha with
        | cons r3 ha =>
          cases ha
          obtain ⟨pl, us1, rfl, s1, p1⟩ := (r1 : (tTu K tStr).R W1 H1 _ p.1)
          obtain ⟨tl, us2, rfl, s2, p2⟩ := (r2 : (tLs K (tPr K)).R W1 H1 _ p.2.1)
          obtain ⟨d, ws, rfl, s3, p3⟩ := (r3 : (tDk kS tInt).R W1 H1 _ p.2.2)
          have ok := m.hs.ok
          have e1 := paired_f scS p1
          subst e1
          have e3 := pairs_prKY p3
          subst e3
          have ti := ties_prY ok p2
          have wd := (ok.exactD s3 (m.hs.nl hn d) (fun _ e => by cases e)).1
          have pz := hz.pts
          have hx2 : upd H1 dx (HO.own x) x = none := by rw [upd_ne (fun z => hne z.symm)]; exact hx
          have s : L2.Same H1 (upd (upd H1 dx (.own x)) x (.ins C dx [])) := fun b o e => by rw [upd_ne (ne_of_none (show upd H1 dx (HO.own x) b = some o by rw [upd_ne (ne_of_none e hdx)]; exact e) hx2), upd_ne (ne_of_none e hdx)]; exact e
          refine ⟨x, dx, pl, tl, d, p.1, prP p, us2, p.2.1, rfl, upd_same, s _ _ (s1.at ok), s _ _ s2.2, ⟨_, s _ _ wd, hz.pk⟩, ti.same s, pz.pl, pz.no, pz.to, pz.po, fun dp tl' ys ms qs us H' b hdp htl wa wo => ?_⟩
          have s5 : ∀ b o, H1 b = some o → H' b = some o := fun c o e => b c o (s c o e) (ne_of_none e hx)
          have ok5 := same_okY ok s5
          have fr : ∀ c, upd (upd H1 dx (.own x)) x (.ins C dx []) c = none → W1 c = .sh := fun c e => ok.fresh (by
            cases e0 : H1 c with
            | none => rfl
            | some o => rw [s c o e0] at e; cases e)
          have g : GoE W1 H1 W1 H' := ⟨fun b o e _ _ => ⟨s5 b o e, rfl⟩, fun _ _ h => h, fun _ h => h⟩
          refine ⟨rfl, q _ W1 H' G1 ⟨ms, qs, us⟩ (hp _ ⟨wf_of wo pz, wo⟩) (m.thenE g ok5) ?_⟩
          exact ⟨wf_of wo pz, x, dx, dp, tl', ys, rfl, .inl ⟨toR_sh.mpr (ok.fresh hx), wa.ho⟩, .inl ⟨toR_sh.mpr (fr _ hdp), wa.hp⟩, ⟨toR_sh.mpr (fr _ htl), wa.ht⟩, pr_tiesY ok5 wa.ti⟩
end
end KK
end

section
set_option maxRecDepth 100000
set_option maxHeartbeats 4000000
/-! x in (a, b, ..) where equality is told by what is held -/
namespace L2
open PySem PySem.Spec PyProof.Rows
def rInDT (K : PySem.W.Frag) : R2 := fun x y H Q => ∃ d ds, Dp K H x d ∧ Dp K H y (.tuple ds) ∧ SeqAt.shaped d = true ∧ SeqAt.shaped (.list ds) = true ∧ Q (.bl (ds.any fun z => PyData.eqv z d)) H
end L2
end

section
set_option maxRecDepth 100000
set_option maxHeartbeats 4000000
/-! lists of ints, of texts: equality -/
namespace Y
open PySem PySem.Spec PyProof.Rows L2
section
variable {K : PySem.W.Frag}
end
end Y
end

section
set_option maxRecDepth 100000
set_option maxHeartbeats 4000000
/-! a op b op c op d -/
namespace L2
open PySem PySem.Spec PyProof.Rows
variable {X : Cx} {a b c d : Expr} {ta tb tc td : TE} {pos : Pos}
def tChain3 (r r' r'' : R2) (ta tb tc td : TE) : TE := fun σ H Q => ta σ H fun x H1 => tb σ H1 fun y H2 => r x y H2 fun z H3 => ∃ k, z = .bl k ∧
  (if k = true then tc σ H3 fun w H4 => r' y w H4 fun z2 H5 => ∃ k2, z2 = .bl k2 ∧ (if k2 = true then td σ H5 fun w2 H6 => r'' w w2 H6 Q else Q (.bl false) H5) else Q (.bl false) H3)
end L2
end

section
set_option maxRecDepth 100000
set_option maxHeartbeats 4000000
/-! x in o by the class's own __contains__; a chain of three comparisons of ints -/
namespace Y
open PySem PySem.Spec PyProof.Rows L2
section
variable {α β : Type} {X : Xw} {k : Bool} {G : Ct} {t : Ty α} {u : Ty β} {c : CT Bool} {K : PySem.W.Frag}
end
end Y
end

section
set_option maxRecDepth 100000
set_option maxHeartbeats 4000000
/-! own dicts of flat things -/
namespace Y
open PySem PySem.Spec PyProof.Rows L2
end Y
end

section
set_option maxRecDepth 100000
set_option maxHeartbeats 4000000
/-! len(o) by the class's own __len__; not xs as a value -/
namespace Y
open PySem PySem.Spec PyProof.Rows L2
section
variable {α β : Type} {X : Xw} {k : Bool} {G : Ct} {t : Ty α} {c : CT Int} {K : PySem.W.Frag}
end
end Y
end

section
set_option maxRecDepth 100000
set_option maxHeartbeats 4000000
/-! max of two; len of a pair -/
namespace Y
open PySem PySem.Spec PyProof.Rows L2
section
variable {α β : Type} {X : Xw} {k : Bool} {G : Ct} {t : Ty α} {u : Ty β} {K : PySem.W.Frag}
end
end Y
end

section
set_option maxRecDepth 100000
set_option maxHeartbeats 4000000
namespace KK
open PySem PySem.Spec PyProof.Rows L2 Y
abbrev yTruth : Y.CT Bool := ⟨false, .sh tBl, fun as P _ => ∃ a b, as = [.sh tBl a, .sh tBl b] ∧ ∀ os, P os (decide (a = b))⟩
structure SomeR (p : List Str × List (Str × Str) × List (Str × Int)) (g : Str → Int) : Prop where
  r : ∀ x, 0 ≤ g x ∧ g x ≤ 2
  t : ∀ e ∈ p.2.1, 2 ≤ g e.1 + g e.2
abbrev ySome (K : PySem.W.Frag) : Y.CT (List (Str × Int)) := ⟨true, .sh (tDk kS tInt), fun as P _ => ∃ p, as = [.sh tStm (), .sh (yParts K) p] ∧ PtsZ p ∧ ∀ g, SomeR p g → ∀ os, P os (atD p.1 g)⟩
abbrev yBoth : Y.CT (List (Str × Int)) := ⟨true, .sh (tDk kS tInt), fun as P _ => ∃ xs ys g h, as = [.sh (tDk kS tInt) (atD xs g), .sh (tDk kS tInt) (atD ys h)] ∧ ((xs ++ ys).Nodup ∧ xs.length ≤ 40 ∧ ys.length ≤ 40) ∧ ∀ os, P os (atD (xs ++ ys) fun x => if x ∈ xs then g x else h x)⟩
abbrev yPart (K : PySem.W.Frag) : Y.CT (List (Str × Int)) := ⟨true, .sh (tDk kS tInt), fun as P _ => ∃ ns xs g, as = [.sh (tDk kS tInt) (atD ns g), .sh (tTu K tStr) xs] ∧ (xs.Nodup ∧ xs.length ≤ 40 ∧ ∀ x ∈ xs, x ∈ ns) ∧ ∀ os, P os (atD xs g)⟩
theorem atD_keys (ns : List Str) (g : Str → Int) : (atD ns g).map (·.1) = ns := by
  unfold atD
  rw [List.map_map]
  exact List.map_id _
theorem atD_len (ns : List Str) (g : Str → Int) : (atD ns g).length = ns.length := List.length_map ..
section
variable {P : Program} {w : World} {K : PySem.W.Frag} {mg : Str → Option Value} {base : Heap}
end
end KK
end

section
set_option maxRecDepth 100000
set_option maxHeartbeats 4000000
namespace KK
open PySem PySem.Spec PyProof.Rows L2 Z
/-! what a call has made anew is the caller's own -/
section
variable {ρ α : Type} {F : Fx ρ} {G : Ct} {N B C : Ct → Prop} {t : Z.Ty α} {K : PySem.W.Frag}
end
end KK
end

section
set_option maxRecDepth 100000
set_option maxHeartbeats 4000000
namespace KK
open PySem PySem.Spec PyProof.Rows L2 Z
abbrev ctMany (K : PySem.W.Frag) : CT (List Str) := ⟨false, tLs K tStr, fun as P _ => ∃ n, as = [.sh tInt n] ∧ (0 ≤ n ∧ n ≤ 78) ∧ ∀ r, (r.Nodup ∧ (∀ x ∈ r, NameOk x) ∧ (r.length : Int) = n) → P r⟩
abbrev ctBlock (K : PySem.W.Frag) : CT (List Str × List (Str × Str) × List (Str × Int)) := ⟨true, tParts K, fun as P _ => ∃ ns n, as = [.sh (tLs K tStr) ns, .sh tInt n] ∧ (NsOk ns ∧ n ≤ 400) ∧ ∀ r, (PtsZ r ∧ r.1 = ns ∧ (r.2.1.length : Int) ≤ max n 0) → P r⟩
abbrev DueZ : Type := (Str × Str) ⊕ ((Str × Int) ⊕ (Str × (List Str × List (Str × Str) × List (Str × Int))))
/-- what two parts give, added -/
def dueZ (p q : List Str × List (Str × Str) × List (Str × Int)) (r : DueZ) : Prop :=
  (∃ x, r = .inl ("CommonPlace", x) ∧ x ∈ p.1 ∧ x ∈ q.1 ∧ ∀ y ∈ p.1, y ∈ q.1 → Own.ltS y x = false) ∨
  ((∀ x ∈ p.1, x ∉ q.1) ∧ ((40 < p.1.length + q.1.length ∧ r = .inr (.inl ("TooMany", 40))) ∨
    (p.1.length + q.1.length ≤ 40 ∧ ((400 < p.2.1.length + q.2.1.length ∧ r = .inr (.inl ("TooMany", 400))) ∨ (p.2.1.length + q.2.1.length ≤ 400 ∧ r = .inr (.inr ("web", (p.1 ++ q.1, p.2.1 ++ q.2.1, p.2.2 ++ q.2.2))))))))
abbrev ctLDue (K : PySem.W.Frag) : CT DueZ := ⟨true, tSum (tL2 K tStr tStr) (tSum (tL2 K tStr tInt) (tL2 K tStr (tParts K))), fun as P _ => ∃ p q, as = [.sh (tParts K) p, .sh (tParts K) q] ∧ (PtsZ p ∧ PtsZ q) ∧ ∀ r, dueZ p q r → P r⟩
def abcN : List Str := chars "abcdefghijklmnopqrstuvwxyz"
def allN : List Str := (chars "kbz").flatMap fun y => abcN.map fun x => x ++ y
section
variable {P : Program} {w : World} {K : PySem.W.Frag} {mg : Str → Option Value} {base : Heap}
end
end KK
end

section
set_option maxRecDepth 100000
set_option maxHeartbeats 4000000
namespace KK
open PySem PySem.Spec PyProof.Rows L2 Z
abbrev ctApart (K : PySem.W.Frag) : CT (List Str × List (Str × Str) × List (Str × Int)) := ⟨true, tParts K, fun as P _ => ∃ p lo hi, as = [.sh tStm (), .sh (tParts K) p, .sh tInt lo, .sh tInt hi] ∧ (PtsZ p ∧ 1 ≤ lo ∧ lo ≤ hi ∧ hi ≤ 9) ∧ ∀ r, (PtsZ r ∧ (r.1.length : Int) ≤ hi ∧ (p.1 ++ r.1).Nodup) → P r⟩
abbrev ctCommon (K : PySem.W.Frag) : CT (List Str × List (Str × Str) × List (Str × Int)) := ⟨true, tParts K, fun as P _ => ∃ p q, as = [.sh tStm (), .sh (tParts K) p, .sh (tParts K) q] ∧ (PtsZ p ∧ PtsZ q ∧ q.1.length ≤ 37) ∧ ∀ r, PtsZ r → P r⟩
/-- names told anew, one after another -/
structure Turn (p d : List Str × List (Str × Str) × List (Str × Int)) (i : Nat) (tn : List (Str × Str)) (ps : List (Str × Int)) : Prop where
  hk : tn.map (·.1) = d.1.take i
  us : (p.1 ++ tn.map (·.2)).Nodup
  ok : ∀ x ∈ tn.map (·.2), NameOk x
  pk : ps.map (·.1) = tn.map (·.2)
  po : ∀ e ∈ ps, 1 ≤ e.2 ∧ e.2 ≤ 10 ^ 30
abbrev TurnR (tn : List (Str × Str)) : Str × Str → List (Str × Str) → Prop := fun x l => ∃ a b, lookK tn x.1 = some a ∧ lookK tn x.2 = some b ∧ l = [(a, b)]
section
variable {P : Program} {w : World} {K : PySem.W.Frag} {mg : Str → Option Value} {base : Heap}
end
end KK
end

section
set_option maxRecDepth 100000
set_option maxHeartbeats 4000000
namespace Z
open PySem PySem.Spec PyProof.Rows L2 KK
section
variable {K : PySem.W.Frag} {C : Addr} {mg : Str → Option Value} {X : Xw} {G : Ct}
def TrT {α : Type} (t : Z.Ty α) (f : α → Bool) : Prop := ∀ W H v x, OKW W H → t.R W H v x → TruV K v H (f x)
end
end Z
namespace KK
open PySem PySem.Spec PyProof.Rows L2 Z
abbrev ctWebOf (K : PySem.W.Frag) (C : Addr) : CT WebZ := ⟨true, tWeb K C, fun as P _ => ∃ d us, as = [.sh (tDk kS tInt) d, .sh (tLs K (tT2 K tStr tStr)) us] ∧ (NsOk (d.map (·.1)) ∧ TsOk (d.map (·.1)) us ∧ PrOk (d.map (·.2))) ∧ ∀ r, (WfZ r ∧ WebOk (d.map (·.1)) (d.map (·.2)) us r.ms r.qs r.us) → P r⟩
abbrev ctAdd (K : PySem.W.Frag) (C CP CM : Addr) : CT WebZ := ⟨true, tWeb K C, fun as P XP => ∃ z y, as = [.sh (tWeb K C) z, .sh (tWeb K C) y] ∧ (WfZ z ∧ WfZ y) ∧
  (∀ x, x ∈ z.ms → x ∈ y.ms → (∀ w ∈ z.ms, w ∈ y.ms → Own.ltS w x = false) → XP ⟨CP, some [("place", .sh tStr x)]⟩) ∧
  ((∀ x ∈ z.ms, x ∉ y.ms) → 40 < z.ms.length + y.ms.length → XP ⟨CM, some [("limit", .sh tInt 40)]⟩) ∧
  ((∀ x ∈ z.ms, x ∉ y.ms) → z.ms.length + y.ms.length ≤ 40 → 400 < z.us.length + y.us.length → XP ⟨CM, some [("limit", .sh tInt 400)]⟩) ∧
  ∀ r, ((∀ x ∈ z.ms, x ∉ y.ms) ∧ z.ms.length + y.ms.length ≤ 40 ∧ z.us.length + y.us.length ≤ 400 ∧ WfZ r ∧ WebOk (z.ms ++ y.ms) (z.qs ++ y.qs) (z.us ++ y.us) r.ms r.qs r.us) → P r⟩
section
variable {P : Program} {w : World} {K : PySem.W.Frag} {mg : Str → Option Value} {base : Heap} {C CP CM fP fM : Addr} {eP eM : PySem.Err1.EP}
abbrev NWebadd : List Str := ["self", "other", "common", "place"]
end
end KK
end

section
set_option maxRecDepth 100000
set_option maxHeartbeats 4000000
namespace KK
open PySem PySem.Spec PyProof.Rows L2 Z
structure Cmn (q : List Str × List (Str × Str) × List (Str × Int)) (i : Nat) (ns : List Str) (ps : List (Str × Int)) : Prop where
  nd : ns.Nodup
  ok : ∀ x ∈ ns, NameOk x
  sub : ∀ x ∈ q.1, x ∈ ns
  ln : ns.length ≤ q.1.length + i
  lo : 1 ≤ ns.length
  pk : (ps.map (·.1)).Perm ns
  po : ∀ e ∈ ps, 1 ≤ e.2 ∧ e.2 ≤ 10 ^ 30
section
variable {P : Program} {w : World} {K : PySem.W.Frag} {mg : Str → Option Value} {base : Heap} {C : Addr}
end
end KK
end

section
set_option maxRecDepth 100000
set_option maxHeartbeats 4000000
namespace KK
open PySem PySem.Spec PyProof.Rows L2 Y
abbrev yPartsC (K : PySem.W.Frag) : Y.CT (List Str × List (Str × Str) × List (Str × Int)) := ⟨true, .sh (yParts K), fun as P _ => ∃ lo hi, as = [.sh tStm (), .sh tInt lo, .sh tInt hi] ∧ (1 ≤ lo ∧ lo ≤ hi ∧ hi ≤ 19) ∧ ∀ r, (PtsZ r ∧ (r.1.length : Int) ≤ hi) → ∀ os, P os r⟩
abbrev yApart (K : PySem.W.Frag) : Y.CT (List Str × List (Str × Str) × List (Str × Int)) := ⟨true, .sh (yParts K), fun as P _ => ∃ p lo hi, as = [.sh tStm (), .sh (yParts K) p, .sh tInt lo, .sh tInt hi] ∧ (PtsZ p ∧ 1 ≤ lo ∧ lo ≤ hi ∧ hi ≤ 9) ∧ ∀ r, (PtsZ r ∧ (r.1.length : Int) ≤ hi ∧ (p.1 ++ r.1).Nodup) → ∀ os, P os r⟩
abbrev yAdd (K : PySem.W.Frag) (C : Addr) : Y.CT WebZ := ⟨true, .sh (yWeb K C), fun as P _ => ∃ z y, as = [.sh (yWeb K C) z, .sh (yWeb K C) y] ∧ (WfZ z ∧ WfZ y ∧ (∀ x ∈ z.ms, x ∉ y.ms) ∧ z.ms.length + y.ms.length ≤ 40 ∧ z.us.length + y.us.length ≤ 400) ∧ ∀ r, (WfZ r ∧ WebOk (z.ms ++ y.ms) (z.qs ++ y.qs) (z.us ++ y.us) r.ms r.qs r.us) → ∀ os, P os r⟩
section
variable {P : Program} {w : World} {K : PySem.W.Frag} {mg : Str → Option Value} {base : Heap} {C CP CM : Addr}
end
/-! ### joined webs -/
def costZ (z : WebZ) (g : Str → Int) : Int := (z.ms.map fun x => prW z x * g x).sum
structure Ansf (z : WebZ) (g : Str → Int) : Prop where
  r : ∀ x ∈ z.ms, 0 ≤ g x ∧ g x ≤ 2
  t : ∀ e ∈ z.us, 2 ≤ g e.1 + g e.2
theorem Ansf.ansR {z : WebZ} {g : Str → Int} (h : Ansf z g) : AnsR z.ms (prW z) z.us (costZ z g) g := ⟨h.r, h.t, rfl⟩
theorem opt_le {z : WebZ} {v : Int} {g : Str → Int} (wf : WfZ z) (o : Opt z v) (h : Ansf z g) : v ≤ costZ z g := by
  obtain ⟨_, ys, t⟩ := o
  exact dual h.ansR t wf.p.no.nd fun e he => ⟨(wf.p.to.ok e he).a, (wf.p.to.ok e he).b⟩
structure Join (z y J : WebZ) : Prop where
  wf : WfZ J
  nd : (z.ms ++ y.ms).Nodup
  pm : J.ms.Perm (z.ms ++ y.ms)
  pu : J.us.Perm (z.us ++ y.us)
  pz : ∀ x ∈ z.ms, prW J x = prW z x
  py : ∀ x ∈ y.ms, prW J x = prW y x
section
variable {z y J : WebZ}
end
end KK
end

section
set_option maxRecDepth 100000
set_option maxHeartbeats 4000000
namespace KK
open PySem PySem.Spec PyProof.Rows L2 Y
section
variable {z z2 : WebZ} {p p2 : List Str × List (Str × Str) × List (Str × Int)}
end
end KK
end

section
set_option maxRecDepth 100000
set_option maxHeartbeats 4000000
namespace KK
open PySem PySem.Spec PyProof.Rows L2 Y
/-! all answers of small parts, listed -/
abbrev yBeside (K : PySem.W.Frag) : Y.CT (List (Str × List Str)) := ⟨false, .sh (tDk kS (tLs K tStr)), fun as P _ => ∃ ns ts, as = [.sh (tTu K tStr) ns, .sh (tLs K (tPr K)) ts] ∧ (NsOk ns ∧ TsOk ns ts) ∧ ∀ os, P os (ns.map fun x => (x, bes ts x))⟩
section
variable {P : Program} {w : World} {K : PySem.W.Frag} {mg : Str → Option Value} {base : Heap}
end
/-! the lists -/
abbrev PartsZ3 := List Str × List (Str × Str) × List (Str × Int)
def rowAt (row : List Int) (k : Int) : Int := row.getD k.toNat 0
def nmAt (p : PartsZ3) (k : Int) : Str := p.1.getD k.toNat ""
def lowOf (nd : List Int) (row : List Int) : Int := nd.foldl (fun l k => if 2 - rowAt row k > l then 2 - rowAt row k else l) 0
def growL (nd : List Int) (fs : List (List Int)) : List (List Int) := fs.flatMap fun row => (rangeZ (lowOf nd row) 3).map fun v => row ++ [v]
def needL (p : PartsZ3) (i : Nat) : List Int := (rangeZ 0 i).filter fun k => decide (nmAt p k ∈ bes p.2.1 (nmAt p i))
def foundL (p : PartsZ3) : Nat → List (List Int)
  | 0 => [[]]
  | i + 1 => growL (needL p i) (foundL p i)
structure OkI (p : PartsZ3) (i : Nat) (g : Str → Int) : Prop where
  r : ∀ x ∈ p.1.take i, 0 ≤ g x ∧ g x ≤ 2
  t : ∀ e ∈ p.2.1, e.1 ∈ p.1.take i → e.2 ∈ p.1.take i → 2 ≤ g e.1 + g e.2
/-- all answers -/
structure OkA (p : PartsZ3) (g : Str → Int) : Prop where
  r : ∀ x ∈ p.1, 0 ≤ g x ∧ g x ≤ 2
  t : ∀ e ∈ p.2.1, 2 ≤ g e.1 + g e.2
def ansL (p : PartsZ3) : List (List (Str × Int)) := (foundL p p.1.length).map fun row => p.1.zip row
end KK
end

section
set_option maxRecDepth 100000
set_option maxHeartbeats 4000000
namespace KK
open PySem PySem.Spec PyProof.Rows L2 Y
/-! all least cuts: sets that no rest leaves -/
section
variable {ns : List Str} {left right : List (Str × Int)} {rows : List Row} {hs rs0 rs lv : List Int} {ls : List (List Int)} {tot : Int}
end
section
variable {ns : List Str} {pr : List (Str × Int)} {us : List (Str × Str)} {hs rs0 rs lv : List Int} {ls : List (List Int)} {tot : Int}
/-- the values of a set -/
def valS (ns : List Str) (S : Int → Bool) (x : Str) : Int := (if S (node ns (x, false)) = true then 0 else 1) + (if S (node ns (x, true)) = true then 1 else 0)
/-- the set of an answer -/
def setOf (ns : List Str) (g : Str → Int) (u : Int) : Bool := decide (u = 2 * (ns.length : Int) ∨ ∃ x ∈ ns, (u = node ns (x, false) ∧ g x ≤ 1) ∨ (u = node ns (x, true) ∧ 1 ≤ g x))
end
end KK
end

section
set_option maxRecDepth 100000
set_option maxHeartbeats 4000000
namespace KK
open PySem PySem.Spec PyProof.Rows L2 Y
def starts1 (ns : List Str) (x : Str) (i : Int) : List Int := if i < 2 then [2 * (ns.length : Int)] ++ [node ns (x, false)] else [2 * (ns.length : Int)]
def startsOf (ns : List Str) (x : Str) (i : Int) : List Int := if 0 < i then starts1 ns x i ++ [node ns (x, true)] else starts1 ns x i
/-- a best answer of cost v -/
abbrev BestA (z : WebZ) (v : Int) (g : Str → Int) : Prop := AnsR z.ms (prW z) z.us v g
inductive AwR (z : WebZ) (v : Int) (x : Str) (i : Int) : Option (List (Str × Int)) → Prop where
  | no : (∀ g, BestA z v g → g x ≠ i) → AwR z v x i none
  | yes (g : Str → Int) : BestA z v g → g x = i → AwR z v x i (some (atD z.ms g))
abbrev ctAw (K : PySem.W.Frag) (CS C : Addr) : Y.CT (Option (List (Str × Int))) := ⟨false, .sh (tOpt (tDk kS tInt)), fun as P _ => ∃ (z : WebZ) (d : SD) (x : Str) (i : Int), as = [.sh (tSides K CS C d.ns d.hs d.rs d.ls d.arcs d.tot) (), .sh tStr x, .sh tInt i] ∧ (WfZ z ∧ SofR z d ∧ x ∈ z.ms ∧ 0 ≤ i ∧ i ≤ 2) ∧ ∀ o, AwR z d.tot x i o → ∀ os, P os o⟩
abbrev yAw (K : PySem.W.Frag) (CS C : Addr) : Y.CT (Option (List (Str × Int))) := ⟨false, .sh (tOpt (tDk kS tInt)), fun as P _ => ∃ (z : WebZ) (d : SD) (x : Str) (i : Int), as = [.sh (tSd K CS C) d, .sh tStr x, .sh tInt i] ∧ (WfZ z ∧ SofR z d ∧ x ∈ z.ms ∧ 0 ≤ i ∧ i ≤ 2) ∧ ∀ o, AwR z d.tot x i o → ∀ os, P os o⟩
section
variable {ns : List Str} {x : Str} {i : Int}
end
section
variable {P : Program} {w : World} {K : PySem.W.Frag} {mg : Str → Option Value} {base : Heap} {C CS : Addr}
abbrev NYSidesanswerwith : List Str := ["self", "name", "value", "starts", "reached", "x"]
end
end KK
end

section
set_option maxRecDepth 100000
set_option maxHeartbeats 4000000
namespace KK
open PySem PySem.Spec PyProof.Rows L2 Y
/-- some best answer gives x the value i -/
noncomputable def canB (z : WebZ) (v : Int) (x : Str) (i : Int) : Bool := @decide (∃ g, BestA z v g ∧ g x = i) (Classical.propDecidable _)
/-- the values of a place -/
noncomputable def possL (z : WebZ) (v : Int) (x : Str) : List Int := [0, 1, 2].filter (canB z v x)
noncomputable def possD (z : WebZ) (v : Int) : List (Str × List Int) := z.ms.map fun x => (x, possL z v x)
noncomputable def kerL (z : WebZ) (v : Int) : List Str := z.ms.filter fun x => decide (possL z v x = [1])
noncomputable def fixD (z : WebZ) (v : Int) : List (Str × Int) := (z.ms.filter fun x => decide (possL z v x ∈ [[0], [2]])).map fun x => (x, (possL z v x).headD 0)
noncomputable def looL (z : WebZ) (v : Int) : List Str := z.ms.filter fun x => canB z v x 0 && canB z v x 2
abbrev yPoss (K : PySem.W.Frag) (CS C : Addr) : Y.CT (List (Str × List Int)) := ⟨false, .ow (oD kS (tLs K tInt)), fun as P _ => ∃ (z : WebZ) (d : SD), as = [.sh (tSd K CS C) d] ∧ (WfZ z ∧ SofR z d) ∧ ∀ os, P os (possD z d.tot)⟩
abbrev yHalves (K : PySem.W.Frag) (CS C : Addr) : Y.CT (List Str) := ⟨false, .ow (oL K tStr), fun as P _ => ∃ (z : WebZ) (d : SD), as = [.sh (tSd K CS C) d] ∧ (WfZ z ∧ SofR z d) ∧ ∀ os, P os (kerL z d.tot)⟩
abbrev yFixM (K : PySem.W.Frag) (CS C : Addr) : Y.CT (List (Str × Int)) := ⟨false, .ow (oD kS tInt), fun as P _ => ∃ (z : WebZ) (d : SD), as = [.sh (tSd K CS C) d] ∧ (WfZ z ∧ SofR z d) ∧ ∀ os, P os (fixD z d.tot)⟩
abbrev yKernel (K : PySem.W.Frag) (CW : Addr) : Y.CT (List Str) := ⟨true, .ow (oL K tStr), fun as P _ => ∃ z, as = [.sh (yWeb K CW) z] ∧ WfZ z ∧ ∀ v, Opt z v → ∀ os, P os (kerL z v)⟩
abbrev yFixed (K : PySem.W.Frag) (CW : Addr) : Y.CT (List (Str × Int)) := ⟨true, .ow (oD kS tInt), fun as P _ => ∃ z, as = [.sh (yWeb K CW) z] ∧ WfZ z ∧ ∀ v, Opt z v → ∀ os, P os (fixD z v)⟩
abbrev yLoose (K : PySem.W.Frag) (CW : Addr) : Y.CT (List Str) := ⟨true, .ow (oL K tStr), fun as P _ => ∃ z, as = [.sh (yWeb K CW) z] ∧ WfZ z ∧ ∀ v, Opt z v → ∀ os, P os (looL z v)⟩
section
variable {P : Program} {w : World} {K : PySem.W.Frag} {mg : Str → Option Value} {base : Heap} {C CS CW : Addr}
end
end KK
end

section
set_option maxRecDepth 100000
set_option maxHeartbeats 4000000
namespace KK
open PySem PySem.Spec PyProof.Rows L2 Y
abbrev yHas (K : PySem.W.Frag) (CW : Addr) : Y.CT Bool := ⟨false, .sh tBl, fun as P _ => ∃ z x, as = [.sh (yWeb K CW) z, .sh tStr x] ∧ WfZ z ∧ ∀ os, P os (decide (x ∈ z.ms))⟩
abbrev yCan (K : PySem.W.Frag) (CW : Addr) : Y.CT Bool := ⟨true, .sh tBl, fun as P _ => ∃ z x i, as = [.sh (yWeb K CW) z, .sh tStr x, .sh tInt i] ∧ (WfZ z ∧ x ∈ z.ms ∧ 0 ≤ i ∧ i ≤ 2) ∧ ∀ v, Opt z v → ∀ os, P os (canB z v x i)⟩
section
variable {P : Program} {w : World} {K : PySem.W.Frag} {mg : Str → Option Value} {base : Heap} {C CS CW : Addr}
abbrev NYWebcontains : List Str := ["self", "x"]
end
end KK
end

section
set_option maxRecDepth 100000
set_option maxHeartbeats 4000000
namespace KK
open PySem PySem.Spec PyProof.Rows L2 Y
/-! the values that a place has in best answers are a stretch -/
section
variable {z : WebZ} {v : Int}
def joinV (g1 g2 : Str → Int) (x : Str) : Int := (if g1 x ≤ 1 ∨ g2 x ≤ 1 then 0 else 1) + (if 1 ≤ g1 x ∨ 1 ≤ g2 x then 1 else 0)
def meetV (g1 g2 : Str → Int) (x : Str) : Int := (if g1 x ≤ 1 ∧ g2 x ≤ 1 then 0 else 1) + (if 1 ≤ g1 x ∧ 1 ≤ g2 x then 1 else 0)
/-- least, without a witness in prices -/
def LowV (z : WebZ) (v : Int) : Prop := (∃ g, BestA z v g) ∧ ∀ h, Ansf z h → v ≤ costZ z h
end
/-! a price moved by one, all prices thrice -/
section
variable {z z3 : WebZ} {v w : Int}
end
end KK
end

section
set_option maxRecDepth 100000
set_option maxHeartbeats 4000000
namespace KK
open PySem PySem.Spec PyProof.Rows L2 Y
/-! merged, merge, least -/
def mrgV (g1 g2 : Str → Int) (x : Str) : Int := if g1 x = 1 then g2 x else g1 x
/-- just the places of the kernel are half -/
structure LeastR (z : WebZ) (v : Int) (g : Str → Int) : Prop where
  a : BestA z v g
  k : ∀ x ∈ z.ms, g x = 1 ↔ x ∈ kerL z v
abbrev yMerged : Y.CT (List (Str × Int)) := ⟨false, .ow (oD kS tInt), fun as P _ => ∃ ns ms g1 g2, as = [.sh (tDk kS tInt) (atD ns g1), .sh (tDk kS tInt) (atD ms g2)] ∧ (ns.Nodup ∧ ns.length ≤ 40 ∧ ∀ x ∈ ns, x ∈ ms) ∧ ∀ os, P os (atD ns (mrgV g1 g2))⟩
abbrev ctLeastM (K : PySem.W.Frag) (CS C : Addr) : Y.CT (List (Str × Int)) := ⟨false, .ow (oD kS tInt), fun as P _ => ∃ (z : WebZ) (d : SD), as = [.sh (tSd K CS C) d] ∧ (WfZ z ∧ SofR z d) ∧ ∀ g, LeastR z d.tot g → ∀ os, P os (atD z.ms g)⟩
abbrev yLeast (K : PySem.W.Frag) (CW : Addr) : Y.CT (List (Str × Int)) := ⟨true, .ow (oD kS tInt), fun as P _ => ∃ z, as = [.sh (yWeb K CW) z] ∧ WfZ z ∧ ∀ v g, Opt z v → LeastR z v g → ∀ os, P os (atD z.ms g)⟩
abbrev yMerge (K : PySem.W.Frag) (CW : Addr) : Y.CT (List (Str × Int)) := ⟨true, .ow (oD kS tInt), fun as P _ => ∃ z v ns ms g1 g2, as = [.sh (yWeb K CW) z, .sh (tDk kS tInt) (atD ns g1), .sh (tDk kS tInt) (atD ms g2)] ∧ (WfZ z ∧ Opt z v ∧ ns.Perm z.ms ∧ ms.Perm z.ms ∧ BestA z v g1 ∧ BestA z v g2) ∧ ∀ os, P os (atD ns (mrgV g1 g2))⟩
section
variable {P : Program} {w : World} {K : PySem.W.Frag} {mg : Str → Option Value} {base : Heap} {C CS CW : Addr}
abbrev NYmerged : List Str := ["a", "b", "name"]
abbrev NYSidesleast : List Str := ["self", "x", "name", "value", "other"]
end
end KK
end

section
set_option maxRecDepth 100000
set_option maxHeartbeats 4000000
namespace KK
open PySem PySem.Spec PyProof.Rows L2 Y
abbrev yLaw (K : PySem.W.Frag) : Y.CT Bool := ⟨true, .sh tBl, fun as P _ => ∃ xs, as = [.sh (tScr K) xs] ∧ xs.length ≤ 1000 ∧ ∀ os, P os true⟩
theorem spY_law {K : PySem.W.Frag} {H : Hp} {a : Addr} {ns : List Int} (hl : ns.length ≤ 1000) (hS : SqL K H a (ns.map V.int)) : Y.spZ (yLaw K) [.ref a] H (fun v _ => v = .bl true) fun _ _ _ => False := by
  have fin : ∀ W : Y.Wd, OKW W H → (∀ b, W b ≠ .lk) → (Y.tScr K).R W H (.ref a) ns → Y.spZ (yLaw K) [.ref a] H (fun v _ => v = .bl true) fun _ _ _ => False := fun W ok nl r =>
    ⟨W, [.sh (tScr K) ns], fun _ r => r = true, fun _ _ => False, ok, fun _ => nl, ⟨rfl, fun k v s h1 h2 => by
      cases k with
      | zero => cases h1; cases h2; exact r
      | succ k => cases h1⟩, ⟨ns, rfl, hl, fun _ => rfl⟩, fun v W' H' os x p _ _ _ r => (by rw [p] at r; exact r), fun e d W' H' os p => p.elim⟩
  have sh : OKW (fun _ => .sh) H := ⟨fun b φ h => (by cases h), fun b h => absurd rfl h, fun b p od u h => (by cases h), fun b h => (by cases h), fun b od u h => (by cases h), fun _ _ _ => rfl⟩
  rcases hS with (h | ⟨od, hA⟩) | h
  · exact fin _ sh (fun b h => by cases h) ⟨a, rfl, .inl (.inl ⟨rfl, h⟩)⟩
  · have hW : ∀ b, (if b = a then Md.fo else Md.sh) ≠ .sh → b = a := fun b h => by
      by_cases e : b = a
      · exact e
      · rw [if_neg e] at h; exact absurd rfl h
    refine fin (fun b => if b = a then .fo else .sh) ⟨fun b φ h => ?_, fun b h => ?_, fun b p od' u h => ?_, fun b h => ?_, fun b od' u h e => ?_, fun b vs e => ?_⟩ (fun b h => ?_) ⟨a, rfl, .inl (.inr ⟨.inr (if_pos rfl), od, hA⟩)⟩
    · have h : (if b = a then Md.fo else Md.sh) = Md.st φ := h
      split at h <;> cases h
    · rw [hW b h]; exact ⟨_, hA⟩
    · have h : (if b = a then Md.fo else Md.sh) = Md.ow p := h
      split at h <;> cases h
    · have h : (if b = a then Md.fo else Md.sh) = Md.lk := h
      split at h <;> cases h
    · have eb : b = a := hW b (by rw [show (if b = a then Md.fo else Md.sh) = Md.fo from h]; exact fun z => nomatch z)
      rw [eb, hA] at e
      cases e
      exact ⟨_, rfl⟩
    · have n : b ≠ a := fun z => by rw [z, hA] at e; cases e
      show (if b = a then Md.fo else Md.sh) = Md.sh
      rw [if_neg n]
    · have h : (if b = a then Md.fo else Md.sh) = Md.lk := h
      split at h <;> cases h
  · exact fin _ sh (fun b h => by cases h) ⟨a, rfl, .inr h⟩
end KK
end

section
set_option maxRecDepth 100000
set_option maxHeartbeats 4000000
namespace KK
open PySem PySem.Spec PyProof.Rows L2 Y
end KK
end

section
set_option maxRecDepth 100000
set_option maxHeartbeats 4000000
namespace KK
open PySem PySem.Spec PyProof.Rows L2 Y
abbrev yAnswers (K : PySem.W.Frag) : Y.CT (List (List (Str × Int))) := ⟨true, .sh (tLs K (tDk kS tInt)), fun as P _ => ∃ p, as = [.sh (yParts K) p] ∧ (PtsZ p ∧ p.1.length ≤ 6) ∧ ∀ os, P os (ansL p)⟩
section
variable {P : Program} {w : World} {K : PySem.W.Frag} {mg : Str → Option Value} {base : Heap}
end
end KK
end

section
set_option maxRecDepth 100000
set_option maxHeartbeats 4000000
namespace KK
open PySem PySem.Spec PyProof.Rows L2 Y
def spentD (p : PartsZ3) (d : List (Str × Int)) : Int := (p.1.map fun x => gD p.2.2 x * gD d x).sum
section
variable {z : WebZ} {p : PartsZ3} {g : Str → Int} {v : Int}
/-- the best answers, listed -/
def BestsR (z : WebZ) (p : PartsZ3) (v : Int) (ds : List (List (Str × Int))) : Prop := (∀ d, d ∈ ds ↔ ∃ g, BestA z v g ∧ d = atD p.1 g) ∧ ds.length ≤ 729 ∧ ds.Nodup
open Classical in
/-- the kernel by all answers -/
noncomputable def kerN (z : WebZ) (v : Int) : List Str := z.ms.filter fun x => decide (∀ g, BestA z v g → g x = 1)
open Classical in
end
abbrev yBests (K : PySem.W.Frag) : Y.CT (List (List (Str × Int))) := ⟨true, .sh (tLs K (tDk kS tInt)), fun as P _ => ∃ p z v, as = [.sh (yParts K) p] ∧ (Mat z p ∧ LowV z v ∧ p.1.length ≤ 6) ∧ ∀ ds, BestsR z p v ds → ∀ os, P os ds⟩
abbrev yLKernel (K : PySem.W.Frag) : Y.CT (List Str) := ⟨true, .sh (tLs K tStr), fun as P _ => ∃ p z v, as = [.sh (yParts K) p] ∧ (Mat z p ∧ LowV z v ∧ p.1.length ≤ 6) ∧ ∀ os, P os (kerN z v)⟩
abbrev yAsked (K : PySem.W.Frag) (CW : Addr) : Y.CT Bool := ⟨true, .sh tBl, fun as P _ => ∃ z p, as = [.sh (yWeb K CW) z, .sh (yParts K) p] ∧ (Mat z p ∧ p.1.length ≤ 6) ∧ ∀ os, P os true⟩
section
variable {P : Program} {w : World} {K : PySem.W.Frag} {mg : Str → Option Value} {base : Heap} {CW : Addr}
end
end KK
end

section
set_option maxRecDepth 100000
set_option maxHeartbeats 4000000
namespace KK
open PySem PySem.Spec PyProof.Rows L2 Y
/-! a web without its kernel, and the kernel alone -/
structure PartW (z : WebZ) (ns : List Str) (r : WebZ) : Prop where
  wf : WfZ r
  pm : r.ms.Perm ns
  pu : r.us.Perm (z.us.filter fun e => decide (e.1 ∈ ns) && decide (e.2 ∈ ns))
  pr : ∀ x ∈ ns, prW r x = prW z x
section
variable {z : WebZ} {v : Int} {g : Str → Int}
end
end KK
end

section
set_option maxRecDepth 100000
set_option maxHeartbeats 4000000
namespace KK
open PySem PySem.Spec PyProof.Rows L2 Z
abbrev ctPartZ (K : PySem.W.Frag) (C : Addr) : CT WebZ := ⟨true, tWeb K C, fun as P _ => ∃ z ns, as = [.sh (tWeb K C) z, .sh (tLs K tStr) ns] ∧ (ns ≠ [] ∧ (∀ s ∈ ns, s ∈ z.ms) ∧ ns.length ≤ 1000) ∧ ∀ r, (WfZ r ∧ WebOk (firsts ns) ((firsts ns).map (prF z.ms z.qs)) (z.us.filter (within (firsts ns))) r.ms r.qs r.us) → P r⟩
section
variable {P : Program} {w : World} {K : PySem.W.Frag} {mg : Str → Option Value} {base : Heap} {C : Addr}
end
end KK
end

section
set_option maxRecDepth 100000
set_option maxHeartbeats 4000000
namespace KK
open PySem PySem.Spec PyProof.Rows L2 Y
abbrev yWPart (K : PySem.W.Frag) (CW : Addr) : Y.CT WebZ := ⟨true, .sh (yWeb K CW), fun as P _ => ∃ z ns, as = [.sh (yWeb K CW) z, .sh (tLs K tStr) ns] ∧ (WfZ z ∧ ns ≠ [] ∧ ns.Nodup ∧ (∀ s ∈ ns, s ∈ z.ms) ∧ ns.length ≤ 1000) ∧ ∀ r, PartW z ns r → ∀ os, P os r⟩
abbrev yInside (K : PySem.W.Frag) (CW : Addr) : Y.CT WebZ := ⟨true, .sh (yWeb K CW), fun as P _ => ∃ z ns, as = [.sh (yWeb K CW) z, .sh (tLs K tStr) ns] ∧ (WfZ z ∧ ns ≠ [] ∧ ns.Nodup ∧ ∀ s ∈ ns, s ∈ z.ms) ∧ ∀ r, PartW z ns r → ∀ os, P os r⟩
abbrev yLenW (K : PySem.W.Frag) (CW : Addr) : Y.CT Int := ⟨true, .sh tInt, fun as P _ => ∃ z, as = [.sh (yWeb K CW) z] ∧ WfZ z ∧ ∀ os, P os (z.ms.length : Int)⟩
abbrev yAllHalf (K : PySem.W.Frag) (CW : Addr) : Y.CT Bool := ⟨true, .sh tBl, fun as P _ => ∃ z, as = [.sh (yWeb K CW) z] ∧ WfZ z ∧ ∀ v, Opt z v → ∀ os, P os (decide (((kerL z v).length : Int) = z.ms.length))⟩
abbrev yWhole (K : PySem.W.Frag) (CW : Addr) : Y.CT Bool := ⟨true, .sh tBl, fun as P _ => ∃ z, as = [.sh (yWeb K CW) z] ∧ WfZ z ∧ ∀ v, Opt z v → ∀ os, P os (kerL z v).isEmpty⟩
section
variable {P : Program} {w : World} {K : PySem.W.Frag} {mg : Str → Option Value} {base : Heap} {C CS CW : Addr}
abbrev NYWeblen : List Str := ["self"]
end
end KK
end

section
set_option maxRecDepth 100000
set_option maxHeartbeats 4000000
/-! dicts that hold the same, to be read: != -/
namespace Own
open PySem PySem.Spec PyProof.Rows L2
def rNeDS : R2 := fun x y H Q => ∃ a b ks ls, x = .ref a ∧ y = .ref b ∧ Rd H a (.dK ks) ∧ Rd H b (.dK ls) ∧ ks.length = ls.length ∧ (∀ p ∈ ks, valV ls p.1 = some p.2 ∧ sameB p.2 = true) ∧ Q (.bl false) H

end Own
end

section
set_option maxRecDepth 100000
set_option maxHeartbeats 4000000
/-! dicts alike -/
namespace Y
open PySem PySem.Spec PyProof.Rows L2
section
variable {K : PySem.W.Frag} {κ : Type} [DecidableEq κ] {ke : Ky κ}
/-- the one holds what the other holds -/
def LikeD (xs ys : List (κ × Int)) : Prop := xs.length = ys.length ∧ ∀ p ∈ xs, lookK ys p.1 = some p.2
end
end Y
end

section
set_option maxRecDepth 100000
set_option maxHeartbeats 4000000
/-! a pair whose second is one's own; a thing of one's own or None -/
namespace Y
open PySem PySem.Spec PyProof.Rows L2
section
variable {α γ : Type}
def oT2 (K : PySem.W.Frag) (t : Ty α) (O : OT γ) : OT (α × γ) where
  R p W H v x := ∃ a v1 v2, v = .ref a ∧ SqTW K W H a [v1, v2] ∧ t.R W H v1 x.1 ∧ O.R p W H v2 x.2
  sv := tT2 K t O.sv
  mv := by
    rintro p p' W W' H H' v x ⟨a, v1, v2, e, sq, r1, r2⟩ kk m
    exact ⟨a, v1, v2, e, sq.mv m, t.go r1 m, O.mv r2 kk m⟩
  fz := by
    rintro p W W' H H' v x ⟨a, v1, v2, e, sq, r1, r2⟩ kk m
    exact ⟨a, v1, v2, e, sq.mv m, t.go r1 m, O.fz r2 kk m⟩
def oOpt (O : OT γ) : OT (Option γ) where
  R p W H v x := match x with
    | none => v = .non
    | some y => O.R p W H v y
  sv := tOpt O.sv
  mv := by
    rintro p p' W W' H H' v (_ | y) r kk m
    · exact r
    · exact O.mv (x := y) r kk m
  fz := by
    rintro p W W' H H' v (_ | y) r kk m
    · exact r
    · exact O.fz (x := y) r kk m
variable {X : Xw} {k : Bool} {G : Ct} {K : PySem.W.Frag} {t : Ty α}
end
end Y
end

section
set_option maxRecDepth 100000
set_option maxHeartbeats 4000000
/-! an own dict that a list holds too -/
namespace Y
open PySem PySem.Spec PyProof.Rows L2
/-- an own dict, its address told -/
def oDA : OT (Addr × List (Str × Int)) where
  R p W H v x := v = .ref x.1 ∧ (oD kS tInt).R p W H v x.2
  sv := ⟨fun W H v x => v = .ref x.1 ∧ (tDk kS tInt).R W H v x.2, fun r m => ⟨r.1, (tDk kS tInt).go r.2 m⟩⟩
  mv := fun r kk m => ⟨r.1, (oD kS tInt).mv r.2 kk m⟩
  fz := fun r kk m => ⟨r.1, (oD kS tInt).fz r.2 kk m⟩
section
variable {ρ : Type} {X : Xw} {k : Bool} {G : Ct} {F : Fx ρ} {N B C : Ct → Prop} {K : PySem.W.Frag}
/-- a list of three whose third is told by its address -/
def tRing (K : PySem.W.Frag) : Ty (List Str × List (Str × Str) × Addr) := ⟨fun W H v x => ∃ a v1 v2, v = .ref a ∧ SqW K W H a [v1, v2, .ref x.2.2] ∧ (tTu K tStr).R W H v1 x.1 ∧ (tLs K (tT2 K tStr tStr)).R W H v2 x.2.1, fun r m => by
  obtain ⟨a, v1, v2, e, sq, r1, r2⟩ := r
  exact ⟨a, v1, v2, e, sq.mv m, (tTu K tStr).go r1 m, (tLs K (tT2 K tStr tStr)).go r2 m⟩⟩
end
end Y
end

section
set_option maxRecDepth 100000
set_option maxHeartbeats 4000000
namespace KK
open PySem PySem.Spec PyProof.Rows L2 Y
/-! rings -/
theorem sum_pairs (f : Nat → Int) : ∀ m, ((List.range (2 * m)).map f).sum = ((List.range m).map fun i => f (2 * i) + f (2 * i + 1)).sum
  | 0 => rfl
  | m + 1 => by
    rw [show 2 * (m + 1) = 2 * m + 1 + 1 by omega, List.range_succ, List.range_succ, List.range_succ (n := m), List.map_append, List.map_append, List.map_append, List.sum_append, List.sum_append, List.sum_append, sum_pairs f m]
    simp
    omega
theorem map_range {α : Type} {ns : List Str} (g : Str → α) (f : Nat → α) (h : ∀ k x, ns[k]? = some x → g x = f k) : ns.map g = (List.range ns.length).map f := by
  refine List.ext_getElem? fun k => ?_
  rw [List.getElem?_map, List.getElem?_map]
  by_cases hk : k < ns.length
  · have e : ns[k]? = some ns[k] := List.getElem?_eq_getElem hk
    rw [e, List.getElem?_range hk]
    show some (g ns[k]) = some (f k)
    rw [h k _ e]
  · rw [List.getElem?_eq_none (by omega), List.getElem?_eq_none (by rw [List.length_range]; omega)]
    rfl
def prv (n k : Nat) : Nat := if k = 0 then n - 1 else k - 1
def nmR (ns : List Str) (k : Nat) : Str := (ns[k]?).getD ("" : Str)
theorem nmR_at {ns : List Str} {k : Nat} (h : k < ns.length) : ns[k]? = some (nmR ns k) := by
  unfold nmR
  rw [List.getElem?_eq_getElem h]
  rfl
def ringT (ns : List Str) : List (Str × Str) := (List.range ns.length).map fun k => (nmR ns (prv ns.length k), nmR ns k)
theorem nmR_inj {ns : List Str} (nd : ns.Nodup) {i j : Nat} (hi : i < ns.length) (hj : j < ns.length) (e : nmR ns i = nmR ns j) : i = j := by
  have h1 := nmR_at hi
  have h2 := nmR_at hj
  rw [e, ← h2] at h1
  exact (List.getElem?_inj hi nd).mp (by rw [nmR_at hi, nmR_at hj, e])
theorem ring_ts {ns : List Str} (nd : ns.Nodup) (h3 : 3 ≤ ns.length) (h40 : ns.length ≤ 40) : TsOk ns (ringT ns) := by
  have pl : ∀ k, k < ns.length → prv ns.length k < ns.length := fun k hk => by unfold prv; split <;> omega
  refine ⟨fun e he => ?_, ?_, ?_⟩
  · obtain ⟨k, hk, rfl⟩ := List.mem_map.mp he
    have hk := List.mem_range.mp hk
    refine ⟨List.mem_of_getElem? (nmR_at (pl k hk)), List.mem_of_getElem? (nmR_at hk), fun e => ?_⟩
    have := nmR_inj nd (pl k hk) hk e
    unfold prv at this
    split at this <;> omega
  · unfold ringT
    rw [List.map_map]
    refine List.pairwise_map.mpr (List.Pairwise.imp_of_mem (fun {i j} hi hj ne e => ?_) (List.nodup_range (n := ns.length)))
    have hi := List.mem_range.mp hi
    have hj := List.mem_range.mp hj
    have e : ordP (nmR ns (prv ns.length i), nmR ns i) = ordP (nmR ns (prv ns.length j), nmR ns j) := e
    have inj := fun {a b : Nat} (ha : a < ns.length) (hb : b < ns.length) => nmR_inj nd ha hb
    rcases ordP_cases (nmR ns (prv ns.length i), nmR ns i) with c | c <;> rcases ordP_cases (nmR ns (prv ns.length j), nmR ns j) with d | d <;> rw [c, d] at e
    · exact ne (inj hi hj (congrArg Prod.snd e))
    · have h1 := inj (pl i hi) hj (congrArg Prod.fst e)
      have h2 := inj hi (pl j hj) (congrArg Prod.snd e)
      unfold prv at h1 h2
      split at h1 <;> split at h2 <;> omega
    · have h1 := inj hi (pl j hj) (congrArg Prod.fst e)
      have h2 := inj (pl i hi) hj (congrArg Prod.snd e)
      unfold prv at h1 h2
      split at h1 <;> split at h2 <;> omega
    · exact ne (inj hi hj (congrArg Prod.fst e))
  · unfold ringT
    rw [List.length_map, List.length_range]
    omega
section
variable {z : WebZ} {ns : List Str} {ts : List (Str × Str)} {c v : Int}
end
end KK
end

section
set_option maxRecDepth 100000
set_option maxHeartbeats 4000000
/-! dict(d): a copy -/
namespace Own
open PySem PySem.Spec PyProof.Rows L2
def rDictD : List V → Hp → VK → Prop := fun xs H Q => ∃ p kvs, xs = [.ref p] ∧ Rd H p (.dK kvs) ∧ ∀ q, H q = none → Q (.ref q) (upd H q (.dK kvs))
end Own
end

section
set_option maxRecDepth 100000
set_option maxHeartbeats 4000000
/-! dict(d) -/
namespace Y
open PySem PySem.Spec PyProof.Rows L2
section
variable {κ α : Type} {ke : Ky κ} {t : Ty α}
end
end Y
end

section
set_option maxRecDepth 100000
set_option maxHeartbeats 4000000
/-! {x: y} of two variables -/
namespace Y
open PySem PySem.Spec PyProof.Rows L2
section
variable {X : Xw} {k : Bool} {G : Ct}
end
end Y
end

section
set_option maxRecDepth 100000
set_option maxHeartbeats 4000000
/-! dicts that hold the same, to be read: == -/
namespace Own
open PySem PySem.Spec PyProof.Rows L2
def rEqDS : R2 := fun x y H Q => ∃ a b ks ls, x = .ref a ∧ y = .ref b ∧ Rd H a (.dK ks) ∧ Rd H b (.dK ls) ∧ ks.length = ls.length ∧ (∀ p ∈ ks, valV ls p.1 = some p.2 ∧ sameB p.2 = true) ∧ Q (.bl true) H
end Own
end

section
set_option maxRecDepth 100000
set_option maxHeartbeats 4000000
/-! dicts alike: == -/
namespace Y
open PySem PySem.Spec PyProof.Rows L2
section
variable {κ : Type} [DecidableEq κ] {ke : Ky κ}
end
end Y
end

section
set_option maxRecDepth 100000
set_option maxHeartbeats 4000000
/-! xs.append(e) where e changes other things of one's own -/
namespace Y
open PySem PySem.Spec PyProof.Rows L2
section
variable {α ρ : Type} {F : Fx ρ} {G : Ct} {N B C : Ct → Prop} {t : Ty α} {K : PySem.W.Frag}
end
end Y
end

section
set_option maxRecDepth 100000
set_option maxHeartbeats 4000000
/-! try with several clauses, 'except X as n' and 'except X', mixed -/
namespace Own
open PySem PySem.Spec PyProof.Rows L2
/-- a body asked of its errors (kept as it stands) -/
def ap (tb : WX → TS) (W : WX) : TS := tb W
structure Hn where
  cl : Value
  i : Option Nat
  ts : Addr → Value → Option Addr → TS
def wEv (K : PySem.W.Frag) (Wo : WX) (D : Ends) : List Hn → WX
  | [] => Wo
  | z :: r => fun q d τ J => ∃ b, PySem.W.exmOne K q z.cl = some b ∧ (b = true → ∀ e, J e = none → match z.i with
      | some i => z.ts e q d (ends i D) (τ.set i (some (.ref e))) J
      | none => z.ts e q d D τ J) ∧ (b = false → wEv K Wo D r q d τ J)
def tryAp (K : PySem.W.Frag) (Wo : WX) (tb : WX → TS) (r : List Hn) : TS := fun D τ J => tb (wEv K Wo D r) D τ J
inductive Evs (X : Cx) : List ExceptHandler → List Hn → Prop
  | nil : Evs X [] []
  | cons {n : Str} {i : Nat} {y : Str} {cl : Value} {tz : Addr → Value → Option Addr → TS} {f : Stmt} {fs : List Stmt} {p1 p2 : Pos} {ks : List ExceptHandler} {r : List Hn} : X.N[i]? = some n → X.env.kindOf n = some .local →
      Names X y cl → (∀ (e : Addr) (o : Obj) (q : Value) (d : Option Addr) (pn : List (Addr × Obj)), Zc q d o → (∃ vs, o.data = .fields vs) → PSs (X.suite e ((e, o) :: pn)) (f :: fs) (tz e q d)) →
      Evs X ks r → Evs X (.ExceptHandler (some (.Name y p1)) (some n) (f :: fs) p2 :: ks) (⟨cl, some i, tz⟩ :: r)
  | bare {y : Str} {cl : Value} {tz : Addr → Value → Option Addr → TS} {f : Stmt} {fs : List Stmt} {p1 p2 : Pos} {ks : List ExceptHandler} {r : List Hn} :
      Names X y cl → (∀ (e : Addr) (o : Obj) (q : Value) (d : Option Addr) (pn : List (Addr × Obj)), Zc q d o → (∃ vs, o.data = .fields vs) → PSs (X.suite e ((e, o) :: pn)) (f :: fs) (tz e q d)) →
      Evs X ks r → Evs X (.ExceptHandler (some (.Name y p1)) none (f :: fs) p2 :: ks) (⟨cl, none, tz⟩ :: r)
section
variable {X : Cx} {pins : List (Addr × Obj)} {τ : L2.St} {J : Hp} {e : Addr} {q : Value} {d : Option Addr} {G : Heap} {s0 u : Shared} {D : Ends} {Wo : WX}
end
end Own
end

section
set_option maxRecDepth 100000
set_option maxHeartbeats 4000000
/-! the head's facts, properties too -/
namespace OwnP
open PySem PySem.Spec PyProof.Rows L2 He OwnH OwnQ
/-- a property: its class, its name; its getter -/
structure PrD where
  cls : Str
  name : Str
  qual : Str
  st : Stmt
def pAd (K : PySem.W.Frag) (d : PrD) : Addr := ma K (ga K d.cls) d.name
def gAd (K : PySem.W.Frag) (d : PrD) : Addr := match PySem.W.recIn K (pAd K d) "property" with
  | some (.ref g :: _) => g
  | _ => 0
def prO (K : PySem.W.Frag) (d : PrD) : FnV := match K.lookup (gAd K d) with
  | some ⟨_, _, .func fd, _⟩ => some (fd.name, fd.qualname, fd.params, fd.body, fd.scope, fd.globals, fd.closure, fd.defaults, fd.builtins)
  | _ => none
def PrD.val (d : PrD) : FnV := some (d.name, d.qual, defArgs d.st, .stmts (defBody d.st), defScope d.st, mainGlobals, [], .none, builtinsNs)
def recB (K : PySem.W.Frag) (d : PrD) : Bool := match PySem.W.recIn K (pAd K d) "property" with
  | some (.ref _ :: _) => true
  | _ => false
def codB (K : PySem.W.Frag) (d : PrD) : Bool := match K.lookup (gAd K d) with
  | some ⟨_, _, .func fd, _⟩ => PySem.W.codeIn K fd.code d.qual
  | _ => false
def prB (K : PySem.W.Frag) (d : PrD) : Bool := decide (PySem.W.findIn K (.ref (ga K d.cls)) d.name = some (some (.ref (pAd K d)))) && (decide (PySem.W.specialIn K (.ref (pAd K d)) "__get__" = some (some (.builtin "property.__get__"))) &&
  (decide (PySem.W.takesIn K (.ref (pAd K d)) = some true) && (recB K d && (PySem.W.keepIn K (.ref (gAd K d)) && codB K d))))
abbrev AlP : Type := AlQ × Bool × List FnV
def obsP (file : Str) (n : Nat) (fa : List Fa) (fn : List DefD) (er : List ErrD) (ck : PySem.W.Frag → Bool) (pr : List PrD) (g : Addr → Option Obj) : AlP := (obsQ file n fa fn er ck g, pr.all (fun d => prB (frG g (asO g n)) d), pr.map fun d => prO (frG g (asO g n)) d)
def hookP (file : Str) (n : Nat) (fa : List Fa) (fn : List DefD) (er : List ErrD) (ck : PySem.W.Frag → Bool) (pr : List PrD) : PySem.W.Hook where
  α := AlP
  obs := fun s => obsP file n fa fn er ck pr s.heap.get?
  val := fun _ => ((valO fn er, true), true, pr.map PrD.val)
  says := fun _ h => ∃ K : PySem.W.Frag, K.In h ∧ SaysO file fa fn er K ∧ ck K = true ∧ pr.all (fun d => prB K d) = true ∧ (pr.map fun d => prO K d) = pr.map PrD.val
  of := fun _ s e => ⟨_, frG_in, ⟨congrArg (fun z : AlP => z.1.1.1) e, congrArg (fun z : AlP => z.1.1.2.1) e, congrArg (fun z : AlP => z.1.1.2.2) e⟩, congrArg (fun z : AlP => z.1.2) e, congrArg (fun z : AlP => z.2.1) e, congrArg (fun z : AlP => z.2.2) e⟩
  keeps := fun _ _ _ ⟨K, hK, c⟩ k => ⟨K, PySem.W.Frag.In.keeps hK k, c⟩
/-! a property, an instance called: as promises -/
structure Prp (P : Program) (w : World) (K : PySem.W.Frag) (mg : Str → Option Value) (base : Heap) (k : Nat) (C : Addr) (f : Str) (sp : Sp) : Prop where
  ex : ∃ (p g : Addr) (fd : FuncData) (ps : List Str), Cls K C ∧ PropOf K C f p g ∧ FnOk P w K mg base CX0 k g fd ps sp ∧ Binds K fd ps []
structure Cbl (P : Program) (w : World) (K : PySem.W.Frag) (mg : Str → Option Value) (base : Heap) (k : Nat) (C : Addr) (sp : Sp) : Prop where
  ex : ∃ (g : Addr) (fd : FuncData) (ps : List Str), StX.CallO K C g ∧ FnOk P w K mg base CX0 k g fd ps sp ∧ Binds K fd ps []
section
variable {X : Cx} {k j : Nat} {C : Addr} {f : Str} {sp : Sp} {e fe : Expr} {es : List Expr} {ta tf : TE} {t : TA} {pos : Pos}
end
end OwnP
end

section
set_option maxRecDepth 100000
set_option maxHeartbeats 4000000
/-! what is raised and caught; properties, instances called -/
namespace Y
open PySem PySem.Spec PyProof.Rows L2
/-! ### raise -/
section
variable {ρ α : Type} {F : Fx ρ} {G : Ct} {N B C : Ct → Prop} {t : Ty α}
end
/-! ### an exception in hand -/
theorem FldsOk.mv {W W' : Wd} {H H' : Hp} (m : Mv W H W' H') : ∀ {vs : List (Str × V)} {ss : List (Str × Sl)}, FldsOk W H vs ss → FldsOk W' H' vs ss
  | _, _, .nil => .nil
  | _, _, .cons r p => .cons (Ty.go _ r m) (FldsOk.mv m p)
def ErIn (W : Wd) (H : Hp) (e : Er) (d : Option Addr) : Prop := ∀ fs, e.fs = some fs → ∃ dd ws, d = some dd ∧ RdW W H dd (.xd ws) ∧ FldsOk W H ws fs
def tErr (a : Addr) (e : Er) (d : Option Addr) : Ty Unit := ⟨fun W H v _ => v = .ref a ∧ ErIn W H e d, by
  rintro W W' H H' v _ ⟨e1, h⟩ m
  refine ⟨e1, fun fs e2 => ?_⟩
  obtain ⟨dd, ws, h1, h2, h3⟩ := h fs e2
  exact ⟨dd, ws, h1, m.rd _ _ h2, h3.mv m⟩⟩
section
variable {α β ρ : Type} {t : Ty α} {u : Ty β} {X : Xw} {k : Bool} {G : Ct} {F : Fx ρ} {N B C : Ct → Prop}
/-! ### the clauses -/
def Catc (F : Fx ρ) (G : Ct) (N B C : Ct → Prop) (K : PySem.W.Frag) (Wo : WX) (r : List Own.Hn) (e : Er) : Prop :=
  ∀ W0 H0 W H σ (D : Ends) d, Go W0 H0 W H → Holds G W H σ →
    (∀ G' W' H' σ', N G' → Go W0 H0 W' H' → Holds G' W' H' σ' → D.nx σ' H') →
    (∀ G' W' H' σ', B G' → Go W0 H0 W' H' → Holds G' W' H' σ' → D.bk σ' H') →
    (∀ G' W' H' σ', C G' → Go W0 H0 W' H' → Holds G' W' H' σ' → D.ct σ' H') →
    (∀ v G' W' H' σ' x, F.rt G' x → Go W0 H0 W' H' → Holds G' W' H' σ' → F.r.R W' H' v x → D.rt v H') →
    (∀ e d G' W' H' σ', F.X.xp G' e → Go W0 H0 W' H' → Holds G' W' H' σ' → ErAt W' H' e d → F.X.E (.ref e.C) d σ' H') → ErAt W H e d → Own.wEv K Wo D r (.ref e.C) d σ H
variable {K : PySem.W.Frag} {Wo : WX} {z : Own.Hn} {r : List Own.Hn} {e : Er}
end
/-! ### properties, instances called -/
section
variable {ρ α β : Type} {c : CT ρ} {X : Xw} {k : Bool} {G : Ct} {t : Ty α} {u : Ty β}
def InC (C : Addr) (t : Ty α) : Prop := ∀ W H v x, OKW W H → t.R W H v x → ∃ o dx fs, v = .ref o ∧ H o = some (.ins C dx fs)
end
end Y
end

section
set_option maxRecDepth 100000
set_option maxHeartbeats 4000000
/-! a list unpacked -/
namespace Y
open PySem PySem.Spec PyProof.Rows L2
section
variable {α β γ : Type} {t : Ty α} {u : Ty β} {z : Ty γ} {K : PySem.W.Frag} {G : Ct} {N : Ct → Prop}
end
end Y
end

section
set_option maxRecDepth 100000
set_option maxHeartbeats 4000000
/-! x is True, x is not False, of a bool or None -/
namespace Own
open PySem PySem.Spec PyProof.Rows L2
/-- a bool or None -/
def isPl : V → Bool
  | .bl _ => true
  | .non => true
  | _ => false
def rIsP : R2 := fun x y H Q => isPl x = true ∧ isPl y = true ∧ Q (.bl (decide (x = y))) H
def rNotP : R2 := fun x y H Q => isPl x = true ∧ isPl y = true ∧ Q (.bl (!decide (x = y))) H
section
variable {X : Cx}
end
end Own
end

section
set_option maxRecDepth 100000
set_option maxHeartbeats 4000000
/-! x is True of a bool or None; slices -/
namespace Y
open PySem PySem.Spec PyProof.Rows L2
theorem cut_to {α : Type} {xs : List α} {n : Int} (h : 0 ≤ n) : cutZ xs none (some n) = xs.take n.toNat := by
  obtain ⟨m, rfl⟩ := Int.eq_ofNat_of_zero_le h
  unfold cutZ
  rw [HT.sIx_nat, HT.sIx_none, Nat.sub_zero, List.drop_zero, Int.toNat_natCast]
  by_cases c : m ≤ xs.length
  · rw [Nat.min_eq_left c]
  · rw [Nat.min_eq_right (by omega), List.take_of_length_le (Nat.le_refl _), List.take_of_length_le (by omega)]
theorem cut_from {α : Type} {xs : List α} {n : Int} (h : 0 ≤ n) : cutZ xs (some n) none = xs.drop n.toNat := by
  obtain ⟨m, rfl⟩ := Int.eq_ofNat_of_zero_le h
  unfold cutZ
  rw [HT.sIx_nat, HT.sIx_none, Int.toNat_natCast]
  by_cases c : m ≤ xs.length
  · rw [Nat.min_eq_left c, List.take_of_length_le (by rw [List.length_drop]; omega)]
  · rw [Nat.min_eq_right (by omega), Nat.sub_self, List.take_zero, List.drop_of_length_le (by omega)]
end Y
end

section
set_option maxRecDepth 100000
set_option maxHeartbeats 4000000
/-! slices up to, from -/
namespace Y
open PySem PySem.Spec PyProof.Rows L2
section
variable {K : PySem.W.Frag} {α : Type} {t : Ty α}
theorem sl_to : SLI (rSlL K) (tLs K t) (.ow (oL K t)) (fun xs lo hi P => ∃ m : Nat, lo = none ∧ hi = some (m : Int) ∧ P (xs.take m)) := by
  rintro W H v xs lo hi Q P ok r ⟨m, rfl, rfl, c⟩ q
  refine sl_lst W H v xs _ _ Q P ok r ?_ q
  show P (cutZ xs none (some (m : Int)))
  rw [cut_to (by omega), Int.toNat_natCast]
  exact c
theorem sl_from : SLI (rSlL K) (tLs K t) (.ow (oL K t)) (fun xs lo hi P => ∃ m : Nat, lo = some (m : Int) ∧ hi = none ∧ P (xs.drop m)) := by
  rintro W H v xs lo hi Q P ok r ⟨m, rfl, rfl, c⟩ q
  refine sl_lst W H v xs _ _ Q P ok r ?_ q
  show P (cutZ xs (some (m : Int)) none)
  rw [cut_from (by omega), Int.toNat_natCast]
  exact c
end
/-- the slots told anew, as they are -/
theorem blk_norm {ρ : Type} {F : Fx ρ} {ts : TS} {G : Ct} {N B C : Ct → Prop} (G' : Ct) (e : G = G') (h : Blk F ts G' N B C) : Blk F ts G N B C := by
  rw [e]
  exact h
end Y
end

section
set_option maxRecDepth 100000
set_option maxHeartbeats 4000000
/-! a list of four unpacked, made -/
namespace Y
open PySem PySem.Spec PyProof.Rows L2
section
variable {α β γ δ : Type} {t : Ty α} {u : Ty β} {z : Ty γ} {y : Ty δ} {K : PySem.W.Frag} {G : Ct} {N : Ct → Prop} {X : Xw} {k : Bool}
end
end Y
end

section
set_option maxRecDepth 100000
set_option maxHeartbeats 4000000
/-! zip of two tuples -/
namespace Y
open PySem PySem.Spec PyProof.Rows L2 RZ
section
variable {α β : Type} {t : Ty α} {u : Ty β} {K : PySem.W.Frag} {G : Ct} {X : Xw} {k : Bool} {a b : Addr} {xs ys : List V}
end
end Y
end

section
set_option maxRecDepth 100000
set_option maxHeartbeats 4000000
/-! tuples of texts compared -/
namespace Y
open PySem PySem.Spec PyProof.Rows L2
section
variable {K : PySem.W.Frag}
end
end Y
end

section
set_option maxRecDepth 100000
set_option maxHeartbeats 4000000
/-! a == b by the class's own __eq__, both of the class -/
namespace Y
open PySem PySem.Spec PyProof.Rows L2
section
variable {α ρ : Type} {X : Xw} {k : Bool} {G : Ct} {t : Ty α} {c : CT ρ}
end
end Y
end

section
set_option maxRecDepth 100000
set_option maxHeartbeats 4000000
/-! pairs of ints compared; a list of things that are there, read as a list of things -/
namespace Y
open PySem PySem.Spec PyProof.Rows L2
section
variable {K : PySem.W.Frag}
end
end Y
end

section
set_option maxRecDepth 100000
set_option maxHeartbeats 4000000
/-! the head's facts with properties: five steps, and the getters' codes by name -/
namespace OwnP
open PySem PySem.Spec PyProof.Rows L2 He OwnH OwnQ
def codA (K : PySem.W.Frag) (d : PrD) : List Addr := match K.lookup (gAd K d) with
  | some ⟨_, _, .func fd, _⟩ => refV fd.code
  | _ => []
def asP (g : Addr → Option Obj) (n : Nat) (pr : List PrD) : List Addr := asO g n ++ pr.flatMap fun d => codA (frG g (asO g n)) d
def obsK (file : Str) (fa : List Fa) (fn : List DefD) (er : List ErrD) (ck : PySem.W.Frag → Bool) (pr : List PrD) (K : PySem.W.Frag) : AlP := (((obsD fa fn K, er.all (fun d => errB file K d), er.map fun d => fnC K d.at_), ck K), pr.all (fun d => prB K d), pr.map fun d => prO K d)
def obsR (file : Str) (n : Nat) (fa : List Fa) (fn : List DefD) (er : List ErrD) (ck : PySem.W.Frag → Bool) (pr : List PrD) (g : Addr → Option Obj) : AlP := obsK file fa fn er ck pr (frG g (asP g n pr))
def hookR (file : Str) (n : Nat) (fa : List Fa) (fn : List DefD) (er : List ErrD) (ck : PySem.W.Frag → Bool) (pr : List PrD) : PySem.W.Hook where
  α := AlP
  obs := fun s => obsR file n fa fn er ck pr s.heap.get?
  val := fun _ => ((valO fn er, true), true, pr.map PrD.val)
  says := fun _ h => ∃ K : PySem.W.Frag, K.In h ∧ SaysO file fa fn er K ∧ ck K = true ∧ pr.all (fun d => prB K d) = true ∧ (pr.map fun d => prO K d) = pr.map PrD.val
  of := fun _ s e => ⟨_, frG_in, ⟨congrArg (fun z : AlP => z.1.1.1) e, congrArg (fun z : AlP => z.1.1.2.1) e, congrArg (fun z : AlP => z.1.1.2.2) e⟩, congrArg (fun z : AlP => z.1.2) e, congrArg (fun z : AlP => z.2.1) e, congrArg (fun z : AlP => z.2.2) e⟩
  keeps := fun _ _ _ ⟨K, hK, c⟩ k => ⟨K, PySem.W.Frag.In.keeps hK k, c⟩
end OwnP
end

section
set_option maxRecDepth 100000
set_option maxHeartbeats 4000000
/-! d.update(e): what stands in e is put into d -/
namespace Own
open PySem PySem.Spec PyProof.Rows L2
def putAll (ws us : List (Key × V)) : List (Key × V) := us.foldl (fun acc p => putK acc p.1 p.2) ws
def rDUpd : V → List V → Hp → VK → Prop := fun x vs H Q => ∃ (a b : Addr) (ws us : List (Key × V)), x = .ref a ∧ vs = [.ref b] ∧ a ≠ b ∧ H a = some (.dK ws) ∧ Rd H b (.dK us) ∧ ws.length + us.length ≤ sizeLine ∧ Q .non (upd H a (.dK (putAll ws us)))
end Own
end

section
set_option maxRecDepth 100000
set_option maxHeartbeats 4000000
/-! d.update(e) -/
namespace Y
open PySem PySem.Spec PyProof.Rows L2
section
variable {α κ ρ : Type} {F : Fx ρ} {G : Ct} {N B C : Ct → Prop} {t : Ty α} {X : Xw} {K : PySem.W.Frag} {ke : Ky κ} {tk : Ty κ} [DecidableEq κ]
def mrgZ (xs ys : List (κ × α)) : List (κ × α) := ys.foldl (fun a e => putZ a e.1 e.2) xs
end
end Y
end

section
set_option maxRecDepth 100000
set_option maxHeartbeats 4000000
/-! xs[-2::-1]: from the last but one backwards -/
namespace Own
open PySem PySem.Spec PyProof.Rows L2
def tRevF (K : PySem.W.Frag) (te : TE) : TE := fun σ H Q => te σ H fun x H1 => ∃ a xs, x = .ref a ∧ SqL K H1 a xs ∧ 0 < xs.length ∧ ∀ p, H1 p = none → Q (.ref p) (upd H1 p (.lst xs.dropLast.reverse))
end Own
end

section
set_option maxRecDepth 100000
set_option maxHeartbeats 4000000
/-! xs[-2::-1] -/
namespace Y
open PySem PySem.Spec PyProof.Rows L2
section
variable {α : Type} {X : Xw} {k : Bool} {G : Ct} {K : PySem.W.Frag} {t : Ty α}
end
end Y
end

section
set_option maxRecDepth 100000
set_option maxHeartbeats 4000000
/-! n & 1 -/
namespace Y
open PySem PySem.Spec PyProof.Rows L2
def rOdd : R2 := fun x y H Q => ∃ n : Nat, x = .int (n : Int) ∧ y = .int 1 ∧ Q (.int ((n % 2 : Nat) : Int)) H
/-! a comprehension over a dict, assigned to a name -/
section
variable {ρ : Type} {F : Fx ρ} {G : Ct} {N B C : Ct → Prop}
end
end Y
end

section
set_option maxRecDepth 100000
set_option maxHeartbeats 4000000
/-! x != y, dicts from texts to ints that are read: both answers -/
namespace Own
open PySem PySem.Spec PyProof.Rows L2
def rNeDG : R2 := fun x y H Q => ∃ a b zs ws, x = .ref a ∧ y = .ref b ∧ Rd H a (.dK (dZ zs)) ∧ Rd H b (.dK (dZ ws)) ∧ Q (.bl (!eqZ zs ws)) H
end Own
end

section
set_option maxRecDepth 100000
set_option maxHeartbeats 4000000
/-! dicts of ints by texts: not the same -/
namespace Y
open PySem PySem.Spec PyProof.Rows L2
end Y
end

section
set_option maxRecDepth 100000
set_option maxHeartbeats 4000000
/-! a list [a, b, c] of one's own, its second one's own too -/
namespace Y
open PySem PySem.Spec PyProof.Rows L2
section
variable {α β γ : Type}
def oL3m (K : PySem.W.Frag) (t : Ty α) (O : OT γ) (u : Ty β) : OT (α × γ × β) where
  R p W H v x := ∃ a v1 v2 v3, v = .ref a ∧ W a = .ow p ∧ H a = some (.lst [v1, v2, v3]) ∧ t.R W H v1 x.1 ∧ O.R (p ++ [1]) W H v2 x.2.1 ∧ u.R W H v3 x.2.2
  sv := tL3 K t O.sv u
  mv := by
    rintro p p' W W' H H' v x ⟨a, v1, v2, v3, e, w, h, r1, r2, r3⟩ kk m
    obtain ⟨w1, h1⟩ := kk a _ [] (by rw [List.append_nil]; exact w) h
    refine ⟨a, v1, v2, v3, e, by rw [List.append_nil] at w1; exact w1, h1, t.go r1 m, O.mv r2 (fun b o q w e => ?_) m, u.go r3 m⟩
    have := kk b o ([1] ++ q) (by rw [← List.append_assoc]; exact w) e
    rwa [← List.append_assoc] at this
  fz := by
    rintro p W W' H H' v x ⟨a, v1, v2, v3, e, w, h, r1, r2, r3⟩ kk m
    obtain ⟨w1, h1⟩ := kk a _ [] (by rw [List.append_nil]; exact w) h
    exact ⟨a, v1, v2, v3, e, ⟨w1, h1⟩, t.go r1 m, O.fz r2 (fun b o q w e => kk b o ([1] ++ q) (by rw [← List.append_assoc]; exact w) e) m, u.go r3 m⟩
variable {G : Ct} {K : PySem.W.Frag} {t : Ty α} {u : Ty β}
/-- the place p[1] -/
theorem pt_l3m1 {te : TE} {q : List Nat} {O : OT γ} {x : α × γ × β} {up : Sl → Ct} (pw : Pw te G q (oL3m K t O u) x up) : Pt (tOp (rIxL K) te (tC (.int 1))) G (q ++ [1]) O x.2.1 (fun y => up (.ow (oL3m K t O u) (x.1, y, x.2.2))) := by
  obtain ⟨⟨i, r, rfl, ni⟩, pw⟩ := pw
  refine ⟨⟨i, r ++ [1], rfl, ni⟩, fun W H σ hs => ?_⟩
  obtain ⟨v, ⟨a, v1, v2, v3, rfl, wa, ha, f1, f2, f3⟩, ev, kk⟩ := pw W H σ hs
  refine ⟨v2, f2, fun Q h => ev _ ⟨a, [v1, v2, v3], 1, v2, rfl, rfl, SqL.of ha, rfl, h⟩, fun W1 H1 g ok1 W' H' y ok' g' out sa => ?_⟩
  have np : ¬ (i :: r) ++ [1] <+: i :: r := fun z => by have := z.length_le; rw [List.length_append] at this; simp only [List.length_cons, List.length_nil] at this; omega
  obtain ⟨h1, w1⟩ := g.own ha wa ni
  obtain ⟨w2, h2⟩ := out a _ _ w1 np h1
  refine kk W1 H1 g ok1 W' H' (.ow (oL3m K t O u) (x.1, y, x.2.2)) ok' g' (fun b p o w n e => out b p o w (fun ⟨r2, z⟩ => n ⟨[1] ++ r2, by rw [← List.append_assoc]; exact z⟩) e) ⟨a, v1, v2, v3, rfl, w2, h2, t.go (t.mvE f1 g) g'.mv, sa, u.go (u.mvE f3 g) g'.mv⟩
def push1 (W : Wd) : Wd := fun b => match W b with
  | .ow (j :: r) => if j = tmp then .ow (tmp :: 1 :: r) else .ow (j :: r)
  | w => w
theorem push1_at {W : Wd} {b : Addr} {r : List Nat} (h : W b = .ow (tmp :: r)) : push1 W b = .ow (tmp :: 1 :: r) := by unfold push1; rw [h]; simp
theorem push1_ne {W : Wd} {b : Addr} (h : ∀ r, W b ≠ .ow (tmp :: r)) : push1 W b = W b := by
  unfold push1
  cases e : W b with
  | ow p =>
    cases p with
    | nil => rfl
    | cons j r =>
      by_cases n : j = tmp
      · subst n; exact absurd e (h r)
      · simp [n]
  | _ => rfl
theorem push1_re (W : Wd) (b : Addr) : push1 W b = W b ∨ ∃ p p', W b = .ow p ∧ push1 W b = .ow p' := by
  by_cases h : ∃ r, W b = .ow (tmp :: r)
  · obtain ⟨r, e⟩ := h
    exact .inr ⟨_, _, e, push1_at e⟩
  · exact .inl (push1_ne fun r e => h ⟨r, e⟩)
theorem push1_goE {W : Wd} {H : Hp} : GoE W H (push1 W) H := ⟨fun b o h _ n => ⟨h, push1_ne n⟩, fun b φ h => by
    rw [push1_ne fun r e => by rw [h] at e; cases e]; exact h, fun b h => by
    rcases push1_re W b with e | ⟨p, p', e, e2⟩
    · exact e.symm.trans h
    · rw [e2] at h; cases h⟩
variable {X : Xw}
/-- [a, b, c], b a variable that holds what is one's own, handed over at the end -/
theorem ev_l3m {ta tc : TE} {i : Nat} {O : OT γ} {y : γ} {P : Ct → α × γ × β → Prop} (h : Ev X false ta G t fun G1 x => G1.s[i]? = some (.ow O y) ∧ Ev X false tc G1 u fun G2 w => G2.s[i]? = some (.ow O y) ∧ P (G2.set i .un) (x, y, w)) : EvR X false (L2.tLst (tCons ta (tCons (tVar i) (tCons tc tNil)))) G (.ow (oL3m K t O u)) P := fun W H σ Q hs ex q =>
  h W H σ _ hs ex fun v1 W1 H1 G1 x ⟨i1, p1⟩ m1 r1 => by
    obtain ⟨v2, e1, _⟩ := m1.hs.own i1
    refine ⟨v2, e1, p1 W1 H1 σ _ m1.hs (ex.mv m1.go) fun v3 W3 H3 G3 w ⟨i3, p3⟩ m3 r3 => ?_⟩
    have gv := (ev_give (X := X) (P := fun G4 z => z = y ∧ G4 = G3.set i .un) i3 ⟨rfl, rfl⟩) W3 H3 σ (fun v' H' => v' = v2 → ([v1, v2, v3].length ≤ sizeLine ∧ ∀ d, H' d = none → Q (.ref d) (upd H' d (.lst [v1, v2, v3])))) m3.hs ((ex.mv m1.go).mv m3.go) fun v' W4 H4 G4 z ⟨hz, hg⟩ m4 r4 ev => by
      subst hz
      subst hg
      subst ev
      refine ⟨small (show 3 ≤ 1000 by decide), fun d hd => ?_⟩
      have ok2 : OKW (push1 W4) H4 := remap_ok m4.hs.ok (push1_re W4)
      obtain ⟨g, ok⟩ := newT ok2 hd (o := .lst [v1, v', v3]) trivial
      have g2 := push1_goE (W := W4) (H := H4)
      have gg := g2.trans g
      have go := gg.go
      refine q _ _ _ _ _ p3 (((m1.trans m3).trans m4).thenE gg ok) ⟨d, v1, v', v3, rfl, setW_same, upd_same, t.mv (t.mv (t.mv r1 m3.go) m4.go) go, O.mv (p' := [tmp, 1]) r4 (fun b o q w e => ?_) go.mv, u.mv (u.mv r3 m4.go) go⟩
      have n : b ≠ d := ne_of_none e hd
      exact ⟨by rw [setW_ne n]; exact push1_at w, by rw [upd_ne n]; exact e⟩
    obtain ⟨v', e', gg⟩ := gv
    have e2 : v' = v2 := by
      rw [e1] at e'
      exact (Option.some.inj (Option.some.inj e')).symm
    exact gg e2
end
end Y
end

section
set_option maxRecDepth 100000
set_option maxHeartbeats 4000000
namespace KK
open PySem PySem.Spec PyProof.Rows L2 Y
/-! rings, stars and other webs by hand -/
theorem at_neg1h {xs : List Str} {k : Nat} {x : Str} (hl : xs.length = k + 1) (h : xs[k]? = some x) : atI xs (-1) = some x := by
  unfold atI
  have : ixN xs.length (-1) = some k := by
    unfold ixN
    rw [if_neg (by omega), if_pos (by omega)]
    congr 1
    omega
  rw [this]
  exact h
def allT (ns : List Str) (n : Nat) : List (Str × Str) := (List.range n).flatMap fun a => (List.range a).map fun b => (nmR ns a, nmR ns b)
theorem allT_len (ns : List Str) : ∀ n, (allT ns n).length ≤ n * n
  | 0 => Nat.le_refl _
  | n + 1 => by
    have ih := allT_len ns n
    unfold allT at ih ⊢
    rw [List.range_succ, List.flatMap_append, List.length_append]
    simp only [List.flatMap_cons, List.flatMap_nil, List.append_nil, List.length_map, List.length_range]
    have : (n + 1) * (n + 1) = n * n + n + n + 1 := by
      rw [Nat.mul_add, Nat.add_mul]
      omega
    omega
abbrev oFnd (K : PySem.W.Frag) : OT (List (Str × Str) × List (Str × Int) × Int) := oL3m K (tLs K (tPr K)) (oD kS tInt) tInt
abbrev yNames9 (K : PySem.W.Frag) : Y.CT (List Str) := ⟨false, .ow (oL K tStr), fun as P _ => ∃ n, as = [.sh tStm (), .sh tInt n] ∧ (0 ≤ n ∧ n ≤ 40) ∧ ∀ ns, ((ns.length : Int) = n ∧ ns.Nodup ∧ ∀ x ∈ ns, NameOk x) → ∀ os, P os ns⟩
abbrev yRing9 (K : PySem.W.Frag) : Y.CT (List (Str × Str) × List (Str × Int) × Int) := ⟨true, .ow (oFnd K), fun as P _ => ∃ ns c, as = [.sh (tLs K tStr) ns, .sh tInt c] ∧ (3 ≤ ns.length ∧ ns.length ≤ 40 ∧ ns.Nodup ∧ 1 ≤ c ∧ c ≤ 10 ^ 30) ∧ ∀ os, P os (ringT ns, atD ns (fun _ => c), (ns.length : Int) * c)⟩
abbrev yAllT9 (K : PySem.W.Frag) : Y.CT (List (Str × Str) × List (Str × Int) × Int) := ⟨true, .ow (oFnd K), fun as P _ => ∃ ns c, as = [.sh (tLs K tStr) ns, .sh tInt c] ∧ (ns.length ≤ 20 ∧ ns.Nodup ∧ 1 ≤ c ∧ c ≤ 10 ^ 30) ∧ ∀ os, P os (allT ns ns.length, atD ns (fun _ => c), (ns.length : Int) * c)⟩
theorem atD_snoc9 {ns : List Str} {i : Nat} {x : Str} {g : Str → Int} {v : Int} (nd : ns.Nodup) (hx : ns[i]? = some x) (e : g x = v) : putZ (atD (ns.take i) g) x v = atD (ns.take (i + 1)) g := by
  rw [putZ_new]
  · unfold atD
    rw [take_more hx, List.map_append, ← e]
    rfl
  · rw [atD_keys]
    exact not_taken nd hx
section
variable {P : Program} {w : World} {K : PySem.W.Frag} {mg : Str → Option Value} {base : Heap} {C CS CW CC : Addr}
abbrev NYLnamesH : List Str := ["_law_stream_here", "_law_many", "_law_names_here", "_law_k"]
theorem scYLnamesH : FnScope NYLnamesH ["_law_stream_here", "_law_many"] (defScope s_law_names) := ⟨rfl, rfl, rfl, by decide +kernel, rfl, by decide +kernel, by decide +kernel⟩
theorem y_names9 (T : Blt mg) (F : Has K mg "_law_names" s_law_names) (YNAME : C8.Cal P w K mg base 2 "_law_name" (Y.spZ (yName K)) []) : C8.Cal P w K mg base 3 "_law_names" (Y.spZ (yNames9 K)) [] := by
  refine calF F (fun f fd F => F.binds (ps := ["_law_stream_here", "_law_many"]) fun _ _ _ _ _ _ us hl => match us, hl with | [_, _], _ => rfl) scYLnamesH (fun vs H Q E h => zlen (fun as P XP hc => by obtain ⟨_, rfl, _⟩ := hc; rfl) h) (fun f cdv A outer s H vs Q E hr h => ?_)
  have hu := hu_of hr
  refine ⟨_, (pss_cons (ps_set (i := 2) scYLnamesH.nd rfl (Or.inl rfl) (pe_lst pa_nil))
      (pss_cons (ps_for PassesOwn.never rfl (pi_range1 rfl T.b_range (pa_cons (pv 1) pa_nil)) (pg_name (i := 3) scYLnamesH.nd rfl (Or.inl rfl))
        (pss_one (ps_expr (pe_bm PySem.F.plainAttrs_list PySem.F.slot_list_append PySem.F.type_list_append mt_append (pv 2) (pa_cons (C8.pe_c YNAME hr (by decide) rfl (pa_cons (pv 0) (pa_cons (pv 2) pa_nil))) pa_nil)))))
      (pss_one (ps_ret (pv 2))))), zrun h ?_⟩
  rintro as P XP ⟨n, rfl, ⟨h0, h59⟩, hp⟩ hl
  obtain ⟨p0, p1, rfl⟩ := len2 hl
  refine ⟨2, rfl, by decide, ?_⟩
  refine blk_seq (blk_setO (O := oL K tStr) (ev_list (K := K) (t := tStr) (es_nil ⟨Nat.le_of_ble_eq_true rfl, rfl, ?_⟩)))
  refine blk_seq (blk_for (vs := [3]) (ei_range1 (ev_var rfl ⟨⟨?_, ?_⟩, (fun i G' => ∃ ns : List Str, (ns.length = i ∧ ns.Nodup ∧ ∀ x ∈ ns, NameOk x) ∧ G' = ⟨false, [.sh tStm (), .sh tInt n, .ow (oL K tStr) ns, .un], [some p0, some p1]⟩), ⟨[], ⟨rfl, List.nodup_nil, fun x hx => absurd hx (by simp)⟩, rfl⟩, ?_, ?_⟩)))
  · omega
  · omega
  · rintro i x _ hx ⟨ns, ⟨hl, hnd, hok⟩, rfl⟩
    obtain ⟨rfl, hi'⟩ := rangeZ_get hx
    refine tg_name (by decide) (free_of rfl) (blk_wipe [3] (blk_append (pt_var (i := 2) rfl (by decide)) (ev_view (r := .sh tStr) flS (ev_call0 (ea_cons (ev_var rfl (ea_cons (ev_var rfl (ea_nil ⟨fun h => (nomatch h), allc trivial (all1 trivial), ns, rfl, ?_, fun x hx _ => ⟨fits40 ?_, _, ⟨?_, ?_, ?_⟩, rfl⟩⟩)))))))))
    · omega
    · omega
    · rw [List.length_append, hl]; rfl
    · rw [List.nodup_append]
      exact ⟨hnd, List.nodup_cons.mpr ⟨by simp, List.nodup_nil⟩, fun y hy z hz e => by
        have : z = x := by simpa using hz
        subst this
        subst e
        exact hx.2 hy⟩
    · intro y hy
      rcases List.mem_append.mp hy with hy | hy
      · exact hok y hy
      · have : y = x := by simpa using hy
        rw [this]
        exact hx.1
  · rintro _ ⟨ns, ⟨hl, hnd, hok⟩, rfl⟩
    rw [rangeZ_len] at hl
    exact blk_ret (ev_give (i := 2) rfl (fin0 [_, _] _ (hp ns ⟨by omega, hnd, hok⟩)))
abbrev NYLringH : List Str := ["_law_names_here", "_law_paid", "_law_ties", "_law_prices", "_law_name_here", "_law_k"]
theorem scYLringH : FnScope NYLringH ["_law_names_here", "_law_paid"] (defScope s_law_ring) := ⟨rfl, rfl, rfl, by decide +kernel, rfl, by decide +kernel, by decide +kernel⟩
theorem y_ring9 (T : Blt mg) (F : Has K mg "_law_ring" s_law_ring) : C8.Cal P w K mg base 1 "_law_ring" (Y.spZ (yRing9 K)) [] := by
  refine calF F (fun f fd F => F.binds (ps := ["_law_names_here", "_law_paid"]) fun _ _ _ _ _ _ us hl => match us, hl with | [_, _], _ => rfl) scYLringH (fun vs H Q E h => zlen (fun as P XP hc => by obtain ⟨_, _, rfl, _⟩ := hc; rfl) h) (fun f cdv A outer s H vs Q E hr h => ?_)
  have hu := hu_of hr
  refine ⟨_, (pss_cons (ps_setLc (i := 2) (own := [("_law_k", 5)]) (g := gName 5) (tt := tYes) rfl scYLringH.nd rfl rfl (sw_true rfl rfl rfl (by decide +kernel)) (pi_range1 rfl T.b_range (pa_cons (pe_callB call_len (by rfl) T.b_len PySem.boot_len (pa_cons (pv 0) pa_nil)) pa_nil)) (blkOk_by (own := [("_law_k", 5)]) (N := NYLringH) (sc := defScope s_law_ring) (by decide +kernel)) (fun _ _ _ _ _ => (pg_name (i := 5) scYLringH.nd rfl (Or.inl rfl))) (fun _ _ _ _ _ => pts_nil) (fun _ _ _ _ _ => (pe_tup (pa_cons (pe_ix (show IxR _ (rIxL K) from ix_list) (pv 0) (pe_op op_sub (pv 5) pe_int) (fun _ _ => rfl)) (pa_cons (pe_ix (show IxR _ (rIxL K) from ix_list) (pv 0) (pv 5) (fun _ _ => rfl)) pa_nil)))))
      (pss_cons (ps_set (i := 3) scYLringH.nd rfl (Or.inl rfl) pe_dnewK)
      (pss_cons (ps_for PassesOwn.never rfl (pi_list (pv 0)) (pg_name (i := 4) scYLringH.nd rfl (Or.inl rfl))
        (pss_one (ps_dput hu (pv 3) (pv 4) (pv 1) rfl)))
      (pss_one (ps_ret (pe_lst (pa_cons (pv 2) (pa_cons (pv 3) (pa_cons (pe_op op_mul (pe_callB call_len (by rfl) T.b_len PySem.boot_len (pa_cons (pv 0) pa_nil)) (pv 1)) pa_nil))))))))), zrun h ?_⟩
  rintro as P XP ⟨ns, c, rfl, ⟨h3, h40, nd, c1, c2⟩, hp⟩ hl
  obtain ⟨p0, p1, rfl⟩ := len2 hl
  refine ⟨4, rfl, by decide, ?_⟩
  refine blk_seq (blk_set (t := tLs K (tPr K)) (EvR.share (O := oL K (tPr K)) (ev_lc (K := K) (u := tPr K) (vs := [5]) (ei_range1 (ev_cb rc_lenL (ev_var (t := tLs K tStr) (x := ns) rfl ⟨fun h => (nomatch h), ⟨⟨by omega, by omega⟩, (fun i ys => ys = ((List.range i).map fun k => (nmR ns (prv ns.length k), nmR ns k))), ?_, ?_, rfl, ?_, ?_⟩⟩))))))
  · exact fits40 (by rw [rangeZ_len]; omega)
  · intro i hi
    rw [List.mem_singleton] at hi; subst hi; exact free_of rfl
  · rintro i k ys hk rfl
    obtain ⟨rfl, hkl⟩ := rangeZ_get hk
    have kl : i < ns.length := by omega
    have h1 := nmR_at kl
    have pl : prv ns.length i < ns.length := by unfold prv; split <;> omega
    have h2 := nmR_at pl
    have at1 : atI ns (0 + (i : Int) - 1) = some (nmR ns (prv ns.length i)) := by
      by_cases c0 : i = 0
      · subst c0
        refine at_neg1h (k := ns.length - 1) (by omega) ?_
        have : prv ns.length 0 = ns.length - 1 := by unfold prv; rw [if_pos rfl]
        rwa [this] at h2 ⊢
      · have : prv ns.length i = i - 1 := by unfold prv; rw [if_neg c0]
        rw [this] at h2 ⊢
        exact at_ofN (j := i - 1) (by omega) h2
    refine tg_name (by decide) (free_of rfl) (et_yes ⟨fun _ => ?_, fun h => (nomatch h)⟩)
    refine (ev_t2 (K := K) (ev_op ro_ixL (ev_var (t := tLs K tStr) (x := ns) rfl (ev_op ro_I0 (ev_var rfl (ev_c (t := tInt) (fun _ _ => rfl) ⟨_, at1, ev_op ro_ixL (ev_var (t := tLs K tStr) (x := ns) rfl (ev_var rfl ⟨_, at_ofN (j := i) (by omega) h1, ?_⟩))⟩))))))
    show _ = _
    rw [List.range_succ, List.map_append]
    rfl
  rintro ys rfl
  rw [rangeZ_len]
  refine ⟨rfl, ?_⟩
  refine blk_seq (blk_setO (ev_dnew kS tInt ⟨rfl, ?_⟩))
  refine blk_norm ⟨true, [.sh (tLs K tStr) ns, .sh tInt c, .sh (tLs K (tPr K)) (ringT ns), .ow (oD kS tInt) [], .un, .un], [some p0, some p1]⟩ (by unfold ringT; rw [show ((ns.length : Int) - 0).toNat = ns.length by omega]; rfl) ?_
  refine blk_seq (blk_for (vs := [4]) (ei_list (ev_var (t := tLs K tStr) (x := ns) rfl ⟨(fun i G' => ∃ s4, G' = ⟨true, [.sh (tLs K tStr) ns, .sh tInt c, .sh (tLs K (tPr K)) (ringT ns), .ow (oD kS tInt) (atD (ns.take i) fun _ => c), s4, .un], [some p0, some p1]⟩), ⟨_, rfl⟩, ?_, ?_⟩)))
  · rintro i x _ hx ⟨s4, rfl⟩
    refine tg_name (by decide) (free_of rfl) (blk_dput kyS (pt_var (i := 3) rfl (by decide)) (ev_var rfl (ev_var rfl ⟨fits40 (by rw [atD_len, List.length_take]; omega), .sh tStr x, ?_⟩)))
    rw [← atD_snoc9 nd hx rfl]
    rfl
  rintro _ ⟨s4, rfl⟩
  rw [List.take_length]
  refine blk_ret (ev_l3m (i := 3) (O := oD kS tInt) (y := atD ns fun _ => c) (ev_var (t := tLs K (tPr K)) (x := ringT ns) rfl ⟨rfl, ev_op ro_I (ev_cb rc_lenL (ev_var (t := tLs K tStr) (x := ns) rfl ⟨fun h => (nomatch h), ev_var rfl ⟨.inl ⟨by omega, by omega⟩, rfl, ?_⟩⟩))⟩))
  exact fin0 [_, _] _ hp
abbrev NYLalltiedH : List Str := ["_law_names_here", "_law_paid", "_law_ties", "_law_at", "_law_k", "_law_prices", "_law_name_here"]
theorem scYLalltiedH : FnScope NYLalltiedH ["_law_names_here", "_law_paid"] (defScope s_law_all_tied) := ⟨rfl, rfl, rfl, by decide +kernel, rfl, by decide +kernel, by decide +kernel⟩
theorem y_allt9 (T : Blt mg) (F : Has K mg "_law_all_tied" s_law_all_tied) : C8.Cal P w K mg base 1 "_law_all_tied" (Y.spZ (yAllT9 K)) [] := by
  refine calF F (fun f fd F => F.binds (ps := ["_law_names_here", "_law_paid"]) fun _ _ _ _ _ _ us hl => match us, hl with | [_, _], _ => rfl) scYLalltiedH (fun vs H Q E h => zlen (fun as P XP hc => by obtain ⟨_, _, rfl, _⟩ := hc; rfl) h) (fun f cdv A outer s H vs Q E hr h => ?_)
  have hu := hu_of hr
  refine ⟨_, (pss_cons (ps_set (i := 2) scYLalltiedH.nd rfl (Or.inl rfl) (pe_lst pa_nil))
      (pss_cons (ps_for PassesOwn.never rfl (pi_range1 rfl T.b_range (pa_cons (pe_callB call_len (by rfl) T.b_len PySem.boot_len (pa_cons (pv 0) pa_nil)) pa_nil)) (pg_name (i := 3) scYLalltiedH.nd rfl (Or.inl rfl))
        (pss_one (ps_for PassesOwn.never rfl (pi_range1 rfl T.b_range (pa_cons (pv 3) pa_nil)) (pg_name (i := 4) scYLalltiedH.nd rfl (Or.inl rfl))
        (pss_one (ps_expr (pe_bm PySem.F.plainAttrs_list PySem.F.slot_list_append PySem.F.type_list_append mt_append (pv 2) (pa_cons (pe_tup (pa_cons (pe_ix ix_list (pv 0) (pv 3) (fun _ _ => rfl)) (pa_cons (pe_ix ix_list (pv 0) (pv 4) (fun _ _ => rfl)) pa_nil))) pa_nil)))))))
      (pss_cons (ps_set (i := 5) scYLalltiedH.nd rfl (Or.inl rfl) pe_dnewK)
      (pss_cons (ps_for PassesOwn.never rfl (pi_list (pv 0)) (pg_name (i := 6) scYLalltiedH.nd rfl (Or.inl rfl))
        (pss_one (ps_dput hu (pv 5) (pv 6) (pv 1) rfl)))
      (pss_one (ps_ret (pe_lst (pa_cons (pv 2) (pa_cons (pv 5) (pa_cons (pe_op op_mul (pe_callB call_len (by rfl) T.b_len PySem.boot_len (pa_cons (pv 0) pa_nil)) (pv 1)) pa_nil)))))))))), zrun h ?_⟩
  rintro as P XP ⟨ns, c, rfl, ⟨h20, nd, c1, c2⟩, hp⟩ hl
  obtain ⟨p0, p1, rfl⟩ := len2 hl
  refine ⟨5, rfl, by decide, ?_⟩
  refine blk_seq (blk_setO (O := oL K (tPr K)) (ev_list (K := K) (t := tPr K) (es_nil ⟨Nat.le_of_ble_eq_true rfl, rfl, ?_⟩)))
  refine blk_seq (blk_for (vs := [3]) (ei_range1 (ev_cb rc_lenL (ev_var (t := tLs K tStr) (x := ns) rfl ⟨fun h => (nomatch h), ⟨⟨by omega, by omega⟩, (fun i G' => ∃ s3 s4, G' = ⟨true, [.sh (tLs K tStr) ns, .sh tInt c, .ow (oL K (tPr K)) (allT ns i), s3, s4, .un, .un], [some p0, some p1]⟩), ⟨_, _, rfl⟩, ?_, ?_⟩⟩))))
  · rintro i k _ hk ⟨s3, s4, rfl⟩
    obtain ⟨rfl, hkl⟩ := rangeZ_get hk
    have il : i < ns.length := by omega
    have hi := nmR_at il
    have tl := allT_len ns i
    have sq : i * i ≤ 400 := Nat.le_trans (Nat.mul_le_mul (show i ≤ 20 by omega) (show i ≤ 20 by omega)) (by decide)
    refine tg_name (by decide) (free_of rfl) (blk_for (vs := [4]) (ei_range1 (ev_var rfl ⟨⟨by omega, by omega⟩, (fun j G' => ∃ s4, G' = ⟨true, [.sh (tLs K tStr) ns, .sh tInt c, .ow (oL K (tPr K)) (allT ns i ++ (List.range j).map fun b => (nmR ns i, nmR ns b)), .sh tInt (0 + (i : Int)), s4, .un, .un], [some p0, some p1]⟩), ⟨s4, ?_⟩, ?_, ?_⟩)))
    · rw [show (List.range 0).map (fun b => (nmR ns i, nmR ns b)) = [] from rfl, List.append_nil]
      rfl
    · rintro j y _ hy ⟨s4, rfl⟩
      obtain ⟨rfl, hjl⟩ := rangeZ_get hy
      have jl : j < ns.length := by omega
      have hj := nmR_at jl
      refine tg_name (by decide) (free_of rfl) (blk_append (pt_var (i := 2) rfl (by decide)) (ev_t2 (K := K) (ev_op ro_ixL (ev_var (t := tLs K tStr) (x := ns) rfl (ev_var rfl ⟨_, at_ofN (j := i) (by omega) hi, ev_op ro_ixL (ev_var (t := tLs K tStr) (x := ns) rfl (ev_var rfl ⟨_, at_ofN (j := j) (by omega) hj, ?_⟩))⟩)))))
      refine ⟨fits40 (by rw [List.length_append, List.length_map, List.length_range]; omega), .sh tInt (0 + (j : Int)), ?_⟩
      rw [List.range_succ, List.map_append, ← List.append_assoc]
      rfl
    · rintro _ ⟨s4, rfl⟩
      refine ⟨.sh tInt (0 + (i : Int)), s4, ?_⟩
      rw [rangeZ_len, show ((0 + (i : Int)) - 0).toNat = i by omega]
      have : allT ns (i + 1) = allT ns i ++ (List.range i).map fun b => (nmR ns i, nmR ns b) := by
        unfold allT
        rw [List.range_succ, List.flatMap_append]
        simp
      rw [this]
  rintro _ ⟨s3, s4, rfl⟩
  rw [rangeZ_len, show ((ns.length : Int) - 0).toNat = ns.length by omega]
  refine blk_frz 2 rfl ?_
  refine blk_seq (blk_setO (ev_dnew kS tInt ⟨rfl, ?_⟩))
  refine blk_seq (blk_for (vs := [6]) (ei_list (ev_var (t := tLs K tStr) (x := ns) rfl ⟨(fun i G' => ∃ s6, G' = ⟨true, [.sh (tLs K tStr) ns, .sh tInt c, .sh (tLs K (tPr K)) (allT ns ns.length), s3, s4, .ow (oD kS tInt) (atD (ns.take i) fun _ => c), s6], [some p0, some p1]⟩), ⟨_, rfl⟩, ?_, ?_⟩)))
  · rintro i x _ hx ⟨s6, rfl⟩
    refine tg_name (by decide) (free_of rfl) (blk_dput kyS (pt_var (i := 5) rfl (by decide)) (ev_var rfl (ev_var rfl ⟨fits40 (by rw [atD_len, List.length_take]; omega), .sh tStr x, ?_⟩)))
    rw [← atD_snoc9 nd hx rfl]
    rfl
  rintro _ ⟨s6, rfl⟩
  rw [List.take_length]
  refine blk_ret (ev_l3m (i := 5) (O := oD kS tInt) (y := atD ns fun _ => c) (ev_var (t := tLs K (tPr K)) (x := allT ns ns.length) rfl ⟨rfl, ev_op ro_I (ev_cb rc_lenL (ev_var (t := tLs K tStr) (x := ns) rfl ⟨fun h => (nomatch h), ev_var rfl ⟨.inl ⟨by omega, by omega⟩, rfl, ?_⟩⟩))⟩))
  exact fin0 [_, _] _ hp
end
end KK
end

section
set_option maxRecDepth 100000
set_option maxHeartbeats 4000000
namespace KK
open PySem PySem.Spec PyProof.Rows L2 Y
/-! stars -/
/-- ties of m with each of xs, either way round -/
structure StarR (m : Str) (xs : List Str) (ts : List (Str × Str)) : Prop where
  ln : ts.length = xs.length
  at_ : ∀ (j : Nat) (x : Str) (e : Str × Str), xs[j]? = some x → ts[j]? = some e → e = (m, x) ∨ e = (x, m)
abbrev yPairD (K : PySem.W.Frag) : Y.CT (Str × Str) := ⟨false, .sh (tPr K), fun as P _ => ∃ a b, as = [.sh tStm (), .sh tStr a, .sh tStr b] ∧ ∀ r, (r = (a, b) ∨ r = (b, a)) → ∀ os, P os r⟩
abbrev yStar9 (K : PySem.W.Frag) : Y.CT (List (Str × Str) × List (Str × Int) × Int) := ⟨false, .ow (oFnd K), fun as P _ => ∃ m xs, ∃ sc : Int, as = [.sh tStm (), .sh (tLs K tStr) (m :: xs), .sh tInt sc] ∧ ((m :: xs).length ≤ 40 ∧ (m :: xs).Nodup) ∧ ∀ g ts, (∀ x ∈ m :: xs, 1 ≤ g x ∧ g x ≤ 10 ^ 30) → StarR m xs ts → ∀ os, P os (ts, atD (m :: xs) g, 2 * (if (xs.map g).sum < g m then (xs.map g).sum else g m))⟩
def aptT (ns : List Str) (n : Nat) : List (Str × Str) := (List.range n).map fun k => (nmR ns (2 * k), nmR ns (2 * k + 1))
def aptS (ts : List (Str × Str)) (g : Str → Int) : Int := (ts.map fun e => 2 * (if g e.2 < g e.1 then g e.2 else g e.1)).sum
abbrev yApart9 (K : PySem.W.Frag) : Y.CT (List (Str × Str) × List (Str × Int) × Int) := ⟨false, .ow (oFnd K), fun as P _ => ∃ ns, ∃ sc : Int, as = [.sh tStm (), .sh (tLs K tStr) ns, .sh tInt sc] ∧ (ns.length ≤ 40 ∧ ns.Nodup) ∧ ∀ g, (∀ x ∈ ns, 1 ≤ g x ∧ g x ≤ 10 ^ 30) → ∀ os, P os (aptT ns (ns.length / 2), atD ns g, aptS (aptT ns (ns.length / 2)) g)⟩
section
variable {P : Program} {w : World} {K : PySem.W.Frag} {mg : Str → Option Value} {base : Heap} {C CS CW CC : Addr}
abbrev NYLpair : List Str := ["_law_stream_here", "_law_a", "_law_b"]
theorem scYLpair : FnScope NYLpair ["_law_stream_here", "_law_a", "_law_b"] (defScope s_law_pair) := ⟨rfl, rfl, rfl, by decide +kernel, rfl, by decide +kernel, by decide +kernel⟩
theorem y_pairD (T : Blt mg) (F : Has K mg "_law_pair" s_law_pair) (YDRAW : C8.Cal P w K mg base 1 "_law_draw" (Y.spZ yDraw) []) : C8.Cal P w K mg base 2 "_law_pair" (Y.spZ (yPairD K)) [] := by
  refine calF F (fun f fd F => F.binds (ps := ["_law_stream_here", "_law_a", "_law_b"]) fun _ _ _ _ _ _ us hl => match us, hl with | [_, _, _], _ => rfl) scYLpair (fun vs H Q E h => zlen (fun as P XP hc => by obtain ⟨_, _, rfl, _⟩ := hc; rfl) h) (fun f cdv A outer s H vs Q E hr h => ?_)
  have hu := hu_of hr
  refine ⟨_, (pss_cons (ps_if (pt_cmpR op_eq (C8.pe_c YDRAW hr (by decide) rfl (pa_cons (pv 0) (pa_cons pe_int pa_nil))) pe_int (nomark _)) (pss_one (ps_ret (pe_tup (pa_cons (pv 1) (pa_cons (pv 2) pa_nil))))) pss_nil)
      (pss_one (ps_ret (pe_tup (pa_cons (pv 2) (pa_cons (pv 1) pa_nil)))))), zrun h ?_⟩
  rintro as P XP ⟨a, b, rfl, hp⟩ hl
  obtain ⟨p0, p1, p2, rfl⟩ := len3 hl
  refine ⟨0, rfl, by decide, ?_⟩
  refine blk_seq (blk_if (et_b (ev_op ro_eqI (ev_draw rfl (ev_c (t := tInt) (fun _ _ => rfl) ⟨⟨by decide, by decide⟩, fun r a1 b1 => ev_c (t := tInt) (fun _ _ => rfl) ⟨fun _ => ?_, fun _ => blk_next ?_⟩⟩)))))
  · exact blk_ret (ev_t2 (ev_var rfl (ev_var rfl (fin0 [_, _, _] _ (hp _ (.inl rfl))))))
  · exact blk_ret (ev_t2 (ev_var rfl (ev_var rfl (fin0 [_, _, _] _ (hp _ (.inr rfl))))))
abbrev NYLstarH : List Str := ["_law_stream_here", "_law_names_here", "_law_scale", "_law_prices", "_law_name_here", "_law_leaves", "_law_ties"]
theorem scYLstarH : FnScope NYLstarH ["_law_stream_here", "_law_names_here", "_law_scale"] (defScope s_law_star) := ⟨rfl, rfl, rfl, by decide +kernel, rfl, by decide +kernel, by decide +kernel⟩
theorem y_star9 (T : Blt mg) (B_min : mg "min" = none) (B_sum : mg "sum" = none) (F : Has K mg "_law_star" s_law_star) (YAMOUNT : C8.Cal P w K mg base 2 "_law_amount" (Y.spZ yAmount) []) (YPAIRD : C8.Cal P w K mg base 2 "_law_pair" (Y.spZ (yPairD K)) []) : C8.Cal P w K mg base 3 "_law_star" (Y.spZ (yStar9 K)) [] := by
  refine calF F (fun f fd F => F.binds (ps := ["_law_stream_here", "_law_names_here", "_law_scale"]) fun _ _ _ _ _ _ us hl => match us, hl with | [_, _, _], _ => rfl) scYLstarH (fun vs H Q E h => zlen (fun as P XP hc => by obtain ⟨_, _, _, rfl, _⟩ := hc; rfl) h) (fun f cdv A outer s H vs Q E hr h => ?_)
  have hu := hu_of hr
  refine ⟨_, (pss_cons (ps_set (i := 3) scYLstarH.nd rfl (Or.inr rfl) pe_dnewK)
      (pss_cons (ps_for PassesOwn.never rfl (pi_list (pv 1)) (pg_name (i := 4) scYLstarH.nd rfl (Or.inl rfl))
        (pss_one (ps_dput hu (pv 3) (pv 4) (C8.pe_c YAMOUNT hr (by decide) rfl (pa_cons (pv 0) (pa_cons (pv 2) pa_nil))) rfl)))
      (pss_cons (ps_set (i := 5) scYLstarH.nd rfl (Or.inl rfl) (pe_callB (cr_sum rfl) (by rfl) B_sum (by decide +kernel) (pa_cons (pe_lc (own := [("_law_name_here", 4)]) (g := gName 4) (tt := tYes) rfl scYLstarH.nd (pi_list (pe_slice sl_list (pv 1) (po_some pe_int) po_none)) (blkOk_by (own := [("_law_name_here", 4)]) (N := NYLstarH) (sc := defScope s_law_star) (by decide +kernel)) (fun _ _ _ _ _ => (pg_name (i := 4) scYLstarH.nd rfl (Or.inl rfl))) (fun _ _ _ _ _ => pts_nil) (fun _ _ _ _ _ => (pe_dget hu (pv 3) (pv 4) (fun _ _ => rfl)))) pa_nil)))
      (pss_cons (ps_setLc (i := 6) (own := [("_law_name_here", 4)]) (g := gName 4) (tt := tYes) rfl scYLstarH.nd rfl rfl (sw_true rfl rfl rfl (by decide +kernel)) (pi_list (pe_slice sl_list (pv 1) (po_some pe_int) po_none)) (blkOk_by (own := [("_law_name_here", 4)]) (N := NYLstarH) (sc := defScope s_law_star) (by decide +kernel)) (fun _ _ _ _ _ => (pg_name (i := 4) scYLstarH.nd rfl (Or.inl rfl))) (fun _ _ _ _ _ => pts_nil) (fun _ _ _ _ _ => (C8.pe_c YPAIRD hr (by decide) rfl (pa_cons (pv 0) (pa_cons (pe_ix (show IxR _ (rIxL K) from ix_list) (pv 1) pe_int (fun _ _ => rfl)) (pa_cons (pv 4) pa_nil))))))
      (pss_one (ps_ret (pe_lst (pa_cons (pv 6) (pa_cons (pv 3) (pa_cons (pe_op op_mul pe_int (pe_callB (call_min2 rfl) (by rfl) B_min (by decide +kernel) (pa_cons (pe_dget hu (pv 3) (pe_ix ix_list (pv 1) pe_int (fun _ _ => rfl)) (fun _ _ => rfl)) (pa_cons (pv 5) pa_nil)))) pa_nil)))))))))), zrun h ?_⟩
  rintro as P XP ⟨m, xs, sc, rfl, ⟨h40, nd⟩, hp⟩ hl
  obtain ⟨p0, p1, p2, rfl⟩ := len3 hl
  refine ⟨4, rfl, by decide, ?_⟩
  obtain ⟨ns, ens⟩ : ∃ ns, ns = m :: xs := ⟨_, rfl⟩
  have hd : ns.drop 1 = xs := by rw [ens]; rfl
  have h0 : ns[0]? = some m := by rw [ens]; rfl
  rw [← ens] at h40 nd
  refine blk_seq (blk_setO (ev_dnew kS tInt ⟨rfl, ?_⟩))
  refine blk_norm ⟨false, [.sh tStm (), .sh (tLs K tStr) ns, .sh tInt sc, .ow (oD kS tInt) [], .un, .un, .un], [some p0, some p1, some p2]⟩ (by rw [ens]; rfl) ?_
  refine blk_seq (blk_for (vs := [4]) (ei_list (ev_var (t := tLs K tStr) (x := ns) rfl ⟨(fun i G' => ∃ g s4, (∀ x ∈ ns.take i, 1 ≤ g x ∧ g x ≤ 10 ^ 30) ∧ G' = ⟨false, [.sh tStm (), .sh (tLs K tStr) ns, .sh tInt sc, .ow (oD kS tInt) (atD (ns.take i) g), s4, .un, .un], [some p0, some p1, some p2]⟩), ⟨fun _ => 0, _, fun x h => absurd h (by simp), rfl⟩, ?_, ?_⟩)))
  · rintro i x _ hx ⟨g, s4, hb, rfl⟩
    have nt := not_taken nd hx
    refine tg_name (by decide) (free_of rfl) (blk_dput kyS (pt_var (i := 3) rfl (by decide)) (ev_view (r := .sh tInt) flI (ev_call0 (ea_cons (ev_var rfl (ea_cons (ev_var rfl (ea_nil ⟨fun h => (nomatch h), allc trivial (all1 trivial), sc, rfl, fun r hr _ => ev_var rfl ⟨fits40 (by rw [atD_len, List.length_take]; omega), fun y => if y = x then r else g y, .sh tStr x, ?_, ?_⟩⟩))))))))
    · rw [take_more hx]
      intro y hy
      rcases List.mem_append.mp hy with hy | hy
      · have : y ≠ x := fun e => nt (by rw [← e]; exact hy)
        show 1 ≤ (if y = x then r else g y) ∧ (if y = x then r else g y) ≤ 10 ^ 30
        rw [if_neg this]
        exact hb y hy
      · rw [List.mem_singleton] at hy
        show 1 ≤ (if y = x then r else g y) ∧ (if y = x then r else g y) ≤ 10 ^ 30
        rw [if_pos hy]
        exact hr
    · have e1 : atD (ns.take i) g = atD (ns.take i) fun y => if y = x then r else g y := by
        unfold atD
        refine List.map_congr_left fun y hy => ?_
        have : y ≠ x := fun e => nt (by rw [← e]; exact hy)
        show (y, g y) = (y, if y = x then r else g y)
        rw [if_neg this]
      rw [← atD_snoc9 (g := fun y => if y = x then r else g y) (v := r) nd hx (if_pos rfl), ← e1]
      rfl
  rintro _ ⟨g, s4, hb, rfl⟩
  rw [List.take_length] at hb ⊢
  have lk : ∀ x ∈ ns, lookK (atD ns g) x = some (g x) := fun x hx => look_atD hx
  have sub : ∀ x ∈ xs, x ∈ ns := fun x hx => by rw [ens]; exact List.mem_cons_of_mem _ hx
  have xl : xs.length ≤ 40 := by rw [ens, List.length_cons] at h40; omega
  refine blk_seq (blk_set (t := tInt) (ev_cb rc_sum (EvR.share (O := oL K tInt) (ev_lc (K := K) (u := tInt) (vs := [4]) (ei_list (EvR.share (O := oL K tStr) (ev_sl sl_from (ev_var (t := tLs K tStr) (x := ns) rfl (eo_some (ev_c (t := tInt) (fun _ _ => rfl) (eo_none ⟨1, rfl, rfl, ?_⟩)))))))))))
  rw [hd]
  refine ⟨(fun i ys => ys = (xs.take i).map g), fits40 (by omega), ?_, rfl, ?_, ?_⟩
  · intro i hi
    rw [List.mem_singleton] at hi; subst hi; exact free_of rfl
  · rintro i x ys hx rfl
    refine tg_name (by decide) (free_of rfl) (et_yes ⟨fun _ => ?_, fun h => (nomatch h)⟩)
    refine (ev_view (r := .sh tInt) flI (ev_dget kyS (ev_var (t := tDk kS tInt) (x := atD ns g) rfl (ev_var rfl ⟨_, lk x (sub x (List.mem_of_getElem? hx)), ?_⟩))))
    show _ = _
    rw [take_more hx, List.map_append]
    rfl
  rintro ys rfl
  rw [List.take_length]
  refine ⟨fun h => (nomatch h), rfl, ?_⟩
  obtain ⟨lv, elv⟩ : ∃ lv, lv = (xs.map g).sum := ⟨_, rfl⟩
  refine blk_norm ⟨false, [.sh tStm (), .sh (tLs K tStr) ns, .sh tInt sc, .ow (oD kS tInt) (atD ns g), s4, .sh tInt lv, .un], [some p0, some p1, some p2]⟩ (by rw [elv]; rfl) ?_
  refine blk_seq (blk_set (t := tLs K (tPr K)) (EvR.share (O := oL K (tPr K)) (ev_lc (K := K) (u := tPr K) (vs := [4]) (ei_list (EvR.share (O := oL K tStr) (ev_sl sl_from (ev_var (t := tLs K tStr) (x := ns) rfl (eo_some (ev_c (t := tInt) (fun _ _ => rfl) (eo_none ⟨1, rfl, rfl, ?_⟩))))))))))
  rw [hd]
  refine ⟨(fun i ys => StarR m (xs.take i) ys), fits40 (by omega), ?_, ⟨rfl, fun j x e h => by simp at h⟩, ?_, ?_⟩
  · intro i hi
    rw [List.mem_singleton] at hi; subst hi; exact free_of rfl
  · rintro i x ys hx S
    refine tg_name (by decide) (free_of rfl) (et_yes ⟨fun _ => ?_, fun h => (nomatch h)⟩)
    refine ev_call0 (ea_cons (ev_var rfl (ea_cons (ev_op ro_ixL (ev_var (t := tLs K tStr) (x := ns) rfl (ev_c (t := tInt) (fun _ _ => rfl) ⟨m, at_ofN (j := 0) rfl h0, ea_cons (ev_var rfl (ea_nil ⟨fun h => (nomatch h), allc trivial (allc trivial (all1 trivial)), m, x, rfl, fun r hr _ => ?_⟩))⟩))))))
    have xl : i < xs.length := (List.getElem?_eq_some_iff.mp hx).1
    have yl : ys.length = i := by
      have := S.ln
      rw [List.length_take] at this
      omega
    show StarR m (xs.take (i + 1)) (ys ++ [r])
    refine ⟨by rw [take_more hx, List.length_append, List.length_append, S.ln]; rfl, fun j x2 e h1 h2 => ?_⟩
    rw [take_more hx] at h1
    by_cases c : j < i
    · rw [List.getElem?_append_left (by rw [List.length_take]; omega)] at h1
      rw [List.getElem?_append_left (by omega)] at h2
      exact S.at_ j x2 e h1 h2
    · have jl := (List.getElem?_eq_some_iff.mp h2).1
      rw [List.length_append, List.length_singleton] at jl
      have : j = i := by omega
      subst this
      rw [List.getElem?_append_right (by rw [List.length_take]; omega), List.length_take, show j - min j xs.length = 0 by omega] at h1
      rw [List.getElem?_append_right (by omega), yl, Nat.sub_self] at h2
      cases h1
      cases h2
      exact hr
  rintro ts S
  rw [List.take_length] at S
  refine ⟨rfl, ?_⟩
  have hp2 := hp g ts (by rw [← ens]; exact hb) S
  rw [← ens, ← elv] at hp2
  refine blk_ret (ev_l3m (i := 3) (O := oD kS tInt) (y := atD ns g) (ev_var (t := tLs K (tPr K)) (x := ts) rfl ⟨rfl, ?_⟩))
  refine ev_op ro_I (ev_c (t := tInt) (fun _ _ => rfl) (ev_min2 (ev_view (r := .sh tInt) flI (ev_dget kyS (ev_var (t := tDk kS tInt) (x := atD ns g) rfl (ev_op ro_ixL (ev_var (t := tLs K tStr) (x := ns) rfl (ev_c (t := tInt) (fun _ _ => rfl) ⟨m, at_ofN (j := 0) rfl h0, _, lk m (List.mem_of_getElem? h0), ?_⟩))))))))
  refine ev_var rfl ⟨.inl ⟨by decide, by decide⟩, rfl, ?_⟩
  exact fin0 [_, _, _] _ hp2
abbrev NYLapartH : List Str := ["_law_stream_here", "_law_names_here", "_law_scale", "_law_prices", "_law_name_here", "_law_ties", "_law_k", "_law_pair_here"]
theorem scYLapartH : FnScope NYLapartH ["_law_stream_here", "_law_names_here", "_law_scale"] (defScope s_law_apart) := ⟨rfl, rfl, rfl, by decide +kernel, rfl, by decide +kernel, by decide +kernel⟩
theorem y_apart9 (T : Blt mg) (B_min : mg "min" = none) (B_sum : mg "sum" = none) (F : Has K mg "_law_apart" s_law_apart) (YAMOUNT : C8.Cal P w K mg base 2 "_law_amount" (Y.spZ yAmount) []) : C8.Cal P w K mg base 3 "_law_apart" (Y.spZ (yApart9 K)) [] := by
  refine calF F (fun f fd F => F.binds (ps := ["_law_stream_here", "_law_names_here", "_law_scale"]) fun _ _ _ _ _ _ us hl => match us, hl with | [_, _, _], _ => rfl) scYLapartH (fun vs H Q E h => zlen (fun as P XP hc => by obtain ⟨_, _, rfl, _⟩ := hc; rfl) h) (fun f cdv A outer s H vs Q E hr h => ?_)
  have hu := hu_of hr
  refine ⟨_, (pss_cons (ps_set (i := 3) scYLapartH.nd rfl (Or.inr rfl) pe_dnewK)
      (pss_cons (ps_for PassesOwn.never rfl (pi_list (pv 1)) (pg_name (i := 4) scYLapartH.nd rfl (Or.inl rfl))
        (pss_one (ps_dput hu (pv 3) (pv 4) (C8.pe_c YAMOUNT hr (by decide) rfl (pa_cons (pv 0) (pa_cons (pv 2) pa_nil))) rfl)))
      (pss_cons (ps_setLc (i := 5) (own := [("_law_k", 6)]) (g := gName 6) (tt := tYes) rfl scYLapartH.nd rfl rfl (sw_true rfl rfl rfl (by decide +kernel)) (pi_range1 rfl T.b_range (pa_cons (pe_op op_fdivW (pe_callB call_len (by rfl) T.b_len PySem.boot_len (pa_cons (pv 1) pa_nil)) pe_int) pa_nil)) (blkOk_by (own := [("_law_k", 6)]) (N := NYLapartH) (sc := defScope s_law_apart) (by decide +kernel)) (fun _ _ _ _ _ => (pg_name (i := 6) scYLapartH.nd rfl (Or.inl rfl))) (fun _ _ _ _ _ => pts_nil) (fun _ _ _ _ _ => (pe_tup (pa_cons (pe_ix (show IxR _ (rIxL K) from ix_list) (pv 1) (pe_op op_mul pe_int (pv 6)) (fun _ _ => rfl)) (pa_cons (pe_ix (show IxR _ (rIxL K) from ix_list) (pv 1) (pe_op op_add (pe_op op_mul pe_int (pv 6)) pe_int) (fun _ _ => rfl)) pa_nil)))))
      (pss_one (ps_ret (pe_lst (pa_cons (pv 5) (pa_cons (pv 3) (pa_cons (pe_callB (cr_sum rfl) (by rfl) B_sum (by decide +kernel) (pa_cons (pe_lc (own := [("_law_pair_here", 7)]) (g := gName 7) (tt := tYes) rfl scYLapartH.nd (pi_list (pv 5)) (blkOk_by (own := [("_law_pair_here", 7)]) (N := NYLapartH) (sc := defScope s_law_apart) (by decide +kernel)) (fun _ _ _ _ _ => (pg_name (i := 7) scYLapartH.nd rfl (Or.inl rfl))) (fun _ _ _ _ _ => pts_nil) (fun _ _ _ _ _ => (pe_op op_mul pe_int (pe_callB (call_min2 rfl) (by rfl) B_min (by decide +kernel) (pa_cons (pe_dget hu (pv 3) (pe_ix (show IxR _ (rIxT K) from ix_tup) (pv 7) pe_int (fun _ _ => rfl)) (fun _ _ => rfl)) (pa_cons (pe_dget hu (pv 3) (pe_ix (show IxR _ (rIxT K) from ix_tup) (pv 7) pe_int (fun _ _ => rfl)) (fun _ _ => rfl)) pa_nil)))))) pa_nil)) pa_nil))))))))), zrun h ?_⟩
  rintro as P XP ⟨ns, sc, rfl, ⟨h40, nd⟩, hp⟩ hl
  obtain ⟨p0, p1, p2, rfl⟩ := len3 hl
  refine ⟨5, rfl, by decide, ?_⟩
  refine blk_seq (blk_setO (ev_dnew kS tInt ⟨rfl, ?_⟩))
  refine blk_seq (blk_for (vs := [4]) (ei_list (ev_var (t := tLs K tStr) (x := ns) rfl ⟨(fun i G' => ∃ g s4, (∀ x ∈ ns.take i, 1 ≤ g x ∧ g x ≤ 10 ^ 30) ∧ G' = ⟨false, [.sh tStm (), .sh (tLs K tStr) ns, .sh tInt sc, .ow (oD kS tInt) (atD (ns.take i) g), s4, .un, .un, .un], [some p0, some p1, some p2]⟩), ⟨fun _ => 0, _, fun x h => absurd h (by simp), rfl⟩, ?_, ?_⟩)))
  · rintro i x _ hx ⟨g, s4, hb, rfl⟩
    have nt := not_taken nd hx
    refine tg_name (by decide) (free_of rfl) (blk_dput kyS (pt_var (i := 3) rfl (by decide)) (ev_view (r := .sh tInt) flI (ev_call0 (ea_cons (ev_var rfl (ea_cons (ev_var rfl (ea_nil ⟨fun h => (nomatch h), allc trivial (all1 trivial), sc, rfl, fun r hr _ => ev_var rfl ⟨fits40 (by rw [atD_len, List.length_take]; omega), fun y => if y = x then r else g y, .sh tStr x, ?_, ?_⟩⟩))))))))
    · rw [take_more hx]
      intro y hy
      rcases List.mem_append.mp hy with hy | hy
      · have : y ≠ x := fun e => nt (by rw [← e]; exact hy)
        show 1 ≤ (if y = x then r else g y) ∧ (if y = x then r else g y) ≤ 10 ^ 30
        rw [if_neg this]
        exact hb y hy
      · rw [List.mem_singleton] at hy
        show 1 ≤ (if y = x then r else g y) ∧ (if y = x then r else g y) ≤ 10 ^ 30
        rw [if_pos hy]
        exact hr
    · have e1 : atD (ns.take i) g = atD (ns.take i) fun y => if y = x then r else g y := by
        unfold atD
        refine List.map_congr_left fun y hy => ?_
        have : y ≠ x := fun e => nt (by rw [← e]; exact hy)
        show (y, g y) = (y, if y = x then r else g y)
        rw [if_neg this]
      rw [← atD_snoc9 (g := fun y => if y = x then r else g y) (v := r) nd hx (if_pos rfl), ← e1]
      rfl
  rintro _ ⟨g, s4, hb, rfl⟩
  rw [List.take_length] at hb ⊢
  have lk : ∀ x ∈ ns, lookK (atD ns g) x = some (g x) := fun x hx => look_atD hx
  refine blk_seq (blk_set (t := tLs K (tPr K)) (EvR.share (O := oL K (tPr K)) (ev_lc (K := K) (u := tPr K) (vs := [6]) (ei_range1 (ev_op ro_I (ev_cb rc_lenL (ev_var (t := tLs K tStr) (x := ns) rfl ⟨fun h => (nomatch h), ev_c (t := tInt) (fun _ _ => rfl) ?_⟩)))))))
  refine ⟨⟨by decide, by decide⟩, ?_⟩
  dsimp only
  have dv : ((ns.length : Int) / 2) = ((ns.length / 2 : Nat) : Int) := by omega
  have dv2 : ((ns.length : Int).fdiv 2) = ((ns.length / 2 : Nat) : Int) := by rw [Int.fdiv_eq_ediv_of_nonneg _ (by decide)]; exact dv
  first | rw [dv] | rw [dv2]
  obtain ⟨h, eh⟩ : ∃ h, h = ns.length / 2 := ⟨_, rfl⟩
  rw [← eh] at hp ⊢
  refine ⟨⟨by omega, by omega⟩, (fun i ys => ys = aptT ns i), ?_, ?_, rfl, ?_, ?_⟩
  · exact fits40 (by rw [rangeZ_len]; omega)
  · intro i hi
    rw [List.mem_singleton] at hi; subst hi; exact free_of rfl
  · rintro i k ys hk rfl
    obtain ⟨rfl, hkl⟩ := rangeZ_get hk
    have l1 := nmR_at (ns := ns) (k := 2 * i) (by omega)
    have l2 := nmR_at (ns := ns) (k := 2 * i + 1) (by omega)
    refine tg_name (by decide) (free_of rfl) (et_yes ⟨fun _ => ?_, fun h => (nomatch h)⟩)
    refine ev_t2 (K := K) (ev_op ro_ixL (ev_var (t := tLs K tStr) (x := ns) rfl (ev_op ro_I (ev_c (t := tInt) (fun _ _ => rfl) (ev_var rfl ⟨.inl ⟨by decide, by decide⟩, _, at_ofN (j := 2 * i) (by omega) l1, ?_⟩)))))
    refine ev_op ro_ixL (ev_var (t := tLs K tStr) (x := ns) rfl (ev_op ro_I0 (ev_op ro_I (ev_c (t := tInt) (fun _ _ => rfl) (ev_var rfl ⟨.inl ⟨by decide, by decide⟩, ev_c (t := tInt) (fun _ _ => rfl) ⟨_, at_ofN (j := 2 * i + 1) (by omega) l2, ?_⟩⟩)))))
    show _ = _
    unfold aptT
    rw [List.range_succ, List.map_append]
    rfl
  rintro ys rfl
  rw [rangeZ_len, show ((h : Int) - 0).toNat = h by omega]
  refine ⟨rfl, ?_⟩
  have mem : ∀ e ∈ aptT ns h, e.1 ∈ ns ∧ e.2 ∈ ns := fun e he => by
    obtain ⟨k, hk, rfl⟩ := List.mem_map.mp he
    have hk := List.mem_range.mp hk
    exact ⟨List.mem_of_getElem? (nmR_at (by omega)), List.mem_of_getElem? (nmR_at (by omega))⟩
  have al : (aptT ns h).length = h := by unfold aptT; rw [List.length_map, List.length_range]
  obtain ⟨ts, ets⟩ : ∃ ts, ts = aptT ns h := ⟨_, rfl⟩
  rw [← ets] at mem al hp
  refine blk_norm ⟨false, [.sh tStm (), .sh (tLs K tStr) ns, .sh tInt sc, .ow (oD kS tInt) (atD ns g), s4, .sh (tLs K (tPr K)) ts, .un, .un], [some p0, some p1, some p2]⟩ (by rw [ets]; rfl) ?_
  refine blk_ret (ev_l3m (i := 3) (O := oD kS tInt) (y := atD ns g) (ev_var (t := tLs K (tPr K)) (x := ts) rfl ⟨rfl, ?_⟩))
  refine ev_cb rc_sum (EvR.share (O := oL K tInt) (ev_lc (K := K) (u := tInt) (vs := [7]) (ei_list (ev_var (t := tLs K (tPr K)) (x := ts) rfl ⟨(fun i ys => ys = (ts.take i).map fun e => 2 * (if g e.2 < g e.1 then g e.2 else g e.1)), fits40 (by omega), ?_, rfl, ?_, ?_⟩))))
  · intro i hi
    rw [List.mem_singleton] at hi; subst hi; exact free_of rfl
  · rintro i e ys he rfl
    obtain ⟨m1, m2⟩ := mem e (List.mem_of_getElem? he)
    refine tg_name (by decide) (free_of rfl) (et_yes ⟨fun _ => ?_, fun h => (nomatch h)⟩)
    refine ev_op ro_I (ev_c (t := tInt) (fun _ _ => rfl) (ev_min2 (ev_view (r := .sh tInt) flI (ev_dget kyS (ev_var (t := tDk kS tInt) (x := atD ns g) rfl (ev_op ro_t20 (ev_var rfl (ev_c (t := tInt) (fun _ _ => rfl) ⟨rfl, _, lk _ m1, ?_⟩))))))))
    refine ev_view (r := .sh tInt) flI (ev_dget kyS (ev_var (t := tDk kS tInt) (x := atD ns g) rfl (ev_op ro_t21 (ev_var rfl (ev_c (t := tInt) (fun _ _ => rfl) ⟨rfl, _, lk _ m2, .inl ⟨by decide, by decide⟩, ?_⟩)))))
    show _ = _
    rw [take_more he, List.map_append]
    rfl
  rintro ys rfl
  rw [List.take_length]
  refine ⟨fun h => (nomatch h), rfl, ?_⟩
  exact fin0 [_, _, _] _ (hp g hb)
end
end KK
end

section
set_option maxRecDepth 100000
set_option maxHeartbeats 4000000
namespace KK
open PySem PySem.Spec PyProof.Rows L2 Y
/-! the worths by hand -/
/-- the worth is what an answer costs that no answer undercuts -/
theorem worth_is {z : WebZ} {v w : Int} {g : Str → Int} (wf : WfZ z) (o : Opt z v) (a : Ansf z g) (c : costZ z g = w) (lo : ∀ y, Ansf z y → w ≤ costZ z y) : v = w := by
  have h1 := opt_le wf o a
  obtain ⟨⟨xv, h⟩, _⟩ := o
  have h2 := lo xv ⟨h.r, h.t⟩
  have h3 : costZ z xv = v := h.c
  omega
theorem sum_le_c {α : Type} {f : α → Int} {c : Int} : ∀ {l : List α}, (∀ x ∈ l, c ≤ f x) → c * (l.length : Int) ≤ (l.map f).sum
  | [], _ => by simp
  | a :: l, h => by
    have ih := sum_le_c (l := l) fun x hx => h x (List.mem_cons_of_mem _ hx)
    have h1 := h a List.mem_cons_self
    rw [List.map_cons, List.sum_cons, List.length_cons]
    have : c * ((l.length : Int) + 1) = c * l.length + c := by rw [Int.mul_add, Int.mul_one]
    push_cast
    omega
/-- all tied to each other: at least 1 each in the mean -/
theorem tied_low {f : Str → Int} : ∀ {l : List Str}, l.Nodup → 2 ≤ l.length → (∀ x ∈ l, 0 ≤ f x) → (∀ x ∈ l, ∀ y ∈ l, x ≠ y → 2 ≤ f x + f y) → (l.length : Int) ≤ (l.map f).sum
  | [], _, h, _, _ => absurd h (by simp)
  | [a], _, h, _, _ => absurd h (by simp)
  | [a, b], nd, _, _, t => by
    have := t a (by simp) b (by simp) (fun e => by rw [e] at nd; simp at nd)
    simp only [List.map_cons, List.map_nil, List.sum_cons, List.sum_nil, List.length_cons, List.length_nil]
    omega
  | a :: b :: c :: l, nd, _, z, t => by
    have nd2 := (List.nodup_cons.mp nd).2
    have na := (List.nodup_cons.mp nd).1
    have ih := tied_low (l := b :: c :: l) nd2 (by simp) (fun x hx => z x (List.mem_cons_of_mem _ hx)) fun x hx y hy => t x (List.mem_cons_of_mem _ hx) y (List.mem_cons_of_mem _ hy)
    have za := z a List.mem_cons_self
    rw [List.map_cons, List.sum_cons, List.length_cons]
    by_cases c1 : 1 ≤ f a
    · push_cast
      omega
    · have two : ∀ x ∈ b :: c :: l, 2 ≤ f x := fun x hx => by
        have := t a List.mem_cons_self x (List.mem_cons_of_mem _ hx) (fun e => na (by rw [e]; exact hx))
        omega
      have := sum_le_c two
      rw [List.length_cons] at *
      push_cast at *
      omega
theorem prv_sum (f : Nat → Int) (m : Nat) : ((List.range (m + 1)).map fun k => f (prv (m + 1) k)).sum = ((List.range (m + 1)).map f).sum := by
  rw [List.range_succ_eq_map, List.map_cons, List.map_map, List.sum_cons]
  have e : ((fun k => f (prv (m + 1) k)) ∘ Nat.succ) = f := by
    funext k
    show f (prv (m + 1) (k + 1)) = f k
    unfold prv
    rw [if_neg (by omega)]
    rfl
  rw [e, ← List.range_succ_eq_map, List.range_succ, List.map_append, List.sum_append]
  have e0 : prv (m + 1) 0 = m := by unfold prv; rw [if_pos rfl]; rfl
  rw [e0]
  simp
  omega
/-- a ring: at least 1 each in the mean -/
theorem ring_low (f : Nat → Int) (n : Nat) (h : 0 < n) (t : ∀ k, k < n → 2 ≤ f (prv n k) + f k) : (n : Int) ≤ ((List.range n).map f).sum := by
  obtain ⟨m, rfl⟩ : ∃ m, n = m + 1 := ⟨n - 1, by omega⟩
  have e := prv_sum f m
  have lo := sum_le_c (f := fun k => f (prv (m + 1) k) + f k) (l := List.range (m + 1)) fun k hk => t k (List.mem_range.mp hk)
  have sp : ((List.range (m + 1)).map fun k => f (prv (m + 1) k) + f k).sum = ((List.range (m + 1)).map fun k => f (prv (m + 1) k)).sum + ((List.range (m + 1)).map f).sum := (sum_add ..)
  rw [sp, e, List.length_range] at lo
  push_cast at *
  omega
/-- a star -/
theorem star_low {g y : Str → Int} {m : Str} {xs : List Str} (gp : ∀ x ∈ xs, 1 ≤ g x) (yr : ∀ x ∈ m :: xs, 0 ≤ y x ∧ y x ≤ 2) (t : ∀ x ∈ xs, 2 ≤ y m + y x) (gm : 1 ≤ g m) : 2 * (if (xs.map g).sum < g m then (xs.map g).sum else g m) ≤ g m * y m + (xs.map fun x => g x * y x).sum := by
  have rm := yr m List.mem_cons_self
  have low : ∀ c : Int, (∀ x ∈ xs, c ≤ y x) → 0 ≤ c → c * (xs.map g).sum ≤ (xs.map fun x => g x * y x).sum := fun c h c0 => by
    rw [← sum_mul]
    refine sum_le' fun x hx => ?_
    have h1 := h x hx
    have h2 := gp x hx
    rw [Int.mul_comm c]
    exact Int.mul_le_mul_of_nonneg_left h1 (by omega)
  rcases (by omega : y m = 0 ∨ y m = 1 ∨ y m = 2) with q | q | q
  · have := low 2 (fun x hx => by have := t x hx; omega) (by decide)
    rw [q, Int.mul_zero]
    split <;> omega
  · have := low 1 (fun x hx => by have := t x hx; omega) (by decide)
    rw [q, Int.mul_one]
    split <;> omega
  · have := low 0 (fun x hx => (yr x (List.mem_cons_of_mem _ hx)).1) (by decide)
    rw [q]
    split <;> omega
theorem pair_low {a b u v : Int} (ga : 1 ≤ a) (gb : 1 ≤ b) (hu : 0 ≤ u) (hv : 0 ≤ v) (t : 2 ≤ u + v) : 2 * (if b < a then b else a) ≤ a * u + b * v := by
  split
  · rename_i c
    have h1 : b * u ≤ a * u := Int.mul_le_mul_of_nonneg_right (by omega) hu
    have h2 : b * 2 ≤ b * (u + v) := Int.mul_le_mul_of_nonneg_left t (by omega)
    rw [Int.mul_add] at h2
    omega
  · rename_i c
    have h1 : a * v ≤ b * v := Int.mul_le_mul_of_nonneg_right (by omega) hv
    have h2 : a * 2 ≤ a * (u + v) := Int.mul_le_mul_of_nonneg_left t (by omega)
    rw [Int.mul_add] at h2
    omega
theorem apt_sum {ns : List Str} {h : Nat} (e : ns.length = 2 * h) (F : Str → Int) : (ns.map F).sum = ((aptT ns h).map fun e => F e.1 + F e.2).sum := by
  rw [map_range F (fun k => F (nmR ns k)) fun k x hx => by have := nmR_at (List.getElem?_eq_some_iff.mp hx).1; rw [hx] at this; cases this; rfl]
  rw [e, sum_pairs (fun k => F (nmR ns k))]
  unfold aptT
  rw [List.map_map]
  rfl
/-- pairs -/
theorem apt_low {ns : List Str} {h : Nat} {g y : Str → Int} (e : ns.length = 2 * h) (gp : ∀ x ∈ ns, 1 ≤ g x) (yr : ∀ x ∈ ns, 0 ≤ y x) (t : ∀ e ∈ aptT ns h, 2 ≤ y e.1 + y e.2) : aptS (aptT ns h) g ≤ (ns.map fun x => g x * y x).sum := by
  rw [apt_sum e]
  unfold aptS
  refine sum_le' fun q hq => ?_
  obtain ⟨k, hk, rfl⟩ := List.mem_map.mp hq
  have hk := List.mem_range.mp hk
  have m1 := List.mem_of_getElem? (nmR_at (ns := ns) (k := 2 * k) (by omega))
  have m2 := List.mem_of_getElem? (nmR_at (ns := ns) (k := 2 * k + 1) (by omega))
  exact pair_low (gp _ m1) (gp _ m2) (yr _ m1) (yr _ m2) (t _ hq)
/-- ties and prices with a worth told by hand -/
structure FoundR (ns : List Str) (ts : List (Str × Str)) (g : Str → Int) (W : Int) : Prop where
  to : TsOk ns ts
  pr : ∀ x ∈ ns, 1 ≤ g x ∧ g x ≤ 10 ^ 30
  lo : ∀ y : Str → Int, (∀ x ∈ ns, 0 ≤ y x ∧ y x ≤ 2) → (∀ e ∈ ts, 2 ≤ y e.1 + y e.2) → W ≤ (ns.map fun x => g x * y x).sum
  up : ∃ y : Str → Int, (∀ x ∈ ns, 0 ≤ y x ∧ y x ≤ 2) ∧ (∀ e ∈ ts, 2 ≤ y e.1 + y e.2) ∧ (ns.map fun x => g x * y x).sum = W
theorem ones_up {ns : List Str} {c : Int} : (ns.map fun _ => c * (fun _ : Str => (1 : Int)) "").sum = (ns.length : Int) * c := by
  induction ns with
  | nil => simp
  | cons a l ih =>
    rw [List.map_cons, List.sum_cons, ih, List.length_cons]
    push_cast
    rw [Int.add_mul]
    omega
theorem found_ring {ns : List Str} {c : Int} (nd : ns.Nodup) (h3 : 3 ≤ ns.length) (h40 : ns.length ≤ 40) (c1 : 1 ≤ c) (c2 : c ≤ 10 ^ 30) : FoundR ns (ringT ns) (fun _ => c) ((ns.length : Int) * c) := by
  refine ⟨ring_ts nd h3 h40, fun x _ => ⟨c1, c2⟩, fun y yr t => ?_, fun _ => 1, fun x _ => by show (0 : Int) ≤ 1 ∧ (1 : Int) ≤ 2; decide, fun e _ => by show (2 : Int) ≤ 1 + 1; decide, ones_up⟩
  have low := ring_low (fun k => y (nmR ns k)) ns.length (by omega) fun k hk => t _ (List.mem_map.mpr ⟨k, List.mem_range.mpr hk, rfl⟩)
  have e1 : (ns.map fun x => c * y x).sum = c * (ns.map y).sum := sum_mul c y ns
  rw [e1, map_range y (fun k => y (nmR ns k)) fun k x hx => by have := nmR_at (List.getElem?_eq_some_iff.mp hx).1; rw [hx] at this; cases this; rfl, Int.mul_comm]
  exact Int.mul_le_mul_of_nonneg_left low (by omega)
theorem found_tied {ns : List Str} {c : Int} (nd : ns.Nodup) (h2 : 2 ≤ ns.length) (to : TsOk ns (allT ns ns.length)) (c1 : 1 ≤ c) (c2 : c ≤ 10 ^ 30) : FoundR ns (allT ns ns.length) (fun _ => c) ((ns.length : Int) * c) := by
  refine ⟨to, fun x _ => ⟨c1, c2⟩, fun y yr t => ?_, fun _ => 1, fun x _ => by show (0 : Int) ≤ 1 ∧ (1 : Int) ≤ 2; decide, fun e _ => by show (2 : Int) ≤ 1 + 1; decide, ones_up⟩
  have two : ∀ (i j : Nat), j < i → i < ns.length → 2 ≤ y (nmR ns i) + y (nmR ns j) := fun i j ji hi => t _ (by
    unfold allT
    exact List.mem_flatMap.mpr ⟨i, List.mem_range.mpr hi, List.mem_map.mpr ⟨j, List.mem_range.mpr ji, rfl⟩⟩)
  have low := tied_low (f := y) nd h2 (fun x hx => (yr x hx).1) fun x hx z hz ne => by
    obtain ⟨i, hi, ei⟩ := List.getElem_of_mem hx
    obtain ⟨j, hj, ej⟩ := List.getElem_of_mem hz
    have xi : nmR ns i = x := by unfold nmR; rw [List.getElem?_eq_getElem hi, ei]; rfl
    have zj : nmR ns j = z := by unfold nmR; rw [List.getElem?_eq_getElem hj, ej]; rfl
    rw [← xi, ← zj]
    rcases Nat.lt_trichotomy i j with q | q | q
    · have := two j i q hj
      omega
    · exact absurd (by rw [← xi, ← zj, q]) ne
    · exact two i j q hi
  have e1 : (ns.map fun x => c * y x).sum = c * (ns.map y).sum := sum_mul c y ns
  rw [e1, Int.mul_comm]
  exact Int.mul_le_mul_of_nonneg_left low (by omega)
theorem found_star {m : Str} {xs : List Str} {ts : List (Str × Str)} {g : Str → Int} (nd : (m :: xs).Nodup) (S : StarR m xs ts) (to : TsOk (m :: xs) ts) (pr : ∀ x ∈ m :: xs, 1 ≤ g x ∧ g x ≤ 10 ^ 30) : FoundR (m :: xs) ts g (2 * (if (xs.map g).sum < g m then (xs.map g).sum else g m)) := by
  have nm := (List.nodup_cons.mp nd).1
  have ne : ∀ x ∈ xs, x ≠ m := fun x hx e => nm (by rw [← e]; exact hx)
  have all : ∀ e ∈ ts, ∃ x ∈ xs, e = (m, x) ∨ e = (x, m) := fun e he => by
    obtain ⟨j, hj, ej⟩ := List.getElem_of_mem he
    have hx : j < xs.length := by rw [← S.ln]; exact hj
    exact ⟨xs[j], List.getElem_mem hx, S.at_ j _ e (List.getElem?_eq_getElem hx) (by rw [List.getElem?_eq_getElem hj, ej])⟩
  refine ⟨to, pr, fun y yr t => ?_, ?_⟩
  · rw [List.map_cons, List.sum_cons]
    refine star_low (fun x hx => (pr x (List.mem_cons_of_mem _ hx)).1) yr (fun x hx => ?_) (pr m List.mem_cons_self).1
    obtain ⟨j, hj, ej⟩ := List.getElem_of_mem hx
    have hj2 : j < ts.length := by rw [S.ln]; exact hj
    have := t _ (List.getElem_mem hj2)
    rcases S.at_ j x _ (by rw [List.getElem?_eq_getElem hj, ej]) (List.getElem?_eq_getElem hj2) with e | e <;> rw [e] at this
    · exact this
    · have this : 2 ≤ y x + y m := this
      omega
  · by_cases c : (xs.map g).sum < g m
    · refine ⟨fun u => if u = m then 0 else 2, fun x _ => ?_, fun e he => ?_, ?_⟩
      · show 0 ≤ (if x = m then (0 : Int) else 2) ∧ (if x = m then (0 : Int) else 2) ≤ 2
        split <;> decide
      · obtain ⟨x, hx, q⟩ := all e he
        show 2 ≤ (if e.1 = m then (0 : Int) else 2) + (if e.2 = m then (0 : Int) else 2)
        rcases q with q | q <;> rw [q]
        · show 2 ≤ (if m = m then (0 : Int) else 2) + (if x = m then (0 : Int) else 2)
          rw [if_pos rfl, if_neg (ne x hx)]
          decide
        · show 2 ≤ (if x = m then (0 : Int) else 2) + (if m = m then (0 : Int) else 2)
          rw [if_pos rfl, if_neg (ne x hx)]
          decide
      · rw [if_pos c, List.map_cons, List.sum_cons]
        show g m * (if m = m then (0 : Int) else 2) + (xs.map fun x => g x * (if x = m then (0 : Int) else 2)).sum = _
        have : (xs.map fun x => g x * (if x = m then (0 : Int) else 2)).sum = (xs.map fun x => 2 * g x).sum := sum_congr fun x hx => by rw [if_neg (ne x hx)]; omega
        rw [if_pos rfl, this, sum_mul]
        omega
    · refine ⟨fun u => if u = m then 2 else 0, fun x _ => ?_, fun e he => ?_, ?_⟩
      · show 0 ≤ (if x = m then (2 : Int) else 0) ∧ (if x = m then (2 : Int) else 0) ≤ 2
        split <;> decide
      · obtain ⟨x, hx, q⟩ := all e he
        show 2 ≤ (if e.1 = m then (2 : Int) else 0) + (if e.2 = m then (2 : Int) else 0)
        rcases q with q | q <;> rw [q]
        · show 2 ≤ (if m = m then (2 : Int) else 0) + (if x = m then (2 : Int) else 0)
          rw [if_pos rfl, if_neg (ne x hx)]
          decide
        · show 2 ≤ (if x = m then (2 : Int) else 0) + (if m = m then (2 : Int) else 0)
          rw [if_pos rfl, if_neg (ne x hx)]
          decide
      · rw [if_neg c, List.map_cons, List.sum_cons]
        show g m * (if m = m then (2 : Int) else 0) + (xs.map fun x => g x * (if x = m then (2 : Int) else 0)).sum = _
        have : (xs.map fun x => g x * (if x = m then (2 : Int) else 0)).sum = 0 := sum_zero fun x hx => by rw [if_neg (ne x hx), Int.mul_zero]
        rw [if_pos rfl, this]
        omega
def aptY (ns : List Str) (g : Str → Int) (u : Str) : Int := if ns.idxOf u % 2 = 0 then (if g (nmR ns (ns.idxOf u + 1)) < g u then 0 else 2) else if g u < g (nmR ns (ns.idxOf u - 1)) then 2 else 0
theorem idx_nm {ns : List Str} (nd : ns.Nodup) {k : Nat} (hk : k < ns.length) : ns.idxOf (nmR ns k) = k := by
  have h := nmR_at hk
  have hm : nmR ns k ∈ ns := List.mem_of_getElem? h
  have h2 : ns[ns.idxOf (nmR ns k)]? = some (nmR ns k) := by
    rw [List.getElem?_eq_getElem (List.idxOf_lt_length_of_mem hm), List.getElem_idxOf]
  exact (List.getElem?_inj (List.idxOf_lt_length_of_mem hm) nd).mp (by rw [h, h2])
theorem apt_pair {ns : List Str} {h k : Nat} {g : Str → Int} (nd : ns.Nodup) (e : ns.length = 2 * h) (hk : k < h) : aptY ns g (nmR ns (2 * k)) = (if g (nmR ns (2 * k + 1)) < g (nmR ns (2 * k)) then 0 else 2) ∧ aptY ns g (nmR ns (2 * k + 1)) = if g (nmR ns (2 * k + 1)) < g (nmR ns (2 * k)) then 2 else 0 := by
  unfold aptY
  rw [idx_nm nd (by omega), idx_nm nd (by omega)]
  have p0 : 2 * k % 2 = 0 := by omega
  have p1 : ¬ (2 * k + 1) % 2 = 0 := by omega
  rw [if_pos p0, if_neg p1, Nat.add_sub_cancel]
  exact ⟨rfl, rfl⟩
theorem found_apart {ns : List Str} {h : Nat} {g : Str → Int} (nd : ns.Nodup) (e : ns.length = 2 * h) (to : TsOk ns (aptT ns h)) (pr : ∀ x ∈ ns, 1 ≤ g x ∧ g x ≤ 10 ^ 30) : FoundR ns (aptT ns h) g (aptS (aptT ns h) g) := by
  refine ⟨to, pr, fun y yr t => apt_low e (fun x hx => (pr x hx).1) (fun x hx => (yr x hx).1) t, aptY ns g, fun x _ => ?_, fun q hq => ?_, ?_⟩
  · unfold aptY
    split <;> split <;> decide
  · obtain ⟨k, hk, rfl⟩ := List.mem_map.mp hq
    obtain ⟨h1, h2⟩ := apt_pair (g := g) nd e (List.mem_range.mp hk)
    show 2 ≤ aptY ns g (nmR ns (2 * k)) + aptY ns g (nmR ns (2 * k + 1))
    rw [h1, h2]
    split <;> decide
  · rw [apt_sum e]
    unfold aptS
    refine sum_congr fun q hq => ?_
    obtain ⟨k, hk, rfl⟩ := List.mem_map.mp hq
    obtain ⟨h1, h2⟩ := apt_pair (g := g) nd e (List.mem_range.mp hk)
    show g (nmR ns (2 * k)) * aptY ns g (nmR ns (2 * k)) + g (nmR ns (2 * k + 1)) * aptY ns g (nmR ns (2 * k + 1)) = 2 * (if g (nmR ns (2 * k + 1)) < g (nmR ns (2 * k)) then g (nmR ns (2 * k + 1)) else g (nmR ns (2 * k)))
    rw [h1, h2]
    split <;> omega
end KK
end

section
set_option maxRecDepth 100000
set_option maxHeartbeats 4000000
namespace KK
open PySem PySem.Spec PyProof.Rows L2 Y
theorem ordP_mem (a b : Str) : (ordP (a, b)).1 = a ∧ (ordP (a, b)).2 = b ∨ (ordP (a, b)).1 = b ∧ (ordP (a, b)).2 = a := by
  rcases ordP_cases (a, b) with c | c <;> rw [c]
  · exact .inl ⟨rfl, rfl⟩
  · exact .inr ⟨rfl, rfl⟩
theorem star_ts {m : Str} {xs : List Str} {ts : List (Str × Str)} (nd : (m :: xs).Nodup) (h40 : (m :: xs).length ≤ 40) (S : StarR m xs ts) : TsOk (m :: xs) ts := by
  have nm := (List.nodup_cons.mp nd).1
  have nx := (List.nodup_cons.mp nd).2
  have ne : ∀ x ∈ xs, x ≠ m := fun x hx e => nm (by rw [← e]; exact hx)
  have all : ∀ (j : Nat) (e : Str × Str), ts[j]? = some e → ∃ x, xs[j]? = some x ∧ (e = (m, x) ∨ e = (x, m)) := fun j e he => by
    have hj := (List.getElem?_eq_some_iff.mp he).1
    have hx : j < xs.length := by rw [← S.ln]; exact hj
    exact ⟨xs[j], List.getElem?_eq_getElem hx, S.at_ j _ e (List.getElem?_eq_getElem hx) he⟩
  rw [List.length_cons] at h40
  refine ⟨fun e he => ?_, ?_, by rw [S.ln]; omega⟩
  · obtain ⟨j, hj, ej⟩ := List.getElem_of_mem he
    obtain ⟨x, hx, q⟩ := all j e (by rw [List.getElem?_eq_getElem hj, ej])
    have hx := List.mem_of_getElem? hx
    rcases q with q | q <;> rw [q]
    · exact ⟨List.mem_cons_self, List.mem_cons_of_mem _ hx, fun h => ne x hx h.symm⟩
    · exact ⟨List.mem_cons_of_mem _ hx, List.mem_cons_self, fun h => ne x hx h⟩
  · refine List.pairwise_iff_getElem.mpr fun i j hi hj ij h => ?_
    rw [List.length_map] at hi hj
    rw [List.getElem_map, List.getElem_map] at h
    obtain ⟨x, hx, q1⟩ := all i _ (List.getElem?_eq_getElem (show i < ts.length by omega))
    obtain ⟨y, hy, q2⟩ := all j _ (List.getElem?_eq_getElem hj)
    have xy : x = y := by
      have n1 := ne x (List.mem_of_getElem? hx)
      have n2 := ne y (List.mem_of_getElem? hy)
      have o1 := ordP_mem m x
      have o2 := ordP_mem x m
      have o3 := ordP_mem m y
      have o4 := ordP_mem y m
      rcases q1 with q1 | q1 <;> rcases q2 with q2 | q2 <;> rw [q1, q2] at h <;> grind
    have e : i = j := (List.getElem?_inj (i := i) (j := j) (List.getElem?_eq_some_iff.mp hx).1 nx).mp (by rw [hx, hy, xy])
    omega
theorem apt_ts {ns : List Str} {h : Nat} (nd : ns.Nodup) (e : ns.length = 2 * h) (h40 : ns.length ≤ 40) : TsOk ns (aptT ns h) := by
  refine ⟨fun q hq => ?_, ?_, ?_⟩
  · obtain ⟨k, hk, rfl⟩ := List.mem_map.mp hq
    have hk := List.mem_range.mp hk
    refine ⟨List.mem_of_getElem? (nmR_at (by omega)), List.mem_of_getElem? (nmR_at (by omega)), fun q => ?_⟩
    have := nmR_inj nd (show 2 * k < ns.length by omega) (show 2 * k + 1 < ns.length by omega) q
    omega
  · unfold aptT
    rw [List.map_map]
    refine List.pairwise_map.mpr (List.Pairwise.imp_of_mem (fun {i j} hi hj ne q => ?_) (List.nodup_range (n := h)))
    have hi := List.mem_range.mp hi
    have hj := List.mem_range.mp hj
    have q : ordP (nmR ns (2 * i), nmR ns (2 * i + 1)) = ordP (nmR ns (2 * j), nmR ns (2 * j + 1)) := q
    have inj := fun {a b : Nat} (ha : a < ns.length) (hb : b < ns.length) => nmR_inj nd ha hb
    rcases ordP_cases (nmR ns (2 * i), nmR ns (2 * i + 1)) with c | c <;> rcases ordP_cases (nmR ns (2 * j), nmR ns (2 * j + 1)) with d | d <;> rw [c, d] at q
    · have := inj (show 2 * i < ns.length by omega) (show 2 * j < ns.length by omega) (congrArg Prod.fst q)
      omega
    · have := inj (show 2 * i < ns.length by omega) (show 2 * j + 1 < ns.length by omega) (congrArg Prod.fst q)
      omega
    · have := inj (show 2 * i + 1 < ns.length by omega) (show 2 * j < ns.length by omega) (congrArg Prod.fst q)
      omega
    · have := inj (show 2 * i + 1 < ns.length by omega) (show 2 * j + 1 < ns.length by omega) (congrArg Prod.fst q)
      omega
  · unfold aptT
    rw [List.length_map, List.length_range]
    omega
theorem allT_in {ns : List Str} {n : Nat} {e : Str × Str} : e ∈ allT ns n ↔ ∃ a b, b < a ∧ a < n ∧ e = (nmR ns a, nmR ns b) := by
  unfold allT
  rw [List.mem_flatMap]
  constructor
  · rintro ⟨a, ha, h⟩
    obtain ⟨b, hb, rfl⟩ := List.mem_map.mp h
    exact ⟨a, b, List.mem_range.mp hb, List.mem_range.mp ha, rfl⟩
  · rintro ⟨a, b, hb, ha, rfl⟩
    exact ⟨a, List.mem_range.mpr ha, List.mem_map.mpr ⟨b, List.mem_range.mpr hb, rfl⟩⟩
theorem allT_nd {ns : List Str} (nd : ns.Nodup) : ∀ n, n ≤ ns.length → ((allT ns n).map ordP).Nodup
  | 0, _ => List.nodup_nil
  | n + 1, h => by
    have ih := allT_nd nd n (by omega)
    have inj := fun {a b : Nat} (ha : a < ns.length) (hb : b < ns.length) => nmR_inj nd ha hb
    have e : allT ns (n + 1) = allT ns n ++ (List.range n).map fun b => (nmR ns n, nmR ns b) := by
      unfold allT
      rw [List.range_succ, List.flatMap_append]
      simp
    rw [e, List.map_append, List.nodup_append]
    refine ⟨ih, ?_, fun x hx y hy q => ?_⟩
    · rw [List.map_map]
      refine List.pairwise_map.mpr (List.Pairwise.imp_of_mem (fun {i j} hi hj ne q => ?_) (List.nodup_range (n := n)))
      have hi := List.mem_range.mp hi
      have hj := List.mem_range.mp hj
      have q : ordP (nmR ns n, nmR ns i) = ordP (nmR ns n, nmR ns j) := q
      rcases ordP_cases (nmR ns n, nmR ns i) with c | c <;> rcases ordP_cases (nmR ns n, nmR ns j) with d | d <;> rw [c, d] at q
      · exact ne (inj (by omega) (by omega) (congrArg Prod.snd q))
      · have := inj (show n < ns.length by omega) (show j < ns.length by omega) (congrArg Prod.fst q)
        omega
      · have := inj (show i < ns.length by omega) (show n < ns.length by omega) (congrArg Prod.fst q)
        omega
      · exact ne (inj (by omega) (by omega) (congrArg Prod.fst q))
    · obtain ⟨u, hu, rfl⟩ := List.mem_map.mp hx
      obtain ⟨w, hw, rfl⟩ := List.mem_map.mp hy
      obtain ⟨a, b, ba, an, rfl⟩ := allT_in.mp hu
      obtain ⟨j, hj, rfl⟩ := List.mem_map.mp hw
      have hj := List.mem_range.mp hj
      rcases ordP_cases (nmR ns a, nmR ns b) with c | c <;> rcases ordP_cases (nmR ns n, nmR ns j) with d | d <;> rw [c, d] at q
      · have := inj (show a < ns.length by omega) (show n < ns.length by omega) (congrArg Prod.fst q)
        omega
      · have := inj (show b < ns.length by omega) (show n < ns.length by omega) (congrArg Prod.snd q)
        omega
      · have := inj (show b < ns.length by omega) (show n < ns.length by omega) (congrArg Prod.fst q)
        omega
      · have := inj (show a < ns.length by omega) (show n < ns.length by omega) (congrArg Prod.snd q)
        omega
theorem all_ts {ns : List Str} (nd : ns.Nodup) (h20 : ns.length ≤ 20) : TsOk ns (allT ns ns.length) := by
  refine ⟨fun e he => ?_, allT_nd nd _ (Nat.le_refl _), Nat.le_trans (allT_len ns _) (Nat.le_trans (Nat.mul_le_mul h20 h20) (by decide))⟩
  obtain ⟨a, b, ba, an, rfl⟩ := allT_in.mp he
  refine ⟨List.mem_of_getElem? (nmR_at an), List.mem_of_getElem? (nmR_at (by omega)), fun q => ?_⟩
  have := nmR_inj nd an (show b < ns.length by omega) q
  omega
end KK
end

section
set_option maxRecDepth 100000
set_option maxHeartbeats 4000000
namespace KK
open PySem PySem.Spec PyProof.Rows L2 Y
/-- with places that stand alone the worth stays -/
theorem found_opt {ns : List Str} {k : Nat} {ts : List (Str × Str)} {g gx : Str → Int} {W v : Int} {z : WebZ} (no : NsOk ns) (R : FoundR (ns.take k) ts g W) (hg : ∀ x ∈ ns.take k, gx x = g x) (h1 : ∀ x ∈ ns, 1 ≤ gx x ∧ gx x ≤ 10 ^ 30) : PtsZ (ns, ts, atD ns gx) ∧ ∀ z v, WfZ z ∧ WebOk ns (prP (ns, ts, atD ns gx)) ts z.ms z.qs z.us → Opt z v → v = W := by
  have sub : ∀ x ∈ ns.take k, x ∈ ns := fun x hx => (List.take_sublist k ns).subset hx
  have pz : PtsZ (ns, ts, atD ns gx) := ⟨no, ⟨fun e he => ⟨sub _ (R.to.ok e he).a, sub _ (R.to.ok e he).b, (R.to.ok e he).ne⟩, R.to.nd, R.to.hi⟩, by rw [atD_keys], fun e he => by
    obtain ⟨x, hx, rfl⟩ := List.mem_map.mp (show e ∈ ns.map fun x => (x, gx x) from he)
    exact h1 x hx⟩
  refine ⟨pz, fun z v hz o => ?_⟩
  have M := mat_web hz.1 pz hz.2
  have gd : ∀ x ∈ ns, prW z x = gx x := fun x hx => by
    rw [(M.pr x hx).1]
    show gD (atD ns gx) x = gx x
    unfold gD
    rw [look_atD hx]
    rfl
  have cst : ∀ y : Str → Int, costZ z y = ((ns.take k).map fun x => g x * y x).sum + ((ns.drop k).map fun x => gx x * y x).sum := fun y => by
    unfold costZ
    rw [perm_sum _ M.pm]
    show (ns.map fun x => prW z x * y x).sum = _
    have e1 : (ns.map fun x => prW z x * y x).sum = (ns.map fun x => gx x * y x).sum := sum_congr fun x hx => by rw [gd x hx]
    have e2 : ((ns.take k).map fun x => g x * y x).sum = ((ns.take k).map fun x => gx x * y x).sum := sum_congr fun x hx => by rw [hg x hx]
    rw [e1, e2, ← List.sum_append, ← List.map_append, List.take_append_drop]
  have tie : ∀ y : Str → Int, (∀ e ∈ z.us, 2 ≤ y e.1 + y e.2) ↔ ∀ e ∈ ts, 2 ≤ y e.1 + y e.2 := fun y => by
    constructor
    · intro h e he
      have := h _ (M.pu.mem_iff.mpr (List.mem_map_of_mem he))
      rcases ordP_cases e with c | c <;> rw [c] at this
      · exact this
      · have this : 2 ≤ y e.2 + y e.1 := this
        omega
    · intro h e he
      obtain ⟨q, hq, rfl⟩ := List.mem_map.mp (M.pu.mem_iff.mp he)
      have := h q hq
      rcases ordP_cases q with c | c <;> rw [c]
      · exact this
      · show 2 ≤ y q.2 + y q.1
        omega
  obtain ⟨y, y1, y2, y3⟩ := R.up
  have nn : ∀ y : Str → Int, (∀ x ∈ ns, 0 ≤ y x) → 0 ≤ ((ns.drop k).map fun x => gx x * y x).sum := fun y h => by
    have := sum_le_c (c := 0) (f := fun x => gx x * y x) (l := ns.drop k) fun x hx => by
      have hx := (List.drop_sublist k ns).subset hx
      exact Int.mul_nonneg (by have := (h1 x hx).1; omega) (h x hx)
    omega
  refine worth_is (g := fun x => if x ∈ ns.take k then y x else 0) hz.1 o ⟨fun x _ => ?_, ?_⟩ ?_ fun a ha => ?_
  · show 0 ≤ (if x ∈ ns.take k then y x else 0) ∧ (if x ∈ ns.take k then y x else 0) ≤ 2
    by_cases c : x ∈ ns.take k
    · rw [if_pos c]; exact y1 x c
    · rw [if_neg c]; decide
  · refine (tie fun x => if x ∈ ns.take k then y x else 0).mpr fun e he => ?_
    show 2 ≤ (if e.1 ∈ ns.take k then y e.1 else 0) + (if e.2 ∈ ns.take k then y e.2 else 0)
    rw [if_pos (R.to.ok e he).a, if_pos (R.to.ok e he).b]
    exact y2 e he
  · rw [cst]
    have e1 : ((ns.take k).map fun x => g x * (if x ∈ ns.take k then y x else 0)).sum = ((ns.take k).map fun x => g x * y x).sum := sum_congr fun x hx => by rw [if_pos hx]
    have nd := List.nodup_append.mp (show (ns.take k ++ ns.drop k).Nodup by rw [List.take_append_drop]; exact no.nd)
    have e2 : ((ns.drop k).map fun x => gx x * (if x ∈ ns.take k then y x else 0)).sum = 0 := sum_zero fun x hx => by rw [if_neg (fun q => nd.2.2 x q x hx rfl), Int.mul_zero]
    rw [e1, e2, y3]
    omega
  · rw [cst]
    have r := fun x (hx : x ∈ ns) => ha.r x (M.pm.mem_iff.mpr hx)
    have l1 := R.lo a (fun x hx => r x (sub x hx)) ((tie a).mp ha.t)
    have l2 := nn a fun x hx => (r x hx).1
    omega
theorem found_none {ns : List Str} {gx : Str → Int} (h1 : ∀ x ∈ ns, 1 ≤ gx x ∧ gx x ≤ 10 ^ 30) : FoundR ns [] gx 0 := by
  refine ⟨⟨fun e he => (nomatch he), List.nodup_nil, Nat.zero_le _⟩, h1, fun y hy _ => ?_, fun _ => 0, fun x _ => by show (0 : Int) ≤ 0 ∧ (0 : Int) ≤ 2; decide, fun e he => (nomatch he), sum_zero fun x _ => Int.mul_zero _⟩
  have := sum_le_c (c := 0) (f := fun x => gx x * y x) (l := ns) fun x hx => Int.mul_nonneg (by have := (h1 x hx).1; omega) (hy x hx).1
  omega
section
variable {P : Program} {w : World} {K : PySem.W.Frag} {mg : Str → Option Value} {base : Heap} {CW : Addr}
abbrev NYlaw : List Str := ["_law_script", "_law_choice", "_law_kind", "_law_scale", "_law_paid", "_law_loners", "_law_size", "_law_names_here", "_law_extra", "_law_found", "_law_name_here", "_law_web", "_law_told"]
theorem scYlaw : FnScope NYlaw ["_law_script"] (defScope s_law) := ⟨rfl, rfl, rfl, by decide +kernel, rfl, by decide +kernel, by decide +kernel⟩
theorem y_law09 (T : Blt mg) (B_min : mg "min" = none) (F : Has K mg "law" s_law) (YSTREAM : C8.Cal P w K mg base 1 "_law_stream" (Y.spZ (yStream K)) []) (YDRAW : C8.Cal P w K mg base 1 "_law_draw" (Y.spZ yDraw) []) (YAMOUNT : C8.Cal P w K mg base 2 "_law_amount" (Y.spZ yAmount) [])
    (YNAMES9 : C8.Cal P w K mg base 3 "_law_names" (Y.spZ (yNames9 K)) []) (YRING9 : C8.Cal P w K mg base 1 "_law_ring" (Y.spZ (yRing9 K)) []) (YSTAR9 : C8.Cal P w K mg base 3 "_law_star" (Y.spZ (yStar9 K)) []) (YALLT9 : C8.Cal P w K mg base 1 "_law_all_tied" (Y.spZ (yAllT9 K)) []) (YAPART9 : C8.Cal P w K mg base 3 "_law_apart" (Y.spZ (yApart9 K)) [])
    (CMAKE : C8.Mak P w K mg base 4 "Web" CW (spInit K CW) []) (YWORTH : C8.Cal P w K mg base 8 "worth" (Y.spZ (yWorth K CW)) []) (YLINT : C8.Cal P w K mg base 1 "_law_is_integer" (Y.spZ yLint) []) :
    ∃ f fd, Fun K "law" "law" s_law f fd ∧ mg "law" = some (.ref f) ∧ FnOk P w K mg base CX0 10 f fd ["_law_script"] (Y.spZ (yLaw K)) := by
  refine calG F scYlaw (fun vs H Q E h => zlen (fun as P XP hc => by obtain ⟨_, rfl, _⟩ := hc; rfl) h) (fun f cdv A outer s H vs Q E hr h => ?_)
  have hu := hu_of hr
  refine ⟨_, (pss_cons (ps_set (i := 1) scYlaw.nd rfl (Or.inl rfl) (C8.pe_c YSTREAM hr (by decide) rfl (pa_cons (pv 0) (pa_cons pe_int pa_nil))))
      (pss_cons (ps_set (i := 2) scYlaw.nd rfl (Or.inl rfl) (C8.pe_c YDRAW hr (by decide) rfl (pa_cons (pv 1) (pa_cons pe_int pa_nil))))
      (pss_cons (ps_set (i := 3) scYlaw.nd rfl (Or.inl rfl) (C8.pe_c YDRAW hr (by decide) rfl (pa_cons (pv 1) (pa_cons pe_int pa_nil))))
      (pss_cons (ps_set (i := 4) scYlaw.nd rfl (Or.inl rfl) (C8.pe_c YAMOUNT hr (by decide) rfl (pa_cons (pv 1) (pa_cons (pv 3) pa_nil))))
      (pss_cons (ps_set (i := 5) scYlaw.nd rfl (Or.inl rfl) (C8.pe_c YDRAW hr (by decide) rfl (pa_cons (pv 1) (pa_cons pe_int pa_nil))))
      (pss_cons (ps_set (i := 6) scYlaw.nd rfl (Or.inl rfl) (pe_ix ix_list (pe_lst (pa_cons (pe_op op_add pe_int (C8.pe_c YDRAW hr (by decide) rfl (pa_cons (pv 1) (pa_cons pe_int pa_nil)))) (pa_cons (pe_op op_add pe_int (C8.pe_c YDRAW hr (by decide) rfl (pa_cons (pv 1) (pa_cons pe_int pa_nil)))) (pa_cons (pe_op op_add pe_int (C8.pe_c YDRAW hr (by decide) rfl (pa_cons (pv 1) (pa_cons pe_int pa_nil)))) (pa_cons (pe_op op_add pe_int (pe_op op_mul pe_int (C8.pe_c YDRAW hr (by decide) rfl (pa_cons (pv 1) (pa_cons pe_int pa_nil))))) pa_nil))))) (pv 2) (fun _ _ => rfl)))
      (pss_cons (ps_set (i := 7) scYlaw.nd rfl (Or.inl rfl) (C8.pe_c YNAMES9 hr (by decide) rfl (pa_cons (C8.pe_c YSTREAM hr (by decide) rfl (pa_cons (pv 0) (pa_cons pe_int pa_nil))) (pa_cons (pe_callB (call_min2 rfl) (by rfl) B_min (by decide +kernel) (pa_cons pe_int (pa_cons (pe_op op_add (pv 6) (pv 5)) pa_nil))) pa_nil))))
      (pss_cons (ps_set (i := 8) scYlaw.nd rfl (Or.inl rfl) (C8.pe_c YSTREAM hr (by decide) rfl (pa_cons (pv 0) (pa_cons pe_int pa_nil))))
      (pss_cons (ps_set (i := 9) scYlaw.nd rfl (Or.inl rfl) (pe_lst (pa_cons (pe_lst pa_nil) (pa_cons pe_dnewK (pa_cons pe_int pa_nil)))))
      (pss_cons (ps_if (pt_cmpR op_eq (pv 2) pe_int (nomark _)) (pss_one (ps_set (i := 9) scYlaw.nd rfl (Or.inl rfl) (C8.pe_c YRING9 hr (by decide) rfl (pa_cons (pe_slice sl_list (pv 7) po_none (po_some (pv 6))) (pa_cons (pv 4) pa_nil))))) (pss_one (ps_if (pt_cmpR op_eq (pv 2) pe_int (nomark _)) (pss_one (ps_set (i := 9) scYlaw.nd rfl (Or.inl rfl) (C8.pe_c YSTAR9 hr (by decide) rfl (pa_cons (pv 8) (pa_cons (pe_slice sl_list (pv 7) po_none (po_some (pv 6))) (pa_cons (pv 3) pa_nil)))))) (pss_one (ps_if (pt_cmpR op_eq (pv 2) pe_int (nomark _)) (pss_one (ps_set (i := 9) scYlaw.nd rfl (Or.inl rfl) (C8.pe_c YALLT9 hr (by decide) rfl (pa_cons (pe_slice sl_list (pv 7) po_none (po_some (pv 6))) (pa_cons (pv 4) pa_nil))))) (pss_one (ps_set (i := 9) scYlaw.nd rfl (Or.inl rfl) (C8.pe_c YAPART9 hr (by decide) rfl (pa_cons (pv 8) (pa_cons (pe_slice sl_list (pv 7) po_none (po_some (pv 6))) (pa_cons (pv 3) pa_nil)))))))))))
      (pss_cons (ps_for PassesOwn.never rfl (pi_list (pe_slice sl_list (pv 7) (po_some (pv 6)) po_none)) (pg_name (i := 10) scYlaw.nd rfl (Or.inl rfl))
        (pss_one (ps_dput hu (pe_ix ix_list (pv 9) pe_int (fun _ _ => rfl)) (pv 10) (pv 4) rfl)))
      (pss_cons (ps_set (i := 11) scYlaw.nd rfl (Or.inl rfl) (C8.pe_mk CMAKE hr (by decide) rfl (pa_cons (pe_callTy call_tuple_of (by rfl) T.b_tuple (by decide +kernel) (pa_cons (pv 7) pa_nil)) (pa_cons (pe_ix ix_list (pv 9) pe_int (fun _ _ => rfl)) (pa_cons (pe_ix ix_list (pv 9) pe_int (fun _ _ => rfl)) pa_nil)))))
      (pss_cons (ps_set (i := 12) scYlaw.nd rfl (Or.inl rfl) (C8.pe_c YWORTH hr (by decide) rfl (pa_cons (pv 11) pa_nil)))
      (pss_cons (ps_if (PW.pt (pw_or (pt_not (pt_val (C8.pe_c YLINT hr (by decide) rfl (pa_cons (pv 12) pa_nil)))) (pw_or1 (pt_cmpR op_ne (pv 12) (pe_ix ix_list (pv 9) pe_int (fun _ _ => rfl)) (nomark _))))) (pss_one (ps_ret pe_bl)) pss_nil)
      (pss_one (ps_ret (pe_and (C8.pe_c YLINT hr (by decide) rfl (pa_cons (C8.pe_c YWORTH hr (by decide) rfl (pa_cons (C8.pe_mk CMAKE hr (by decide) rfl (pa_cons (pe_callTy call_tuple_of (by rfl) T.b_tuple (by decide +kernel) (pa_cons (pv 7) pa_nil)) (pa_cons (pe_lst pa_nil) (pa_cons (pe_ix ix_list (pv 9) pe_int (fun _ _ => rfl)) pa_nil)))) pa_nil)) pa_nil)) (pe_one (pe_cmpR op_eq (C8.pe_c YWORTH hr (by decide) rfl (pa_cons (C8.pe_mk CMAKE hr (by decide) rfl (pa_cons (pe_callTy call_tuple_of (by rfl) T.b_tuple (by decide +kernel) (pa_cons (pv 7) pa_nil)) (pa_cons (pe_lst pa_nil) (pa_cons (pe_ix ix_list (pv 9) pe_int (fun _ _ => rfl)) pa_nil)))) pa_nil)) pe_int (nomark _)))))))))))))))))))), zrun h ?_⟩
  rintro as P XP ⟨xs, rfl, hxs, hp⟩ hl
  obtain ⟨p0, rfl⟩ := len1 hl
  refine ⟨12, rfl, by decide, ?_⟩
  refine blk_seq (blk_set (ev_call0 (ea_cons (ev_var rfl (ea_cons (ev_c (t := tInt) (fun _ _ => rfl) (ea_nil ⟨fun h => (nomatch h), allc trivial (all1 trivial), xs, 0, rfl, ⟨hxs, by decide, by decide⟩, fun _ => ⟨rfl, ?_⟩⟩)))))))
  refine blk_seq (blk_set (ev_draw rfl (ev_c (t := tInt) (fun _ _ => rfl) ⟨⟨by decide, by decide⟩, fun rk k0 k1 => ⟨rfl, ?_⟩⟩)))
  refine blk_seq (blk_set (ev_draw rfl (ev_c (t := tInt) (fun _ _ => rfl) ⟨⟨by decide, by decide⟩, fun rs _ _ => ⟨rfl, ?_⟩⟩)))
  refine blk_seq (blk_set (ev_call0 (ea_cons (ev_var rfl (ea_cons (ev_var rfl (ea_nil ⟨fun h => (nomatch h), allc trivial (all1 trivial), _, rfl, fun c hc _ => ⟨rfl, ?_⟩⟩)))))))
  refine blk_seq (blk_set (ev_draw rfl (ev_c (t := tInt) (fun _ _ => rfl) ⟨⟨by decide, by decide⟩, fun rl l0 l1 => ⟨rfl, ?_⟩⟩)))
  refine blk_seq (blk_set (t := tInt) (ev_op ro_ixL (EvR.share (O := oL K tInt) (ev_list (K := K) (t := tInt) (es_cons (ev_op ro_I0 (ev_c (t := tInt) (fun _ _ => rfl) (ev_draw rfl (ev_c (t := tInt) (fun _ _ => rfl) ⟨⟨by decide, by decide⟩, fun r6 a6 b6 => ?_⟩)))))))))
  refine es_cons (ev_op ro_I0 (ev_c (t := tInt) (fun _ _ => rfl) (ev_draw rfl (ev_c (t := tInt) (fun _ _ => rfl) ⟨⟨by decide, by decide⟩, fun r7 a7 b7 => ?_⟩))))
  refine es_cons (ev_op ro_I0 (ev_c (t := tInt) (fun _ _ => rfl) (ev_draw rfl (ev_c (t := tInt) (fun _ _ => rfl) ⟨⟨by decide, by decide⟩, fun r8 a8 b8 => ?_⟩))))
  refine es_cons (ev_op ro_I0 (ev_c (t := tInt) (fun _ _ => rfl) (ev_op ro_I (ev_c (t := tInt) (fun _ _ => rfl) (ev_draw rfl (ev_c (t := tInt) (fun _ _ => rfl) ⟨⟨by decide, by decide⟩, fun r9 a9 b9 => ⟨.inl ⟨by decide, by decide⟩, es_nil ⟨Nat.le_of_ble_eq_true rfl, ?_⟩⟩⟩))))))
  obtain ⟨m, em, q0, q1, q2, q3⟩ : ∃ m : Nat, atI [3 + r6, 2 + r7, 2 + r8, 2 + 2 * r9] rk = some (m : Int) ∧ (rk = 0 → 3 ≤ m ∧ m ≤ 40) ∧ (rk = 1 → 2 ≤ m ∧ m ≤ 40) ∧ (rk = 2 → 2 ≤ m ∧ m ≤ 20) ∧ (rk = 3 → 2 ≤ m ∧ m ≤ 40 ∧ m % 2 = 0) := by
    rcases (by omega : rk = 0 ∨ rk = 1 ∨ rk = 2 ∨ rk = 3) with rfl | rfl | rfl | rfl
    · exact ⟨(3 + r6).toNat, by rw [show (((3 + r6).toNat : Nat) : Int) = 3 + r6 by omega]; rfl, by omega, by omega, by omega, by omega⟩
    · exact ⟨(2 + r7).toNat, by rw [show (((2 + r7).toNat : Nat) : Int) = 2 + r7 by omega]; rfl, by omega, by omega, by omega, by omega⟩
    · exact ⟨(2 + r8).toNat, by rw [show (((2 + r8).toNat : Nat) : Int) = 2 + r8 by omega]; rfl, by omega, by omega, by omega, by omega⟩
    · exact ⟨(2 + 2 * r9).toNat, by rw [show (((2 + 2 * r9).toNat : Nat) : Int) = 2 + 2 * r9 by omega]; rfl, by omega, by omega, by omega, by omega⟩
  have m40 : 2 ≤ m ∧ m ≤ 40 := by omega
  refine ev_var rfl ⟨_, em, rfl, ?_⟩
  refine blk_norm ⟨true, [.sh (tScr K) xs, .sh tStm (), .sh tInt rk, .sh tInt rs, .sh tInt c, .sh tInt rl, .sh tInt (m : Int), .un, .un, .un, .un, .un, .un], [some p0]⟩ rfl ?_
  refine blk_seq (blk_setO (ev_call0 (ea_cons (ev_call0 (ea_cons (ev_var rfl (ea_cons (ev_c (t := tInt) (fun _ _ => rfl) (ea_nil ⟨fun h => (nomatch h), allc trivial (all1 trivial), xs, 1, rfl, ⟨hxs, by decide, by decide⟩, fun _ => ?_⟩)))))))))
  obtain ⟨n, en⟩ : ∃ n : Int, n = if (m : Int) + rl < 40 then (m : Int) + rl else 40 := ⟨_, rfl⟩
  have n1 : (m : Int) ≤ n ∧ n ≤ 40 := by rw [en]; split <;> omega
  refine ea_cons (ev_min2 (ev_c (t := tInt) (fun _ _ => rfl) (ev_op ro_I0 (ev_var rfl (ev_var rfl ?_)))))
  dsimp only
  rw [← en]
  refine ea_nil ⟨fun h => (nomatch h), allc trivial (all1 trivial), n, rfl, ⟨by omega, n1.2⟩, fun ns hn _ => ⟨rfl, ?_⟩⟩
  obtain ⟨hl, nd, ok⟩ := hn
  refine blk_frz 7 rfl ?_
  refine blk_seq (blk_set (ev_call0 (ea_cons (ev_var rfl (ea_cons (ev_c (t := tInt) (fun _ _ => rfl) (ea_nil ⟨fun h => (nomatch h), allc trivial (all1 trivial), xs, 2, rfl, ⟨hxs, by decide, by decide⟩, fun _ => ⟨rfl, ?_⟩⟩)))))))
  refine blk_seq (blk_set (t := tL3 K (tLs K (tPr K)) (tDk kS tInt) tInt) (ev_l3 (EvR.share (O := oL K (tPr K)) (ev_list (K := K) (t := tPr K) (es_nil ⟨Nat.le_of_ble_eq_true rfl, EvR.share (O := oD kS tInt) (ev_dnew kS tInt (ev_c (t := tInt) (fun _ _ => rfl) ⟨rfl, ?_⟩))⟩)))))
  have no : NsOk ns := ⟨by omega, by omega, nd, ok⟩
  have tk : (ns.take m).length = m := by rw [List.length_take]; omega
  have ndk : (ns.take m).Nodup := nd.sublist (List.take_sublist _ _)
  refine blk_cut (fun G => ∃ ts g W, FoundR (ns.take m) ts g W ∧ G = ⟨true, [.sh (tScr K) xs, .sh tStm (), .sh tInt rk, .sh tInt rs, .sh tInt c, .sh tInt rl, .sh tInt (m : Int), .sh (tLs K tStr) ns, .sh tStm (), .ow (oFnd K) (ts, atD (ns.take m) g, W), .un, .un, .un], [some p0]⟩) ?_ ?_
  · refine blk_if (et_b (ev_op ro_eqI (ev_var rfl (ev_c (t := tInt) (fun _ _ => rfl) ⟨fun h => ?_, fun h => ?_⟩))))
    · have h := of_decide_eq_true (show decide (rk = 0) = true from h)
      refine blk_setO (ev_call0 (ea_cons (EvR.share (O := oL K tStr) (ev_sl sl_to (ev_var (t := tLs K tStr) (x := ns) rfl (eo_none (eo_some (ev_var rfl ⟨m, rfl, rfl, ea_cons (ev_var rfl (ea_nil ⟨fun _ => rfl, allc trivial (all1 trivial), ns.take m, c, rfl, ⟨by rw [tk]; omega, by rw [tk]; omega, ndk, hc⟩, fun _ => ⟨rfl, ringT (ns.take m), fun _ => c, _, found_ring ndk (by rw [tk]; omega) (by rw [tk]; omega) hc.1 hc.2, rfl⟩⟩))⟩))))))))
    refine blk_if (et_b (ev_op ro_eqI (ev_var rfl (ev_c (t := tInt) (fun _ _ => rfl) ⟨fun h => ?_, fun h => ?_⟩))))
    · have h := of_decide_eq_true (show decide (rk = 1) = true from h)
      obtain ⟨a, l, eal⟩ : ∃ a l, ns.take m = a :: l := by
        cases e : ns.take m with
        | nil => rw [e] at tk; simp at tk; omega
        | cons a l => exact ⟨a, l, rfl⟩
      refine blk_setO (ev_call0 (ea_cons (ev_var rfl (ea_cons (EvR.share (O := oL K tStr) (ev_sl sl_to (ev_var (t := tLs K tStr) (x := ns) rfl (eo_none (eo_some (ev_var rfl ⟨m, rfl, rfl, ?_⟩))))))))))
      rw [eal] at tk ndk ⊢
      refine ea_cons (ev_var rfl (ea_nil ⟨fun h => (nomatch h), allc trivial (allc trivial (all1 trivial)), a, l, rs, rfl, ⟨by rw [tk]; omega, ndk⟩, fun g ts hb S _ => ⟨rfl, ts, g, _, found_star ndk S (star_ts ndk (by rw [tk]; omega) S) hb, rfl⟩⟩))
    refine blk_if (et_b (ev_op ro_eqI (ev_var rfl (ev_c (t := tInt) (fun _ _ => rfl) ⟨fun h => ?_, fun h => ?_⟩))))
    · have h := of_decide_eq_true (show decide (rk = 2) = true from h)
      refine blk_setO (ev_call0 (ea_cons (EvR.share (O := oL K tStr) (ev_sl sl_to (ev_var (t := tLs K tStr) (x := ns) rfl (eo_none (eo_some (ev_var rfl ⟨m, rfl, rfl, ea_cons (ev_var rfl (ea_nil ⟨fun _ => rfl, allc trivial (all1 trivial), ns.take m, c, rfl, ⟨by rw [tk]; omega, ndk, hc⟩, fun _ => ⟨rfl, allT (ns.take m) (ns.take m).length, fun _ => c, _, found_tied ndk (by rw [tk]; omega) (all_ts ndk (by rw [tk]; omega)) hc.1 hc.2, rfl⟩⟩))⟩))))))))
    · have h1 := of_decide_eq_false (show decide (rk = 0) = false by assumption)
      have h2 := of_decide_eq_false (show decide (rk = 1) = false by assumption)
      have h3 := of_decide_eq_false (show decide (rk = 2) = false by assumption)
      have h := q3 (by omega)
      refine blk_setO (ev_call0 (ea_cons (ev_var rfl (ea_cons (EvR.share (O := oL K tStr) (ev_sl sl_to (ev_var (t := tLs K tStr) (x := ns) rfl (eo_none (eo_some (ev_var rfl ⟨m, rfl, rfl, ea_cons (ev_var rfl (ea_nil ⟨fun h => (nomatch h), allc trivial (allc trivial (all1 trivial)), ns.take m, rs, rfl, ⟨by rw [tk]; omega, ndk⟩, fun g hb _ => ⟨rfl, _, g, _, found_apart ndk (by rw [tk]; omega) (apt_ts ndk (by rw [tk]; omega) (by rw [tk]; omega)) hb, rfl⟩⟩))⟩))))))))))
  rintro _ ⟨ts, g, W, R, rfl⟩
  obtain ⟨gx, egx⟩ : ∃ gx : Str → Int, gx = fun x => if x ∈ ns.take m then g x else c := ⟨_, rfl⟩
  have gin : ∀ x ∈ ns.take m, gx x = g x := fun x hx => by rw [egx]; exact if_pos hx
  have gok : ∀ x ∈ ns, 1 ≤ gx x ∧ gx x ≤ 10 ^ 30 := fun x hx => by
    rw [egx]
    by_cases q : x ∈ ns.take m
    · show 1 ≤ (if x ∈ ns.take m then g x else c) ∧ (if x ∈ ns.take m then g x else c) ≤ 10 ^ 30
      rw [if_pos q]; exact R.pr x q
    · show 1 ≤ (if x ∈ ns.take m then g x else c) ∧ (if x ∈ ns.take m then g x else c) ≤ 10 ^ 30
      rw [if_neg q]; exact hc
  have e0 : atD (ns.take m) g = atD (ns.take (m + 0)) gx := by
    unfold atD
    exact List.map_congr_left fun x hx => by rw [gin x hx]
  refine blk_seq (blk_for (vs := [10]) (ei_list (EvR.share (O := oL K tStr) (ev_sl sl_from (ev_var (t := tLs K tStr) (x := ns) rfl (eo_some (ev_var rfl (eo_none ⟨m, rfl, rfl, ?_⟩))))))))
  refine ⟨(fun i G' => G' = ⟨true, [.sh (tScr K) xs, .sh tStm (), .sh tInt rk, .sh tInt rs, .sh tInt c, .sh tInt rl, .sh tInt (m : Int), .sh (tLs K tStr) ns, .sh tStm (), .ow (oFnd K) (ts, atD (ns.take (m + i)) gx, W), .un, .un, .un], [some p0]⟩), by rw [e0], ?_, ?_⟩
  · rintro i x _ hx rfl
    rw [List.getElem?_drop] at hx
    refine tg_name (by decide) (free_of rfl) (blk_wipe [10] (blk_dput kyS (pt_l3m1 (pw_var (i := 9) rfl (by decide))) (ev_var rfl (ev_var rfl ⟨fits40 (by rw [atD_len, List.length_take]; omega), ?_⟩))))
    have nt := not_taken nd hx
    have e1 : putZ (atD (ns.take (m + i)) gx) x c = atD (ns.take (m + (i + 1))) gx := atD_snoc9 nd hx (by
      rw [egx]
      show (if x ∈ ns.take m then g x else c) = c
      rw [if_neg (fun q => nt (by
        rw [List.take_add]
        exact List.mem_append_left _ q))])
    dsimp only
    rw [← e1]
    rfl
  rintro _ rfl
  rw [List.length_drop, show m + (ns.length - m) = ns.length by omega, List.take_length]
  obtain ⟨pz, opt⟩ := found_opt (z := ⟨[], [], []⟩) (v := 0) no R gin gok
  obtain ⟨pz0, opt0⟩ := found_opt (z := ⟨[], [], []⟩) (v := 0) (k := ns.length) no (by rw [List.take_length]; exact found_none gok) (fun x _ => rfl) gok
  refine blk_frz 9 rfl ?_
  refine blk_seq (blk_set (t := yWeb K CW) (ev_mkWeb (ea_cons (t := tTu K tStr) (ev_cb rc_tupL (ev_var (t := tLs K tStr) (x := ns) rfl ⟨fun h => (nomatch h), ?_⟩)))))
  refine ea_cons (t := tLs K (tPr K)) (ev_op ro_l30 (ev_var (t := tL3 K (tLs K (tPr K)) (tDk kS tInt) tInt) (x := (ts, atD ns gx, W)) rfl (ev_c (t := tInt) (fun _ _ => rfl) ⟨rfl, ea_cons (t := tDk kS tInt) (ev_op ro_l31 (ev_var (t := tL3 K (tLs K (tPr K)) (tDk kS tInt) tInt) (x := (ts, atD ns gx, W)) rfl (ev_c (t := tInt) (fun _ _ => rfl) ⟨rfl, ea_nil ⟨rfl, (ns, ts, atD ns gx), rfl, pz, fun z hz => ⟨rfl, ?_⟩⟩⟩)))⟩)))
  refine blk_seq (blk_set (t := tInt) (ev_call0 (ea_cons (ev_var (t := yWeb K CW) rfl (ea_nil ⟨fun _ => rfl, all1 trivial, z, rfl, hz.1, fun v o _ => ⟨rfl, ?_⟩⟩)))))
  have ev := opt z v hz o
  refine blk_seq (blk_if (et_or (et_view (et_not (et_b (ev_call0 (ea_cons (ev_var (t := tInt) rfl (ea_nil ⟨fun h => (nomatch h), all1 trivial, _, rfl, fun _ => ?_⟩)))))))))
  refine ⟨fun h => (nomatch h), fun _ => et_b (ev_op ro_neI (ev_var rfl (ev_op ro_l32 (ev_var (t := tL3 K (tLs K (tPr K)) (tDk kS tInt) tInt) (x := (ts, atD ns gx, W)) rfl (ev_c (t := tInt) (fun _ _ => rfl) ⟨rfl, fun h => ?_, fun _ => blk_next ?_⟩)))))⟩
  · exfalso
    have h : (!decide (v = W)) = true := h
    rw [ev, decide_eq_true rfl] at h
    cases h
  have w0 : ∀ {z v}, WfZ z ∧ WebOk ns (prP (ns, [], atD ns gx)) [] z.ms z.qs z.us → Opt z v → v = 0 := fun hz o => opt0 _ _ hz o
  refine blk_ret (ev_and (ev_call0 (ea_cons (ev_call0 (ea_cons (ev_mkWeb (ea_cons (t := tTu K tStr) (ev_cb rc_tupL (ev_var (t := tLs K tStr) (x := ns) rfl ⟨fun h => (nomatch h), ?_⟩)))))))))
  refine ea_cons (t := tLs K (tPr K)) (EvR.share (O := oL K (tPr K)) (ev_list (K := K) (t := tPr K) (es_nil ⟨Nat.le_of_ble_eq_true rfl, ea_cons (t := tDk kS tInt) (ev_op ro_l31 (ev_var (t := tL3 K (tLs K (tPr K)) (tDk kS tInt) tInt) (x := (ts, atD ns gx, W)) rfl (ev_c (t := tInt) (fun _ _ => rfl) ⟨rfl, ea_nil ⟨rfl, (ns, [], atD ns gx), rfl, pz0, fun z2 hz2 => ?_⟩⟩)))⟩)))
  refine ea_nil ⟨fun _ => rfl, all1 trivial, z2, rfl, hz2.1, fun v2 o2 _ => ea_nil ⟨fun h => (nomatch h), all1 trivial, _, rfl, fun _ => ⟨fun _ => ?_, fun h => (nomatch h)⟩⟩⟩
  refine ev_op ro_eqI (ev_call0 (ea_cons (ev_mkWeb (ea_cons (t := tTu K tStr) (ev_cb rc_tupL (ev_var (t := tLs K tStr) (x := ns) rfl ⟨fun h => (nomatch h), ?_⟩))))))
  refine ea_cons (t := tLs K (tPr K)) (EvR.share (O := oL K (tPr K)) (ev_list (K := K) (t := tPr K) (es_nil ⟨Nat.le_of_ble_eq_true rfl, ea_cons (t := tDk kS tInt) (ev_op ro_l31 (ev_var (t := tL3 K (tLs K (tPr K)) (tDk kS tInt) tInt) (x := (ts, atD ns gx, W)) rfl (ev_c (t := tInt) (fun _ _ => rfl) ⟨rfl, ea_nil ⟨rfl, (ns, [], atD ns gx), rfl, pz0, fun z3 hz3 => ?_⟩⟩)))⟩)))
  refine ea_nil ⟨fun _ => rfl, all1 trivial, z3, rfl, hz3.1, fun v3 o3 _ => ev_c (t := tInt) (fun _ _ => rfl) ?_⟩
  rw [w0 hz3 o3]
  exact fin0 [_] _ hp
end
end KK
end

section
set_option maxRecDepth 100000
set_option maxHeartbeats 4000000
namespace KK
open PySem PySem.Spec PyProof.Rows L2 Z
theorem fun_of {K : PySem.W.Frag} {x qual : Str} {st : Stmt} {f : Addr} {fd : FuncData} (F : FunD K x qual (defArgs st) (defBody st) (defScope st) [] [] f fd) : Fun K x qual st f fd := by
  obtain ⟨⟨oc, od, dV, kV, doc, pm, an, cdv, ct, osl, e, lk, hcd, hD, _⟩, kp⟩ := F
  rcases hD with ⟨_, rfl⟩ | ⟨z, _⟩
  · exact ⟨⟨oc, od, kV, doc, pm, an, cdv, ct, osl, e, lk, hcd⟩, kp⟩
  · exact absurd rfl z
theorem has_of {K : PySem.W.Frag} {h : Heap} {mg : Str → Option Value} {x : Str} {st : Stmt} (X : K.In h) (G : h.Ns mainGlobals mg) (g : (He.Fa.glo x).ok K = true) (F : ∃ fd, FunD K x x (defArgs st) (defBody st) (defScope st) [] [] (He.ga K x) fd) : Has K mg x st := by
  obtain ⟨fd, F⟩ := F
  exact ⟨_, fd, fun_of F, He.glo_ok X G g⟩
theorem hasM_of {K : PySem.W.Frag} {m qual : Str} {st : Stmt} (g : (He.Fa.meth "Web" m).ok K = true) (F : ∃ fd, FunD K m qual (defArgs st) (defBody st) (defScope st) [] [] (He.ma K (He.ga K "Web") m) fd) : HasM K (He.ga K "Web") m qual st := by
  obtain ⟨fd, F⟩ := F
  exact ⟨_, fd, fun_of F, He.meth_ok g⟩
theorem hasMc_of {K : PySem.W.Frag} {cn m qual : Str} {st : Stmt} (g : (He.Fa.meth cn m).ok K = true) (F : ∃ fd, FunD K m qual (defArgs st) (defBody st) (defScope st) [] [] (He.ma K (He.ga K cn) m) fd) : HasM K (He.ga K cn) m qual st := by
  obtain ⟨fd, F⟩ := F
  exact ⟨_, fd, fun_of F, He.meth_ok g⟩
theorem facts {w : World} {K : PySem.W.Frag} {h : Heap} {mg : Str → Option Value} {f : Addr} (X : K.In h) (G : h.Ns mainGlobals mg) (hfa : mg ("law" : Str) = some (.ref f)) (c : OwnH.SaysO "/claim/cut.py" fa fn er K) (ck : KK.ck K = true) :
    ∃ fd : FuncData, (∀ (s : Shared) (v : Value), BindsTo s fd ⟨[v], []⟩ [("_law_script", v)]) ∧ ∀ base : Heap, K.In base → base.Ns mainGlobals mg → FnOk PySem.Challenge.rw_halfpicked_k09_worth_by_hand.prog w K mg base CX0 10 f fd ["_law_script"] (Y.spZ (yLaw K)) := by
  have fr : ∀ (i : Nat) (x : Str), fa[i]? = some (.free x) → mg x = none := fun i x e => He.free_ok X G (c.d.fact i (f := .free x) e)
  have T : Blt mg := ⟨fr 4 _ rfl, fr 5 _ rfl, fr 6 _ rfl, fr 7 _ rfl, fr 8 _ rfl, fr 9 _ rfl, fr 10 _ rfl, fr 11 _ rfl, fr 12 _ rfl, fr 13 _ rfl, fr 14 _ rfl, fr 15 _ rfl⟩
  have g1 := He.int_ok X G (c.d.fact 0 (f := .int "MOST_PLACES" 40) rfl)
  have g2 := He.int_ok X G (c.d.fact 1 (f := .int "MOST_TIES" 400) rfl)
  have g3 := He.int_ok X G (c.d.fact 2 (f := .int "LONGEST_NAME" 8) rfl)
  have g4 := He.int_ok X G (c.d.fact 3 (f := .int "GREATEST_PRICE" (10 ^ 30)) rfl)
  have B_min : mg "min" = none := fr 16 _ rfl
  have B_sum : mg "sum" = none := fr 17 _ rfl
  have W : WebC K mg (He.ga K "Web") := ⟨He.cls_ok (c.d.fact 19 (f := .cls "Web") rfl), He.noat_ok (c.d.fact 20 (f := .noat "Web" "_prices") rfl), He.noat_ok (c.d.fact 21 (f := .noat "Web" "_ties") rfl), He.glo_ok X G (c.d.fact 18 (f := .glo "Web") rfl)⟩
  have FI : ∃ f fd, Fun K "__init__" "Web.__init__" s_Web_init f fd ∧ Mk K (He.ga K "Web") f := by
    obtain ⟨fd, F⟩ := c.d.def_ 26 rfl
    exact ⟨_, fd, fun_of F, He.mkr_ok (c.d.fact 22 (f := .mkr "Web") rfl)⟩
  obtain ⟨wb1, wb3⟩ := Bool.and_eq_true_iff.mp ck

  have INS : C8.InsC K (He.ga K "Web") := OwnQ.ins_ok W.cl wb3
  obtain ⟨fd, FL⟩ := c.d.def_ 25 rfl
  have F_is_integer : Has K mg "is_integer" s_is_integer := has_of X G (c.d.fact 49 (f := .glo "is_integer") rfl) (c.d.def_ 0 rfl)
  have F_is_between : Has K mg "is_between" s_is_between := has_of X G (c.d.fact 50 (f := .glo "is_between") rfl) (c.d.def_ 1 rfl)
  have F_is_name : Has K mg "is_name" s_is_name := has_of X G (c.d.fact 51 (f := .glo "is_name") rfl) (c.d.def_ 2 rfl)
  have F_is_among : Has K mg "is_among" s_is_among := has_of X G (c.d.fact 52 (f := .glo "is_among") rfl) (c.d.def_ 3 rfl)
  have F_has_just : Has K mg "has_just" s_has_just := has_of X G (c.d.fact 53 (f := .glo "has_just") rfl) (c.d.def_ 4 rfl)
  have F_in_order : Has K mg "in_order" s_in_order := has_of X G (c.d.fact 54 (f := .glo "in_order") rfl) (c.d.def_ 5 rfl)
  have F_names_fault : Has K mg "names_fault" s_names_fault := has_of X G (c.d.fact 55 (f := .glo "names_fault") rfl) (c.d.def_ 6 rfl)
  have F_price_fault : Has K mg "price_fault" s_price_fault := has_of X G (c.d.fact 56 (f := .glo "price_fault") rfl) (c.d.def_ 7 rfl)
  have F_opposite : Has K mg "opposite" s_opposite := has_of X G (c.d.fact 57 (f := .glo "opposite") rfl) (c.d.def_ 8 rfl)
  have F_sides : Has K mg "sides" s_sides := has_of X G (c.d.fact 58 (f := .glo "sides") rfl) (c.d.def_ 9 rfl)
  have F_tie_rows : Has K mg "tie_rows" s_tie_rows := has_of X G (c.d.fact 59 (f := .glo "tie_rows") rfl) (c.d.def_ 10 rfl)
  have F_worth : Has K mg "worth" s_worth := has_of X G (c.d.fact 60 (f := .glo "worth") rfl) (c.d.def_ 11 rfl)
  have F__is_tie : Has K mg "_is_tie" s_is_tie := has_of X G (c.d.fact 61 (f := .glo "_is_tie") rfl) (c.d.def_ 12 rfl)
  have F__tie_fault : Has K mg "_tie_fault" s_tie_fault := has_of X G (c.d.fact 62 (f := .glo "_tie_fault") rfl) (c.d.def_ 13 rfl)
  have F__law_stream : Has K mg "_law_stream" s_law_stream := has_of X G (c.d.fact 63 (f := .glo "_law_stream") rfl) (c.d.def_ 14 rfl)
  have F__law_draw : Has K mg "_law_draw" s_law_draw := has_of X G (c.d.fact 64 (f := .glo "_law_draw") rfl) (c.d.def_ 15 rfl)
  have F__law_name : Has K mg "_law_name" s_law_name := has_of X G (c.d.fact 65 (f := .glo "_law_name") rfl) (c.d.def_ 16 rfl)
  have F__law_amount : Has K mg "_law_amount" s_law_amount := has_of X G (c.d.fact 66 (f := .glo "_law_amount") rfl) (c.d.def_ 17 rfl)
  have F__law_pair : Has K mg "_law_pair" s_law_pair := has_of X G (c.d.fact 67 (f := .glo "_law_pair") rfl) (c.d.def_ 18 rfl)
  have F__law_is_integer : Has K mg "_law_is_integer" s_law_is_integer := has_of X G (c.d.fact 68 (f := .glo "_law_is_integer") rfl) (c.d.def_ 19 rfl)
  have F__law_names : Has K mg "_law_names" s_law_names := has_of X G (c.d.fact 69 (f := .glo "_law_names") rfl) (c.d.def_ 20 rfl)
  have F__law_ring : Has K mg "_law_ring" s_law_ring := has_of X G (c.d.fact 70 (f := .glo "_law_ring") rfl) (c.d.def_ 21 rfl)
  have F__law_star : Has K mg "_law_star" s_law_star := has_of X G (c.d.fact 71 (f := .glo "_law_star") rfl) (c.d.def_ 22 rfl)
  have F__law_all_tied : Has K mg "_law_all_tied" s_law_all_tied := has_of X G (c.d.fact 72 (f := .glo "_law_all_tied") rfl) (c.d.def_ 23 rfl)
  have F__law_apart : Has K mg "_law_apart" s_law_apart := has_of X G (c.d.fact 73 (f := .glo "_law_apart") rfl) (c.d.def_ 24 rfl)
  have F_law : Has K mg "law" s_law := has_of X G (c.d.fact 74 (f := .glo "law") rfl) (c.d.def_ 25 rfl)
  have M_places : HasM K (He.ga K "Web") "places" "Web.places" s_Web_places := hasM_of (c.d.fact 23 (f := .meth "Web" "places") rfl) (c.d.def_ 27 rfl)
  have M_ties : HasM K (He.ga K "Web") "ties" "Web.ties" s_Web_ties := hasM_of (c.d.fact 24 (f := .meth "Web" "ties") rfl) (c.d.def_ 28 rfl)
  have M_price : HasM K (He.ga K "Web") "price" "Web.price" s_Web_price := hasM_of (c.d.fact 25 (f := .meth "Web" "price") rfl) (c.d.def_ 29 rfl)
  have M__need : HasM K (He.ga K "Web") "_need" "Web._need" s_Web_need := hasM_of (c.d.fact 26 (f := .meth "Web" "_need") rfl) (c.d.def_ 30 rfl)
  have FI_Flow : (∃ f fd, Fun K "__init__" "Flow.__init__" s_Flow_init f fd ∧ Mk K (He.ga K "Flow") f) ∧ mg "Flow" = some (.ref (He.ga K "Flow")) := by
    obtain ⟨fd0, F0⟩ := c.d.def_ 31 rfl
    exact ⟨⟨_, fd0, fun_of F0, He.mkr_ok (c.d.fact 32 (f := .mkr "Flow") rfl)⟩, He.glo_ok X G (c.d.fact 27 (f := .glo "Flow") rfl)⟩
  have C_Flow : FlowC K (He.ga K "Flow") := ⟨He.cls_ok (c.d.fact 28 (f := .cls "Flow") rfl), He.noat_ok (c.d.fact 29 (f := .noat "Flow" "_heads") rfl), He.noat_ok (c.d.fact 30 (f := .noat "Flow" "_rooms") rfl), He.noat_ok (c.d.fact 31 (f := .noat "Flow" "_leaving") rfl)⟩
  have M_Flow_link : HasM K (He.ga K "Flow") "link" "Flow.link" s_Flow_link := hasMc_of (c.d.fact 33 (f := .meth "Flow" "link") rfl) (c.d.def_ 32 rfl)
  have M_Flow_fill : HasM K (He.ga K "Flow") "fill" "Flow.fill" s_Flow_fill := hasMc_of (c.d.fact 34 (f := .meth "Flow" "fill") rfl) (c.d.def_ 33 rfl)
  have M_Flow__levels : HasM K (He.ga K "Flow") "_levels" "Flow._levels" s_Flow_levels := hasMc_of (c.d.fact 35 (f := .meth "Flow" "_levels") rfl) (c.d.def_ 34 rfl)
  have M_Flow__fill_shortest : HasM K (He.ga K "Flow") "_fill_shortest" "Flow._fill_shortest" s_Flow_fill_shortest := hasMc_of (c.d.fact 36 (f := .meth "Flow" "_fill_shortest") rfl) (c.d.def_ 35 rfl)
  have M_Flow__path : HasM K (He.ga K "Flow") "_path" "Flow._path" s_Flow_path := hasMc_of (c.d.fact 37 (f := .meth "Flow" "_path") rfl) (c.d.def_ 36 rfl)
  have M_Flow__climb : HasM K (He.ga K "Flow") "_climb" "Flow._climb" s_Flow_climb := hasMc_of (c.d.fact 38 (f := .meth "Flow" "_climb") rfl) (c.d.def_ 37 rfl)
  have FI_Sides : (∃ f fd, Fun K "__init__" "Sides.__init__" s_Sides_init f fd ∧ Mk K (He.ga K "Sides") f) ∧ mg "Sides" = some (.ref (He.ga K "Sides")) := by
    obtain ⟨fd0, F0⟩ := c.d.def_ 38 rfl
    exact ⟨⟨_, fd0, fun_of F0, He.mkr_ok (c.d.fact 47 (f := .mkr "Sides") rfl)⟩, He.glo_ok X G (c.d.fact 39 (f := .glo "Sides") rfl)⟩
  have C_Sides : SidesC K (He.ga K "Sides") := ⟨He.cls_ok (c.d.fact 40 (f := .cls "Sides") rfl), He.noat_ok (c.d.fact 41 (f := .noat "Sides" "_numbers") rfl), He.noat_ok (c.d.fact 42 (f := .noat "Sides" "_source") rfl), He.noat_ok (c.d.fact 43 (f := .noat "Sides" "_sink") rfl), He.noat_ok (c.d.fact 44 (f := .noat "Sides" "_flow") rfl), He.noat_ok (c.d.fact 45 (f := .noat "Sides" "_arcs") rfl), He.noat_ok (c.d.fact 46 (f := .noat "Sides" "total") rfl)⟩
  have M_Sides__node : HasM K (He.ga K "Sides") "_node" "Sides._node" s_Sides_node := hasMc_of (c.d.fact 48 (f := .meth "Sides" "_node") rfl) (c.d.def_ 39 rfl)
  have hlaw : f = He.ga K "law" := by
    have := hfa.symm.trans (He.glo_ok X G (c.d.fact 74 (f := .glo "law") rfl))
    cases this
    rfl
  subst hlaw
  refine ⟨fd, fun s v => FunD.bindsA (ps := ["_law_script"]) FL (fun _ _ _ _ _ _ us hl => match us, hl with | [_], _ => rfl) s [v] rfl, fun base _ _ => ?_⟩
  have YSTREAM := y_stream (z_stream (P := PySem.Challenge.rw_halfpicked_k09_worth_by_hand.prog) (w := w) (base := base) T F__law_stream)
  have ZDRAW := z_draw (P := PySem.Challenge.rw_halfpicked_k09_worth_by_hand.prog) (w := w) (base := base) T F__law_draw
  have YDRAW := y_draw ZDRAW
  have YAMOUNT := y_amount (z_amount T F__law_amount ZDRAW)
  have YNAME := y_name (z_name T ro_notInSL F__law_name ZDRAW)
  have YNAMES9 := y_names9 T F__law_names YNAME
  have YRING9 := y_ring9 (P := PySem.Challenge.rw_halfpicked_k09_worth_by_hand.prog) (w := w) (base := base) T F__law_ring
  have YPAIRD := y_pairD T F__law_pair YDRAW
  have YSTAR9 := y_star9 T B_min B_sum F__law_star YAMOUNT YPAIRD
  have YALLT9 := y_allt9 (P := PySem.Challenge.rw_halfpicked_k09_worth_by_hand.prog) (w := w) (base := base) T F__law_all_tied
  have YAPART9 := y_apart9 T B_min B_sum F__law_apart YAMOUNT
  have CISNAME := c_isname (P := PySem.Challenge.rw_halfpicked_k09_worth_by_hand.prog) (w := w) (base := base) T g3 F_is_name
  have CNAMESF := c_namesf T g1 F_names_fault CISNAME
  have CAMONG := c_among (P := PySem.Challenge.rw_halfpicked_k09_worth_by_hand.prog) (w := w) (base := base) T F_is_among
  have CISTIE := c_istie T F__is_tie CAMONG
  have CINORDER := c_order (P := PySem.Challenge.rw_halfpicked_k09_worth_by_hand.prog) (w := w) (base := base) T F_in_order
  have CTIEF := c_tief T g2 F__tie_fault CISTIE CINORDER
  have CHASJUST := c_just (P := PySem.Challenge.rw_halfpicked_k09_worth_by_hand.prog) (w := w) (base := base) T F_has_just
  have CISINT := c_isint (P := PySem.Challenge.rw_halfpicked_k09_worth_by_hand.prog) (w := w) (base := base) T F_is_integer
  have CISBET := c_between (P := PySem.Challenge.rw_halfpicked_k09_worth_by_hand.prog) (w := w) (base := base) T F_is_between CISINT
  have CPRICEF := c_pricef T g4 F_price_fault CHASJUST CISBET
  have CMAKE := c_init T W FI CNAMESF CTIEF CPRICEF CINORDER
  have CPLACES := c_places (P := PySem.Challenge.rw_halfpicked_k09_worth_by_hand.prog) (w := w) (base := base) T W M_places
  have YPLACES := y_places CPLACES
  have CNEED := c_need T W M__need CAMONG
  have CPRICE := c_price T W M_price CNEED
  have YPRICE := y_price CPRICE
  have CTIES := c_ties (P := PySem.Challenge.rw_halfpicked_k09_worth_by_hand.prog) (w := w) (base := base) T W M_ties
  have YTIES := y_ties CTIES
  have YROWS := y_rows T F_tie_rows YTIES
  have YOPP := y_opp (P := PySem.Challenge.rw_halfpicked_k09_worth_by_hand.prog) (w := w) (base := base) F_opposite
  have YNODE := y_node (P := PySem.Challenge.rw_halfpicked_k09_worth_by_hand.prog) (w := w) (base := base) T C_Sides M_Sides__node
  have YFLOW := y_finit (P := PySem.Challenge.rw_halfpicked_k09_worth_by_hand.prog) (w := w) (base := base) T C_Flow FI_Flow
  have YLINK := y_link (P := PySem.Challenge.rw_halfpicked_k09_worth_by_hand.prog) (w := w) (base := base) T C_Flow M_Flow_link
  have YLEVELS := y_levels (P := PySem.Challenge.rw_halfpicked_k09_worth_by_hand.prog) (w := w) (base := base) T C_Flow M_Flow__levels
  have YCLIMB := y_climb (P := PySem.Challenge.rw_halfpicked_k09_worth_by_hand.prog) (w := w) (base := base) T C_Flow M_Flow__climb
  have YPATH := y_path T C_Flow M_Flow__path YCLIMB
  have YFS := y_fs T B_min C_Flow M_Flow__fill_shortest YPATH
  have YFILL := y_fill T C_Flow M_Flow_fill YLEVELS YFS
  have YSIDES := Y.mak_to (y_sides T B_sum C_Sides FI_Sides YOPP YNODE YFLOW YLINK YFILL) to_sides
  have YSOF := y_sof T F_sides YPLACES YPRICE YROWS YSIDES
  have YWORTH := y_worth T C_Sides F_worth YSOF
  have YLINT := y_lint (P := PySem.Challenge.rw_halfpicked_k09_worth_by_hand.prog) (w := w) (base := base) T F__law_is_integer
  obtain ⟨f', fd', F', hm, ok⟩ := y_law09 T B_min F_law YSTREAM YDRAW YAMOUNT YNAMES9 YRING9 YSTAR9 YALLT9 YAPART9 CMAKE YWORTH YLINT
  have ef : f' = He.ga K "law" := by
    have := hm.symm.trans hfa
    cases this
    rfl
  subst ef
  have efd : fd' = fd := by
    obtain ⟨oc, od, kV, doc, pm, an, cdv, ct, osl, _, lk, _⟩ := F'.ex
    obtain ⟨oc2, od2, dV2, kV2, doc2, pm2, an2, cdv2, ct2, osl2, _, lk2, _⟩ := FL.ex
    have e := lk.symm.trans lk2
    injection e with e
    injection e with _ _ e _
    injection e
  subst efd
  exact ok
end KK
open PySem PySem.W PySem.Calls PyProof.Rows
theorem PySem.Challenge.cw_halfpicked_k09_worth_by_hand_holds : PySem.Challenge.rw_halfpicked_k09_worth_by_hand.Holds := by
  w_on; o_law
  refine HandSHeadRun.head_any (r := OpenLaw.row PySem.Challenge.rw_halfpicked_k09_worth_by_hand) (q := view (OpenLaw.row PySem.Challenge.rw_halfpicked_k09_worth_by_hand).prog [50]) (H := KK.hk) (ob := KK.ob) (M := 12000) (loose := KK.looseA ++ KK.looseB ++ KK.looseC) (d := HandSHeadRun.topDef (OpenLaw.row PySem.Challenge.rw_halfpicked_k09_worth_by_hand).prog 50) (kwd := []) KK.ob_eq
    (by kernel_rfl) (fun s => by kernel_rfl) KK.run (by kernel_rfl) (by kernel_rfl) (by kernel_rfl) (by rfl) (by first | assumption | decide +kernel) (by decide +kernel) ⟨rfl, rfl, rfl, rfl, rfl, by decide +kernel⟩ ?hw ?hc
  case hw => w_witness2
  case hc =>
    refine L2.walk_ofE (l := PySem.Challenge.rw_halfpicked_k09_worth_by_hand) (n := 63) (k := 10) (x := "_law_script") (CX := L2.CX0) rfl (by decide) (by kernel_rfl) ⟨rfl, by decide, by decide⟩ ?F (fun _ _ _ _ z => z)
    intro w mg fa h Y G hmg0
    obtain ⟨K, KX, c, ck⟩ := Y
    have hmg : mg ("law" : PySem.Str) = some (.ref fa) := by
      have e : (HandSHeadRun.topDef (OpenLaw.row PySem.Challenge.rw_halfpicked_k09_worth_by_hand).prog 50).name = ("law" : PySem.Str) := by kernel_rfl
      rw [← e]
      exact hmg0
    obtain ⟨fd, hb, hF⟩ := KK.facts (w := w) KX G hmg c ck
    exact ⟨K, fd, Y.spZ (KK.yLaw K), KX, hb, fun H a ns hl _ hS => KK.spY_law (Nat.le_trans hl (by decide)) hS, hF⟩
end
