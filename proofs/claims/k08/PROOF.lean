import PyProof.Rows.All
import Wide.All
import OpenK.AllK
import Wide.FinOn
import HandS.ForMost
import HandS.SortInts
import HandS.Wide
import HandS.IsInst
import HandS.Codes
import HandS.DictComp
import HandS.Conv
import HandS.DictTup
import HandS.Walk
import PySem.Challenge.RW_halfpicked_k08_answers_judged
import KE.GoesMore
import HandS.ForExc
import HandS.HeadHook1
import HandS.More
import KE.KExcSuper
import HandS.ExcField
import HandS.ExcSuper
import HandS.TryOnly
import HandS.Style
import HandS.HeadHook2
import HandS.Defaults
import HandS.Head0
import HandS.Head1
import HandS.Head2
import HandS.HeadEnd
set_option Elab.async false
set_option linter.all false
section
set_option maxRecDepth 100000
set_option maxHeartbeats 4000000
namespace Own
open PySem PySem.Spec PyProof.Rows L2 SrtO
/-! ### the order of texts and of pairs of texts -/
def ltS (x y : Str) : Bool := decide (x.cps.toList < y.cps.toList)
def ltP (p q : Str × Str) : Bool := if p.1 = q.1 then ltS p.2 q.2 else ltS p.1 q.1
theorem ltS_irr (x : Str) : ltS x x = false := decide_eq_false (List.lt_irrefl _)
theorem ltS_asym {x y : Str} (h : ltS x y = true) : ltS y x = false := by
  have h1 := of_decide_eq_true h
  exact decide_eq_false fun h2 => List.lt_irrefl _ (List.lt_trans h1 h2)
theorem cps_ext {x y : Str} (h : x.cps.toList = y.cps.toList) : x = y := by
  obtain ⟨x⟩ := x
  obtain ⟨y⟩ := y
  have h' : x.toList = y.toList := h
  rw [Array.toList_inj.mp h']
theorem ltS_tri {x y : Str} (h1 : ltS x y = false) (h2 : ltS y x = false) : x = y := by
  have a := of_decide_eq_false h1
  have b := of_decide_eq_false h2
  exact cps_ext (List.le_antisymm (List.not_lt.mp b) (List.not_lt.mp a))
theorem ltS_trans {x y z : Str} (h1 : ltS x y = true) (h2 : ltS y z = true) : ltS x z = true :=
  decide_eq_true (List.lt_trans (of_decide_eq_true h1) (of_decide_eq_true h2))
theorem ltS_ne {x y : Str} (h : ltS x y = true) : x ≠ y := fun e => by
  rw [e, ltS_irr] at h
  cases h
theorem ltS_tot {x y : Str} (h : x ≠ y) : ltS x y = true ∨ ltS y x = true := by
  cases h1 : ltS x y with
  | true => exact .inl rfl
  | false =>
    cases h2 : ltS y x with
    | true => exact .inr rfl
    | false => exact absurd (ltS_tri h1 h2) h
theorem swoS : Swo ltS := by
  refine ⟨fun x y h => ltS_asym h, fun x y z h1 h2 => ?_⟩
  cases h3 : ltS z x with
  | false => rfl
  | true =>
    by_cases e : x = y
    · subst e
      rw [h3] at h2
      cases h2
    · rcases ltS_tot e with q | q
      · have := ltS_trans h3 q
        rw [h2] at this
        cases this
      · rw [h1] at q
        cases q
theorem ltP_irr (p : Str × Str) : ltP p p = false := by unfold ltP; rw [if_pos rfl]; exact ltS_irr _
theorem ltP_asym {p q : Str × Str} (h : ltP p q = true) : ltP q p = false := by
  unfold ltP at h ⊢
  by_cases e : p.1 = q.1
  · rw [if_pos e] at h
    rw [if_pos e.symm]
    exact ltS_asym h
  · rw [if_neg e] at h
    rw [if_neg fun z => e z.symm]
    exact ltS_asym h
theorem ltP_tri {p q : Str × Str} (h1 : ltP p q = false) (h2 : ltP q p = false) : p = q := by
  unfold ltP at h1 h2
  by_cases e : p.1 = q.1
  · rw [if_pos e] at h1
    rw [if_pos e.symm] at h2
    exact Prod.ext e (ltS_tri h1 h2)
  · rw [if_neg e] at h1
    rw [if_neg fun z => e z.symm] at h2
    exact absurd (ltS_tri h1 h2) e
theorem swoP : Swo ltP := by
  refine ⟨fun x y h => ltP_asym h, fun x y z h1 h2 => ?_⟩
  unfold ltP at h1 h2 ⊢
  by_cases e1 : z.1 = x.1
  · rw [if_pos e1]
    by_cases e2 : y.1 = x.1
    · rw [if_pos e2] at h1
      rw [if_pos (e1.trans e2.symm)] at h2
      exact swoS.tr _ _ _ h1 h2
    · rw [if_neg e2] at h1
      rw [if_neg fun q => e2 (q.symm.trans e1), e1] at h2
      exact absurd (ltS_tri h1 h2) e2
  · rw [if_neg e1]
    by_cases e2 : y.1 = x.1
    · rw [if_neg fun q => e1 (q.trans e2), e2] at h2
      exact h2
    · rw [if_neg e2] at h1
      by_cases e3 : z.1 = y.1
      · rw [e3]
        exact h1
      · rw [if_neg e3] at h2
        exact swoS.tr _ _ _ h1 h2
/-- in ascending order -/
def AscS (l : List Str) : Prop := l.Pairwise fun x y => ltS y x = false
def AscP (l : List (Str × Str)) : Prop := l.Pairwise fun x y => ltP y x = false
theorem asc_uniqS {a b : List Str} (hp : a.Perm b) (ha : AscS a) (hb : AscS b) : a = b :=
  List.Perm.eq_of_pairwise (le := fun x y => ltS y x = false) (fun x y _ _ h1 h2 => ltS_tri h2 h1) ha hb hp
theorem asc_uniqP {a b : List (Str × Str)} (hp : a.Perm b) (ha : AscP a) (hb : AscP b) : a = b :=
  List.Perm.eq_of_pairwise (le := fun x y => ltP y x = false) (fun x y _ _ h1 h2 => ltP_tri h2 h1) ha hb hp

/-! ### sorted of a list or a tuple, by an order -/
section
variable {prog : Program} {w : World} {A : Around} {E : Value → Shared → Prop} {s : Shared}
theorem sorted_seq_ord {it : Addr} {T : String} {o : Obj} {vs : List Value} {n : Nat} {ltv : Value → Value → Bool} {Q : Value → Shared → Prop} (O : Swo ltv) (hT : T = "list" ∨ T = "tuple") (ho : s.heap.get? it = some o) (hc : o.cls = .type T)
    (hd : o.data = .seq vs.toArray n) (hz : vs.length ≤ sizeLine)
    (hS : 2 ≤ vs.length → ∀ (h₁ : Heap) (a : Addr), h₁.get? a = some (seqObj "list" vs.toArray 0) → (∀ b o, s.heap.get? b = some o → b ≠ a ∧ h₁.get? b = some o) → SortableO prog w A.in1.in1 { s with heap := h₁ } a vs ltv)
    (h : ∀ (h' : Heap) (out : List Value), Srtd ltv out → Stb ltv out vs → (∀ b o, s.heap.get? b = some o → h'.get? b = some o) → Q (.ref h'.objs.size) { s with heap := sortedHeap (h'.push (seqObj "list" vs.toArray 0)) h'.objs.size vs out.toArray }) :
    wpAny (model prog w) A (call (.builtin "sorted") [.ref it]) Q E s := by
  refine Calls.call_function_entry kind_sorted plain_sorted entry_sorted (args_sorted1 _) ?_
  unfold Builtin.«sorted»
  refine wpAny_bind (m := checkCount "sorted" 1 1 _) (wpAny_pure ?_)
  refine wpAny_bind (wpAny_collect_seq (items := vs.toArray) it hT ho hc hd (fun h' hk => ?_) (by simpa using hz))
  rw [show vs.toArray.toList = vs by simp]
  refine wpAny_bind (wpAny_newList ?_ hz)
  have hoL : (h'.push (seqObj "list" vs.toArray 0)).get? h'.objs.size = some (seqObj "list" vs.toArray 0) := Heap.get?_push_size _ rfl
  have keep : ∀ b o, s.heap.get? b = some o → b ≠ h'.objs.size ∧ (h'.push (seqObj "list" vs.toArray 0)).get? b = some o := fun b o q => ⟨Nat.ne_of_lt (Heap.lt_size (hk b o q)), Heap.get?_push_of_some _ (hk b o q)⟩
  show wpAny _ _ _ _ _ { s with heap := h'.push (seqObj "list" vs.toArray 0) }
  refine wpAny_bind (wpAny_holding (wpAny_call_entry slot_list_sort ⟨_, hoL, rfl⟩ entry_list_sort (list_sort_ord (s := { s with heap := h'.push (seqObj "list" vs.toArray 0) }) O hoL hz (fun h2 => hS h2 _ _ hoL keep) fun out hs hb => ⟨_, rfl, ?_⟩) (args_list_sort _)))
  exact wpAny_pure ⟨_, rfl, h h' out hs hb hk⟩
/-! ### texts -/
def sv : Value → Str
  | .str x _ => x
  | _ => ⟨#[]⟩
theorem swo_sv : Swo fun v u => ltS (sv v) (sv u) := ⟨fun x y => swoS.asym _ _, fun x y z => swoS.tr _ _ _⟩
theorem strs_sortable {a : Addr} {vs : List Value} {ss : List Str} (hS : StrsAre vs ss) (h2 : 2 ≤ vs.length) : SortableO prog w A s a vs fun v u => ltS (sv v) (sv u) := by
  intro h' _
  refine ⟨oneType', fun Q E hq => ?_, fun p q hm hm' => ?_⟩
  · match vs, hS, h2 with
    | v1 :: v2 :: rest, hS, _ =>
      rw [keyKind_strs hS]
      exact wpAny_pure hq
    | [], _, h => exact absurd h (by decide)
    | [v], _, h => exact absurd h (by simp)
  · obtain ⟨x, t, e⟩ := hS.all _ hm
    obtain ⟨y, u, e'⟩ := hS.all _ hm'
    show wpAny (model prog w) A (keyLt' oneType' p.1 q.1) (fun r s' => s' = _ ∧ r = ltS (sv p.1) (sv q.1)) (fun _ _ => False) _
    rw [e, e', keyLt'_oneType]
    exact oneLt_str ⟨rfl, rfl⟩
/-! ### pairs of texts -/
def IsTS (h : Heap) (v : Value) (x y : Str) : Prop := ∃ a o t u n, v = .ref a ∧ h.get? a = some o ∧ o.cls = .type "tuple" ∧ o.data = .seq #[.str x t, .str y u] n
theorem IsTS.keeps {h h' : Heap} {v : Value} {x y : Str} (p : IsTS h v x y) (k : ∀ b o, h.get? b = some o → o.cls = .type "tuple" → h'.get? b = some o) : IsTS h' v x y := by
  obtain ⟨a, o, t, u, n, e, ho, hc, hd⟩ := p
  exact ⟨a, o, t, u, n, e, k _ _ ho hc, hc, hd⟩
theorem firstsS {h : Heap} : ∀ {vs : List Value}, (∀ v ∈ vs, ∃ x y, IsTS h v x y) → ∃ fs : List Value, PySem.W.KatTups h vs fs ∧ fs.length = vs.length ∧ ∀ f ∈ fs, ∃ x t, f = Value.str x t
  | [], _ => ⟨[], PySem.W.KatTups.nil, rfl, fun _ hm => by simp at hm⟩
  | v :: vs, hp => by
    obtain ⟨fs, h1, h2, h3⟩ := firstsS (vs := vs) fun v' hm => hp v' (List.mem_cons_of_mem _ hm)
    obtain ⟨x, y, a, o, t, u, n, e, ho, hc, hd⟩ := hp v (List.mem_cons_self ..)
    subst e
    refine ⟨.str x t :: fs, PySem.W.KatTups.cons ho hc hd rfl h1, by rw [List.length_cons, List.length_cons, h2], fun f hm => ?_⟩
    rcases List.mem_cons.mp hm with rfl | hm
    · exact ⟨x, t, rfl⟩
    · exact h3 f hm
theorem tsCmp {vs : List Value} {k : Value → Str × Str} (hp : ∀ v ∈ vs, IsTS s.heap v (k v).1 (k v).2) : Cmp prog w A s (tuples' true) (fun p => p.1 ∈ vs) (lt2 fun v u => ltP (k v) (k u)) := by
  intro p q hm hm'
  have h1 := hp _ hm
  have h2 := hp _ hm'
  show wpAny (model prog w) A (keyLt' (tuples' true) p.1 q.1) (fun r s' => s' = s ∧ r = ltP (k p.1) (k q.1)) (fun _ _ => False) s
  unfold ltP
  generalize (k p.1).1 = x at h1 ⊢
  generalize (k p.1).2 = y at h1 ⊢
  generalize (k q.1).1 = x' at h2 ⊢
  generalize (k q.1).2 = y' at h2 ⊢
  obtain ⟨a, o, t, u, n, e, ho, hc, hd⟩ := h1
  obtain ⟨a', o', t', u', n', e', ho', hc', hd'⟩ := h2
  rw [e, e']
  refine PySem.W.kat_lt ho hd ho' hd' ?_
  show PySem.W.KatLex prog w A true (decide (2 < 2)) _ [(.str x t, .str x' t'), (.str y u, .str y' u')] 0 s
  refine PySem.W.kat_cons (wpAny_eqBool_str ?_)
  refine PySem.W.kat_go (fun e1 => ?_) (fun e1 => ?_)
  · have ex : x = x' := by simpa using e1
    refine PySem.W.kat_yes (PySem.W.kat_cons (wpAny_eqBool_str ?_))
    refine PySem.W.kat_go (fun e2 => ?_) (fun e2 => ?_)
    · have ey : y = y' := by simpa using e2
      have e3 : (if x = x' then ltS y y' else ltS x x') = false := by rw [if_pos ex, ey, ltS_irr]
      exact PySem.W.kat_yes (PySem.W.kat_nil ⟨rfl, e3.symm⟩)
    · have e3 : (if x = x' then ltS y y' else ltS x x') = ltS y y' := if_pos ex
      refine PySem.W.kat_no (PySem.W.kat_one _ _ (PyProof.Rows.lt_str ?_))
      exact (show s = s ∧ decide (y.cps.toList < y'.cps.toList) = (if x = x' then ltS y y' else ltS x x') from ⟨rfl, e3.symm⟩)
  · have ex : ¬ x = x' := by simpa using e1
    have e3 : (if x = x' then ltS y y' else ltS x x') = ltS x x' := if_neg ex
    exact PySem.W.kat_no (oneLt_str ⟨rfl, e3.symm⟩)
theorem ts_sortable {a : Addr} {vs : List Value} {k : Value → Str × Str} (h0 : 0 < vs.length) (hp : ∀ v ∈ vs, IsTS s.heap v (k v).1 (k v).2) (ha : ∀ o, s.heap.get? a = some o → o.cls ≠ .type "tuple") : SortableO prog w A s a vs fun v u => ltP (k v) (k u) := by
  intro h' keep
  have hp' : ∀ v ∈ vs, IsTS h' v (k v).1 (k v).2 := fun v hm => (hp v hm).keeps fun b o e c => keep b o (fun z => by subst z; exact ha o e c) e
  obtain ⟨fs, h1, h2, h3⟩ := firstsS fun v hm => ⟨_, _, hp' v hm⟩
  refine ⟨tuples' true, fun Q E hq => ?_, tsCmp hp'⟩
  refine PySem.W.kat_kind (T := .type "str") h1 (by omega) (fun f hm => ?_) (by rfl) ?_
  · obtain ⟨x, t, rfl⟩ := h3 f hm
    exact PySem.W.Looks.now
  · have e : (Value.type "str" != Value.type "tuple") = true := by first | decide +kernel | rfl | decide
    rw [e]
    exact hq
end

/-! ### the rules -/
def tieV (H : Hp) : V → Str × Str
  | .ref a => match H a with
    | some (.tup [.str x, .str y]) => (x, y)
    | _ => (⟨#[]⟩, ⟨#[]⟩)
  | _ => (⟨#[]⟩, ⟨#[]⟩)
theorem tieV_of {H : Hp} {t : Addr} {x y : Str} (h : H t = some (.tup [.str x, .str y])) : tieV H (.ref t) = (x, y) := by
  simp only [tieV, h]
def rSortS (K : PySem.W.Frag) : List V → Hp → VK → Prop := fun vs H Q => ∃ (a : Addr) (ss : List Str), vs = [V.ref a] ∧ (SqL K H a (ss.map V.str) ∨ SqT K H a (ss.map V.str)) ∧
  ∀ (ys : List Str) (p : Addr), ys.Perm ss → AscS ys → H p = none → Q (.ref p) (upd H p (.lst (ys.map V.str)))
def rSortT (K : PySem.W.Frag) : List V → Hp → VK → Prop := fun vs H Q => ∃ (a : Addr) (xs : List V), vs = [V.ref a] ∧ (SqL K H a xs ∨ SqT K H a xs) ∧ (∀ x ∈ xs, ∃ t a b, x = V.ref t ∧ H t = some (.tup [.str a, .str b])) ∧
  ∀ (ys : List V) (p : Addr), ys.Perm xs → AscP (ys.map (tieV H)) → H p = none → Q (.ref p) (upd H p (.lst ys))
section
variable {X : Cx}
theorem seq_at {pins : List (Addr × Obj)} {σ : L2.St} {H : Hp} {s : Shared} {a : Addr} {xs : List V} (I : Inv X pins σ H s) (h : SqL X.K H a xs ∨ SqT X.K H a xs) :
    ∃ (T : String) (o : Obj) (its : List Value) (n : Nat), (T = "list" ∨ T = "tuple") ∧ s.heap.get? a = some o ∧ o.cls = .type T ∧ o.data = .seq its.toArray n ∧ Vals xs its ∧ xs.length ≤ sizeLine := by
  rcases h with h | h
  · obtain ⟨its, rv, hl, hz⟩ := I.list h
    obtain ⟨o, ho, hc, n, hd⟩ := hl.isList
    exact ⟨"list", o, its, n, .inl rfl, ho, hc, hd, rv, hz⟩
  · obtain ⟨its, rv, ⟨o, ho, hc, n, hd⟩, hz⟩ := I.tuple h
    exact ⟨"tuple", o, its, n, .inr rfl, ho, hc, hd, rv, hz⟩
theorem vals_strs : ∀ {us : List Value}, (∀ v ∈ us, ∃ x t, v = Value.str x t) → Vals ((us.map sv).map V.str) us
  | [], _ => .nil
  | u :: us, h => by
    obtain ⟨x, t, e⟩ := h u List.mem_cons_self
    subst e
    exact .cons ⟨t, rfl⟩ (vals_strs fun v hv => h v (List.mem_cons_of_mem _ hv))
theorem sv_strs : ∀ {vs : List Value} {ss : List Str}, StrsAre vs ss → vs.map sv = ss
  | _, _, .nil => rfl
  | _, _, .cons x t h => by
    rw [List.map_cons, sv_strs h]
    rfl
theorem cr_sortS : CallR X (.builtin "sorted") (rSortS X.K) := by
  intro pins s σ H vs us Q I r h
  obtain ⟨a, ss, rfl, hs, q⟩ := h
  obtain ⟨T, o, its, n, hT, ho, hc, hd, rv, hz⟩ := seq_at I hs
  rw [Vals.ref1 r]
  have hS := rv.strs
  refine sorted_seq_ord swo_sv hT ho hc hd (by rw [← rv.length]; exact hz) (fun h2 h₁ a' _ _ => strs_sortable hS h2) fun h' out h1 h2 hk => ?_
  have I1 : Inv X pins σ H { s with heap := h' } := I.kept (t' := s.toks) hk
  have hoL : (h'.push (seqObj "list" its.toArray 0)).get? h'.objs.size = some (seqObj "list" its.toArray 0) := Heap.get?_push_size _ rfl
  obtain ⟨ep, he'⟩ := PyProof.Rows.sortedHeap_at (vs := its) (out := out.toArray) hoL
  have hall : ∀ v ∈ out, ∃ x t, v = Value.str x t := fun v hv => hS.all v (h2.perm.mem_iff.mp hv)
  have hp : (out.map sv).Perm ss := by
    have := h2.perm.map sv
    rwa [sv_strs hS] at this
  have hlen : ((out.map sv).map V.str).length ≤ sizeLine := by
    rw [List.length_map, hp.length_eq]
    rw [List.length_map] at hz
    exact hz
  refine ⟨.ref h'.objs.size, upd H h'.objs.size (.lst ((out.map sv).map V.str)), I1.laid (t' := s.toks) (fun b u e => ?_) (Nat.le_refl _) ⟨hlen, out, ep, vals_strs hall, he'⟩, rfl, q _ _ hp (List.pairwise_map.mpr h1) (I1.hok.fresh (Nat.le_refl _))⟩
  have hb : b < h'.objs.size := Heap.lt_size e
  rw [PyProof.Rows.sortedHeap_old (Nat.ne_of_lt hb) (by rw [size_push']; exact Nat.lt_succ_of_lt hb)]
  exact Heap.get?_push_of_some _ e
theorem cr_sortT : CallR X (.builtin "sorted") (rSortT X.K) := by
  intro pins s σ H vs us Q I r h
  obtain ⟨a, xs, rfl, hs, hx, q⟩ := h
  obtain ⟨T, o, its, n, hT, ho, hc, hd, rv, hz⟩ := seq_at I hs
  rw [Vals.ref1 r]
  obtain ⟨e1, e2⟩ := refs_back rv fun x m => by
    obtain ⟨t, _, _, e, _⟩ := hx x m
    exact ⟨t, e⟩
  have hp : ∀ v ∈ its, IsTS s.heap v (tieV H (backV v)).1 (tieV H (backV v)).2 := fun v hv => by
    obtain ⟨t, rfl⟩ := e2 v hv
    have hm : V.ref t ∈ xs := by rw [e1]; exact List.mem_map.mpr ⟨_, hv, rfl⟩
    obtain ⟨t', x, y, e, ht⟩ := hx _ hm
    cases e
    have et : tieV H (backV (Value.ref t)) = (x, y) := tieV_of ht
    rw [et]
    obtain ⟨_, its2, r2, o, ho, hc, n, hd⟩ := I.hok _ _ ht
    obtain ⟨u1, u2, rfl, ri, rj⟩ := vals2 r2
    obtain ⟨t1, rfl⟩ := ri
    obtain ⟨t2, rfl⟩ := rj
    exact ⟨t, o, t1, t2, n, rfl, ho, hc, hd⟩
  refine sorted_seq_ord (ltv := fun v u => ltP (tieV H (backV v)) (tieV H (backV u))) ⟨fun x y => swoP.asym _ _, fun x y z => swoP.tr _ _ _⟩ hT ho hc hd (by rw [← rv.length]; exact hz) (fun h2 h₁ a' ha kk => ?_) fun h' out h1 h2 hk => ?_
  · refine ts_sortable (s := { s with heap := h₁ }) (by omega) (fun v hm => (hp v hm).keeps fun b o e _ => (kk b o e).2) fun o e => ?_
    have e' : some o = some (seqObj "list" its.toArray 0) := e.symm.trans ha
    cases e'
    intro c
    exact absurd (Value.type.inj c) (by decide)
  have I1 : Inv X pins σ H { s with heap := h' } := I.kept (t' := s.toks) hk
  have hoL : (h'.push (seqObj "list" its.toArray 0)).get? h'.objs.size = some (seqObj "list" its.toArray 0) := Heap.get?_push_size _ rfl
  obtain ⟨ep, he'⟩ := PyProof.Rows.sortedHeap_at (vs := its) (out := out.toArray) hoL
  have h3 : ∀ u ∈ out, ∃ a, u = Value.ref a := fun u hu => e2 u (h2.perm.mem_iff.mp hu)
  have hpm : (out.map backV).Perm xs := by
    rw [e1]
    exact h2.perm.map backV
  have hlen : (out.map backV).length ≤ sizeLine := by
    rw [hpm.length_eq]
    exact hz
  refine ⟨.ref h'.objs.size, upd H h'.objs.size (.lst (out.map backV)), I1.laid (t' := s.toks) (fun b u e => ?_) (Nat.le_refl _) ⟨hlen, out, ep, vals_back h3, he'⟩, rfl, q _ _ hpm ?_ (I1.hok.fresh (Nat.le_refl _))⟩
  · have hb : b < h'.objs.size := Heap.lt_size e
    rw [PyProof.Rows.sortedHeap_old (Nat.ne_of_lt hb) (by rw [size_push']; exact Nat.lt_succ_of_lt hb)]
    exact Heap.get?_push_of_some _ e
  · rw [List.map_map]
    exact List.pairwise_map.mpr h1
end
end Own
end

section
set_option maxRecDepth 100000
set_option maxHeartbeats 4000000
namespace KK
open PySem PySem.Spec PyProof.Rows L2
def top (i : Nat) : Stmt := PySem.Challenge.pw_halfpicked_k08_answers_judged.main.body.getD i (.Pass ⟨0, 0, 0, 0⟩)
abbrev s_is_integer : Stmt := top 6
abbrev s_is_between : Stmt := top 7
abbrev s_is_name : Stmt := top 8
abbrev s_is_among : Stmt := top 9
abbrev s_has_just : Stmt := top 10
abbrev s_has_values : Stmt := top 11
abbrev s_in_order : Stmt := top 12
abbrev s_names_fault : Stmt := top 13
abbrev s_price_fault : Stmt := top 14
abbrev s_is_answer : Stmt := top 25
abbrev s_cost : Stmt := top 26
abbrev s_web_of : Stmt := top 29
abbrev s_is_tie : Stmt := top 30
abbrev s_tie_fault : Stmt := top 31
abbrev s_law_stream : Stmt := top 33
abbrev s_law_draw : Stmt := top 34
abbrev s_law_name : Stmt := top 35
abbrev s_law_amount : Stmt := top 36
abbrev s_law_pair : Stmt := top 37
abbrev s_law_parts : Stmt := top 38
abbrev s_law_web : Stmt := top 39
abbrev s_law_is_integer : Stmt := top 40
abbrev s_law_beside : Stmt := top 41
abbrev s_law_up : Stmt := top 42
abbrev s_law_web_is : Stmt := top 43
abbrev s_law_odd : Stmt := top 44
abbrev s_law_spent : Stmt := top 45
abbrev s_law_answer_is : Stmt := top 46
abbrev s_law_copy : Stmt := top 47
abbrev s_law_some_answer : Stmt := top 48
abbrev s_law_back : Stmt := top 49
abbrev s_law_truth_is : Stmt := top 50
abbrev s_law_changed : Stmt := top 51
abbrev s_law_cost : Stmt := top 52
abbrev s_law_asked : Stmt := top 53
abbrev s_law : Stmt := top 54
abbrev s_BadPlaces_init : Stmt := inClass (top 17) 0
abbrev s_BadTie_init : Stmt := inClass (top 18) 0
abbrev s_BadPrice_init : Stmt := inClass (top 19) 0
abbrev s_NoPlace_init : Stmt := inClass (top 20) 0
abbrev s_CommonPlace_init : Stmt := inClass (top 21) 0
abbrev s_TooMany_init : Stmt := inClass (top 22) 0
abbrev s_Web_init : Stmt := inClass (top 28) 0
abbrev s_Web_places : Stmt := inClass (top 28) 1
abbrev s_Web_ties : Stmt := inClass (top 28) 2
abbrev s_Web_price : Stmt := inClass (top 28) 3
abbrev s_Web_near : Stmt := inClass (top 28) 4
abbrev s_Web_degree : Stmt := inClass (top 28) 5
abbrev s_Web_len : Stmt := inClass (top 28) 6
abbrev s_Web_contains : Stmt := inClass (top 28) 7
abbrev s_Web_eq : Stmt := inClass (top 28) 8
abbrev s_Web_add : Stmt := inClass (top 28) 15
abbrev s_Web_need : Stmt := inClass (top 28) 16
/-! ### what the text has written -/
/-- a def of the top -/
def Has (K : PySem.W.Frag) (mg : Str → Option Value) (x : Str) (st : Stmt) : Prop := ∃ f fd, Fun K x x st f fd ∧ mg x = some (.ref f)
/-- a method -/
def HasM (K : PySem.W.Frag) (C : Addr) (m qual : Str) (st : Stmt) : Prop := ∃ f fd, Fun K m qual st f fd ∧ Meth K C m f
/-- an int of the top -/
structure GInt (mg : Str → Option Value) (x : Str) (i : Int) : Prop where
  ex : ∃ t, mg x = some (.int i t)
/-- the built-in names that nobody has bound -/
structure Blt (mg : Str → Option Value) : Prop where
  b_len : mg "len" = none
  b_isinstance : mg "isinstance" = none
  b_int : mg "int" = none
  b_str : mg "str" = none
  b_bool : mg "bool" = none
  b_list : mg "list" = none
  b_tuple : mg "tuple" = none
  b_dict : mg "dict" = none
  b_sorted : mg "sorted" = none
  b_all : mg "all" = none
  b_range : mg "range" = none
  b_enumerate : mg "enumerate" = none
section
variable {P : Program} {w : World} {K : PySem.W.Frag} {mg : Str → Option Value} {base : Heap}
theorem calF {x : Str} {st : Stmt} {N ps : List Str} {k : Nat} {sp : Sp} (F : Has K mg x st) (b : ∀ f fd, Fun K x x st f fd → Binds K fd ps []) (S : FnScope N ps (defScope st)) (len : ∀ vs H Q E, sp vs H Q E → vs.length = ps.length)
    (hbody : ∀ (f : Addr) (cdv : Value) (A : Around) (outer : List Env) (s : Shared) (H : Hp) (vs : List V) (Q : VK) (E : XK), Room k (A.deeper (envOfC x (defScope st) s.heap.objs.size f cdv)) → sp vs H Q E →
      ∃ t, PSs (cxOf CX0 P w K mg base N x (defScope st) f cdv A outer s H E).nox (defBody st) t ∧ t { nx := fun _ H' => Q .non H', rt := Q } (start N vs) H) : C8.Cal P w K mg base (k + 1) x sp [] := by
  obtain ⟨f, fd, F, hm⟩ := F
  exact ⟨f, fd, ps, [], F.ok S len (hbody f), hm, F.kp, b f fd F, .nil⟩
theorem metF {m qual : Str} {C : Addr} {st : Stmt} {N ps : List Str} {k : Nat} {sp : Sp} (c : Cls K C) (F : HasM K C m qual st) (b : ∀ f fd, Fun K m qual st f fd → Binds K fd ps []) (S : FnScope N ps (defScope st)) (len : ∀ vs H Q E, sp vs H Q E → vs.length = ps.length)
    (hbody : ∀ (f : Addr) (cdv : Value) (A : Around) (outer : List Env) (s : Shared) (H : Hp) (vs : List V) (Q : VK) (E : XK), Room k (A.deeper (envOfC qual (defScope st) s.heap.objs.size f cdv)) → sp vs H Q E →
      ∃ t, PSs (cxOf CX0 P w K mg base N qual (defScope st) f cdv A outer s H E).nox (defBody st) t ∧ t { nx := fun _ H' => Q .non H', rt := Q } (start N vs) H) : C8.Met P w K mg base (k + 1) C m sp [] := by
  obtain ⟨f, fd, F, hm⟩ := F
  exact ⟨f, fd, ps, [], c, hm, F.ok S len (hbody f), b f fd F, .nil⟩
end
/-! ### heaps -/
/-- all that stood stands, but what is at a -/
def But (a : Addr) (H H' : Hp) : Prop := ∀ b o, H b = some o → b ≠ a → H' b = some o
theorem But.refl (a : Addr) (H : Hp) : But a H H := fun _ _ h _ => h
theorem But.trans {a : Addr} {H H1 H2 : Hp} (x : But a H H1) (y : But a H1 H2) : But a H H2 := fun b o h n => y b o (x b o h n) n
theorem But.of {a : Addr} {H H' : Hp} (x : Same H H') : But a H H' := fun b o h _ => x b o h
theorem But.upd {a : Addr} {H : Hp} {o : HO} : But a H (upd H a o) := fun b u h n => by rw [upd_ne n]; exact h
theorem But.seqL {K : PySem.W.Frag} {a b : Addr} {H H' : Hp} {xs : List V} (x : But a H H') (h : SqL K H b xs) (n : b ≠ a) : SqL K H' b xs := by
  rcases h with (h | ⟨o, h⟩) | h
  · exact .inl (.inl (x _ _ h n))
  · exact .inl (.inr ⟨o, x _ _ h n⟩)
  · exact .inr h
theorem But.seqT {K : PySem.W.Frag} {a b : Addr} {H H' : Hp} {xs : List V} (x : But a H H') (h : SqT K H b xs) (n : b ≠ a) : SqT K H' b xs := by
  rcases h with (h | ⟨o, h⟩) | h
  · exact .inl (.inl (x _ _ h n))
  · exact .inl (.inr ⟨o, x _ _ h n⟩)
  · exact .inr h
theorem Same.new {H : Hp} {p : Addr} {o : HO} (h : H p = none) : Same H (upd H p o) := fun a u e => by
  rw [upd_ne (ne_of_none e h)]
  exact e
theorem Same.seqT {K : PySem.W.Frag} {H H' : Hp} {a : Addr} {xs : List V} (e : Same H H') (h : SqT K H a xs) : SqT K H' a xs := by
  rcases h with (h | ⟨o, h⟩) | h
  · exact .inl (.inl (e _ _ h))
  · exact .inl (.inr ⟨o, e _ _ h⟩)
  · exact .inr h
theorem fits {n : Nat} (h : n ≤ 100000) : n ≤ sizeLine := Nat.le_trans h (by decide)
theorem fitsL {n : Nat} (h : n ≤ 100000) : n < sizeLine := Nat.lt_of_le_of_lt h (by decide)
/-! ### streams -/
def StrAt (H : Hp) (a : Addr) (m : Int) : Prop := ∃ c k : Int, H a = some (.lst [.int c, .int k]) ∧ 0 ≤ k ∧ k ≤ m
theorem StrAt.mono {H : Hp} {a : Addr} {m n : Int} (h : StrAt H a m) (e : m ≤ n) : StrAt H a n := by
  obtain ⟨c, k, h1, h2, h3⟩ := h
  exact ⟨c, k, h1, h2, Int.le_trans h3 e⟩
theorem StrAt.same {H H' : Hp} {a : Addr} {m : Int} (h : StrAt H a m) (e : Same H H') : StrAt H' a m := by
  obtain ⟨c, k, h1, h2, h3⟩ := h
  exact ⟨c, k, e _ _ h1, h2, h3⟩
end KK
end

section
set_option maxRecDepth 100000
set_option maxHeartbeats 4000000
namespace KK
open PySem PySem.Spec PyProof.Rows L2
/-! ### the law's stream and draw -/
def spStream (K : PySem.W.Frag) : Sp := fun vs H Q _ => ∃ (a : Addr) (ns : List Int) (j : Int), vs = [.ref a, .int j] ∧ SqL K H a (ns.map V.int) ∧ ns.length ≤ 1000 ∧ 0 ≤ j ∧ j ≤ 100 ∧ ∀ p c, H p = none → Q (.ref p) (upd H p (.lst [.int c, .int (1 + 101 * j)]))
def spDraw : Sp := fun vs H Q _ => ∃ (a : Addr) (n m : Int), vs = [.ref a, .int n] ∧ StrAt H a m ∧ m ≤ 1000000 ∧ 0 < n ∧ n < 2 ^ 200 ∧ ∀ r H', 0 ≤ r → r < n → But a H H' → StrAt H' a (m + 1) → Q (.int r) H'
theorem fm0 {i j : Int} (h : 0 < j) : 0 ≤ i.fmod j ∧ i.fmod j < j := by
  rw [Int.fmod_eq_emod_of_nonneg i (Int.le_of_lt h)]
  exact ⟨Int.emod_nonneg i (by omega), Int.emod_lt_of_pos i h⟩
theorem mulOk {i j : Int} (h : 0 < j) (h2 : j ≤ 2 ^ 64) : -(2 ^ 64) < i.fmod j ∧ i.fmod j < 2 ^ 64 := by
  have := fm0 (i := i) h
  omega
theorem log200 {n : Int} (h0 : 0 < n) (h : n < 2 ^ 200) : n.natAbs.log2 < 9000 := by
  have h1 : n.natAbs < 2 ^ 200 := by omega
  exact Nat.lt_trans (PySem.Flt.log2_lt_of (by decide) h1) (by decide)
section
variable {P : Program} {w : World} {K : PySem.W.Frag} {mg : Str → Option Value} {base : Heap}
abbrev NStream : List Str := ["_law_script", "_law_k", "_law_cell"]
theorem scStream : FnScope NStream ["_law_script", "_law_k"] (defScope s_law_stream) := ⟨rfl, rfl, rfl, by decide +kernel, rfl, by decide +kernel, by decide +kernel⟩
theorem c_stream (T : Blt mg) (F : Has K mg "_law_stream" s_law_stream) : C8.Cal P w K mg base 1 "_law_stream" (spStream K) [] := by
  refine calF F (fun f fd F => F.binds (ps := ["_law_script", "_law_k"]) fun _ _ _ _ _ _ us hl => match us, hl with | [_, _], _ => rfl) scStream (fun vs H Q E h => ?_) (fun f cdv A outer s H vs Q E hr h => ?_)
  · obtain ⟨a, ns, j, rfl, _⟩ := h
    rfl
  · obtain ⟨a, ns, j, rfl, hs, hn, h0, h1, k⟩ := h
    refine ⟨_, pss_cons (ps_set (i := 2) scStream.nd rfl (Or.inl rfl) pe_int)
      (pss_cons (ps_if (pt_cmpR op_lt (pv 1) (pe_callB call_len (by rfl) T.b_len PySem.boot_len (pa_cons (pv 0) pa_nil)) (nomark _)) (pss_one (ps_set (i := 2) scStream.nd rfl (Or.inl rfl) (pe_ix ix_list (pv 0) (pv 1) (fun _ _ => rfl)))) pss_nil)
      (pss_one (ps_ret (pe_lst (pa_cons (pv 2) (pa_cons (pe_op op_add pe_int (pe_op op_mul pe_int (pv 1))) pa_nil)))))), ?_⟩
    refine ⟨_, rfl, _, rfl, _, _, rfl, .inl ⟨_, hs, rfl⟩, _, _, rfl, rfl, _, rfl, ?_⟩
    refine ite2 (fun hlt => ?_) (fun hlt => ?_)
    · have hj : j < ((ns.map V.int).length : Int) := of_decide_eq_true hlt
      rw [List.length_map] at hj
      have hx : (ns.map V.int)[j.toNat]? = some (V.int (ns[j.toNat]'(by omega))) := by
        rw [List.getElem?_map, List.getElem?_eq_getElem (by omega)]
        rfl
      refine ⟨_, rfl, _, rfl, a, _, _, _, rfl, rfl, hs, at_of (j := j.toNat) (by omega) hx, ?_⟩
      exact ⟨_, rfl, _, rfl, _, _, rfl, rfl, .inl ⟨by decide, by decide⟩, _, _, rfl, rfl, (show 2 ≤ sizeLine from fits (by decide)), fun p hp => k p _ hp⟩
    · exact ⟨_, rfl, _, rfl, _, _, rfl, rfl, .inl ⟨by decide, by decide⟩, _, _, rfl, rfl, (show 2 ≤ sizeLine from fits (by decide)), fun p hp => k p _ hp⟩
abbrev NDraw : List Str := ["_law_stream_here", "_law_many", "_law_found", "_law_mixed"]
theorem scDraw : FnScope NDraw ["_law_stream_here", "_law_many"] (defScope s_law_draw) := ⟨rfl, rfl, rfl, by decide +kernel, rfl, by decide +kernel, by decide +kernel⟩
theorem c_draw (T : Blt mg) (F : Has K mg "_law_draw" s_law_draw) : C8.Cal P w K mg base 1 "_law_draw" spDraw [] := by
  refine calF F (fun f fd F => F.binds (ps := ["_law_stream_here", "_law_many"]) fun _ _ _ _ _ _ us hl => match us, hl with | [_, _], _ => rfl) scDraw (fun vs H Q E h => ?_) (fun f cdv A outer s H vs Q E hr h => ?_)
  · obtain ⟨a, n, m, rfl, _⟩ := h
    rfl
  · obtain ⟨a, n, m, rfl, ⟨c, k, hA, hk0, hkm⟩, hm, hn, hn2, q⟩ := h
    refine ⟨_, (pss_cons (ps_if (pt_cmpR op_ge (pe_ix ix_list (pv 0) pe_int (fun _ _ => rfl)) (pe_op op_pow pe_int pe_int) (nomark _)) (pss_cons (ps_set (i := 2) scDraw.nd rfl (Or.inl rfl) (pe_op op_modN (pe_callTy call_int1 (by rfl) T.b_int (by decide +kernel) (pa_cons (pe_ix ix_list (pv 0) pe_int (fun _ _ => rfl)) pa_nil)) (pv 1)))
      (pss_cons (ps_asg (pe_op op_fdivW (pe_callTy call_int1 (by rfl) T.b_int (by decide +kernel) (pa_cons (pe_ix ix_list (pv 0) pe_int (fun _ _ => rfl)) pa_nil)) (pv 1)) (pg_sub (pv 0) pe_int set_list))
      (pss_one (ps_ret (pv 2))))) pss_nil)
      (pss_cons (ps_set (i := 3) scDraw.nd rfl (Or.inl rfl) (pe_op op_modN (pe_op op_add (pe_op op_add (pe_op op_mul (pe_op op_modN (pe_callTy call_int1 (by rfl) T.b_int (by decide +kernel) (pa_cons (pe_ix ix_list (pv 0) pe_int (fun _ _ => rfl)) pa_nil)) pe_int) pe_int) (pe_op op_mul (pe_ix ix_list (pv 0) pe_int (fun _ _ => rfl)) pe_int)) pe_int) pe_int))
      (pss_cons (ps_set (i := 3) scDraw.nd rfl (Or.inl rfl) (pe_op op_modN (pe_op op_mul (pv 3) (pe_op op_add (pe_op op_fdivW (pv 3) pe_int) pe_int)) pe_int))
      (pss_cons (ps_set (i := 3) scDraw.nd rfl (Or.inl rfl) (pe_op op_modN (pe_op op_mul (pv 3) (pe_op op_add (pe_op op_fdivW (pv 3) pe_int) pe_int)) pe_int))
      (pss_cons (ps_asg (pe_op op_add (pe_ix ix_list (pv 0) pe_int (fun _ _ => rfl)) pe_int) (pg_sub (pv 0) pe_int set_list))
      (pss_one (ps_ret (pe_op op_modN (pe_op op_fdivW (pv 3) pe_int) (pv 1))))))))), ?_⟩
    have hL : SqL K H a [.int c, .int k] := SqL.of hA
    have i0 : atI ([.int c, .int k] : List V) 0 = some (.int c) := atI_nat (j := 0) rfl
    have i1 : atI ([.int c, .int k] : List V) 1 = some (.int k) := atI_nat (j := 1) rfl
    refine ⟨_, rfl, a, _, _, _, rfl, rfl, hL, i0, _, _, rfl, rfl, ⟨by decide, by decide, by decide⟩, _, _, rfl, rfl, _, rfl, ?_⟩
    refine ite2 (fun hlt => ?_) (fun hlt => ?_)
    · refine ⟨_, rfl, a, _, _, _, rfl, rfl, hL, i0, .inl ⟨_, rfl, ?_⟩⟩
      refine ⟨_, rfl, _, _, rfl, rfl, (show n ≠ 0 by omega), ?_⟩
      refine ⟨_, rfl, a, _, _, _, rfl, rfl, hL, i0, .inl ⟨_, rfl, _, rfl, _, _, rfl, rfl, ⟨hn, ?_⟩, ?_⟩⟩
      · exact log200 hn hn2
      · refine ⟨_, rfl, a, _, _, 0, rfl, rfl, hA, rfl, ?_⟩
        exact ⟨_, rfl, q _ _ (fm0 hn).1 (fm0 hn).2 But.upd ⟨_, k, upd_same, hk0, by omega⟩⟩
    · have d1 : CDivW 0 1009 := ⟨by decide, by decide +kernel⟩
      have d2 : CDivW 0 2003 := ⟨by decide, by decide +kernel⟩
      have d3 : CDivW 0 16 := ⟨by decide, by decide +kernel⟩
      have n1 : (2147483647 : Int) ≠ 0 := by decide
      have n2 : (2147483399 : Int) ≠ 0 := by decide
      have m1 : ∀ i : Int, -(2 ^ 64) < i.fmod 2147483647 ∧ i.fmod 2147483647 < 2 ^ 64 := fun i => mulOk (by decide) (by decide)
      have m2 : ∀ i : Int, -(2 ^ 64) < i.fmod 2147483399 ∧ i.fmod 2147483399 < 2 ^ 64 := fun i => mulOk (by decide) (by decide)
      refine ⟨_, rfl, a, _, _, _, rfl, rfl, hL, i0, .inl ⟨_, rfl, _, _, rfl, rfl, n1, _, _, rfl, rfl, .inl (m1 _), ?_⟩⟩
      refine ⟨_, rfl, a, _, _, _, rfl, rfl, hL, i1, _, _, rfl, rfl, .inl ⟨by omega, by omega⟩, _, _, rfl, rfl, _, _, rfl, rfl, _, _, rfl, rfl, n1, ?_⟩
      refine ⟨_, rfl, _, rfl, _, _, rfl, rfl, d1, _, _, rfl, rfl, _, _, rfl, rfl, .inl (m1 _), _, _, rfl, rfl, n1, ?_⟩
      refine ⟨_, rfl, _, rfl, _, _, rfl, rfl, d2, _, _, rfl, rfl, _, _, rfl, rfl, .inl (m1 _), _, _, rfl, rfl, n2, ?_⟩
      refine ⟨_, rfl, a, _, _, _, rfl, rfl, hL, i1, _, _, rfl, rfl, _, rfl, a, _, _, 1, rfl, rfl, hA, rfl, ?_⟩
      refine ⟨_, rfl, _, _, rfl, rfl, d3, _, rfl, _, _, rfl, rfl, (show n ≠ 0 by omega), ?_⟩
      exact q _ _ (fm0 hn).1 (fm0 hn).2 But.upd ⟨c, k + 1, upd_same, by omega, by omega⟩
end
end KK
end

section
set_option maxRecDepth 100000
set_option maxHeartbeats 4000000
namespace KK
open PySem PySem.Spec PyProof.Rows L2
/-! ### names -/
def CsOk (l : List Nat) : Prop := ∀ c ∈ l, 97 ≤ c ∧ c ≤ 122
structure NameOk (x : Str) : Prop where
  lo : 1 ≤ x.cps.toList.length
  hi : x.cps.toList.length ≤ 8
  cs : CsOk x.cps.toList
theorem at_ofN {α : Type} {xs : List α} {z : Int} {j : Nat} {v : α} (e : z = (j : Int)) (h : xs[j]? = some v) : atI xs z = some v := by
  rw [e]
  exact atI_nat h
theorem cps_app (x y : Str) : (x ++ y).cps.toList = x.cps.toList ++ y.cps.toList := by
  have e : (x ++ y).cps = x.cps ++ y.cps := rfl
  rw [e, Array.toList_append]
theorem len_cps (x : Str) : x.length = x.cps.toList.length := by
  show x.cps.size = _
  rw [Array.length_toList]
theorem inV_strs (x : Str) (ys : List Str) : inV (.str x) (ys.map V.str) = decide (x ∈ ys) := by
  induction ys with
  | nil => rfl
  | cons y ys ih =>
    have e : inV (.str x) ((y :: ys).map V.str) = (eqV (.str y) (.str x) || inV (.str x) (ys.map V.str)) := rfl
    rw [e, ih]
    have e2 : eqV (.str y) (.str x) = decide (x = y) := by
      show (y == x) = decide (x = y)
      by_cases h : x = y
      · subst h; simp
      · rw [decide_eq_false h]
        exact beq_eq_false_iff_ne.mpr fun q => h q.symm
    rw [e2]
    by_cases h : x = y
    · subst h; simp
    · simp [h]
theorem flat_strs (ys : List Str) : (ys.map V.str).all flatV = true := by
  rw [List.all_eq_true]
  intro v hv
  obtain ⟨y, _, rfl⟩ := List.mem_map.mp hv
  rfl
/-- no more different things than places -/
theorem pigeon {α : Type} [DecidableEq α] : ∀ {xs ys : List α}, xs.Nodup → (∀ x ∈ xs, x ∈ ys) → xs.length ≤ ys.length
  | [], _, _, _ => Nat.zero_le _
  | x :: xs, ys, hn, hs => by
    have hx : x ∈ ys := hs x List.mem_cons_self
    have h1 := List.nodup_cons.mp hn
    have ih := pigeon (xs := xs) (ys := ys.erase x) h1.2 fun z hz => (List.mem_erase_of_ne (fun q => h1.1 (by rw [← q]; exact hz))).mpr (hs z (List.mem_cons_of_mem _ hz))
    rw [List.length_erase_of_mem hx] at ih
    have : 0 < ys.length := List.length_pos_of_mem hx
    rw [List.length_cons]
    omega
abbrev qzv (i : Nat) : Nat := if i = 0 then 113 else if i = 1 then 122 else 118
def two (i j : Nat) : Str := (⟨#[qzv i]⟩ : Str) ++ ⟨#[97 + j]⟩
theorem two_cps (i j : Nat) : (two i j).cps.toList = [qzv i, 97 + j] := by
  unfold two
  rw [cps_app] <;> rfl
theorem two_ok {i j : Nat} (h : j < 26) : NameOk (two i j) := by
  refine ⟨by rw [two_cps]; show 1 ≤ 2; decide, by rw [two_cps]; show 2 ≤ 8; decide, ?_⟩
  rw [two_cps]
  intro c hc
  rcases List.mem_cons.mp hc with rfl | hc
  · unfold qzv
    split
    · omega
    · split <;> omega
  · rcases List.mem_cons.mp hc with rfl | hc
    · omega
    · simp at hc
def allTwo : List Str := ((List.range 3).flatMap fun i => (List.range 26).map fun j => two i j)
theorem allTwo_nd : allTwo.Nodup := by
  have h : (allTwo.map fun x => x.cps.toList).Nodup := by decide +kernel
  unfold List.Nodup at h ⊢
  exact (List.pairwise_map.mp h).imp fun {x y} z e => z (by rw [e])
theorem allTwo_len : allTwo.length = 78 := by decide +kernel
theorem q_at : ∀ {i : Nat}, i < 3 → (PySem.Str.ofString "qzv").cps[i]? = some (qzv i)
  | 0, _ => by decide +kernel
  | 1, _ => by decide +kernel
  | 2, _ => by decide +kernel
theorem abc_all : ∀ j < 26, (PySem.Str.ofString "abcdefghijklmnopqrstuvwxyz").cps.toList[j]? = some (97 + j) := by decide +kernel
theorem abc_at {j : Nat} (h : j < 26) : (PySem.Str.ofString "abcdefghijklmnopqrstuvwxyz").cps[j]? = some (97 + j) := by
  have := abc_all j h
  rw [Array.getElem?_toList] at this
  exact this
theorem q_len : (PySem.Str.ofString "qzv").cps.size = 3 := by decide +kernel
theorem abc_len : (PySem.Str.ofString "abcdefghijklmnopqrstuvwxyz").cps.size = 26 := by decide +kernel
def spName (K : PySem.W.Frag) : Sp := fun vs H Q _ => ∃ (a u : Addr) (m : Int) (ys : List Str), vs = [.ref a, .ref u] ∧ StrAt H a m ∧ m ≤ 100000 ∧ u ≠ a ∧ (SqL K H u (ys.map V.str) ∨ SqT K H u (ys.map V.str)) ∧ ys.length ≤ 60 ∧
  ∀ x H', NameOk x → x ∉ ys → But a H H' → StrAt H' a (m + 9) → Q (.str x) H'
section
variable {P : Program} {w : World} {K : PySem.W.Frag} {mg : Str → Option Value} {base : Heap}
abbrev NLname : List Str := ["_law_stream_here", "_law_used", "_law_size", "_law_name_here", "_law_k", "_law_first", "_law_second"]
theorem scLname : FnScope NLname ["_law_stream_here", "_law_used"] (defScope s_law_name) := ⟨rfl, rfl, rfl, by decide +kernel, rfl, by decide +kernel, by decide +kernel⟩
theorem c_name (T : Blt mg) (F : Has K mg "_law_name" s_law_name) (CDRAW : C8.Cal P w K mg base 1 "_law_draw" spDraw []) : C8.Cal P w K mg base 2 "_law_name" (spName K) [] := by
  refine calF F (fun f fd F => F.binds (ps := ["_law_stream_here", "_law_used"]) fun _ _ _ _ _ _ us hl => match us, hl with | [_, _], _ => rfl) scLname (fun vs H Q E h => ?_) (fun f cdv A outer s H vs Q E hr h => ?_)
  · obtain ⟨a, u, m, ys, rfl, _⟩ := h
    rfl
  · obtain ⟨a, u, m, ys, rfl, hA, hm, hua, hU, hlen, q⟩ := h
    refine ⟨_, (pss_cons (ps_set (i := 2) scLname.nd rfl (Or.inl rfl) (pe_op op_add pe_int (C8.pe_c CDRAW hr (by decide) rfl (pa_cons (pv 0) (pa_cons pe_int pa_nil)))))
      (pss_cons (ps_set (i := 3) scLname.nd rfl (Or.inl rfl) pe_str)
      (pss_cons (ps_for PassesOwn.never rfl (pi_range1 rfl T.b_range (pa_cons (pv 2) pa_nil)) (pg_name (i := 4) scLname.nd rfl (Or.inl rfl))
        (pss_one (ps_set (i := 3) scLname.nd rfl (Or.inl rfl) (pe_op op_add_str (pv 3) (pe_ix ix_str pe_str (C8.pe_c CDRAW hr (by decide) rfl (pa_cons (pv 0) (pa_cons pe_int pa_nil))) (fun _ _ => rfl))))))
      (pss_cons (ps_if (pt_cmpR op_notIn_seq (pv 3) (pv 1) (by rfl)) (pss_one (ps_ret (pv 3))) pss_nil)
      (pss_cons (ps_for PassesOwn.never rfl (pi_str pe_str) (pg_name (i := 5) scLname.nd rfl (Or.inl rfl))
        (pss_one (ps_for PassesOwn.never rfl (pi_str pe_str) (pg_name (i := 6) scLname.nd rfl (Or.inl rfl))
        (pss_one (ps_if (pt_cmpR op_notIn_seq (pe_op op_add_str (pv 5) (pv 6)) (pv 1) (by rfl)) (pss_one (ps_ret (pe_op op_add_str (pv 5) (pv 6)))) pss_nil)))))
      (pss_one (ps_ret (pv 3)))))))), ?_⟩
    refine ⟨_, rfl, a, 8, m, rfl, hA, by omega, by decide, by decide, fun r H1 r0 r8 b1 s1 => ?_⟩
    refine ⟨_, _, rfl, rfl, ?_⟩
    refine ⟨_, rfl, _, rfl, (show -(2 ^ 62) ≤ 1 + r by omega), (show 1 + r < 2 ^ 62 by omega), for_range (lo := 0) (n := (1 + r).toNat) (fun i σ H2 => ∃ (x : Str) (v4 : Option V), σ = [some (.ref a), some (.ref u), some (.int (1 + r)), some (.str x), v4, none, none] ∧ But a H H2 ∧ StrAt H2 a (m + 1 + i) ∧ x.cps.toList.length = i ∧ CsOk x.cps.toList)
      ⟨_, none, rfl, b1, s1.mono (by omega), rfl, fun c hc => by
        have e : (PySem.Str.ofString "").cps.toList = [] := by decide +kernel
        rw [e] at hc
        simp at hc⟩ ?_ ?_⟩
    · rintro i σ H2 hi ⟨x, v4, rfl, b2, s2, hl, hc⟩
      refine ⟨_, rfl, _, rfl, a, 26, m + 1 + i, rfl, s2, by omega, by decide, by decide, fun r2 H3 h0 h26 b3 s3 => ?_⟩
      refine ⟨_, _, _, rfl, rfl, (show (PySem.Str.ofString "abcdefghijklmnopqrstuvwxyz").length ≤ sizeLine from fits (by decide +kernel)), at_ofN (z := r2) (j := r2.toNat) (by omega) (abc_all r2.toNat (by omega)), ?_⟩
      refine ⟨_, _, rfl, rfl, fits (by rw [len_cps, hl]; show i + 1 ≤ 100000; omega), ?_⟩
      refine ⟨_, _, rfl, b2.trans b3, s3.mono (by omega), by rw [cps_app, List.length_append, hl]; rfl, ?_⟩
      rw [cps_app]
      intro c h
      rcases List.mem_append.mp h with h | h
      · exact hc c h
      · have e : c = 97 + r2.toNat := by simpa using h
        omega
    · rintro σ H2 ⟨x, v4, rfl, b2, s2, hl, hc⟩
      have hx : NameOk x := ⟨by omega, by omega, hc⟩
      have hU2 : SqL K H2 u (ys.map V.str) ∨ SqT K H2 u (ys.map V.str) := hU.imp (fun z => b2.seqL z hua) fun z => b2.seqT z hua
      refine ⟨_, rfl, _, rfl, u, _, rfl, hU2, rfl, flat_strs ys, _, rfl, ?_⟩
      rw [inV_strs]
      by_cases hin : x ∈ ys
      · rw [decide_eq_true hin]
        refine iteF ?_
        refine ⟨_, rfl, for_it walk_str (fun i σ H3 => ∃ (v5 v6 : Option V), σ = [some (.ref a), some (.ref u), some (.int (1 + r)), some (.str x), v4, v5, v6] ∧ H3 = H2 ∧ ∀ i' < i, ∀ j < 26, two i' j ∈ ys)
          ⟨_, _, rfl, rfl, fun i' hi' => absurd hi' (Nat.not_lt_zero _)⟩ (fun _ _ _ _ _ => True.intro) ?_ ?_⟩
        · rintro i z σ H3 H4 hi ⟨v5, v6, rfl, rfl, hall⟩ ⟨rfl, c, ec, rfl⟩
          rw [q_len] at hi
          rw [q_at hi] at ec
          cases ec
          refine ⟨_, rfl, for_it walk_str (fun j σ H5 => ∃ (v6 : Option V), σ = [some (.ref a), some (.ref u), some (.int (1 + r)), some (.str x), v4, some (.str ⟨#[qzv i]⟩), v6] ∧ H5 = H4 ∧ ∀ j' < j, two i j' ∈ ys)
            ⟨_, rfl, rfl, fun j' hj' => absurd hj' (Nat.not_lt_zero _)⟩ (fun _ _ _ _ _ => True.intro) ?_ ?_⟩
          · rintro j z σ H5 H6 hj ⟨v6, rfl, rfl, hin2⟩ ⟨rfl, c, ec, rfl⟩
            rw [abc_len] at hj
            rw [abc_at hj] at ec
            cases ec
            refine ⟨_, rfl, _, rfl, _, _, rfl, rfl, fits (by show 1 + 1 ≤ 100000; decide), ?_⟩
            refine ⟨_, rfl, u, _, rfl, hU2, rfl, flat_strs ys, _, rfl, ?_⟩
            have e : (⟨#[qzv i]⟩ : Str) ++ ⟨#[97 + j]⟩ = two i j := rfl
            rw [e, inV_strs]
            by_cases h2 : two i j ∈ ys
            · rw [decide_eq_true h2]
              refine iteF ?_
              exact ⟨_, rfl, rfl, fun j' hj' => by
                by_cases ej : j' = j
                · rw [ej]; exact h2
                · exact hin2 j' (by omega)⟩
            · rw [decide_eq_false h2]
              refine iteT ?_
              exact ⟨_, rfl, _, rfl, _, _, rfl, rfl, fits (by show 1 + 1 ≤ 100000; decide), q _ _ (two_ok hj) h2 b2 (s2.mono (by omega))⟩
          · rintro σ H5 ⟨v6, rfl, rfl, hin2⟩
            rw [abc_len] at hin2
            exact ⟨_, _, rfl, rfl, fun i' hi' j hj => by
              by_cases ei : i' = i
              · rw [ei]; exact hin2 j hj
              · exact hall i' (by omega) j hj⟩
        · rintro σ H3 ⟨v5, v6, rfl, rfl, hall⟩
          rw [q_len] at hall
          exfalso
          have := pigeon allTwo_nd (ys := ys) fun z hz => by
            unfold allTwo at hz
            obtain ⟨i, hi, hz⟩ := List.mem_flatMap.mp hz
            obtain ⟨j, hj, rfl⟩ := List.mem_map.mp hz
            exact hall i (List.mem_range.mp hi) j (List.mem_range.mp hj)
          rw [allTwo_len] at this
          omega
      · rw [decide_eq_false hin]
        refine iteT ?_
        exact ⟨_, rfl, q _ _ hx hin b2 (s2.mono (by omega))⟩
end
end KK
end

section
set_option maxRecDepth 100000
set_option maxHeartbeats 4000000
namespace KK
open PySem PySem.Spec PyProof.Rows L2
/-! ### amounts, pairs, parts -/
def spAmount : Sp := fun vs H Q _ => ∃ (a : Addr) (n m : Int), vs = [.ref a, .int n] ∧ StrAt H a m ∧ m ≤ 100000 ∧ ∀ r H', 1 ≤ r → r ≤ 10 ^ 30 → But a H H' → StrAt H' a (m + 2) → Q (.int r) H'
def spPair : Sp := fun vs H Q _ => ∃ (a : Addr) (x y : Str) (m : Int), vs = [.ref a, .str x, .str y] ∧ StrAt H a m ∧ m ≤ 100000 ∧
  ∀ t (p : Str × Str) H', (p = (x, y) ∨ p = (y, x)) → H t = none → But a H H' → StrAt H' a (m + 1) → H' t = some (.tup [.str p.1, .str p.2]) → Q (.ref t) H'
/-- an unordered pair -/
def ordP (p : Str × Str) : Str × Str := if Own.ltS p.2 p.1 = true then (p.2, p.1) else p
theorem ordP_swap (x y : Str) : ordP (y, x) = ordP (x, y) := by
  unfold ordP
  show (if Own.ltS x y = true then (x, y) else (y, x)) = if Own.ltS y x = true then (y, x) else (x, y)
  cases h1 : Own.ltS x y with
  | true => rw [if_pos rfl, Own.ltS_asym h1, if_neg Bool.false_ne_true]
  | false =>
    rw [if_neg Bool.false_ne_true]
    cases h2 : Own.ltS y x with
    | true => rw [if_pos rfl]
    | false =>
      rw [if_neg Bool.false_ne_true, Own.ltS_tri h1 h2]
/-- the tuple that a value stands for -/
def IsTie (H : Hp) (x : V) (p : Str × Str) : Prop := ∃ t, x = .ref t ∧ H t = some (.tup [.str p.1, .str p.2])
theorem IsTie.but {H H' : Hp} {x : V} {p : Str × Str} {a : Addr} {l : List V} (h : IsTie H x p) (b : But a H H') (ha : H a = some (.lst l)) : IsTie H' x p := by
  obtain ⟨t, rfl, ht⟩ := h
  exact ⟨t, rfl, b _ _ ht (ne_of ht ha (by intro z; cases z))⟩
theorem IsTie.same {H H' : Hp} {x : V} {p : Str × Str} (h : IsTie H x p) (b : Same H H') : IsTie H' x p := by
  obtain ⟨t, rfl, ht⟩ := h
  exact ⟨t, rfl, b _ _ ht⟩
/-- ties between the names -/
structure TieOk (ns : List Str) (p : Str × Str) : Prop where
  a : p.1 ∈ ns
  b : p.2 ∈ ns
  ne : p.1 ≠ p.2
/-- the values xs are the ties ts -/
def Ties (H : Hp) (xs : List V) (ts : List (Str × Str)) : Prop := Paired (IsTie H) xs ts
structure NsOk (ns : List Str) : Prop where
  lo : 1 ≤ ns.length
  hi : ns.length ≤ 40
  nd : ns.Nodup
  ok : ∀ x ∈ ns, NameOk x
structure TsOk (ns : List Str) (ts : List (Str × Str)) : Prop where
  ok : ∀ p ∈ ts, TieOk ns p
  nd : (ts.map ordP).Nodup
  hi : ts.length ≤ 400
def PrOk (ps : List Int) : Prop := ∀ p ∈ ps, 1 ≤ p ∧ p ≤ 10 ^ 30
def prK (ns : List Str) (ps : List Int) : List (Key × V) := (ns.zip ps).map fun e => (Sum.inr e.1, V.int e.2)
structure PartsAt (H : Hp) (r pl tl d : Addr) (ns : List Str) (ps : List Int) (xs : List V) (ts : List (Str × Str)) : Prop where
  hr : H r = some (.lst [.ref pl, .ref tl, .ref d])
  hp : H pl = some (.tup (ns.map V.str))
  ht : H tl = some (.lst xs)
  hd : H d = some (.dK (prK ns ps))
  ti : Ties H xs ts
  nr : r ≠ tl
  pl : ps.length = ns.length
  no : NsOk ns
  to : TsOk ns ts
  po : PrOk ps
theorem paired_mono {α β : Type} {R S : α → β → Prop} : ∀ {xs : List α} {ys : List β}, Paired R xs ys → (∀ x y, R x y → S x y) → Paired S xs ys
  | _, _, .nil, _ => .nil
  | _, _, .cons r t, f => .cons (f _ _ r) (paired_mono t f)
theorem paired_app {α β : Type} {R : α → β → Prop} : ∀ {xs : List α} {ys : List β} {xs' : List α} {ys' : List β}, Paired R xs ys → Paired R xs' ys' → Paired R (xs ++ xs') (ys ++ ys')
  | _, _, _, _, .nil, h => h
  | _, _, _, _, .cons r t, h => .cons r (paired_app t h)
theorem paired_take {α β : Type} {R : α → β → Prop} : ∀ {xs : List α} {ys : List β} (n : Nat), Paired R xs ys → Paired R (xs.take n) (ys.take n)
  | _, _, 0, _ => .nil
  | _, _, _ + 1, .nil => .nil
  | _, _, n + 1, .cons r t => .cons r (paired_take n t)
theorem paired_drop {α β : Type} {R : α → β → Prop} : ∀ {xs : List α} {ys : List β} (n : Nat), Paired R xs ys → Paired R (xs.drop n) (ys.drop n)
  | _, _, 0, h => h
  | _, _, _ + 1, .nil => .nil
  | _, _, n + 1, .cons r t => paired_drop n t
theorem paired_len {α β : Type} {R : α → β → Prop} {xs : List α} {ys : List β} (h : Paired R xs ys) : xs.length = ys.length := Paired.length h
theorem ordP_ne {ns : List Str} {i j i' j' : Nat} (hn : ns.Nodup) {x y x' y' : Str} (h1 : ns[i]? = some x) (h2 : ns[j]? = some y) (h3 : ns[i']? = some x') (h4 : ns[j']? = some y') (hlt : j < i) (hlt' : j' < i') (hne : ¬ (i = i' ∧ j = j')) :
    ordP (x, y) ≠ ordP (x', y') := by
  intro e
  have key : (x = x' ∧ y = y') ∨ (x = y' ∧ y = x') := by
    unfold ordP at e
    revert e
    show (if Own.ltS y x = true then (y, x) else (x, y)) = (if Own.ltS y' x' = true then (y', x') else (x', y')) → _
    split <;> split <;> intro e <;> (injection e with e1 e2) <;> first | exact .inl ⟨e1, e2⟩ | exact .inl ⟨e2, e1⟩ | exact .inr ⟨e1, e2⟩ | exact .inr ⟨e2, e1⟩
  rcases key with ⟨rfl, rfl⟩ | ⟨rfl, rfl⟩
  · exact hne ⟨nd_ix hn h1 h3, nd_ix hn h2 h4⟩
  · have a := nd_ix hn h1 h4
    have b := nd_ix hn h2 h3
    omega
/-- ties made so far, in the turns ahead of (i, j) -/
structure Made (ns : List Str) (i j : Nat) (ts : List (Str × Str)) : Prop where
  nd : (ts.map ordP).Nodup
  at_ : ∀ p ∈ ts, ∃ i' j' x y, j' < i' ∧ (i' < i ∨ (i' = i ∧ j' < j)) ∧ ns[i']? = some x ∧ ns[j']? = some y ∧ (p = (x, y) ∨ p = (y, x))
  len : ts.length ≤ i * i + j
theorem Made.zero {ns : List Str} : Made ns 0 0 [] := ⟨List.nodup_nil, fun p h => absurd h (by simp), Nat.zero_le _⟩
theorem Made.skip {ns : List Str} {i j : Nat} {ts : List (Str × Str)} (m : Made ns i j ts) : Made ns i (j + 1) ts :=
  ⟨m.nd, fun p hp => by
    obtain ⟨i', j', x, y, h1, h2, h3⟩ := m.at_ p hp
    exact ⟨i', j', x, y, h1, by omega, h3⟩, by have := m.len; omega⟩
theorem Made.next {ns : List Str} {i : Nat} {ts : List (Str × Str)} (m : Made ns i i ts) : Made ns (i + 1) 0 ts :=
  ⟨m.nd, fun p hp => by
    obtain ⟨i', j', x, y, h1, h2, h3⟩ := m.at_ p hp
    exact ⟨i', j', x, y, h1, by omega, h3⟩, by
    have := m.len
    have e : (i + 1) * (i + 1) = i * i + i + i + 1 := by rw [Nat.add_mul, Nat.mul_add]; omega
    omega⟩
theorem Made.put {ns : List Str} (hn : ns.Nodup) {i j : Nat} {ts : List (Str × Str)} (m : Made ns i j ts) {x y : Str} (hj : j < i) (h1 : ns[i]? = some x) (h2 : ns[j]? = some y) {p : Str × Str} (hp : p = (x, y) ∨ p = (y, x)) (k : Nat) :
    Made ns i (j + 1) (ts.take k ++ [p] ++ ts.drop k) := by
  have ep : ordP p = ordP (x, y) := by
    rcases hp with rfl | rfl
    · rfl
    · exact ordP_swap x y
  have perm : (ts.take k ++ [p] ++ ts.drop k).Perm (p :: ts) := by
    rw [List.append_assoc]
    refine (List.perm_middle (l₁ := ts.take k) (a := p) (l₂ := ts.drop k)).trans ?_
    rw [List.take_append_drop]
  refine ⟨?_, fun q hq => ?_, ?_⟩
  · refine ((perm.map ordP).nodup_iff).mpr ?_
    rw [List.map_cons]
    refine List.nodup_cons.mpr ⟨fun hm => ?_, m.nd⟩
    obtain ⟨q, hq, e⟩ := List.mem_map.mp hm
    obtain ⟨i', j', x', y', g1, g2, g3, g4, g5⟩ := m.at_ q hq
    have eq : ordP q = ordP (x', y') := by
      rcases g5 with rfl | rfl
      · rfl
      · exact ordP_swap x' y'
    exact ordP_ne hn h1 h2 g3 g4 hj g1 (by omega) (by rw [← ep, ← e, eq])
  · rcases List.mem_cons.mp (perm.mem_iff.mp hq) with rfl | hq
    · exact ⟨i, j, x, y, hj, by omega, h1, h2, hp⟩
    · obtain ⟨i', j', x', y', g1, g2, g3⟩ := m.at_ q hq
      exact ⟨i', j', x', y', g1, by omega, g3⟩
  · rw [perm.length_eq, List.length_cons]
    have := m.len
    omega
theorem Made.ok {ns : List Str} (hn : ns.Nodup) {i j : Nat} {ts : List (Str × Str)} (m : Made ns i j ts) : ∀ p ∈ ts, TieOk ns p := fun p hp => by
  obtain ⟨i', j', x, y, h1, h2, h3, h4, h5⟩ := m.at_ p hp
  have ne : x ≠ y := fun e => by
    subst e
    have := nd_ix hn h3 h4
    omega
  rcases h5 with rfl | rfl
  · exact ⟨List.mem_of_getElem? h3, List.mem_of_getElem? h4, ne⟩
  · exact ⟨List.mem_of_getElem? h4, List.mem_of_getElem? h3, ne.symm⟩
section
variable {P : Program} {w : World} {K : PySem.W.Frag} {mg : Str → Option Value} {base : Heap}
abbrev NLamount : List Str := ["_law_stream_here", "_law_scale", "_law_kind"]
theorem scLamount : FnScope NLamount ["_law_stream_here", "_law_scale"] (defScope s_law_amount) := ⟨rfl, rfl, rfl, by decide +kernel, rfl, by decide +kernel, by decide +kernel⟩
theorem c_amount (T : Blt mg) (F : Has K mg "_law_amount" s_law_amount) (CDRAW : C8.Cal P w K mg base 1 "_law_draw" spDraw []) : C8.Cal P w K mg base 2 "_law_amount" spAmount [] := by
  refine calF F (fun f fd F => F.binds (ps := ["_law_stream_here", "_law_scale"]) fun _ _ _ _ _ _ us hl => match us, hl with | [_, _], _ => rfl) scLamount (fun vs H Q E h => ?_) (fun f cdv A outer s H vs Q E hr h => ?_)
  · obtain ⟨a, n, m, rfl, _⟩ := h
    rfl
  · obtain ⟨a, n, m, rfl, hA, hm, q⟩ := h
    refine ⟨_, (pss_cons (ps_if (pt_cmpR op_eq (pv 1) pe_int (nomark _)) (pss_one (ps_ret (pe_op op_add pe_int (C8.pe_c CDRAW hr (by decide) rfl (pa_cons (pv 0) (pa_cons pe_int pa_nil)))))) pss_nil)
      (pss_cons (ps_if (pt_cmpR op_eq (pv 1) pe_int (nomark _)) (pss_one (ps_ret (pe_op op_add pe_int (C8.pe_c CDRAW hr (by decide) rfl (pa_cons (pv 0) (pa_cons pe_int pa_nil)))))) pss_nil)
      (pss_cons (ps_set (i := 2) scLamount.nd rfl (Or.inl rfl) (C8.pe_c CDRAW hr (by decide) rfl (pa_cons (pv 0) (pa_cons pe_int pa_nil))))
      (pss_cons (ps_if (pt_cmpR op_eq (pv 2) pe_int (nomark _)) (pss_one (ps_ret (pe_op op_add pe_int (C8.pe_c CDRAW hr (by decide) rfl (pa_cons (pv 0) (pa_cons pe_int pa_nil)))))) pss_nil)
      (pss_cons (ps_if (pt_cmpR op_eq (pv 2) pe_int (nomark _)) (pss_one (ps_ret (pe_op op_sub (pe_op op_pow pe_int pe_int) (C8.pe_c CDRAW hr (by decide) rfl (pa_cons (pv 0) (pa_cons pe_int pa_nil)))))) pss_nil)
      (pss_one (ps_ret (pe_op op_add pe_int (C8.pe_c CDRAW hr (by decide) rfl (pa_cons (pv 0) (pa_cons (pe_op op_pow pe_int pe_int) pa_nil))))))))))), ?_⟩
    refine ⟨_, rfl, rfl, _, rfl, ite2 (fun _ => ?_) (fun _ => ?_)⟩
    · refine ⟨_, rfl, a, 2, m, rfl, hA, by omega, by decide, by decide, fun r H1 h0 h1 b s1 => ?_⟩
      exact ⟨_, _, rfl, rfl, q _ _ (by omega) (by omega) b (s1.mono (by omega))⟩
    refine ⟨_, rfl, rfl, _, rfl, ite2 (fun _ => ?_) (fun _ => ?_)⟩
    · refine ⟨_, rfl, a, 12, m, rfl, hA, by omega, by decide, by decide, fun r H1 h0 h1 b s1 => ?_⟩
      exact ⟨_, _, rfl, rfl, q _ _ (by omega) (by omega) b (s1.mono (by omega))⟩
    refine ⟨_, rfl, a, 4, m, rfl, hA, by omega, by decide, by decide, fun r H1 h0 h1 b s1 => ?_⟩
    refine ⟨_, rfl, rfl, _, rfl, ite2 (fun _ => ?_) (fun _ => ?_)⟩
    · refine ⟨_, rfl, a, 3, m + 1, rfl, s1, by omega, by decide, by decide, fun r H2 h0 h1 b2 s2 => ?_⟩
      exact ⟨_, _, rfl, rfl, q _ _ (by omega) (by omega) (b.trans b2) (s2.mono (by omega))⟩
    refine ⟨_, rfl, rfl, _, rfl, ite2 (fun _ => ?_) (fun _ => ?_)⟩
    · refine ⟨_, _, rfl, rfl, ⟨by decide, by decide, by decide⟩, ?_⟩
      refine ⟨_, rfl, a, 5, m + 1, rfl, s1, by omega, by decide, by decide, fun r H2 h0 h1 b2 s2 => ?_⟩
      refine ⟨_, _, rfl, rfl, q _ _ ?_ ?_ (b.trans b2) (s2.mono (by omega))⟩
      · show (1 : Int) ≤ 10 ^ 30 - r
        omega
      · show (10 : Int) ^ 30 - r ≤ 10 ^ 30
        omega
    · refine ⟨_, rfl, _, _, rfl, rfl, ⟨by decide, by decide, by decide⟩, ?_⟩
      refine ⟨a, 10 ^ 30, m + 1, rfl, s1, by omega, by decide, by decide, fun r H2 h0 h1 b2 s2 => ?_⟩
      exact ⟨_, _, rfl, rfl, q _ _ (by omega) (by omega) (b.trans b2) (s2.mono (by omega))⟩
abbrev NLpair : List Str := ["_law_stream_here", "_law_a", "_law_b"]
theorem scLpair : FnScope NLpair ["_law_stream_here", "_law_a", "_law_b"] (defScope s_law_pair) := ⟨rfl, rfl, rfl, by decide +kernel, rfl, by decide +kernel, by decide +kernel⟩
theorem c_pair (T : Blt mg) (F : Has K mg "_law_pair" s_law_pair) (CDRAW : C8.Cal P w K mg base 1 "_law_draw" spDraw []) : C8.Cal P w K mg base 2 "_law_pair" spPair [] := by
  refine calF F (fun f fd F => F.binds (ps := ["_law_stream_here", "_law_a", "_law_b"]) fun _ _ _ _ _ _ us hl => match us, hl with | [_, _, _], _ => rfl) scLpair (fun vs H Q E h => ?_) (fun f cdv A outer s H vs Q E hr h => ?_)
  · obtain ⟨a, x, y, m, rfl, _⟩ := h
    rfl
  · obtain ⟨a, x, y, m, rfl, hA, hm, q⟩ := h
    refine ⟨_, (pss_cons (ps_if (pt_cmpR op_eq (C8.pe_c CDRAW hr (by decide) rfl (pa_cons (pv 0) (pa_cons pe_int pa_nil))) pe_int (nomark _)) (pss_one (ps_ret (pe_tup (pa_cons (pv 1) (pa_cons (pv 2) pa_nil))))) pss_nil)
      (pss_one (ps_ret (pe_tup (pa_cons (pv 2) (pa_cons (pv 1) pa_nil)))))), ?_⟩
    refine ⟨_, rfl, a, 2, m, rfl, hA, by omega, by decide, by decide, fun r H1 h0 h1 b s1 => ?_⟩
    have fr : ∀ {p}, H1 p = none → H p = none := fun {p} hp => by
      by_cases e : p = a
      · subst e
        obtain ⟨c, k, e1, _⟩ := s1
        rw [e1] at hp
        cases hp
      · cases e2 : H p with
        | none => rfl
        | some o => rw [b _ _ e2 e] at hp; cases hp
    refine ⟨rfl, _, rfl, ite2 (fun _ => ?_) (fun _ => ?_)⟩
    · refine ⟨_, rfl, _, rfl, (show 2 ≤ sizeLine from fits (by decide)), fun p hp => ?_⟩
      exact q p (x, y) _ (.inl rfl) (fr hp) (b.trans (.of (Same.new hp))) (s1.same (Same.new hp)) upd_same
    · refine ⟨_, rfl, _, rfl, (show 2 ≤ sizeLine from fits (by decide)), fun p hp => ?_⟩
      exact q p (y, x) _ (.inr rfl) (fr hp) (b.trans (.of (Same.new hp))) (s1.same (Same.new hp)) upd_same
end
end KK
end

section
set_option maxRecDepth 100000
set_option maxHeartbeats 4000000
namespace KK
open PySem PySem.Spec PyProof.Rows L2
theorem But.free {a p : Addr} {H H' : Hp} (b : But a H H') (s : ∃ o, H' a = some o) (hp : H' p = none) : H p = none := by
  by_cases e : p = a
  · subst e
    obtain ⟨o, h⟩ := s
    rw [h] at hp
    cases hp
  · cases e2 : H p with
    | none => rfl
    | some o => rw [b _ _ e2 e] at hp; cases hp
theorem StrAt.ex {H : Hp} {a : Addr} {m : Int} (h : StrAt H a m) : ∃ o, H a = some o := by
  obtain ⟨c, k, h, _⟩ := h
  exact ⟨_, h⟩
theorem StrAt.ne {H : Hp} {a p : Addr} {m : Int} (h : StrAt H a m) (hp : H p = none) : a ≠ p := by
  obtain ⟨c, k, h, _⟩ := h
  exact ne_of_none h hp
/-- an object that H does not know may change -/
theorem But.mut {a p : Addr} {H H' : Hp} {o : HO} (b : But a H H') (h : H p = none) : But a H (L2.upd H' p o) := fun c u hc n => by
  rw [upd_ne (ne_of_none hc h)]
  exact b c u hc n
theorem StrAt.upd {H : Hp} {a p : Addr} {m : Int} {o : HO} (h : StrAt H a m) (n : a ≠ p) : StrAt (upd H p o) a m := by
  obtain ⟨c, k, h1, h2⟩ := h
  exact ⟨c, k, by rw [upd_ne n]; exact h1, h2⟩
theorem Ties.but {H H' : Hp} {xs : List V} {ts : List (Str × Str)} {a : Addr} {l : List V} (h : Ties H xs ts) (b : But a H H') (ha : H a = some (.lst l)) : Ties H' xs ts := paired_mono h fun _ _ z => z.but b ha
theorem Ties.same {H H' : Hp} {xs : List V} {ts : List (Str × Str)} (h : Ties H xs ts) (b : Same H H') : Ties H' xs ts := paired_mono h fun _ _ z => z.same b
theorem Ties.upd {H : Hp} {xs : List V} {ts : List (Str × Str)} {p : Addr} {o : HO} (h : Ties H xs ts) (hp : ∀ t l, H t = some (.tup l) → t ≠ p) : Ties (upd H p o) xs ts :=
  paired_mono h fun _ _ z => by
    obtain ⟨t, rfl, ht⟩ := z
    exact ⟨t, rfl, by rw [upd_ne (hp _ _ ht)]; exact ht⟩
theorem prK_len (ns : List Str) (ps : List Int) (h : ps.length = ns.length) : (prK ns ps).length = ns.length := by
  unfold prK
  rw [List.length_map, List.length_zip, h, Nat.min_self]
theorem prK_none {ns : List Str} {ps : List Int} {x : Str} (h : x ∉ ns) : valV (prK ns ps) (Sum.inr x : Key) = none := by
  cases e : valV (prK ns ps) (Sum.inr x : Key) with
  | none => rfl
  | some v =>
    unfold valV at e
    cases e2 : (prK ns ps).find? (fun kv => decide (kv.1 = (Sum.inr x : Key))) with
    | none => rw [e2] at e; cases e
    | some p =>
      have hm := List.mem_of_find?_eq_some e2
      have hp := of_decide_eq_true (List.find?_some (p := fun kv : Key × V => decide (kv.1 = (Sum.inr x : Key))) e2)
      unfold prK at hm
      obtain ⟨q, hq, rfl⟩ := List.mem_map.mp hm
      have h3 : q.1 = x := Sum.inr.inj hp
      exact absurd (h3 ▸ (List.of_mem_zip hq).1) h
theorem prK_put {ns : List Str} {ps : List Int} {x : Str} {p : Int} (hl : ps.length = ns.length) (h : x ∉ ns) : putK (prK ns ps) (Sum.inr x : Key) (V.int p) = prK (ns ++ [x]) (ps ++ [p]) := by
  rw [putK_new _ (prK_none h)]
  unfold prK
  rw [List.zip_append (by rw [hl]), List.map_append]
  rfl
theorem take_more {α : Type} : ∀ {l : List α} {i : Nat} {x : α}, l[i]? = some x → l.take (i + 1) = l.take i ++ [x]
  | [], i, x, h => by simp at h
  | a :: l, 0, x, h => by
    have e : a = x := Option.some.inj h
    subst e
    rfl
  | a :: l, i + 1, x, h => by
    have ih := take_more (l := l) (i := i) (x := x) h
    show a :: l.take (i + 1) = a :: l.take i ++ [x]
    rw [ih]
    rfl
theorem not_taken {l : List Str} {i : Nat} {x : Str} (hn : l.Nodup) (h : l[i]? = some x) : x ∉ l.take i := fun hm => by
  obtain ⟨j, hj⟩ := List.getElem?_of_mem hm
  have hlt : j < i := by
    obtain ⟨h1, _⟩ := List.getElem?_eq_some_iff.mp hj
    rw [List.length_take] at h1
    omega
  rw [List.getElem?_take_of_lt hlt] at hj
  have := nd_ix hn h hj
  omega
def spParts (K : PySem.W.Frag) : Sp := fun vs H Q _ => ∃ (a : Addr) (lo hi m : Int), vs = [.ref a, .int lo, .int hi] ∧ StrAt H a m ∧ m ≤ 1000 ∧ 1 ≤ lo ∧ lo ≤ hi ∧ hi ≤ 19 ∧
  ∀ r pl tl d ns ps xs ts H', H r = none → H pl = none → H tl = none → H d = none → But a H H' → StrAt H' a (m + 4000) → PartsAt H' r pl tl d ns ps xs ts → lo ≤ (ns.length : Int) → (ns.length : Int) ≤ hi → Q (.ref r) H'
section
variable {P : Program} {w : World} {K : PySem.W.Frag} {mg : Str → Option Value} {base : Heap}
abbrev NLparts : List Str := ["_law_stream_here", "_law_low", "_law_high", "_law_many", "_law_density", "_law_scale", "_law_places", "_law_k", "_law_ties", "_law_i", "_law_j", "_law_prices", "_law_place"]
theorem scLparts : FnScope NLparts ["_law_stream_here", "_law_low", "_law_high"] (defScope s_law_parts) := ⟨rfl, rfl, rfl, by decide +kernel, rfl, by decide +kernel, by decide +kernel⟩
theorem c_parts (T : Blt mg) (F : Has K mg "_law_parts" s_law_parts) (CDRAW : C8.Cal P w K mg base 1 "_law_draw" spDraw []) (CNAME : C8.Cal P w K mg base 2 "_law_name" (spName K) [])
    (CAMOUNT : C8.Cal P w K mg base 2 "_law_amount" spAmount []) (CPAIR : C8.Cal P w K mg base 2 "_law_pair" spPair []) : C8.Cal P w K mg base 3 "_law_parts" (spParts K) [] := by
  refine calF F (fun f fd F => F.binds (ps := ["_law_stream_here", "_law_low", "_law_high"]) fun _ _ _ _ _ _ us hl => match us, hl with | [_, _, _], _ => rfl) scLparts (fun vs H Q E h => ?_) (fun f cdv A outer s H vs Q E hr h => ?_)
  · obtain ⟨a, lo, hi, m, rfl, _⟩ := h
    rfl
  · obtain ⟨a, lo, hi, m, rfl, hA, hm, hlo, hlh, hhi, q⟩ := h
    have hu := hu_of hr
    refine ⟨_, (pss_cons (ps_set (i := 3) scLparts.nd rfl (Or.inl rfl) (pe_op op_add (pv 1) (C8.pe_c CDRAW hr (by decide) rfl (pa_cons (pv 0) (pa_cons (pe_op op_add (pe_op op_sub (pv 2) (pv 1)) pe_int) pa_nil)))))
      (pss_cons (ps_set (i := 4) scLparts.nd rfl (Or.inl rfl) (C8.pe_c CDRAW hr (by decide) rfl (pa_cons (pv 0) (pa_cons pe_int pa_nil))))
      (pss_cons (ps_set (i := 5) scLparts.nd rfl (Or.inl rfl) (C8.pe_c CDRAW hr (by decide) rfl (pa_cons (pv 0) (pa_cons pe_int pa_nil))))
      (pss_cons (ps_set (i := 6) scLparts.nd rfl (Or.inl rfl) (pe_lst pa_nil))
      (pss_cons (ps_for PassesOwn.never rfl (pi_range1 rfl T.b_range (pa_cons (pv 3) pa_nil)) (pg_name (i := 7) scLparts.nd rfl (Or.inl rfl))
        (pss_one (ps_expr (pe_bm PySem.F.plainAttrs_list PySem.F.slot_list_append PySem.F.type_list_append mt_append (pv 6) (pa_cons (C8.pe_c CNAME hr (by decide) rfl (pa_cons (pv 0) (pa_cons (pv 6) pa_nil))) pa_nil)))))
      (pss_cons (ps_set (i := 8) scLparts.nd rfl (Or.inl rfl) (pe_lst pa_nil))
      (pss_cons (ps_for PassesOwn.never rfl (pi_range1 rfl T.b_range (pa_cons (pv 3) pa_nil)) (pg_name (i := 9) scLparts.nd rfl (Or.inl rfl))
        (pss_one (ps_for PassesOwn.never rfl (pi_range1 rfl T.b_range (pa_cons (pv 9) pa_nil)) (pg_name (i := 10) scLparts.nd rfl (Or.inl rfl))
        (pss_one (ps_if (pt_cmpR op_lt (C8.pe_c CDRAW hr (by decide) rfl (pa_cons (pv 0) (pa_cons pe_int pa_nil))) (pv 4) (nomark _)) (pss_one (ps_expr (pe_bm PySem.F.plainAttrs_list PySem.F.slot_list_insert PySem.F.type_list_insert mt_insert (pv 8) (pa_cons (C8.pe_c CDRAW hr (by decide) rfl (pa_cons (pv 0) (pa_cons (pe_op op_add (pe_callB call_len (by rfl) T.b_len PySem.boot_len (pa_cons (pv 8) pa_nil)) pe_int) pa_nil))) (pa_cons (C8.pe_c CPAIR hr (by decide) rfl (pa_cons (pv 0) (pa_cons (pe_ix ix_list (pv 6) (pv 9) (fun _ _ => rfl)) (pa_cons (pe_ix ix_list (pv 6) (pv 10) (fun _ _ => rfl)) pa_nil)))) pa_nil))))) pss_nil)))))
      (pss_cons (ps_set (i := 11) scLparts.nd rfl (Or.inl rfl) pe_dnewK)
      (pss_cons (ps_for PassesOwn.never rfl (pi_list (pv 6)) (pg_name (i := 12) scLparts.nd rfl (Or.inl rfl))
        (pss_one (ps_dput hu (pv 11) (pv 12) (C8.pe_c CAMOUNT hr (by decide) rfl (pa_cons (pv 0) (pa_cons (pv 5) pa_nil))) rfl)))
      (pss_one (ps_ret (pe_lst (pa_cons (pe_callTy call_tuple_of (by rfl) T.b_tuple (by decide +kernel) (pa_cons (pv 6) pa_nil)) (pa_cons (pv 8) (pa_cons (pv 11) pa_nil))))))))))))))), ?_⟩
    refine ⟨_, rfl, _, rfl, _, rfl, _, rfl, _, _, rfl, rfl, _, _, rfl, rfl, a, _, m, rfl, hA, by omega, (show 0 < hi - lo + 1 by omega), (show hi - lo + 1 < 2 ^ 200 by omega), fun r H1 r0 r1 b1 s1 => ?_⟩
    refine ⟨_, _, rfl, rfl, ?_⟩
    refine ⟨_, rfl, a, 5, _, rfl, s1, by omega, by decide, by decide, fun de H2 de0 de1 b2 s2 => ?_⟩
    refine ⟨_, rfl, a, 3, _, rfl, s2, by omega, by decide, by decide, fun sc H3 sc0 sc1 b3 s3 => ?_⟩
    refine ⟨Nat.zero_le _, fun pl hpl => ?_⟩
    have B3 : But a H H3 := (b1.trans b2).trans b3
    have fpl : H pl = none := B3.free s3.ex hpl
    have npl : a ≠ pl := s3.ne hpl
    have hn19 : lo + r ≤ 19 := by omega
    refine ⟨_, rfl, _, rfl, (show -(2 ^ 62) ≤ lo + r by omega), (show lo + r < 2 ^ 62 by omega), for_range (lo := 0) (n := (lo + r).toNat) (fun i σ H4 => ∃ (ns : List Str) (v7 : Option V), σ = [some (.ref a), some (.int lo), some (.int hi), some (.int (lo + r)), some (.int de), some (.int sc), some (.ref pl), v7, none, none, none, none, none] ∧ But a H H4 ∧ StrAt H4 a (m + 3 + 9 * i) ∧ H4 pl = some (.lst (ns.map V.str)) ∧ ns.length = i ∧ ns.Nodup ∧ ∀ x ∈ ns, NameOk x)
      ⟨[], none, rfl, B3.mut fpl, (s3.upd npl).mono (by omega), upd_same, rfl, List.nodup_nil, fun x hx => absurd hx (by simp)⟩ ?_ ?_⟩
    · rintro i σ H4 hi4 ⟨ns, v7, rfl, b4, s4, h4, hl, hnd, hok⟩
      refine ⟨_, rfl, .inl ⟨rfl, _, SqL.of h4⟩, _, rfl, _, rfl, a, pl, _, ns, rfl, s4, by omega, npl.symm, .inl (SqL.of h4), by omega, fun x H5 hx hxn b5 s5 => ?_⟩
      refine ⟨pl, _, _, rfl, rfl, b5 _ _ h4 npl.symm, fitsL (by rw [List.length_map]; omega), ?_⟩
      refine ⟨ns ++ [x], _, rfl, (b4.trans b5).mut fpl, (s5.upd npl).mono (by omega), by rw [upd_same, List.map_append]; rfl, by rw [List.length_append, hl]; rfl, ?_, fun y hy => ?_⟩
      · rw [List.nodup_append]
        exact ⟨hnd, List.nodup_cons.mpr ⟨by simp, List.nodup_nil⟩, fun y hy z hz e => by
          have : z = x := by simpa using hz
          subst this
          subst e
          exact hxn hy⟩
      · rcases List.mem_append.mp hy with hy | hy
        · exact hok y hy
        · have : y = x := by simpa using hy
          rw [this]
          exact hx
    rintro σ H4 ⟨ns, v7, rfl, b4, s4, h4, hl, hnd, hok⟩
    refine ⟨Nat.zero_le _, fun tl htl => ?_⟩
    have ftl : H tl = none := b4.free s4.ex htl
    have ntl : a ≠ tl := s4.ne htl
    have npt : pl ≠ tl := ne_of_none h4 htl
    refine ⟨_, rfl, _, rfl, (show -(2 ^ 62) ≤ lo + r by omega), (show lo + r < 2 ^ 62 by omega), for_range (lo := 0) (n := (lo + r).toNat) (fun i σ H5 => ∃ (xs : List V) (ts : List (Str × Str)) (v9 v10 : Option V), σ = [some (.ref a), some (.int lo), some (.int hi), some (.int (lo + r)), some (.int de), some (.int sc), some (.ref pl), v7, some (.ref tl), v9, v10, none, none] ∧ But a H H5 ∧ StrAt H5 a (m + 500 + 60 * i) ∧ H5 pl = some (.lst (ns.map V.str)) ∧ H5 tl = some (.lst xs) ∧ Ties H5 xs ts ∧ Made ns i 0 ts)
      ⟨[], [], none, none, rfl, b4.mut ftl, (s4.upd ntl).mono (by omega), by rw [upd_ne npt]; exact h4, upd_same, .nil, .zero⟩ ?_ ?_⟩
    · rintro i σ H5 hi5 ⟨xs, ts, v9, v10, rfl, b5, s5, h5, h6, t5, m5⟩
      refine ⟨_, rfl, _, rfl, (show -(2 ^ 62) ≤ (0 : Int) + i by omega), (show (0 : Int) + i < 2 ^ 62 by omega), for_range (lo := 0) (n := ((0 : Int) + i).toNat) (fun j σ H6 => ∃ (xs : List V) (ts : List (Str × Str)) (v10 : Option V), σ = [some (.ref a), some (.int lo), some (.int hi), some (.int (lo + r)), some (.int de), some (.int sc), some (.ref pl), v7, some (.ref tl), some (.int (0 + i)), v10, none, none] ∧ But a H H6 ∧ StrAt H6 a (m + 500 + 60 * i + 3 * j) ∧ H6 pl = some (.lst (ns.map V.str)) ∧ H6 tl = some (.lst xs) ∧ Ties H6 xs ts ∧ Made ns i j ts)
        ⟨xs, ts, v10, rfl, b5, s5.mono (by omega), h5, h6, t5, m5⟩ ?_ ?_⟩
      · rintro j σ H6 hj ⟨xs, ts, v10, rfl, b6, s6, h7, h8, t6, m6⟩
        have hj' : j < i := by omega
        refine ⟨_, rfl, a, 4, _, rfl, s6, by omega, by decide, by decide, fun d4 H7 d0 d1 b7 s7 => ?_⟩
        obtain ⟨ca, ka, hA6, _⟩ := id s6
        have h9 := b7 _ _ h7 npl.symm
        have h10 := b7 _ _ h8 ntl.symm
        have t7 : Ties H7 xs ts := t6.but b7 hA6
        refine ⟨_, rfl, _, _, rfl, rfl, _, rfl, ite2 (fun _ => ?_) (fun _ => ?_)⟩
        · have hle : (xs.length : Int) ≤ 400 := by
            have e1 := paired_len t6
            have e2 := m6.len
            have e3 : i * i ≤ 18 * 18 := Nat.mul_le_mul (by omega) (by omega)
            omega
          refine ⟨_, rfl, .inl ⟨rfl, _, SqL.of h10⟩, ?_⟩
          refine ⟨_, rfl, _, rfl, _, _, rfl, .inl ⟨_, SqL.of h10, rfl⟩, _, _, rfl, rfl, a, _, _, rfl, s7, by omega, (show 0 < (xs.length : Int) + 1 by omega), (show (xs.length : Int) + 1 < 2 ^ 200 by omega), fun k H8 k0 k1 b8 s8 => ?_⟩
          have h11 := b8 _ _ h9 npl.symm
          have h12 := b8 _ _ h10 ntl.symm
          obtain ⟨x, hx⟩ : ∃ x, ns[i]? = some x := ⟨ns[i]'(by omega), List.getElem?_eq_getElem (by omega)⟩
          obtain ⟨y, hy⟩ : ∃ y, ns[j]? = some y := ⟨ns[j]'(by omega), List.getElem?_eq_getElem (by omega)⟩
          have gx : (ns.map V.str)[i]? = some (.str x) := by rw [List.getElem?_map, hx] <;> rfl
          have gy : (ns.map V.str)[j]? = some (.str y) := by rw [List.getElem?_map, hy] <;> rfl
          refine ⟨_, rfl, _, rfl, _, rfl, pl, _, _, _, rfl, rfl, SqL.of h11, at_of (j := i) (by omega) gx, _, rfl, _, rfl, pl, _, _, _, rfl, rfl, SqL.of h11, at_of (j := j) (by omega) gy, ?_⟩
          refine ⟨a, x, y, _, rfl, s8, by omega, fun t p H9 hp ft b9 s9 ht => ?_⟩
          obtain ⟨c7, k7, hA7, _⟩ := id s7
          obtain ⟨c8, k8, hA8, _⟩ := id s8
          have h13 := b9 _ _ h11 npl.symm
          have h14 := b9 _ _ h12 ntl.symm
          have t9 : Ties H9 xs ts := (t7.but b8 hA7).but b9 hA8
          have ttl : ∀ t l, H9 t = some (.tup l) → t ≠ tl := fun t l e => ne_of e h14 (by intro z; cases z)
          refine ⟨tl, xs, k, _, rfl, rfl, h14, fitsL (by omega), k0, by omega, ?_⟩
          refine ⟨_, ts.take k.toNat ++ [p] ++ ts.drop k.toNat, _, rfl, ((((b6.trans b7).trans b8).trans b9)).mut ftl, (s9.upd ntl).mono (by omega), by rw [upd_ne npt]; exact h13, upd_same, ?_, m6.put hnd hj' hx hy hp _⟩
          have t10 := t9.upd (o := .lst (xs.take k.toNat ++ [V.ref t] ++ xs.drop k.toNat)) ttl
          exact paired_app (paired_app (paired_take _ t10) (.cons ⟨t, rfl, by rw [upd_ne (ttl _ _ ht)]; exact ht⟩ .nil)) (paired_drop _ t10)
        · exact ⟨xs, ts, _, rfl, b6.trans b7, s7.mono (by omega), h9, h10, t7, m6.skip⟩
      · rintro σ H6 ⟨xs, ts, v10, rfl, b6, s6, h7, h8, t6, m6⟩
        have e : ((0 : Int) + i).toNat = i := by omega
        rw [e] at m6 s6
        exact ⟨xs, ts, _, _, rfl, b6, s6.mono (by omega), h7, h8, t6, m6.next⟩
    rintro σ H5 ⟨xs, ts, v9, v10, rfl, b5, s5, h5, h6, t5, m5⟩
    intro d hd
    have fd' : H d = none := b5.free s5.ex hd
    have nd : a ≠ d := s5.ne hd
    have npd : pl ≠ d := ne_of_none h5 hd
    have ntd : tl ≠ d := ne_of_none h6 hd
    refine ⟨_, rfl, pl, rfl, ⟨_, SqL.of (by rw [upd_ne npd]; exact h5)⟩, for_list (K := K) (a := pl) (xs := ns.map V.str) (fun i σ H6 => ∃ (ps : List Int) (v12 : Option V), σ = [some (.ref a), some (.int lo), some (.int hi), some (.int (lo + r)), some (.int de), some (.int sc), some (.ref pl), v7, some (.ref tl), v9, v10, some (.ref d), v12] ∧ But a H H6 ∧ StrAt H6 a (m + 2000 + 2 * i) ∧ H6 pl = some (.lst (ns.map V.str)) ∧ H6 tl = some (.lst xs) ∧ Ties H6 xs ts ∧ H6 d = some (.dK (prK (ns.take i) ps)) ∧ ps.length = i ∧ PrOk ps)
      ⟨[], none, rfl, b5.mut fd', (s5.upd nd).mono (by omega), by rw [upd_ne npd]; exact h5, by rw [upd_ne ntd]; exact h6, t5.upd fun t l e => ne_of_none e hd, upd_same, rfl, fun p hp => absurd hp (by simp)⟩
      (fun i σ H6 _ ⟨_, _, _, _, _, h, _⟩ => SqL.of h) ?_ ?_⟩
    · rintro i v σ H6 hi6 ⟨ps, v12, rfl, b6, s6, h7, h8, t6, h9, hps, hpo⟩
      rw [List.getElem?_map] at hi6
      obtain ⟨x, hx, rfl⟩ := Option.map_eq_some_iff.mp hi6
      have hin : i < ns.length := (List.getElem?_eq_some_iff.mp hx).1
      obtain ⟨ca, ka, hA6, _⟩ := id s6
      refine ⟨_, rfl, _, rfl, a, sc, _, rfl, s6, by omega, fun p H7 p0 p1 b7 s7 => ?_⟩
      have h10 := b7 _ _ h7 npl.symm
      have h11 := b7 _ _ h8 ntl.symm
      have h12 := b7 _ _ h9 nd.symm
      have t7 := t6.but b7 hA6
      refine ⟨_, rfl, _, rfl, d, _, rfl, DPut.k (k := Sum.inr x) h12 (fitsL (by rw [prK_len _ _ (by rw [hps, List.length_take]; omega), List.length_take]; omega)), ?_⟩
      refine ⟨ps ++ [p], _, rfl, (b6.trans b7).mut fd', (s7.upd nd).mono (by omega), by rw [upd_ne npd]; exact h10, by rw [upd_ne ntd]; exact h11, t7.upd fun t l e => ne_of e h12 (by intro z; cases z), ?_, by rw [List.length_append, hps]; rfl, ?_⟩
      · rw [upd_same, take_more hx, prK_put (by rw [hps, List.length_take]; omega) (not_taken hnd hx)]
      · intro z hz
        rcases List.mem_append.mp hz with hz | hz
        · exact hpo z hz
        · have : z = p := by simpa using hz
          rw [this]
          exact ⟨p0, p1⟩
    rintro σ H6 ⟨ps, v12, rfl, b6, s6, h7, h8, t6, h9, hps, hpo⟩
    have hml : (ns.map V.str).length = ns.length := List.length_map ..
    rw [List.length_map] at hps h9
    refine ⟨_, rfl, pl, _, rfl, .inl ⟨SqL.of h7, fun pt hpt => ?_⟩⟩
    have npt2 : a ≠ pt := s6.ne hpt
    have fpt : H pt = none := b6.free s6.ex hpt
    refine ⟨_, rfl, _, rfl, (show 3 ≤ sizeLine from fits (by decide)), fun rr hrr => ?_⟩
    have S1 : Same H6 (upd H6 pt (.tup (ns.map V.str))) := Same.new hpt
    have S2 := Same.new (o := .lst [.ref pt, .ref tl, .ref d]) hrr
    have e1 := S1 _ _ h8
    have S := S1.trans S2
    have frr : H rr = none := b6.free s6.ex (S1.free hrr)
    have hlen : (ns.length : Int) = lo + r := by omega
    have hti : ts.length ≤ 400 := by
      have e2 := m5.len
      have e3 : (lo + r).toNat * (lo + r).toNat ≤ 19 * 19 := Nat.mul_le_mul (by omega) (by omega)
      omega
    refine q rr pt tl d ns ps xs ts _ frr fpt ftl fd' (b6.trans (.of S)) ((s6.same S).mono (by omega)) ⟨upd_same, S2 _ _ upd_same, S _ _ h8, ?_, t6.same S, (ne_of_none e1 hrr).symm, hps, ⟨by omega, by omega, hnd, hok⟩, ⟨m5.ok hnd, m5.nd, hti⟩, hpo⟩ (by omega) (by omega)
    have := S _ _ h9
    rw [List.take_of_length_le (Nat.le_refl _)] at this
    exact this
end
end KK
end

section
set_option maxRecDepth 100000
set_option maxHeartbeats 4000000
/-! enumerate of a tuple -/
namespace PySem
open Sem (wp)
open AutoSeq1 (wpAny_loadPart')
theorem meets_enumerate_newT (l : Addr) (items : Array Value) :
    Meets (Builtin.«enumerate.__new__» ⟨[.type "enumerate", .ref l], []⟩) (fun _ R s => s.heap.IsTuple l items ∧
      R (.ok (.ret (.ref (s.heap.push { cls := .type "tuple_iterator", data := .fields #[.ref l, .int 0 0] }).objs.size)))
        { s with heap := (s.heap.push { cls := .type "tuple_iterator", data := .fields #[.ref l, .int 0 0] }).push { cls := .type "enumerate", data := .fields #[.none, .bool false, .ref s.heap.objs.size, rawInt 0, .none, .none] } }) :=
  .of_wp fun prog w A R s h => by
    obtain ⟨hp, g, d, tk, os⟩ := s; obtain ⟨hL, h⟩ := h
    have hsub := sub_enumerate
    obtain ⟨ol, hl, hc, n, hd⟩ := id hL
    wp_walk using wpAny_loadPart' hl
    refine wpAny_stack_any fun st => wpAny_pure ?_
    split
    · rename_i c _ _ _ _ _
      cases (c == Value.type "enumerate")
      · wp_walk using wpAny_loadPart' hl, wpAny_pyIter_tuple hL
        exact ⟨_, rfl, h⟩
      · wp_walk using wpAny_loadPart' hl, wpAny_pyIter_tuple hL
        exact ⟨_, rfl, h⟩
    · wp_walk using wpAny_loadPart' hl, wpAny_pyIter_tuple hL
      exact ⟨_, rfl, h⟩
section
variable {prog : Program} {w : World} {A : Around} {E : Value → Shared → Prop} {s : Shared}
theorem call_enumerate_tuple {l : Addr} {items : Array Value} {Q : Value → Shared → Prop} (hL : s.heap.IsTuple l items)
    (h : ∀ h', IsEnum h' (s.heap.objs.size + 1) s.heap.objs.size 0 .none → h'.IsTupleIter s.heap.objs.size l 0 → h'.objs.size = s.heap.objs.size + 2 →
      (∀ b o, s.heap.get? b = some o → h'.get? b = some o) → Q (.ref (s.heap.objs.size + 1)) { s with heap := h' }) :
    wpAny (model prog w) A (call (.type "enumerate") [.ref l]) Q E s := by
  refine callType_new F.called_enumerate (by decide) (F.typeCall_enumerate_1 _) (F.newCall_enumerate_1 _) (fun obj => F.args_object_init_2 obj _) F.entry_enumerate_new
    (meets_enumerate_newT l items) ⟨hL, ?_⟩
  have hz : (s.heap.push { cls := .type "tuple_iterator", data := .fields #[.ref l, .int 0 0] }).objs.size = s.heap.objs.size + 1 := Heap.size_push ..
  show _ ∧ _
  rw [hz]
  have he : IsEnum ((s.heap.push { cls := .type "tuple_iterator", data := .fields #[.ref l, .int 0 0] }).push
      { cls := .type "enumerate", data := .fields #[.none, .bool false, .ref s.heap.objs.size, rawInt 0, .none, .none] }) (s.heap.objs.size + 1) s.heap.objs.size 0 .none := by
    have := Heap.get?_push_size (s.heap.push { cls := .type "tuple_iterator", data := .fields #[.ref l, .int 0 0] })
      (o := { cls := .type "enumerate", data := .fields #[.none, .bool false, .ref s.heap.objs.size, rawInt 0, .none, .none] }) rfl
    rw [hz] at this; exact this
  refine ⟨⟨_, he, rfl⟩, h _ he ⟨_, Heap.get?_push_of_some _ (Heap.get?_push_size _ rfl), rfl, rfl⟩ (by rw [Heap.size_push, hz]) fun b o x => Heap.get?_push_of_some _ (Heap.get?_push_of_some _ x)⟩
end
end PySem
namespace Own
open PySem PySem.Spec PyProof.Rows L2
/-- the tuple at a, each item in a new pair -/
def IteT (K : PySem.W.Frag) (a : Addr) : It :=
  ⟨fun i H => ∃ (xs : List V) (x : V), SqT K H a xs ∧ xs[i]? = some x, fun i H v H' => ∃ T x, v = .ref T ∧ H T = none ∧ H' = upd H T (.tup [.int (i : Nat), x]) ∧ ∀ xs, SqT K H a xs → xs[i]? = some x, fun i H => ∃ xs : List V, SqT K H a xs ∧ i = xs.length⟩
theorem turn_enumT {P : Program} {w : World} {K : PySem.W.Frag} {elts : List Expr} {kk : Nat} {tpos : Pos} (a e it : Addr) (its : Array Value) (hei : e ≠ it) (hea : e ≠ a) (hai : a ≠ it) :
    Turn P w K (.Tuple elts kk tpos) (IteT K a) [e, it] e (fun i h => (∃ old, IsEnum h e it ((i : Nat) : Int) old) ∧ h.IsTupleIter it a i) where
  mem := by simp
  obj := fun i h st b hb => by
    obtain ⟨⟨old, he⟩, ⟨o, ho, hc, hd⟩⟩ := st
    have e' : b = e ∨ b = it := by simpa using hb
    rcases e' with z | z
    · rw [z]; exact ⟨_, he, fun v q => nomatch q⟩
    · rw [z]; exact ⟨o, ho, fun v q => by rw [hd] at q; cases q⟩
  keep := fun i h h' st k => let ⟨⟨old, he⟩, hi⟩ := st; ⟨⟨old, k e (by simp) _ he⟩, hi.at fun o q => k it (by simp) o q⟩
  item := by
    intro X hP hw hK hc i pins s σ H E I hf st hg
    subst hP hw hK
    obtain ⟨⟨old, he⟩, hit⟩ := st
    obtain ⟨xs, x, hq, hx⟩ := hg
    obtain ⟨its, rv, p, hz⟩ := I.tuple hq
    obtain ⟨u, hu, ru⟩ := rv.get hx
    have hel : e < s.heap.objs.size := Heap.lt_size he
    have hil : it < s.heap.objs.size := by obtain ⟨_, q, _⟩ := hit; exact Heap.lt_size q
    have hlt : i < its.toArray.size := by
      rw [List.size_toArray]
      exact (List.getElem?_eq_some_iff.mp hu).1
    refine wpAny_pyNext_enum_itemD (Draws.tuple (A := X.A.in1) (I.ok.hd hc) it a hai its.toArray) he ⟨hit, p⟩ hlt hei (by simp [hei, hea]) fun v h' tk hv ho hit' hT hsz hk => ?_
    have ev : v = u := by
      have e1 : its[i]? = some v := by simpa using hv
      rw [hu] at e1
      exact (Option.some.inj e1).symm
    subst ev
    refine ⟨_, rfl, wpAny_letOwnedTupleGo_enum (s := { s with heap := h', toks := tk + 1 }) ho fun h'' he' sb => ?_⟩
    have hT2 : h''.get? s.heap.objs.size = some { cls := .type "tuple", data := .seq #[.int i tk, v] } := (sb.2 _ (Nat.ne_of_gt hel)).trans hT
    have new : ObjOk X.prog X.w (upd H s.heap.objs.size (.tup [.int (i : Nat), x])) h'' s.heap.objs.size (.tup [.int (i : Nat), x]) :=
      ⟨by show 2 ≤ sizeLine; decide, [.int i tk, v], .cons ⟨_, rfl⟩ (.cons ru .nil), ⟨_, hT2, rfl, _, rfl⟩⟩
    have I1 : Inv X pins σ (upd H s.heap.objs.size (.tup [.int (i : Nat), x])) { s with heap := h'', toks := tk + 1 } :=
      I.turnedNew (ch := [e, it]) (fun b ob hb q => (sb.2 b (fun z => hb (by simp [z]))).trans (hk b ob (fun z => hb (by simp [z])) (fun z => hb (by simp [z])) q)) hf (Nat.le_refl _) new
    refine ⟨.ref s.heap.objs.size, _, I1, rfl, ⟨_, x, rfl, I.hok.fresh (Nat.le_refl _), rfl, fun ys hy => by rw [I.tuple_inj hy hq]; exact hx⟩, ⟨⟨v, ?_⟩, hit'.1.at fun o q => (sb.2 it (Ne.symm hei)).trans q⟩, fun b hb => ?_⟩
    · have e1 : ((i + 1 : Nat) : Int) = (i : Int) + 1 := by omega
      rw [e1]; exact he'
    · have hb' : b < s.heap.objs.size := by
        have e' : b = e ∨ b = it := by simpa using hb
        rcases e' with z | z
        · rw [z]; exact hel
        · rw [z]; exact hil
      rw [upd_ne (Nat.ne_of_lt hb')]
      exact (hf b hb).1
  done := by
    intro X hP hw hK hc i pins s σ H E I hf st hg
    subst hP hw hK
    obtain ⟨⟨old, he⟩, hit⟩ := st
    obtain ⟨xs, hq, hx⟩ := hg
    obtain ⟨its, rv, p, hz⟩ := I.tuple hq
    obtain ⟨f0, f1, f2, f3, f4, f5⟩ := hf it (by simp)
    have hl : i = its.toArray.size := by rw [hx, rv.length]; simp
    subst hl
    exact wpAny_pyNext_enum_endD (Draws.tuple (A := X.A.in1) (I.ok.hd hc) it a hai its.toArray) he ⟨hit, p⟩ fun h' eb => ⟨rfl, I.turned (t' := s.toks) (fun b o hb q => eb b o hb q) f0 f1 f3 f4 f5⟩
  self := fun A i s Q E st h => let ⟨⟨_, he⟩, _⟩ := st; wpAny_pyIter_enum he h
def iEnumT (K : PySem.W.Frag) (ta : TA) : TI := fun σ H R => ta σ H fun vs H1 => ∃ a xs, vs = [.ref a] ∧ SqT K H1 a xs ∧ R (IteT K a) H1
theorem pi_enumT {X : Cx} {e : Expr} {ta : TA} {p pos tpos : Pos} {elts : List Expr} {kk : Nat} (hg : Gl X "enumerate") (hm : X.mg "enumerate" = none) (ha : PA X [e] ta) (hs : starEach [e] X.env = [(false, eval e X.env)] := by rfl) :
    PI X (.Tuple elts kk tpos) (.Call (.Name "enumerate" p) [e] [] pos) (iEnumT X.K ta) := by
  refine ⟨fun pins s σ H R I h => ?_⟩
  refine Call_ (ld_blt I hg hm boot_enumerate (PyProof.Rows.callWith_type1 (thn (ha.run pos pins s σ H _ I h) fun us s1 ⟨vs, H1, I1, r1, q1⟩ => ?_) hs rfl))
  obtain ⟨a, xs, ex, hq, q⟩ := q1
  subst ex
  cases r1 with
  | cons r rr =>
    cases rr
    cases r
    obtain ⟨its, rv, p', hz⟩ := I1.tuple hq
    have hal : a < s1.heap.objs.size := by obtain ⟨o, ho, _⟩ := p'; exact Heap.lt_size ho
    refine call_enumerate_tuple p' fun h' he hit hsz hk => wpAny_pyIter_enum he ?_
    have I2 : Inv X pins σ H1 { s1 with heap := h' } := I1.kept (t' := s1.toks) hk
    refine ⟨s1.heap.objs.size + 1, [s1.heap.objs.size + 1, s1.heap.objs.size], _, _, H1, rfl, I2, turn_enumT a (s1.heap.objs.size + 1) s1.heap.objs.size its.toArray (Nat.succ_ne_self _) (Nat.ne_of_gt (Nat.lt_succ_of_lt hal)) (Nat.ne_of_lt hal), ⟨⟨.none, he⟩, hit⟩, fun b hb => ?_, q⟩
    have e' : b = s1.heap.objs.size + 1 ∨ b = s1.heap.objs.size := by simpa using hb
    have hle : s1.heap.objs.size ≤ b := by
      rcases e' with z | z
      · rw [z]; exact Nat.le_add_right _ _
      · rw [z]; exact Nat.le_refl _
    exact I1.fpOk hle (I1.hok.fresh hle)
theorem walk_enumT {K : PySem.W.Frag} {a : Addr} {xs : List V} : Walk (IteT K a) xs.length (fun H => SqT K H a xs) (YPair (fun i => some (.int (i : Nat))) fun i => xs[i]?) :=
  ⟨fun i _ hi q => ⟨xs, xs[i], q, by simp [hi]⟩, fun _ q => ⟨xs, q, rfl⟩, fun i H v H' _ q y => by
    obtain ⟨T, x, e1, e2, e3, e4⟩ := y
    exact ⟨T, _, x, e1, e2, e3, rfl, e4 xs q⟩⟩
end Own
end

section
set_option maxRecDepth 100000
set_option maxHeartbeats 4000000
/-! x in o, len(o) where the class of o has its own __contains__, __len__ -/
namespace Own
open PySem PySem.Spec PyProof.Rows L2
section
variable {X : Cx} {k : Nat} {f C : Addr} {fd : FuncData} {ps : List Str} {sp : Sp}
theorem inst_at {pins : List (Addr × Obj)} {σ : L2.St} {H : Hp} {s : Shared} {a dx : Addr} {fs : List (Str × V)} (I : Inv X pins σ H s) (ea : H a = some (.ins C dx fs)) : ∃ od, PySem.W.InstAt s.heap a (PySem.W.instObj C dx) C (some od) := by
  obtain ⟨mA, O, _⟩ := ins_get I.hok ea
  obtain ⟨od, J, _⟩ := O.look
  exact ⟨od, J⟩
theorem run_fn1 {pins : List (Addr × Obj)} {σ : L2.St} {H : Hp} {s : Shared} {Q : VK} {us : List Value} {vs : List V} (F : FnOk X.prog X.w X.K X.mg X.base CX0 k f fd ps sp) (hr : Room k X.A.in1) (hb : Binds X.K fd ps [])
    (I : Inv X pins σ H s) (r : Vals vs us) (h : sp vs H Q E0) : wpAny (model X.prog X.w) X.A.in1 (call (.ref f) us) (EP X pins σ Q) X.xe s := by
  have hl : (us ++ []).length = ps.length := by rw [List.append_nil, ← r.length]; exact F.len _ _ _ _ h
  refine wpAny_call (codeAny_mono (F.run X.A.in1 X.stack s H ⟨us, []⟩ (us ++ []) vs Q E0 hr I.env0.in1 (hb s us I.kIn hl) (by rw [List.append_nil]; exact r) h) fun r s' hq => ?_)
  cases r with
  | error e => exact False.elim hq
  | ok fl =>
    cases fl with
    | ret u => exact I.after hq
    | next => exact False.elim hq
    | brk => exact False.elim hq
    | cont => exact False.elim hq
/-- what is asked: the promise of the method, a truth value handed back -/
def rInO (C : Addr) (sp : Sp) (neg : Bool) : R2 := fun x y H Q => ∃ a dx fs, y = .ref a ∧ H a = some (.ins C dx fs) ∧ sp [.ref a, x] H (fun r H' => ∃ b, r = .bl b ∧ Q (.bl (if neg then !b else b)) H') E0
theorem op_inO (hm : Meth X.K C "__contains__" f) (F : FnOk X.prog X.w X.K X.mg X.base CX0 k f fd ps sp) (hr : Room k X.A) (hb : Binds X.K fd ps []) : OpR X (compareOp .In) (rInO C sp false) := by
  intro pins s σ H x y v u Q I rx ry h
  obtain ⟨a, dx, fs, rfl, ea, q⟩ := h
  obtain rfl : u = Value.ref a := ry
  obtain ⟨od, J⟩ := inst_at I ea
  obtain ⟨m, F'⟩ := I.fr
  refine PySem.W.in_K F' I.mod.kin J hm.at_ hm.fn (thn (run_fn (Q := fun r H' => ∃ b : Bool, r = .bl b ∧ Q (.bl b) H') (us := [.ref a, v]) (vs := [.ref a, x]) F hr hb .nil pass0 I (.cons rfl (.cons rx .nil)) (by rw [List.append_nil]; exact q)) fun r s' ⟨z, H', I', rz, b, ez, qz⟩ => ?_)
  subst ez
  cases rz
  exact wpAny_truthy_bool ⟨.bl b, H', I', rfl, qz⟩
theorem op_notInO (hm : Meth X.K C "__contains__" f) (F : FnOk X.prog X.w X.K X.mg X.base CX0 k f fd ps sp) (hr : Room k X.A) (hb : Binds X.K fd ps []) : OpR X (compareOp .NotIn) (rInO C sp true) := by
  intro pins s σ H x y v u Q I rx ry h
  obtain ⟨a, dx, fs, rfl, ea, q⟩ := h
  obtain rfl : u = Value.ref a := ry
  obtain ⟨od, J⟩ := inst_at I ea
  obtain ⟨m, F'⟩ := I.fr
  refine PySem.W.notIn_K F' I.mod.kin J hm.at_ hm.fn (thn (run_fn (Q := fun r H' => ∃ b : Bool, r = .bl b ∧ Q (.bl (!b)) H') (us := [.ref a, v]) (vs := [.ref a, x]) F hr hb .nil pass0 I (.cons rfl (.cons rx .nil)) (by rw [List.append_nil]; exact q)) fun r s' ⟨z, H', I', rz, b, ez, qz⟩ => ?_)
  subst ez
  cases rz
  exact wpAny_truthy_bool ⟨.bl (!b), H', I', rfl, qz⟩
def rLenO (C : Addr) (sp : Sp) : List V → Hp → VK → Prop := fun xs H Q => ∃ a dx fs, xs = [.ref a] ∧ H a = some (.ins C dx fs) ∧ sp [.ref a] H (fun r H' => ∃ n : Int, r = .int n ∧ 0 ≤ n ∧ n < 2 ^ 63 ∧ Q (.int n) H') E0
theorem call_lenO (hm : Meth X.K C "__len__" f) (F : FnOk X.prog X.w X.K X.mg X.base CX0 k f fd ps sp) (hr : Room (k + 1) X.A) (hb : Binds X.K fd ps []) : CallR X (.builtin "len") (rLenO C sp) := by
  intro pins s σ H xs us Q I r h
  obtain ⟨a, dx, fs, rfl, ea, q⟩ := h
  rw [Vals.ref1 r]
  obtain ⟨od, J⟩ := inst_at I ea
  obtain ⟨m, F'⟩ := I.fr
  refine PySem.W.len_K F' I.mod.kin J hm.at_ hm.fn (thn (run_fn1 (Q := fun r H' => ∃ n : Int, r = .int n ∧ 0 ≤ n ∧ n < 2 ^ 63 ∧ Q (.int n) H') (us := [.ref a]) (vs := [.ref a]) F hr.in1 hb I (.cons rfl .nil) q) fun r s' ⟨z, H', I', rz, n, ez, h0, h1, qz⟩ => ?_)
  subst ez
  obtain ⟨t, rfl⟩ := rz
  exact ⟨⟨h0, h1⟩, ⟨.int n, H', I'.tok _, ⟨_, rfl⟩, qz⟩⟩
end
end Own
namespace Own
open PySem PySem.Spec PyProof.Rows L2
section
variable {X : Cx}
/-- k in d, as an operation on values -/
theorem op_in_dict (hu : X.A.units + 1 < cLine) : OpR X (compareOp .In) (fun x y H Q => ∃ a o, y = .ref a ∧ DGet H a x o ∧ Q (.bl o.isSome) H) := by
  intro pins s σ H x y v u Q I rx ry h
  obtain ⟨a, o, rfl, g, q⟩ := h
  obtain rfl : u = Value.ref a := ry
  exact d_in hu I g rx fun s3 I3 => ⟨.bl o.isSome, H, I3, rfl, q⟩
/-- either of two readings -/
theorem op_or {f : Value → Value → Sem Value} {r1 r2 : R2} (h1 : OpR X f r1) (h2 : OpR X f r2) : OpR X f (fun x y H Q => r1 x y H Q ∨ r2 x y H Q) := by
  intro pins s σ H x y v u Q I rx ry h
  rcases h with h | h
  · exact h1 pins s σ H x y v u Q I rx ry h
  · exact h2 pins s σ H x y v u Q I rx ry h
def rInAny (K : PySem.W.Frag) : R2 := fun x y H Q => rIn K false x y H Q ∨ ∃ a o, y = .ref a ∧ DGet H a x o ∧ Q (.bl o.isSome) H
theorem op_inAny (hu : X.A.units + 1 < cLine) : OpR X (compareOp .In) (rInAny X.K) := op_or op_in_seq (op_in_dict hu)
end
end Own
end

section
set_option maxRecDepth 100000
set_option maxHeartbeats 4000000
namespace Own
open PySem PySem.Spec PyProof.Rows L2
/-- a list or a tuple, whichever it is -/
def iLT (K : PySem.W.Frag) (te : TE) : TI := fun σ H R => iList K te σ H R ∨ iTup K te σ H R
theorem pi_lt {X : Cx} {tg e : Expr} {te : TE} (he : PE X e te) : PI X tg e (iLT X.K te) := by
  refine ⟨fun pins s σ H R I h => ?_⟩
  rcases h with h | h
  · exact (pi_list (tg := tg) he).run pins s σ H R I h
  · exact (pi_tup (tg := tg) he).run pins s σ H R I h
section
variable {P : Program} {w : World} {K : PySem.W.Frag} {mg : Str → Option Value} {base : Heap} {k : Nat} {x : Str} {sp1 sp2 : Sp} {dvs : List V}
/-- a promise that asks for more -/
theorem cal_of (c : C8.Cal P w K mg base k x sp1 dvs) (h : ∀ vs H Q E, sp2 vs H Q E → sp1 vs H Q E) : C8.Cal P w K mg base k x sp2 dvs := by
  obtain ⟨f, fd, ps, ds, F, hm, kp, b, d⟩ := c.ex
  exact ⟨f, fd, ps, ds, F.imp h, hm, kp, b, d⟩
end
section
variable {X : Cx} {C : Addr} {bmB : List Value} {B newId initId : String}
/-- E(), an own error class with no __init__ -/
theorem pmk_own0 {x : Str} {p pos : Pos} (F : ExcBaseFacts B newId initId bmB) (q : PySem.W.excIn X.K C bmB newId = true) (gC : X.mg x = some (.ref C)) (kC : PySem.W.keepIn X.K (.ref C) = true) (r : Raises X (.ref C)) (hg : Gl X x := by rfl)
    (hdb : (x == ("__debug__" : Str)) = false := by decide +kernel) : PMk X (.Call (.Name x p) [] [] pos) (fun _ H Q => Q (.ref C) none H) := by
  intro pins s σ H Q I h
  refine wpAny_Call_Name_kw (ld_glob I hg gC ?_ hdb)
  refine PySem.W.callWith_K0 I.kIn kC ?_
  obtain ⟨bm, N, nm, qn, bs, hdct, sn, sub, ab, col, dd, k0, k1, k2, k3, k5, mN, hC, hN, hni, T⟩ := exc_obj I.kIn q
  refine wpAny_call_exc_subT F T hC hN hni (fun h' e hm => ?_) (by show 0 ≤ sizeLine; exact Nat.zero_le _)
  exact mk_of I hm r h (I.hok.gone hm.new)
/-- raise E() -/
def tRaise0 (C : Addr) (W : WX) : TS := fun _ σ H => W (.ref C) none σ H
theorem ps_raise0 {x : Str} {W : WX} {p pos pos2 : Pos} (hc : X.calm = true) (q : PySem.W.excIn X.K C He.veBase "ValueError.__new__" = true) (gC : X.mg x = some (.ref C)) (kC : PySem.W.keepIn X.K (.ref C) = true) (exC : PySem.W.subIn X.K (.ref C) (.type "BaseException") = some true) (tyC : PySem.W.typeIn X.K (.ref C) = some (.type "type"))
    (tk : Takes X W) (hg : Gl X x := by rfl) (hdb : (x == ("__debug__" : Str)) = false := by decide +kernel) : PS X (.Raise (some (.Call (.Name x p) [] [] pos)) none pos2) (tRaise0 C W) :=
  ps_raise hc tk (pmk_own0 PySem.F.excBase_ValueError q gC kC (raises_own exC tyC) hg hdb)
/-- a def that may raise, by its name -/
structure CalX (P : Program) (w : World) (K : PySem.W.Frag) (mg : Str → Option Value) (base : Heap) (k : Nat) (x : Str) (sp : Sp) : Prop where
  ex : ∃ (f : Addr) (fd : FuncData) (ps : List Str), FnOk P w K mg base (L2.CX P w) k f fd ps sp ∧ mg x = some (.ref f) ∧ PySem.W.keepIn K (.ref f) = true ∧ L2.Binds K fd ps []
theorem pe_cxS {k j : Nat} {x : Str} {sp : Sp} {W : WX} {e : Expr} {es : List Expr} {t : TA} {p pos : Pos} (c : CalX X.prog X.w X.K X.mg X.base k x sp) (hr : Room j X.A) (hk : k ≤ j) (tk : Takes X W) (hg : Gl X x) (ha : PA X (e :: es) t)
    (hdb : (x == ("__debug__" : Str)) = false := by decide) (he : starEach (e :: es) X.env = (false, eval e X.env) :: starEach es X.env := by rfl) (hpl : (backTo pos (starEach es X.env)).any (·.1) = false := by rfl) :
    PE X (.Call (.Name x p) (e :: es) [] pos) (tCallS sp (WE W) t) := by
  obtain ⟨f, fd, ps, F, hm, kp, b⟩ := c.ex
  exact pe_callS F (hr.mono hk) hg hm kp b (fun σ => passAt tk σ) ha hdb he hpl
end
/-! ### dicts told apart: values flat, or the same object -/
def sameB : V → Bool
  | .ref _ => true
  | v => flatB v
theorem eqAt_sameB {A : Around} {s : Shared} {v : V} {u u' : Value} (r : RelV v u) (r' : RelV v u') (f : sameB v = true) : SeqAt.EqAt A s u u' true := by
  cases v with
  | ref a =>
    cases (show u = Value.ref a from r)
    cases (show u' = Value.ref a from r')
    exact SeqAt.EqAt.same _
  | _ => exact eqAt_same r r' f
theorem hits_sameB {A : Around} {s : Shared} {kvs : List (Key × V)} {vb : List (Key × Value)} (rb : KV kvs vb) {ks : List (Key × V)} {va : List (Key × Value)} (ra : KV ks va) :
    (∀ p ∈ ks, valV kvs p.1 = some p.2 ∧ sameB p.2 = true) → PySem.W.KeqHits A s vb va true := by
  unfold KV at ra
  induction ra with
  | nil => exact fun _ => .nil
  | @cons p q ps qs h t ih =>
    intro hp
    obtain ⟨h1, h2⟩ := h
    obtain ⟨e, f⟩ := hp p List.mem_cons_self
    have rr : RelO (some p.2) (valueAt vb p.1) := by
      rw [← e]
      exact rb.val p.1
    obtain ⟨y, hy, ry⟩ := rr.some_of
    obtain ⟨k, v⟩ := q
    have h1' : p.1 = k := h1
    rw [h1'] at hy
    have fin : PySem.W.KeqHits A s vb ((k, v) :: qs) (true && true) := .hit hy (eqAt_sameB h2 ry f) (ih fun p' hm => hp p' (List.mem_cons_of_mem _ hm))
    exact fin
def rNeDR : R2 := fun x y H Q => ∃ a b ks ls, x = .ref a ∧ y = .ref b ∧ H a = some (.dK ks) ∧ H b = some (.dK ls) ∧ ks.length = ls.length ∧ (∀ p ∈ ks, valV ls p.1 = some p.2 ∧ sameB p.2 = true) ∧ Q (.bl false) H
theorem op_ne_dictR {X : Cx} (hu : X.A.units < cLine) : OpR X (compareOp .NotEq) rNeDR := by
  intro pins s σ H x y v u Q I rx ry h
  obtain ⟨a, b, ks, ls, rfl, rfl, ea, eb, hlen, hp, q⟩ := h
  obtain rfl : v = Value.ref a := rx
  obtain rfl : u = Value.ref b := ry
  obtain ⟨_, ya, va, ra, da⟩ := (show ObjOk X.prog X.w H s.heap a (.dK ks) from I.hok a _ ea)
  obtain ⟨_, yb, vb, rb, db⟩ := (show ObjOk X.prog X.w H s.heap b (.dK ls) from I.hok b _ eb)
  have hl : va.length = vb.length := by rw [← ra.length, ← rb.length]; exact hlen
  refine PySem.W.keq_ne (knd := mixKind X.prog X.w) (r := true) ya yb da db hu (fun _ => hits_sameB rb ra hp) ?_
  have e : (!(va.length == vb.length && true)) = false := by rw [hl]; simp
  rw [e]
  exact ⟨.bl false, H, I, rfl, q⟩
/-- x != y, of what is the same or equal -/
def rNeSame (K : PySem.W.Frag) : R2 := fun x y H Q => rNe x y H Q ∨ rNeD K x y H Q ∨ rNeDR x y H Q
theorem op_ne_same {X : Cx} (h1 : X.A.units + 64 < cLine) (h2 : X.A.units < cLine) : OpR X (compareOp .NotEq) (rNeSame X.K) := Own.op_or op_ne (Own.op_or (op_neD h1) (op_ne_dictR h2))
end Own
end

section
set_option maxRecDepth 100000
set_option maxHeartbeats 4000000
namespace KK
open PySem PySem.Spec PyProof.Rows L2
/-! ### the checks of values -/
def spIsInt (K : PySem.W.Frag) : Sp := fun vs H Q _ => ∃ (x : V) (t : String) (b1 b2 : Bool), vs = [x] ∧ TyX K H x (.type t) ∧ kitB t "int" = some b1 ∧ kitB t "bool" = some b2 ∧ Q (.bl (b1 && !b2)) H
def spBetween (K : PySem.W.Frag) : Sp := fun vs H Q _ => ∃ (x : V) (lo hi : Int) (t : String) (b1 b2 : Bool), vs = [x, .int lo, .int hi] ∧ TyX K H x (.type t) ∧ kitB t "int" = some b1 ∧ kitB t "bool" = some b2 ∧
  ((b1 && !b2) = true → ∃ i, x = .int i ∧ Q (.bl (decide (lo ≤ i ∧ i ≤ hi))) H) ∧ ((b1 && !b2) = false → Q (.bl false) H)
def nameB (x : Str) : Bool := (decide (1 ≤ x.cps.toList.length) && decide (x.cps.toList.length ≤ 8)) && x.cps.toList.all fun c => decide (97 ≤ c) && decide (c ≤ 122)
theorem nameB_ok {x : Str} (h : NameOk x) : nameB x = true := by
  unfold nameB
  rw [decide_eq_true h.lo, decide_eq_true h.hi, Bool.and_self, Bool.true_and, List.all_eq_true]
  intro c hc
  rw [decide_eq_true (h.cs c hc).1, decide_eq_true (h.cs c hc).2, Bool.and_self]
def spIsName (K : PySem.W.Frag) : Sp := fun vs H Q _ => ∃ (x : V) (t : String) (b : Bool), vs = [x] ∧ TyX K H x (.type t) ∧ kitB t "str" = some b ∧
  (b = true → ∃ s : Str, x = .str s ∧ s.length ≤ 100000 ∧ ∀ H', Same H H' → Q (.bl (nameB s)) H') ∧ (b = false → Q (.bl false) H)
def spAmong (K : PySem.W.Frag) : Sp := fun vs H Q _ => ∃ (x : V) (a : Addr) (t : String) (b : Bool), vs = [x, .ref a] ∧ TyX K H x (.type t) ∧ kitB t "str" = some b ∧ (b = false → Q (.bl false) H) ∧
  (b = true → ∃ s : Str, x = .str s ∧ ((∃ ns : List Str, (SqL K H a (ns.map V.str) ∨ SqT K H a (ns.map V.str)) ∧ Q (.bl (decide (s ∈ ns))) H) ∨ (∃ kvs : List (Key × V), Rd H a (.dK kvs) ∧ Q (.bl (valV kvs (Sum.inr s : Key)).isSome) H)))
def spJust (K : PySem.W.Frag) : Sp := fun vs H Q _ => ∃ (d k : Addr) (kvs : List (Key × V)) (ns : List Str), vs = [.ref d, .ref k] ∧ H d = some (.dK kvs) ∧ SqT K H k (ns.map V.str) ∧ kvs.length = ns.length ∧ ns.length ≤ 1000 ∧ (∀ x ∈ ns, (valV kvs (Sum.inr x : Key)).isSome = true) ∧
  ∀ H', Same H H' → Q (.bl true) H'
def spJustG (K : PySem.W.Frag) : Sp := fun vs H Q _ => ∃ (x : V) (k : Addr) (ns : List Str) (t : String) (b : Bool), vs = [x, .ref k] ∧ TyX K H x (.type t) ∧ kitB t "dict" = some b ∧ (SqL K H k (ns.map V.str) ∨ SqT K H k (ns.map V.str)) ∧ ns.length ≤ 1000 ∧
  (b = false → Q (.bl false) H) ∧ (b = true → ∃ d kvs, x = .ref d ∧ H d = some (.dK kvs) ∧ ∀ H', Same H H' → Q (.bl (decide (kvs.length = ns.length) && ns.all fun x => (valV kvs (Sum.inr x : Key)).isSome)) H')
def inOrd (p : Str × Str) : Str × Str := if Own.ltS p.2 p.1 = true then (p.2, p.1) else p
def spOrder : Sp := fun vs H Q _ => ∃ (a b : Str), vs = [.str a, .str b] ∧ ∀ p, H p = none → Q (.ref p) (upd H p (.tup [.str (ordP (a, b)).1, .str (ordP (a, b)).2]))
theorem one_lt (c d : Nat) : decide (([c] : List Nat) < [d]) = decide (c < d) := by
  by_cases h : c < d
  · rw [decide_eq_true h, decide_eq_true]
    exact List.Lex.rel h
  · rw [decide_eq_false h, decide_eq_false]
    intro z
    cases z with
    | rel q => exact h q
    | cons q => cases q
theorem a_cps : (PySem.Str.ofString "a").cps.toList = [97] := by decide +kernel
theorem z_cps : (PySem.Str.ofString "z").cps.toList = [122] := by decide +kernel
theorem one_cps (c : Nat) : (⟨#[c]⟩ : Str).cps.toList = [c] := rfl
section
variable {P : Program} {w : World} {K : PySem.W.Frag} {mg : Str → Option Value} {base : Heap}
abbrev Nisinteger : List Str := ["value"]
theorem scisinteger : FnScope Nisinteger ["value"] (defScope s_is_integer) := ⟨rfl, rfl, rfl, by decide +kernel, rfl, by decide +kernel, by decide +kernel⟩
theorem c_isint (T : Blt mg) (F : Has K mg "is_integer" s_is_integer) : C8.Cal P w K mg base 1 "is_integer" (spIsInt K) [] := by
  refine calF F (fun f fd F => F.binds (ps := ["value"]) fun _ _ _ _ _ _ us hl => match us, hl with | [_], _ => rfl) scisinteger (fun vs H Q E h => ?_) (fun f cdv A outer s H vs Q E hr h => ?_)
  · obtain ⟨x, t, b1, b2, rfl, _⟩ := h
    rfl
  · obtain ⟨x, t, b1, b2, rfl, ht, h1, h2, q⟩ := h
    refine ⟨_, (pss_one (ps_ret (pe_and (pe_callB call_isi (by rfl) T.b_isinstance (by decide +kernel) (pa_cons (pv 0) (pa_cons (pe_bltn (v := .ty "int") (by rfl) T.b_int (by decide +kernel) rfl) pa_nil))) (pe_one (pe_not (pe_callB call_isi (by rfl) T.b_isinstance (by decide +kernel) (pa_cons (pv 0) (pa_cons (pe_bltn (v := .ty "bool") (by rfl) T.b_bool (by decide +kernel) rfl) pa_nil)))))))), ?_⟩
    refine ⟨_, rfl, _, _, _, _, _, rfl, .ty "int", ht, kit_ty h1, _, rfl, ?_⟩
    cases b1 with
    | false =>
      refine iteF ?_
      exact q
    | true =>
      refine iteT ?_
      exact ⟨_, rfl, _, _, _, _, _, rfl, .ty "bool", ht, kit_ty h2, _, rfl, q⟩
abbrev Nisbetween : List Str := ["value", "low", "high"]
theorem scisbetween : FnScope Nisbetween ["value", "low", "high"] (defScope s_is_between) := ⟨rfl, rfl, rfl, by decide +kernel, rfl, by decide +kernel, by decide +kernel⟩
theorem c_between (T : Blt mg) (F : Has K mg "is_between" s_is_between) (CISINT : C8.Cal P w K mg base 1 "is_integer" (spIsInt K) []) : C8.Cal P w K mg base 2 "is_between" (spBetween K) [] := by
  refine calF F (fun f fd F => F.binds (ps := ["value", "low", "high"]) fun _ _ _ _ _ _ us hl => match us, hl with | [_, _, _], _ => rfl) scisbetween (fun vs H Q E h => ?_) (fun f cdv A outer s H vs Q E hr h => ?_)
  · obtain ⟨x, lo, hi, t, b1, b2, rfl, _⟩ := h
    rfl
  · obtain ⟨x, lo, hi, t, b1, b2, rfl, ht, h1, h2, q1, q2⟩ := h
    refine ⟨_, (pss_one (ps_ret (pe_and (C8.pe_c CISINT hr (by decide) rfl (pa_cons (pv 0) pa_nil)) (pe_one (pe_chain op_le op_le (pv 1) (pv 0) (pv 2)))))), ?_⟩
    refine ⟨_, rfl, x, t, b1, b2, rfl, ht, h1, h2, _, rfl, ?_⟩
    cases hb : (b1 && !b2) with
    | false =>
      refine iteF ?_
      exact q2 hb
    | true =>
      refine iteT ?_
      obtain ⟨i, rfl, q⟩ := q1 hb
      refine ⟨_, rfl, _, rfl, _, _, rfl, rfl, _, rfl, ?_⟩
      by_cases c1 : lo ≤ i
      · rw [decide_eq_true c1]
        refine iteT ?_
        refine ⟨_, rfl, _, _, rfl, rfl, ?_⟩
        have e : decide (lo ≤ i ∧ i ≤ hi) = decide (i ≤ hi) := by
          by_cases c2 : i ≤ hi
          · rw [decide_eq_true c2, decide_eq_true ⟨c1, c2⟩]
          · rw [decide_eq_false c2, decide_eq_false fun z => c2 z.2]
        rw [e] at q
        exact q
      · rw [decide_eq_false c1]
        refine iteF ?_
        rw [decide_eq_false fun z => c1 z.1] at q
        exact q
abbrev Nisname : List Str := ["value", "sign"]
theorem scisname : FnScope Nisname ["value"] (defScope s_is_name) := ⟨rfl, rfl, rfl, by decide +kernel, rfl, by decide +kernel, by decide +kernel⟩
theorem c_isname (T : Blt mg) (G_LONGEST_NAME : ∃ t, mg "LONGEST_NAME" = some (.int 8 t)) (F : Has K mg "is_name" s_is_name) : C8.Cal P w K mg base 1 "is_name" (spIsName K) [] := by
  refine calF F (fun f fd F => F.binds (ps := ["value"]) fun _ _ _ _ _ _ us hl => match us, hl with | [_], _ => rfl) scisname (fun vs H Q E h => ?_) (fun f cdv A outer s H vs Q E hr h => ?_)
  · obtain ⟨x, t, b, rfl, _⟩ := h
    rfl
  · obtain ⟨x, t, b, rfl, ht, h1, q1, q2⟩ := h
    obtain ⟨tk, hG⟩ := G_LONGEST_NAME
    have G_LONGEST_NAME : True ∧ _ := ⟨trivial, hG⟩
    refine ⟨_, (pss_cons (ps_if (PW.pt (pw_or (pt_not (pt_val (pe_callB call_isi (by rfl) T.b_isinstance (by decide +kernel) (pa_cons (pv 0) (pa_cons (pe_bltn (v := .ty "str") (by rfl) T.b_str (by decide +kernel) rfl) pa_nil))))) (pw_or1 (pt_not (pt_chain op_le op_le pe_int (pe_callB call_len_str (by rfl) T.b_len PySem.boot_len (pa_cons (pv 0) pa_nil)) (pe_glob (v := .int 8) rfl G_LONGEST_NAME.2 ⟨_, rfl⟩)))))) (pss_one (ps_ret pe_bl)) pss_nil)
      (pss_one (ps_ret (pe_callB (cr_all rfl) (by rfl) T.b_all (by decide +kernel) (pa_cons (pe_lc (own := [("sign", 1)]) (g := gName 1) (tt := tYes) rfl scisname.nd (pi_str (pv 0)) (blkOk_by (own := [("sign", 1)]) (N := Nisname) (sc := defScope s_is_name) (by decide +kernel)) (fun _ _ _ _ _ => (pg_name (i := 1) scisname.nd rfl (Or.inl rfl))) (fun _ _ _ _ _ => pts_nil) (fun _ _ _ _ _ => (pe_chain op_le_str op_le_str pe_str (pv 1) pe_str))) pa_nil))))), ?_⟩
    refine ⟨_, rfl, _, _, _, _, _, rfl, .ty "str", ht, kit_ty h1, _, rfl, ?_⟩
    cases b with
    | false =>
      refine iteT ?_
      exact q2 rfl
    | true =>
      refine iteF ?_
      obtain ⟨x, rfl, hx, q⟩ := q1 rfl
      have e1 : ((x.length : Nat) : Int) = (x.cps.toList.length : Int) := by rw [len_cps]
      refine ⟨_, rfl, _, rfl, fits hx, _, _, rfl, rfl, _, rfl, ?_⟩
      have hret : (decide (1 ≤ x.cps.toList.length) && decide (x.cps.toList.length ≤ 8)) = false → Q (.bl false) H := fun hf => by
        have := q H (Same.refl H)
        unfold nameB at this
        rw [hf, Bool.false_and] at this
        exact this
      by_cases c1 : (1 : Int) ≤ x.length
      · rw [decide_eq_true c1]
        refine iteT ?_
        refine ⟨_, _, rfl, rfl, _, rfl, ?_⟩
        by_cases c2 : (x.length : Int) ≤ 8
        · rw [decide_eq_true c2]
          refine iteF ?_
          refine ⟨_, rfl, _, rfl, fun D hD => lc_it (σ := [some (.str x), none]) (vs := [1]) walk_str (fun i H2 => Same H H2 ∧ H2 D = some (.lst (((x.cps.toList.take i).map fun c => decide (97 ≤ c) && decide (c ≤ 122)).map V.bl)))
            ⟨Same.new hD, upd_same⟩ (fun _ _ _ _ => True.intro) ?_ ?_⟩
          · rintro i v H2 H3 hi ⟨s2, h2⟩ ⟨rfl, c, ec, rfl⟩
            have ec' : x.cps.toList[i]? = some c := by rw [Array.getElem?_toList]; exact ec
            refine ⟨rfl, ?_⟩
            refine iteT (B := False) ?_
            have fin : ∀ b : Bool, b = (decide (97 ≤ c) && decide (c ≤ 122)) → ∃ acc, H3 D = some (.lst acc) ∧ acc.length < sizeLine ∧ Same H (upd H3 D (.lst (acc ++ [V.bl b]))) ∧ (upd H3 D (.lst (acc ++ [V.bl b]))) D = some (.lst (((x.cps.toList.take (i + 1)).map fun c => decide (97 ≤ c) && decide (c ≤ 122)).map V.bl)) := fun b hb => by
              refine ⟨_, h2, fitsL (by rw [List.length_map, List.length_map, List.length_take]; omega), fun b' o e => by rw [upd_ne (ne_of_none e hD)]; exact s2 _ _ e, ?_⟩
              rw [upd_same, take_more ec', List.map_append, List.map_append, hb]
              rfl
            refine ⟨_, rfl, _, _, rfl, rfl, _, rfl, ?_⟩
            rw [a_cps, one_cps, one_lt]
            by_cases c3 : c < 97
            · rw [decide_eq_true c3]
              refine iteF ?_
              refine fin false ?_
              rw [decide_eq_false (by omega : ¬ 97 ≤ c), Bool.false_and]
            · rw [decide_eq_false c3]
              refine iteT ?_
              refine ⟨_, _, rfl, rfl, ?_⟩
              rw [z_cps, one_cps, one_lt]
              refine fin _ ?_
              rw [decide_eq_true (by omega : 97 ≤ c), Bool.true_and]
              by_cases c4 : 122 < c
              · rw [decide_eq_true c4, decide_eq_false (by omega : ¬ c ≤ 122)]
                rfl
              · rw [decide_eq_false c4, decide_eq_true (by omega : c ≤ 122)]
                rfl
          · rintro H2 ⟨s2, h2⟩
            rw [List.take_of_length_le (by rw [Array.length_toList]; exact Nat.le_refl _)] at h2
            refine ⟨D, _, rfl, SqL.of h2, ?_⟩
            have := q H2 s2
            unfold nameB at this
            rw [decide_eq_true (by omega : 1 ≤ x.cps.toList.length), decide_eq_true (by omega : x.cps.toList.length ≤ 8), Bool.and_self, Bool.true_and] at this
            rw [List.all_map]
            exact this
        · rw [decide_eq_false c2]
          refine iteT ?_
          exact hret (by rw [decide_eq_false (by omega : ¬ x.cps.toList.length ≤ 8), Bool.and_false])
      · rw [decide_eq_false c1]
        refine iteF ?_
        exact ⟨_, rfl, iteT (hret (by rw [decide_eq_false (by omega : ¬ 1 ≤ x.cps.toList.length), Bool.false_and]))⟩
abbrev Nisamong : List Str := ["value", "names"]
theorem scisamong : FnScope Nisamong ["value", "names"] (defScope s_is_among) := ⟨rfl, rfl, rfl, by decide +kernel, rfl, by decide +kernel, by decide +kernel⟩
theorem c_among (T : Blt mg) (F : Has K mg "is_among" s_is_among) : C8.Cal P w K mg base 1 "is_among" (spAmong K) [] := by
  refine calF F (fun f fd F => F.binds (ps := ["value", "names"]) fun _ _ _ _ _ _ us hl => match us, hl with | [_, _], _ => rfl) scisamong (fun vs H Q E h => ?_) (fun f cdv A outer s H vs Q E hr h => ?_)
  · obtain ⟨x, a, t, b, rfl, _⟩ := h
    rfl
  · obtain ⟨x, a, t, b, rfl, ht, h1, q2, q1⟩ := h
    have hu := hu_of hr
    refine ⟨_, (pss_one (ps_ret (pe_and (pe_callB call_isi (by rfl) T.b_isinstance (by decide +kernel) (pa_cons (pv 0) (pa_cons (pe_bltn (v := .ty "str") (by rfl) T.b_str (by decide +kernel) rfl) pa_nil))) (pe_one (pe_cmpR (Own.op_inAny hu) (pv 0) (pv 1) (by rfl)))))), ?_⟩
    refine ⟨_, rfl, _, _, _, _, _, rfl, .ty "str", ht, kit_ty h1, _, rfl, ?_⟩
    cases b with
    | false =>
      refine iteF ?_
      exact q2 rfl
    | true =>
      refine iteT ?_
      obtain ⟨s, rfl, q⟩ := q1 rfl
      refine ⟨_, rfl, _, rfl, ?_⟩
      rcases q with ⟨ns, hs, q⟩ | ⟨kvs, hd, q⟩
      · refine .inl ⟨a, _, rfl, hs, rfl, flat_strs ns, ?_⟩
        show Q (.bl (inV (.str s) (ns.map V.str))) H
        rw [inV_strs]
        exact q
      · exact .inr ⟨a, _, rfl, .inl ⟨kvs, Sum.inr s, hd, rfl, rfl⟩, q⟩
abbrev Nhasjust : List Str := ["value", "keys", "key"]
theorem schasjust : FnScope Nhasjust ["value", "keys"] (defScope s_has_just) := ⟨rfl, rfl, rfl, by decide +kernel, rfl, by decide +kernel, by decide +kernel⟩
theorem c_justG (T : Blt mg) (F : Has K mg "has_just" s_has_just) : C8.Cal P w K mg base 1 "has_just" (spJustG K) [] := by
  refine calF F (fun f fd F => F.binds (ps := ["value", "keys"]) fun _ _ _ _ _ _ us hl => match us, hl with | [_, _], _ => rfl) schasjust (fun vs H Q E h => ?_) (fun f cdv A outer s H vs Q E hr h => ?_)
  · obtain ⟨x, k, ns, t, b, rfl, _⟩ := h
    rfl
  · obtain ⟨x, k, ns, t, b, rfl, ht, hb, hk, hl2, q0, q1⟩ := h
    have hu := hu_of hr
    refine ⟨_, (pss_one (ps_ret (pe_and (pe_callB call_isi (by rfl) T.b_isinstance (by decide +kernel) (pa_cons (pv 0) (pa_cons (pe_bltn (v := .ty "dict") (by rfl) T.b_dict (by decide +kernel) rfl) pa_nil))) (pe_and (pe_cmpR op_eq (pe_callB call_lenD (by rfl) T.b_len PySem.boot_len (pa_cons (pv 0) pa_nil)) (pe_callB call_len (by rfl) T.b_len PySem.boot_len (pa_cons (pv 1) pa_nil)) (nomark _)) (pe_one (pe_callB (cr_all rfl) (by rfl) T.b_all (by decide +kernel) (pa_cons (pe_lc (own := [("key", 2)]) (g := gName 2) (tt := tYes) rfl schasjust.nd (Own.pi_lt (pv 1)) (blkOk_by (own := [("key", 2)]) (N := Nhasjust) (sc := defScope s_has_just) (by decide +kernel)) (fun _ _ _ _ _ => (pg_name (i := 2) schasjust.nd rfl (Or.inl rfl))) (fun _ _ _ _ _ => pts_nil) (fun _ _ _ _ _ => (pe_cmp (pc_din hu (pv 2) (pv 0)) rfl))) pa_nil))))))), ?_⟩
    refine ⟨_, rfl, _, _, _, _, _, rfl, .ty "dict", ht, kit_ty hb, _, rfl, ?_⟩
    cases b with
    | false =>
      refine iteF ?_
      exact q0 rfl
    | true =>
      obtain ⟨d, kvs, rfl, hd, q⟩ := q1 rfl
      refine iteT ?_
      have hlen : LenV K (.ref k) H ns.length := by
        rcases hk with hk | hk
        · exact .inl ⟨_, hk, by rw [List.length_map]⟩
        · exact .inr ⟨_, hk, by rw [List.length_map]⟩
      refine ⟨_, rfl, d, kvs, rfl, hd, _, rfl, _, _, rfl, hlen, rfl, ?_⟩
      have e : decide (V.int (kvs.length : Int) = V.int (ns.length : Int)) = decide (kvs.length = ns.length) := by
        by_cases h : kvs.length = ns.length
        · rw [decide_eq_true h, h, decide_eq_true rfl]
        · rw [decide_eq_false h, decide_eq_false fun z => h (by have := V.int.inj z; omega)]
      rw [e]
      by_cases hl : kvs.length = ns.length
      · rw [decide_eq_true hl]
        refine ⟨_, rfl, iteT ?_⟩
        have turn : ∀ D, H D = none → ∀ i v H2, i < ns.length → (Same H H2 ∧ H2 D = some (.lst (((ns.take i).map fun x => (valV kvs (Sum.inr x : Key)).isSome).map V.bl))) → (ns.map V.str)[i]? = some v →
            ∃ acc, H2 D = some (.lst acc) ∧ acc.length < sizeLine ∧ ∃ o, DGet H2 d v o ∧ (Same H (upd H2 D (.lst (acc ++ [V.bl o.isSome]))) ∧ (upd H2 D (.lst (acc ++ [V.bl o.isSome]))) D = some (.lst (((ns.take (i + 1)).map fun x => (valV kvs (Sum.inr x : Key)).isSome).map V.bl))) := fun D hD i v H2 hi ⟨s2, h2⟩ hv => by
          rw [List.getElem?_map] at hv
          obtain ⟨x, hx, rfl⟩ := Option.map_eq_some_iff.mp hv
          refine ⟨_, h2, fitsL (by rw [List.length_map, List.length_map, List.length_take]; omega), _, DGet.k (k := Sum.inr x) (s2 _ _ hd), fun b' o e => by rw [upd_ne (ne_of_none e hD)]; exact s2 _ _ e, ?_⟩
          rw [upd_same, take_more hx, List.map_append, List.map_append]
          rfl
        have fin : ∀ D H2, Same H H2 → H2 D = some (.lst (((ns.take ns.length).map fun x => (valV kvs (Sum.inr x : Key)).isSome).map V.bl)) → ∃ (a : Addr) (xs : List Bool), ([V.ref D] : List V) = [.ref a] ∧ SqL K H2 a (xs.map V.bl) ∧ Q (.bl (xs.all id)) H2 := fun D H2 s2 h2 => by
          rw [List.take_of_length_le (Nat.le_refl _)] at h2
          refine ⟨D, _, rfl, SqL.of h2, ?_⟩
          have := q H2 s2
          rw [decide_eq_true hl, Bool.true_and] at this
          rw [List.all_map]
          exact this
        rcases hk with hk | hk
        · refine .inl ⟨_, rfl, k, rfl, ⟨_, hk⟩, fun D hD => lc_list (K := K) (a := k) (xs := ns.map V.str) (σ := [some (.ref d), some (.ref k), none]) (vs := [2]) (fun i H2 => Same H H2 ∧ H2 D = some (.lst (((ns.take i).map fun x => (valV kvs (Sum.inr x : Key)).isSome).map V.bl)))
            ⟨Same.new hD, upd_same⟩ (fun i H2 _ p => p.1.seq hk) ?_ ?_⟩
          · rintro i v H2 hi p2
            have hin : i < ns.length := by have := (List.getElem?_eq_some_iff.mp hi).1; rw [List.length_map] at this; exact this
            obtain ⟨acc, h1, h2, o, h3, h4⟩ := turn D hD i v H2 hin p2 hi
            refine ⟨rfl, ?_⟩
            refine iteT (B := False) ?_
            exact ⟨_, rfl, _, rfl, d, o, rfl, h3, acc, h1, h2, h4⟩
          · rintro H2 ⟨s2, h2⟩
            rw [List.length_map] at h2
            exact fin D H2 s2 h2
        · refine .inr ⟨_, rfl, k, rfl, ⟨_, hk⟩, fun D hD => lc_tup (K := K) (a := k) (xs := ns.map V.str) (σ := [some (.ref d), some (.ref k), none]) (vs := [2]) (fun i H2 => Same H H2 ∧ H2 D = some (.lst (((ns.take i).map fun x => (valV kvs (Sum.inr x : Key)).isSome).map V.bl)))
            ⟨Same.new hD, upd_same⟩ (fun i H2 _ p => Same.seqT p.1 hk) ?_ ?_⟩
          · rintro i v H2 hi p2
            have hin : i < ns.length := by have := (List.getElem?_eq_some_iff.mp hi).1; rw [List.length_map] at this; exact this
            obtain ⟨acc, h1, h2, o, h3, h4⟩ := turn D hD i v H2 hin p2 hi
            refine ⟨rfl, ?_⟩
            refine iteT (B := False) ?_
            exact ⟨_, rfl, _, rfl, d, o, rfl, h3, acc, h1, h2, h4⟩
          · rintro H2 ⟨s2, h2⟩
            rw [List.length_map] at h2
            exact fin D H2 s2 h2
      · rw [decide_eq_false hl]
        have := q H (Same.refl H)
        rw [decide_eq_false hl, Bool.false_and] at this
        exact ⟨_, rfl, iteF this⟩
theorem c_just (T : Blt mg) (F : Has K mg "has_just" s_has_just) : C8.Cal P w K mg base 1 "has_just" (spJust K) [] :=
  Own.cal_of (c_justG T F) fun vs H Q E h => by
    obtain ⟨d, k, kvs, ns, rfl, hd, hk, hl, hl2, hall, q⟩ := h
    refine ⟨.ref d, k, ns, "dict", true, rfl, .base (.dK hd), by decide +kernel, .inr hk, hl2, fun z => (by cases z), fun _ => ⟨d, kvs, rfl, hd, fun H' s => ?_⟩⟩
    rw [decide_eq_true hl, Bool.true_and, List.all_eq_true.mpr hall]
    exact q H' s
abbrev Ninorder : List Str := ["a", "b"]
theorem scinorder : FnScope Ninorder ["a", "b"] (defScope s_in_order) := ⟨rfl, rfl, rfl, by decide +kernel, rfl, by decide +kernel, by decide +kernel⟩
theorem c_order (T : Blt mg) (F : Has K mg "in_order" s_in_order) : C8.Cal P w K mg base 1 "in_order" spOrder [] := by
  refine calF F (fun f fd F => F.binds (ps := ["a", "b"]) fun _ _ _ _ _ _ us hl => match us, hl with | [_, _], _ => rfl) scinorder (fun vs H Q E h => ?_) (fun f cdv A outer s H vs Q E hr h => ?_)
  · obtain ⟨a, b, rfl, _⟩ := h
    rfl
  · obtain ⟨a, b, rfl, q⟩ := h
    refine ⟨_, (pss_one (ps_ret (pe_ifExp (pt_cmpR op_le_str (pv 0) (pv 1) (nomark _)) (pe_tup (pa_cons (pv 0) (pa_cons (pv 1) pa_nil))) (pe_tup (pa_cons (pv 1) (pa_cons (pv 0) pa_nil)))))), ?_⟩
    refine ⟨_, rfl, _, rfl, _, _, rfl, rfl, _, rfl, ?_⟩
    unfold ordP Own.ltS at q
    by_cases c : b.cps.toList < a.cps.toList
    · rw [decide_eq_true c]
      refine iteF ?_
      refine ⟨_, rfl, _, rfl, (show 2 ≤ sizeLine from fits (by decide)), fun p hp => ?_⟩
      have := q p hp
      rw [if_pos (decide_eq_true c)] at this
      exact this
    · rw [decide_eq_false c]
      refine iteT ?_
      refine ⟨_, rfl, _, rfl, (show 2 ≤ sizeLine from fits (by decide)), fun p hp => ?_⟩
      have := q p hp
      rw [if_neg (by rw [decide_eq_false c]; decide)] at this
      exact this
end
end KK
end

section
set_option maxRecDepth 100000
set_option maxHeartbeats 4000000
namespace KK
open PySem PySem.Spec PyProof.Rows L2
def seenK (ns : List Str) : List (Key × V) := ns.map fun x => ((Sum.inr x : Key), V.bl true)
theorem valV_map {α κ : Type} [DecidableEq κ] {f : α → V} {g : α → κ} : ∀ {l : List α} {k : κ}, (∀ x ∈ l, g x ≠ k) → valV (l.map fun x => (g x, f x)) k = none
  | [], k, _ => rfl
  | a :: l, k, h => by
    have ih := valV_map (f := f) (g := g) (l := l) (k := k) fun x hx => h x (List.mem_cons_of_mem _ hx)
    unfold valV at ih ⊢
    rw [List.map_cons, List.find?_cons_of_neg (by
      show ¬ decide (g a = k) = true
      rw [decide_eq_true_eq]
      exact h a List.mem_cons_self)]
    exact ih
theorem paired_get {α β : Type} {R : α → β → Prop} : ∀ {xs : List α} {ys : List β} {i : Nat} {x : α}, Paired R xs ys → xs[i]? = some x → ∃ y, ys[i]? = some y ∧ R x y
  | _, _, 0, x, .cons r _, h => ⟨_, rfl, by have e := Option.some.inj h; rw [← e]; exact r⟩
  | _, _, i + 1, x, .cons _ t, h => paired_get (i := i) t h
  | _, _, i, x, .nil, h => by simp at h
theorem not_taken' {α : Type} {l : List α} {i : Nat} {x : α} (hn : l.Nodup) (h : l[i]? = some x) : x ∉ l.take i := fun hm => by
  obtain ⟨j, hj⟩ := List.getElem?_of_mem hm
  have hlt : j < i := by
    obtain ⟨h1, _⟩ := List.getElem?_eq_some_iff.mp hj
    rw [List.length_take] at h1
    omega
  rw [List.getElem?_take_of_lt hlt] at hj
  have := nd_ix hn h hj
  omega
theorem seenK_none {ns : List Str} {x : Str} (h : x ∉ ns) : valV (seenK ns) (Sum.inr x : Key) = none := valV_map fun y hy e => h (by have := Sum.inr.inj e; rw [← this]; exact hy)
theorem seenK_put {ns : List Str} {x : Str} (h : x ∉ ns) : putK (seenK ns) (Sum.inr x : Key) (V.bl true) = seenK (ns ++ [x]) := by
  rw [putK_new _ (seenK_none h)]
  unfold seenK
  rw [List.map_append]
  rfl
def spNamesF (K : PySem.W.Frag) : Sp := fun vs H Q _ => ∃ (a : Addr) (ns : List Str), vs = [.ref a] ∧ H a = some (.tup (ns.map V.str)) ∧ NsOk ns ∧ ∀ H', Same H H' → Q .non H'
def spPriceF (K : PySem.W.Frag) : Sp := fun vs H Q _ => ∃ (d a : Addr) (ns : List Str) (ps : List Int), vs = [.ref d, .ref a, .int 1] ∧ H d = some (.dK (prK ns ps)) ∧ H a = some (.tup (ns.map V.str)) ∧ NsOk ns ∧ PrOk ps ∧ ps.length = ns.length ∧ ∀ H', Same H H' → Q .non H'
def spIsTie (K : PySem.W.Frag) : Sp := fun vs H Q _ => ∃ (t a : Addr) (ns : List Str) (p : Str × Str), vs = [.ref t, .ref a] ∧ H t = some (.tup [.str p.1, .str p.2]) ∧ H a = some (.tup (ns.map V.str)) ∧ TieOk ns p ∧ (∀ x ∈ ns, x.length ≤ 8) ∧ ∀ H', Same H H' → Q (.bl true) H'
def spTieF (K : PySem.W.Frag) : Sp := fun vs H Q _ => ∃ (l a : Addr) (ns : List Str) (xs : List V) (ts : List (Str × Str)), vs = [.ref l, .ref a] ∧ H l = some (.lst xs) ∧ Ties H xs ts ∧ H a = some (.tup (ns.map V.str)) ∧ NsOk ns ∧ TsOk ns ts ∧ ∀ H', Same H H' → Q .non H'
theorem prK_some {ns : List Str} {ps : List Int} (hn : ns.Nodup) (hl : ps.length = ns.length) {i : Nat} {x : Str} (h : ns[i]? = some x) : ∃ p, ps[i]? = some p ∧ valV (prK ns ps) (Sum.inr x : Key) = some (.int p) := by
  induction ns generalizing ps i with
  | nil => simp at h
  | cons n ns ih =>
    cases ps with
    | nil => simp at hl
    | cons p ps =>
      have hn' := List.nodup_cons.mp hn
      cases i with
      | zero =>
        have e : n = x := Option.some.inj h
        subst e
        refine ⟨p, rfl, ?_⟩
        unfold valV prK
        rw [List.zip_cons_cons, List.map_cons, List.find?_cons_of_pos (by exact decide_eq_true rfl)]
        rfl
      | succ i =>
        have h' : ns[i]? = some x := h
        obtain ⟨q, h1, h2⟩ := ih (ps := ps) (i := i) hn'.2 (by simpa using hl) h'
        refine ⟨q, h1, ?_⟩
        unfold valV prK at h2 ⊢
        rw [List.zip_cons_cons, List.map_cons, List.find?_cons_of_neg]
        · exact h2
        · show ¬ decide ((Sum.inr n : Key) = Sum.inr x) = true
          rw [decide_eq_true_eq]
          intro e
          have := Sum.inr.inj e
          subst this
          exact hn'.1 (List.mem_of_getElem? h')
section
variable {P : Program} {w : World} {K : PySem.W.Frag} {mg : Str → Option Value} {base : Heap}
abbrev Nnamesfault : List Str := ["names", "seen", "index", "name"]
theorem scnamesfault : FnScope Nnamesfault ["names"] (defScope s_names_fault) := ⟨rfl, rfl, rfl, by decide +kernel, rfl, by decide +kernel, by decide +kernel⟩
theorem c_namesf (T : Blt mg) (G_MOST_PLACES : ∃ t, mg "MOST_PLACES" = some (.int 40 t)) (F : Has K mg "names_fault" s_names_fault) (CISNAME : C8.Cal P w K mg base 1 "is_name" (spIsName K) []) : C8.Cal P w K mg base 2 "names_fault" (spNamesF K) [] := by
  refine calF F (fun f fd F => F.binds (ps := ["names"]) fun _ _ _ _ _ _ us hl => match us, hl with | [_], _ => rfl) scnamesfault (fun vs H Q E h => ?_) (fun f cdv A outer s H vs Q E hr h => ?_)
  · obtain ⟨a, ns, rfl, _⟩ := h
    rfl
  · obtain ⟨a, ns, rfl, ha, no, q⟩ := h
    have hu := hu_of hr
    obtain ⟨tk, hG⟩ := G_MOST_PLACES
    have G_MOST_PLACES : True ∧ _ := ⟨trivial, hG⟩
    have n1 := no.lo
    have n2 := no.hi
    refine ⟨_, (pss_cons (ps_if (PW.pt (pw_or (pt_not (pt_val (pe_callB call_isi (by rfl) T.b_isinstance (by decide +kernel) (pa_cons (pv 0) (pa_cons (pe_bltn (v := .ty "tuple") (by rfl) T.b_tuple (by decide +kernel) rfl) pa_nil))))) (pw_or1 (pt_not (pt_chain op_le op_le pe_int (pe_callB call_len (by rfl) T.b_len PySem.boot_len (pa_cons (pv 0) pa_nil)) (pe_glob (v := .int 40) rfl G_MOST_PLACES.2 ⟨_, rfl⟩)))))) (pss_one (ps_ret (pe_un un_neg pe_int))) pss_nil)
      (pss_cons (ps_set (i := 1) scnamesfault.nd rfl (Or.inl rfl) pe_dnewK)
      (pss_cons (ps_for PassesOwn.never rfl (Own.pi_enumT (by rfl) T.b_enumerate (pa_cons (pv 0) pa_nil)) (pg_tup rfl (pgs_cons (pg_name (i := 2) scnamesfault.nd rfl (Or.inl rfl)) (pgs_cons (pg_name (i := 3) scnamesfault.nd rfl (Or.inl rfl)) pgs_nil)))
        (pss_cons (ps_if (PW.pt (pw_or (pt_not (pt_val (C8.pe_c CISNAME hr (by decide) rfl (pa_cons (pv 3) pa_nil)))) (pw_or1 (pt_cmp (pc_din hu (pv 3) (pv 1)))))) (pss_one (ps_ret (pv 2))) pss_nil)
      (pss_one (ps_dput hu (pv 1) (pv 3) pe_bl rfl))))
      (pss_one (ps_ret pe_non))))), ?_⟩
    refine ⟨_, rfl, _, _, _, _, _, rfl, .ty "tuple", .base (.tup ha), kit_ty (b := "tuple") (r := true) (by decide +kernel), _, rfl, iteF ?_⟩
    refine ⟨_, rfl, _, _, rfl, .inr ⟨_, SqT.of ha, rfl⟩, _, _, rfl, rfl, _, rfl, ?_⟩
    rw [List.length_map, decide_eq_true (by omega : (1 : Int) ≤ ns.length)]
    refine iteT ?_
    refine ⟨_, _, rfl, rfl, _, rfl, ?_⟩
    rw [decide_eq_true (by omega : (ns.length : Int) ≤ 40)]
    refine iteF ?_
    intro d hd
    have nad : a ≠ d := ne_of_none ha hd
    refine ⟨_, rfl, a, _, rfl, SqT.of (by rw [upd_ne nad]; exact ha), for_it Own.walk_enumT (fun i σ H2 => ∃ (v2 v3 : Option V), σ = [some (.ref a), some (.ref d), v2, v3] ∧ Same H H2 ∧ H2 d = some (.dK (seenK (ns.take i))))
      ⟨_, _, rfl, Same.new hd, upd_same⟩ (fun i σ H2 _ ⟨_, _, _, s2, _⟩ => Same.seqT s2 (SqT.of ha)) ?_ ?_⟩
    · rintro i v σ H2 H3 hi ⟨v2, v3, rfl, s2, h2⟩ ⟨p, x, y, rfl, hp, rfl, hx, hy⟩
      cases hx
      replace hy : (ns.map V.str)[i]? = some y := hy
      rw [List.getElem?_map] at hy
      obtain ⟨y, hyy, rfl⟩ := Option.map_eq_some_iff.mp hy
      clear hy
      have hy := hyy
      have npd : d ≠ p := ne_of_none h2 hp
      refine ⟨p, _, rfl, SqT.of upd_same, rfl, _, _, rfl, _, _, rfl, rfl, ?_⟩
      refine ⟨_, rfl, _, "str", true, rfl, .base (.str y), by decide +kernel, fun _ => ⟨y, rfl, ?_, fun H4 s4 => ?_⟩, fun z => by cases z⟩
      · have := (no.ok y (List.mem_of_getElem? hy)).hi
        rw [len_cps]
        omega
      · have s5 : Same H H4 := (s2.trans (Same.new hp)).trans s4
        have e1 := (Same.new (o := .tup [.int (i : Nat), .str y]) hp |>.trans s4) _ _ h2
        have hny := not_taken no.nd hy
        rw [nameB_ok (no.ok y (List.mem_of_getElem? hy))]
        refine ⟨_, rfl, iteF ?_⟩
        refine ⟨_, rfl, _, rfl, d, _, rfl, DGet.k (k := Sum.inr y) e1, ?_⟩
        rw [seenK_none hny]
        refine ⟨_, rfl, iteF ?_⟩
        refine ⟨_, rfl, _, rfl, d, _, rfl, DPut.k (k := Sum.inr y) e1 (fitsL (by unfold seenK; rw [List.length_map, List.length_take]; omega)), ?_⟩
        refine ⟨_, _, rfl, fun b o e => by rw [upd_ne (ne_of_none e hd)]; exact s5 _ _ e, ?_⟩
        rw [upd_same, take_more hy, seenK_put hny]
    · rintro σ H2 ⟨v2, v3, rfl, s2, h2⟩
      exact q H2 s2
abbrev Npricefault : List Str := ["prices", "names", "least", "name"]
theorem scpricefault : FnScope Npricefault ["prices", "names", "least"] (defScope s_price_fault) := ⟨rfl, rfl, rfl, by decide +kernel, rfl, by decide +kernel, by decide +kernel⟩
theorem c_pricef (T : Blt mg) (G_GREATEST_PRICE : ∃ t, mg "GREATEST_PRICE" = some (.int (10 ^ 30) t)) (F : Has K mg "price_fault" s_price_fault) (CHASJUST : C8.Cal P w K mg base 1 "has_just" (spJust K) []) (CISBET : C8.Cal P w K mg base 2 "is_between" (spBetween K) []) : C8.Cal P w K mg base 3 "price_fault" (spPriceF K) [] := by
  refine calF F (fun f fd F => F.binds (ps := ["prices", "names", "least"]) fun _ _ _ _ _ _ us hl => match us, hl with | [_, _, _], _ => rfl) scpricefault (fun vs H Q E h => ?_) (fun f cdv A outer s H vs Q E hr h => ?_)
  · obtain ⟨d, a, ns, ps, rfl, _⟩ := h
    rfl
  · obtain ⟨d, a, ns, ps, rfl, hd, ha, no, po, hl, q⟩ := h
    have hu := hu_of hr
    obtain ⟨tk, hG⟩ := G_GREATEST_PRICE
    have G_GREATEST_PRICE : True ∧ _ := ⟨trivial, hG⟩
    have n2 := no.hi
    refine ⟨_, (pss_cons (ps_if (pt_not (pt_val (C8.pe_c CHASJUST hr (by decide) rfl (pa_cons (pv 0) (pa_cons (pv 1) pa_nil))))) (pss_one (ps_ret pe_str)) pss_nil)
      (pss_cons (ps_for PassesOwn.never rfl (pi_list (pe_callB Own.cr_sortS (by rfl) T.b_sorted (by decide +kernel) (pa_cons (pv 1) pa_nil))) (pg_name (i := 3) scpricefault.nd rfl (Or.inl rfl))
        (pss_one (ps_if (pt_not (pt_val (C8.pe_c CISBET hr (by decide) rfl (pa_cons (pe_dget hu (pv 0) (pv 3) (fun _ _ => rfl)) (pa_cons (pv 2) (pa_cons (pe_glob (v := .int (10 ^ 30)) rfl G_GREATEST_PRICE.2 ⟨_, rfl⟩) pa_nil)))))) (pss_one (ps_ret (pv 3))) pss_nil)))
      (pss_one (ps_ret pe_non)))), ?_⟩
    have hall : ∀ x ∈ ns, ∃ p, p ∈ ps ∧ valV (prK ns ps) (Sum.inr x : Key) = some (.int p) := fun x hx => by
      obtain ⟨i, hi⟩ := List.getElem?_of_mem hx
      obtain ⟨p, h1, h2⟩ := prK_some no.nd hl hi
      exact ⟨p, List.mem_of_getElem? h1, h2⟩
    refine ⟨_, rfl, _, rfl, d, a, _, ns, rfl, hd, SqT.of ha, prK_len _ _ hl, by omega, fun x hx => ?_, fun H1 s1 => ?_⟩
    · obtain ⟨p, _, h2⟩ := hall x hx
      rw [h2]
      rfl
    · refine ⟨_, rfl, iteF ?_⟩
      refine ⟨_, rfl, a, ns, rfl, .inr (Same.seqT s1 (SqT.of ha)), fun ys p hp _ hfr => ?_⟩
      have npd : d ≠ p := ne_of_none (s1 _ _ hd) hfr
      refine ⟨p, rfl, ⟨_, SqL.of upd_same⟩, for_list (K := K) (a := p) (xs := ys.map V.str) (fun i σ H2 => ∃ v3, σ = [some (.ref d), some (.ref a), some (.int 1), v3] ∧ Same H H2 ∧ H2 p = some (.lst (ys.map V.str)))
        ⟨_, rfl, s1.trans (Same.new hfr), upd_same⟩ (fun i σ H2 _ ⟨_, _, _, h⟩ => SqL.of h) ?_ ?_⟩
      · rintro i v σ H2 hi ⟨v3, rfl, s2, h2⟩
        rw [List.getElem?_map] at hi
        obtain ⟨x, hx, rfl⟩ := Option.map_eq_some_iff.mp hi
        obtain ⟨r, hr1, hr2⟩ := hall x (hp.mem_iff.mp (List.mem_of_getElem? hx))
        have p1 := po r hr1
        have hg : DGet H2 d (.str x) (some (.int r)) := by rw [← hr2]; exact DGet.k (k := Sum.inr x) (s2 _ _ hd)
        refine ⟨_, rfl, _, rfl, d, _, rfl, hg, _, rfl, .int r, 1, 10 ^ 30, "int", true, false, rfl, .base (.int r), by decide +kernel, by decide +kernel, fun _ => ⟨r, rfl, ?_⟩, fun z => by cases z⟩
        rw [decide_eq_true (show 1 ≤ r ∧ r ≤ 10 ^ 30 from p1)]
        refine ⟨_, rfl, iteF ?_⟩
        exact ⟨_, rfl, s2, h2⟩
      · rintro σ H2 ⟨v3, rfl, s2, h2⟩
        exact q H2 s2
abbrev Nistie : List Str := ["value", "places", "a", "b"]
theorem scistie : FnScope Nistie ["value", "places"] (defScope s_is_tie) := ⟨rfl, rfl, rfl, by decide +kernel, rfl, by decide +kernel, by decide +kernel⟩
theorem c_istie (T : Blt mg) (F : Has K mg "_is_tie" s_is_tie) (CAMONG : C8.Cal P w K mg base 1 "is_among" (spAmong K) []) : C8.Cal P w K mg base 2 "_is_tie" (spIsTie K) [] := by
  refine calF F (fun f fd F => F.binds (ps := ["value", "places"]) fun _ _ _ _ _ _ us hl => match us, hl with | [_, _], _ => rfl) scistie (fun vs H Q E h => ?_) (fun f cdv A outer s H vs Q E hr h => ?_)
  · obtain ⟨t, a, ns, p, rfl, _⟩ := h
    rfl
  · obtain ⟨t, a, ns, p, rfl, ht, ha, to, hx, q⟩ := h
    have hu := hu_of hr
    refine ⟨_, (pss_cons (ps_if (PW.pt (pw_or (pt_not (pt_val (pe_callB call_isi (by rfl) T.b_isinstance (by decide +kernel) (pa_cons (pv 0) (pa_cons (pe_bltn (v := .ty "tuple") (by rfl) T.b_tuple (by decide +kernel) rfl) pa_nil))))) (pw_or1 (pt_cmpR op_ne (pe_callB call_len (by rfl) T.b_len PySem.boot_len (pa_cons (pv 0) pa_nil)) pe_int (nomark _))))) (pss_one (ps_ret pe_bl)) pss_nil)
      (pss_cons (ps_asg (pv 0) (pg_tup rfl (pgs_cons (pg_name (i := 2) scistie.nd rfl (Or.inl rfl)) (pgs_cons (pg_name (i := 3) scistie.nd rfl (Or.inl rfl)) pgs_nil))))
      (pss_one (ps_ret (pe_and (C8.pe_c CAMONG hr (by decide) rfl (pa_cons (pv 2) (pa_cons (pv 1) pa_nil))) (pe_and (C8.pe_c CAMONG hr (by decide) rfl (pa_cons (pv 3) (pa_cons (pv 1) pa_nil))) (pe_one (pe_cmpR op_ne (pv 2) (pv 3) (nomark _))))))))), ?_⟩
    refine ⟨_, rfl, _, _, _, _, _, rfl, .ty "tuple", .base (.tup ht), kit_ty (b := "tuple") (r := true) (by decide +kernel), _, rfl, iteF ?_⟩
    refine ⟨_, rfl, _, _, rfl, .inr ⟨_, SqT.of ht, rfl⟩, ?_⟩
    refine ⟨rfl, _, rfl, iteF ?_⟩
    refine ⟨_, rfl, t, _, rfl, SqT.of ht, rfl, _, _, rfl, _, _, rfl, rfl, ?_⟩
    refine ⟨_, rfl, _, rfl, .str p.1, a, "str", true, rfl, .base (.str _), by decide +kernel, fun z => (by cases z), fun _ => ⟨p.1, rfl, .inl ⟨ns, .inr (SqT.of ha), ?_⟩⟩⟩
    rw [decide_eq_true to.a]
    refine ⟨_, rfl, iteT ?_⟩
    refine ⟨_, rfl, _, rfl, .str p.2, a, "str", true, rfl, .base (.str _), by decide +kernel, fun z => (by cases z), fun _ => ⟨p.2, rfl, .inl ⟨ns, .inr (SqT.of ha), ?_⟩⟩⟩
    rw [decide_eq_true to.b]
    refine ⟨_, rfl, iteT ?_⟩
    refine ⟨_, rfl, _, rfl, rfl, ?_⟩
    have e : decide (V.str p.1 = V.str p.2) = false := decide_eq_false fun z => to.ne (V.str.inj z)
    rw [e]
    exact q H (Same.refl H)
def pairKey (p : Str × Str) : List Key := [Sum.inr p.1, Sum.inr p.2]
def seenT (ps : List (Str × Str)) : List (List Key × V) := ps.map fun p => (pairKey p, V.bl true)
theorem pairKey_inj {p q : Str × Str} (h : pairKey p = pairKey q) : p = q := by
  unfold pairKey at h
  injection h with h1 h2
  injection h2 with h3 _
  have e1 := Sum.inr.inj h1
  have e2 := Sum.inr.inj h3
  exact Prod.ext e1 e2
theorem seenT_none {ps : List (Str × Str)} {p : Str × Str} (h : p ∉ ps) : valV (seenT ps) (pairKey p) = none := valV_map fun q hq e => h (by rw [← pairKey_inj e]; exact hq)
theorem seenT_put {ps : List (Str × Str)} {p : Str × Str} (h : p ∉ ps) : putK (seenT ps) (pairKey p) (V.bl true) = seenT (ps ++ [p]) := by
  rw [putK_new _ (seenT_none h)]
  unfold seenT
  rw [List.map_append]
  rfl
abbrev Ntiefault : List Str := ["ties", "places", "seen", "index", "tie", "pair"]
theorem sctiefault : FnScope Ntiefault ["ties", "places"] (defScope s_tie_fault) := ⟨rfl, rfl, rfl, by decide +kernel, rfl, by decide +kernel, by decide +kernel⟩
theorem c_tief (T : Blt mg) (G_MOST_TIES : ∃ t, mg "MOST_TIES" = some (.int 400 t)) (F : Has K mg "_tie_fault" s_tie_fault) (CISTIE : C8.Cal P w K mg base 2 "_is_tie" (spIsTie K) []) (CINORDER : C8.Cal P w K mg base 1 "in_order" spOrder []) : C8.Cal P w K mg base 3 "_tie_fault" (spTieF K) [] := by
  refine calF F (fun f fd F => F.binds (ps := ["ties", "places"]) fun _ _ _ _ _ _ us hl => match us, hl with | [_, _], _ => rfl) sctiefault (fun vs H Q E h => ?_) (fun f cdv A outer s H vs Q E hr h => ?_)
  · obtain ⟨l, a, ns, xs, ts, rfl, _⟩ := h
    rfl
  · obtain ⟨l, a, ns, xs, ts, rfl, hl, ti, ha, no, to, q⟩ := h
    have hu := hu_of hr
    obtain ⟨tk, hG⟩ := G_MOST_TIES
    have G_MOST_TIES : True ∧ _ := ⟨trivial, hG⟩
    have hlen := paired_len ti
    have hti := to.hi
    refine ⟨_, (pss_cons (ps_if (PW.pt (pw_or (pt_not (pt_val (pe_callB call_isi (by rfl) T.b_isinstance (by decide +kernel) (pa_cons (pv 0) (pa_cons (pe_bltn (v := .ty "list") (by rfl) T.b_list (by decide +kernel) rfl) pa_nil))))) (pw_or1 (pt_cmpR op_gt (pe_callB call_len (by rfl) T.b_len PySem.boot_len (pa_cons (pv 0) pa_nil)) (pe_glob (v := .int 400) rfl G_MOST_TIES.2 ⟨_, rfl⟩) (nomark _))))) (pss_one (ps_ret (pe_un un_neg pe_int))) pss_nil)
      (pss_cons (ps_set (i := 2) sctiefault.nd rfl (Or.inl rfl) pe_dnewT)
      (pss_cons (ps_for PassesOwn.never rfl (pi_enum (by rfl) T.b_enumerate (pa_cons (pv 0) pa_nil)) (pg_tup rfl (pgs_cons (pg_name (i := 3) sctiefault.nd rfl (Or.inl rfl)) (pgs_cons (pg_name (i := 4) sctiefault.nd rfl (Or.inl rfl)) pgs_nil)))
        (pss_cons (ps_if (pt_not (pt_val (C8.pe_c CISTIE hr (by decide) rfl (pa_cons (pv 4) (pa_cons (pv 1) pa_nil))))) (pss_one (ps_ret (pv 3))) pss_nil)
      (pss_cons (ps_set (i := 5) sctiefault.nd rfl (Or.inl rfl) (C8.pe_c CINORDER hr (by decide) rfl (pa_cons (pe_ix ix_tup (pv 4) pe_int (fun _ _ => rfl)) (pa_cons (pe_ix ix_tup (pv 4) pe_int (fun _ _ => rfl)) pa_nil))))
      (pss_cons (ps_if (pt_cmp (pc_din hu (pv 5) (pv 2))) (pss_one (ps_ret (pv 3))) pss_nil)
      (pss_one (ps_dput hu (pv 2) (pv 5) pe_bl rfl))))))
      (pss_one (ps_ret pe_non))))), ?_⟩
    refine ⟨_, rfl, _, _, _, _, _, rfl, .ty "list", .base (.lst hl), kit_ty (b := "list") (r := true) (by decide +kernel), _, rfl, iteF ?_⟩
    refine ⟨_, rfl, _, _, rfl, .inl ⟨_, SqL.of hl, rfl⟩, _, _, rfl, rfl, _, rfl, ?_⟩
    rw [decide_eq_false (by omega : ¬ (400 : Int) < xs.length)]
    refine iteF ?_
    intro d hd
    have nld : l ≠ d := ne_of_none hl hd
    refine ⟨_, rfl, l, _, rfl, SqL.of (by rw [upd_ne nld]; exact hl), for_it walk_enum (fun i σ H2 => ∃ (v3 v4 v5 : Option V), σ = [some (.ref l), some (.ref a), some (.ref d), v3, v4, v5] ∧ Same H H2 ∧ H2 d = some (.dT (seenT ((ts.map ordP).take i))))
      ⟨_, _, _, rfl, Same.new hd, upd_same⟩ (fun i σ H2 _ ⟨_, _, _, _, s2, _⟩ => SqL.of (s2 _ _ hl)) ?_ ?_⟩
    · rintro i v σ H2 H3 hi ⟨v3, v4, v5, rfl, s2, h2⟩ ⟨z, x, y, rfl, hz, rfl, hx, hy⟩
      cases hx
      obtain ⟨p, hp, t, rfl, ht⟩ := paired_get ti hy
      have to1 := to.ok p (List.mem_of_getElem? hp)
      have ndz : d ≠ z := ne_of_none h2 hz
      have s3 : Same H (upd H2 z (.tup [.int (i : Nat), .ref t])) := s2.trans (Same.new hz)
      refine ⟨z, _, rfl, SqT.of upd_same, rfl, _, _, rfl, _, _, rfl, rfl, ?_⟩
      refine ⟨_, rfl, _, rfl, t, a, ns, p, rfl, s3 _ _ ht, s3 _ _ ha, to1, fun x hx => by rw [len_cps]; exact (no.ok x hx).hi, fun H4 s4 => ?_⟩
      refine ⟨_, rfl, iteF ?_⟩
      have s5 := s3.trans s4
      have e4 : H4 t = some (.tup [.str p.1, .str p.2]) := s5 _ _ ht
      refine ⟨_, rfl, t, _, 0, _, rfl, rfl, SqT.of e4, rfl, ?_⟩
      refine ⟨_, rfl, t, _, 1, _, rfl, rfl, SqT.of e4, rfl, ?_⟩
      refine ⟨_, _, rfl, fun u hu4 => ?_⟩
      have s6 : Same H4 (upd H4 u (.tup [.str (ordP p).1, .str (ordP p).2])) := Same.new hu4
      have e5 := s6 _ _ (s4 _ _ (Same.new (o := .tup [.int (i : Nat), .ref t]) hz _ _ h2))
      have hop : (ts.map ordP)[i]? = some (ordP p) := by rw [List.getElem?_map, hp] <;> rfl
      have hny := not_taken' to.nd hop
      refine ⟨_, rfl, _, rfl, d, _, rfl, DGet.t (k := pairKey (ordP p)) e5 upd_same, ?_⟩
      rw [seenT_none hny]
      refine ⟨_, rfl, iteF ?_⟩
      refine ⟨_, rfl, _, rfl, d, _, rfl, DPut.t (k := pairKey (ordP p)) e5 upd_same (fitsL (by unfold seenT; rw [List.length_map, List.length_take, List.length_map]; omega)), ?_⟩
      refine ⟨_, _, _, rfl, fun b o e => by rw [upd_ne (ne_of_none e hd)]; exact (s5.trans s6) _ _ e, ?_⟩
      rw [upd_same, take_more hop, seenT_put hny]
    · rintro σ H2 ⟨v3, v4, v5, rfl, s2, h2⟩
      exact q H2 s2
end
end KK
end

section
set_option maxRecDepth 100000
set_option maxHeartbeats 4000000
namespace KK
open PySem PySem.Spec PyProof.Rows L2
/-- a web in the heap -/
structure WebAt (H : Hp) (C o dx dp tl : Addr) (xs : List V) (ms : List Str) (qs : List Int) (us : List (Str × Str)) : Prop where
  ho : H o = some (.ins C dx [("_prices", .ref dp), ("_ties", .ref tl)])
  hp : H dp = some (.dK (prK ms qs))
  ht : H tl = some (.lst xs)
  ti : Ties H xs us
/-- the web tells these parts -/
structure WebOk (ns : List Str) (ps : List Int) (ts : List (Str × Str)) (ms : List Str) (qs : List Int) (us : List (Str × Str)) : Prop where
  pm : ms.Perm ns
  pq : ∀ x ∈ ns, valV (prK ms qs) (Sum.inr x : Key) = valV (prK ns ps) (Sum.inr x : Key)
  ql : qs.length = ms.length
  am : Own.AscS ms
  pu : us.Perm (ts.map ordP)
  au : Own.AscP us
theorem WebAt.same {H H' : Hp} {C o dx dp tl : Addr} {xs : List V} {ms : List Str} {qs : List Int} {us : List (Str × Str)} (h : WebAt H C o dx dp tl xs ms qs us) (s : Same H H') : WebAt H' C o dx dp tl xs ms qs us :=
  ⟨s _ _ h.ho, s _ _ h.hp, s _ _ h.ht, h.ti.same s⟩
/-- what the class has -/
structure WebC (K : PySem.W.Frag) (mg : Str → Option Value) (C : Addr) : Prop where
  cl : Cls K C
  np : NoAttr K C "_prices"
  nt : NoAttr K C "_ties"
  mw : mg "Web" = some (.ref C)
theorem makF {P : Program} {w : World} {K : PySem.W.Frag} {mg : Str → Option Value} {base : Heap} {x qual : Str} {C : Addr} {st : Stmt} {N ps : List Str} {k : Nat} {sp : Sp} (hm : mg x = some (.ref C)) (F : ∃ f fd, Fun K "__init__" qual st f fd ∧ Mk K C f) (b : ∀ f fd, Fun K "__init__" qual st f fd → Binds K fd ps []) (S : FnScope N ps (defScope st)) (len : ∀ vs H Q E, sp vs H Q E → vs.length = ps.length)
    (hbody : ∀ (f : Addr) (cdv : Value) (A : Around) (outer : List Env) (s : Shared) (H : Hp) (vs : List V) (Q : VK) (E : XK), Room k (A.deeper (envOfC qual (defScope st) s.heap.objs.size f cdv)) → sp vs H Q E →
      ∃ t, PSs (cxOf CX0 P w K mg base N qual (defScope st) f cdv A outer s H E).nox (defBody st) t ∧ t { nx := fun _ H' => Q .non H', rt := Q } (start N vs) H) : C8.Mak P w K mg base (k + 1) x C sp [] := by
  obtain ⟨f, fd, F, M⟩ := F
  exact ⟨f, fd, ps, [], M, F.ok S len (hbody f), hm, b f fd F, .nil⟩
def spInit (K : PySem.W.Frag) (C : Addr) : Sp := fun vs H Q _ => ∃ (o dx pl tl d : Addr) (ns : List Str) (ps : List Int) (xs : List V) (ts : List (Str × Str)), vs = [.ref o, .ref pl, .ref tl, .ref d] ∧ H o = some (.ins C dx []) ∧
  H pl = some (.tup (ns.map V.str)) ∧ H tl = some (.lst xs) ∧ H d = some (.dK (prK ns ps)) ∧ Ties H xs ts ∧ ps.length = ns.length ∧ NsOk ns ∧ TsOk ns ts ∧ PrOk ps ∧
  ∀ dp tl' ys ms qs us H', But o H H' → H dp = none → H tl' = none → WebAt H' C o dx dp tl' ys ms qs us → WebOk ns ps ts ms qs us → Q .non H'
/-- a dict comprehension over it -/
theorem dc_it {J : It} {n : Nat} {G : Hp → Prop} {Y : Nat → Hp → V → Hp → Prop} (w : Walk J n G Y) {g : TG} {tt : TT} {tk tv : TE} {vs : List Nat} {σ : L2.St} {H1 : Hp} {D : Addr} {Qd : Hp → Prop} (Pv : Nat → Hp → Prop) (h0 : Pv 0 (upd H1 D (.dK []))) (hG : ∀ i H, i ≤ n → Pv i H → G H)
    (hs : ∀ i x H H', i < n → Pv i H → Y i H x H' → g x (wipe σ vs) H' fun σ2 H2 => wipe σ2 vs = wipe σ vs ∧ tt σ2 H2 fun b H3 =>
      if b = true then tk σ2 H3 fun y H4 => tv σ2 H4 fun z H5 => ∃ kvs k, y = kV k ∧ H5 D = some (.dK kvs) ∧ kvs.length < sizeLine ∧ Pv (i + 1) (upd H5 D (.dK (putK kvs k z))) else Pv (i + 1) H3) (hd : ∀ H, Pv n H → Qd H) :
    ∃ W : Nat → Nat → Hp → Prop, (∃ m, W 0 m (upd H1 D (.dK []))) ∧ ∀ i m H, W i m H →
      (J.stop i H ∧ Qd H) ∨ (J.go i H ∧ ∃ Nx : Hp → Prop, (∀ H', Nx H' → ∃ m', m' < m ∧ W (i + 1) m' H') ∧ ∀ x H', J.yld i H x H' → g x (wipe σ vs) H' fun σ2 H2 => wipe σ2 vs = wipe σ vs ∧ tt σ2 H2 fun b H3 =>
        if b = true then tk σ2 H3 fun y H4 => tv σ2 H4 fun z H5 => ∃ kvs k, y = kV k ∧ H5 D = some (.dK kvs) ∧ kvs.length < sizeLine ∧ Nx (upd H5 D (.dK (putK kvs k z))) else Nx H3) := by
  refine ⟨fun i m H => m = n - i ∧ i ≤ n ∧ Pv i H, ⟨n, by simp, Nat.zero_le _, h0⟩, ?_⟩
  rintro i m H ⟨rfl, hi, p⟩
  have q := hG i H hi p
  by_cases hlt : i < n
  · refine .inr ⟨w.goes i H hlt q, Pv (i + 1), fun H' p' => ⟨n - (i + 1), by omega, rfl, hlt, p'⟩, fun x H' y => hs i x H H' hlt p (w.yields i H x H' hlt q y)⟩
  · have e : i = n := by omega
    subst e
    exact .inl ⟨w.stops H q, hd H p⟩
theorem strs_at {ns : List Str} {i : Nat} {v : V} (h : (ns.map V.str)[i]? = some v) : ∃ x, ns[i]? = some x ∧ v = .str x := by
  rw [List.getElem?_map] at h
  obtain ⟨x, hx, e⟩ := Option.map_eq_some_iff.mp h
  exact ⟨x, hx, e.symm⟩
theorem valV_fun {f : Str → V} : ∀ {ms : List Str} {x : Str}, x ∈ ms → valV (ms.map fun x => ((Sum.inr x : Key), f x)) (Sum.inr x : Key) = some (f x)
  | [], x, h => by simp at h
  | m :: ms, x, h => by
    by_cases e : m = x
    · subst e
      unfold valV
      rw [List.map_cons, List.find?_cons_of_pos (by exact decide_eq_true rfl)]
      rfl
    · have ih := valV_fun (f := f) (ms := ms) (x := x) ((List.mem_cons.mp h).resolve_left fun z => e z.symm)
      unfold valV at ih ⊢
      rw [List.map_cons, List.find?_cons_of_neg (by
        show ¬ decide ((Sum.inr m : Key) = Sum.inr x) = true
        rw [decide_eq_true_eq]
        exact fun z => e (Sum.inr.inj z))]
      exact ih
theorem ties_tieV {H : Hp} : ∀ {ys : List V} {ts : List (Str × Str)}, Ties H ys ts → ys.map (Own.tieV H) = ts
  | _, _, .nil => rfl
  | _, _, .cons r t => by
    obtain ⟨a, rfl, h⟩ := r
    rw [List.map_cons, Own.tieV_of h, ties_tieV t]
theorem ties_of {H : Hp} : ∀ {ys : List V}, (∀ x ∈ ys, ∃ t a b, x = V.ref t ∧ H t = some (.tup [.str a, .str b])) → Ties H ys (ys.map (Own.tieV H))
  | [], _ => .nil
  | y :: ys, h => by
    obtain ⟨t, a, b, rfl, e⟩ := h y List.mem_cons_self
    refine .cons ⟨t, rfl, ?_⟩ (ties_of fun x hx => h x (List.mem_cons_of_mem _ hx))
    rw [Own.tieV_of e]
    exact e
def prF (ns : List Str) (ps : List Int) (x : Str) : Int := match valV (prK ns ps) (Sum.inr x : Key) with
  | some (.int r) => r
  | _ => 0
theorem prK_fun (f : Str → Int) : ∀ (ms : List Str), prK ms (ms.map f) = ms.map fun x => ((Sum.inr x : Key), V.int (f x))
  | [] => rfl
  | m :: ms => by
    have ih := prK_fun f ms
    unfold prK at ih ⊢
    rw [List.map_cons, List.zip_cons_cons, List.map_cons, ih, List.map_cons]
theorem prF_some {ns : List Str} {ps : List Int} (hn : ns.Nodup) (hl : ps.length = ns.length) {x : Str} (h : x ∈ ns) : valV (prK ns ps) (Sum.inr x : Key) = some (.int (prF ns ps x)) := by
  obtain ⟨i, hi⟩ := List.getElem?_of_mem h
  obtain ⟨r, h1, h2⟩ := prK_some hn hl hi
  unfold prF
  rw [h2]
section
variable {P : Program} {w : World} {K : PySem.W.Frag} {mg : Str → Option Value} {base : Heap}
abbrev NWebinit : List Str := ["self", "places", "ties", "prices", "wrong", "place", "a", "b"]
theorem scWebinit : FnScope NWebinit ["self", "places", "ties", "prices"] (defScope s_Web_init) := ⟨rfl, rfl, rfl, by decide +kernel, rfl, by decide +kernel, by decide +kernel⟩
theorem c_init (T : Blt mg) {C : Addr} (W : WebC K mg C) (F : ∃ f fd, Fun K "__init__" "Web.__init__" s_Web_init f fd ∧ Mk K C f) (CNAMESF : C8.Cal P w K mg base 2 "names_fault" (spNamesF K) []) (CTIEF : C8.Cal P w K mg base 3 "_tie_fault" (spTieF K) []) (CPRICEF : C8.Cal P w K mg base 3 "price_fault" (spPriceF K) [])
    (CINORDER : C8.Cal P w K mg base 1 "in_order" spOrder []) : C8.Mak P w K mg base 4 "Web" C (spInit K C) [] := by
  refine makF W.mw F (fun f fd F => F.binds (ps := ["self", "places", "ties", "prices"]) fun _ _ _ _ _ _ us hl => match us, hl with | [_, _, _, _], _ => rfl) scWebinit (fun vs H Q E h => ?_) (fun f cdv A outer s H vs Q E hr h => ?_)
  · obtain ⟨o, dx, pl, tl, d, ns, ps, xs, ts, rfl, _⟩ := h
    rfl
  · obtain ⟨o, dx, pl, tl, d, ns, ps, xs, ts, rfl, ho, hp, ht, hd, ti, hl, no, to, po, q⟩ := h
    have hu := hu_of hr
    refine ⟨_, (pss_cons (ps_set (i := 4) scWebinit.nd rfl (Or.inl rfl) (C8.pe_c CNAMESF hr (by decide) rfl (pa_cons (pv 1) pa_nil)))
      (pss_cons (ps_if (pt_cmpR op_notN (pv 4) pe_non (nomark _)) (pss_one ps_never) pss_nil)
      (pss_cons (ps_set (i := 4) scWebinit.nd rfl (Or.inl rfl) (C8.pe_c CTIEF hr (by decide) rfl (pa_cons (pv 2) (pa_cons (pv 1) pa_nil))))
      (pss_cons (ps_if (pt_cmpR op_notN (pv 4) pe_non (nomark _)) (pss_one ps_never) pss_nil)
      (pss_cons (ps_set (i := 4) scWebinit.nd rfl (Or.inl rfl) (C8.pe_c CPRICEF hr (by decide) rfl (pa_cons (pv 3) (pa_cons (pv 1) (pa_cons pe_int pa_nil)))))
      (pss_cons (ps_if (pt_cmpR op_notN (pv 4) pe_non (nomark _)) (pss_one ps_never) pss_nil)
      (pss_cons (ps_fld (pv 0) (pe_dc (own := [("place", 5)]) rfl scWebinit.nd (pi_list (pe_callB Own.cr_sortS (by rfl) T.b_sorted (by decide +kernel) (pa_cons (pv 1) pa_nil))) (blkOk_by (own := [("place", 5)]) (N := NWebinit) (sc := defScope s_Web_init) (by decide +kernel)) (fun _ _ _ _ _ => (pg_name (i := 5) scWebinit.nd rfl (Or.inl rfl))) (fun _ _ _ _ _ => pts_nil) (fun _ _ _ _ _ => (pv 5)) (fun _ _ _ _ _ => (pe_dget hu (pv 3) (pv 5) (fun _ _ => rfl)))) rfl)
      (pss_one (ps_fld (pv 0) (pe_callB Own.cr_sortT (by rfl) T.b_sorted (by decide +kernel) (pa_cons (pe_lc (own := [("a", 6), ("b", 7)]) (g := gTup K 2 (gCons (gName 6) (gCons (gName 7) gNil))) (tt := tYes) rfl scWebinit.nd (pi_list (pv 2)) (blkOk_by (own := [("a", 6), ("b", 7)]) (N := NWebinit) (sc := defScope s_Web_init) (by decide +kernel)) (fun _ _ _ _ _ => (pg_tup rfl (pgs_cons (pg_name (i := 6) scWebinit.nd rfl (Or.inl rfl)) (pgs_cons (pg_name (i := 7) scWebinit.nd rfl (Or.inl rfl)) pgs_nil)))) (fun _ _ _ _ _ => pts_nil) (fun _ _ _ _ _ => (C8.pe_c CINORDER hr (by decide) rfl (pa_cons (pv 6) (pa_cons (pv 7) pa_nil))))) pa_nil)) rfl))))))))), ?_⟩
    have n2 := no.hi
    have lxs := paired_len ti
    have lts := to.hi
    refine ⟨_, rfl, pl, ns, rfl, hp, no, fun H1 s1 => ?_⟩
    refine ⟨_, rfl, rfl, _, rfl, iteF ?_⟩
    refine ⟨_, rfl, _, rfl, tl, pl, ns, xs, ts, rfl, s1 _ _ ht, ti.same s1, s1 _ _ hp, no, to, fun H2 s2 => ?_⟩
    have s12 := s1.trans s2
    refine ⟨_, rfl, rfl, _, rfl, iteF ?_⟩
    refine ⟨_, rfl, _, rfl, d, pl, ns, ps, rfl, s12 _ _ hd, s12 _ _ hp, no, po, hl, fun H3 s3 => ?_⟩
    have s13 := s12.trans s3
    refine ⟨_, rfl, rfl, _, rfl, iteF ?_⟩
    refine ⟨_, rfl, pl, ns, rfl, .inr (SqT.of (s13 _ _ hp)), fun ms p hpm ham hfr => ?_⟩
    have s14 : Same H (upd H3 p (.lst (ms.map V.str))) := s13.trans (Same.new hfr)
    have lms : ms.length = ns.length := hpm.length_eq
    have mnd : ms.Nodup := hpm.nodup_iff.mpr no.nd
    refine ⟨p, rfl, ⟨_, SqL.of upd_same⟩, fun dp hdp => dc_it (walk_list (K := K) (a := p) (xs := ms.map V.str)) (fun i H4 => Same H H4 ∧ H4 p = some (.lst (ms.map V.str)) ∧ H4 dp = some (.dK (prK (ms.take i) ((ms.take i).map (prF ns ps)))))
      ⟨s14.trans (Same.new hdp), by rw [upd_ne (ne_of_none upd_same hdp)]; exact upd_same, upd_same⟩ (fun i H4 _ h => SqL.of h.2.1) ?_ ?_⟩
    · rintro i v H4 H5 hi ⟨s4, h4, h5⟩ ⟨rfl, hx⟩
      obtain ⟨x, hxx, rfl⟩ := strs_at hx
      clear hx
      have hx := hxx
      have hxn : x ∈ ns := hpm.mem_iff.mp (List.mem_of_getElem? hx)
      have hg : DGet H5 d (.str x) (some (.int (prF ns ps x))) := by
        rw [← prF_some no.nd hl hxn]
        exact DGet.k (k := Sum.inr x) (s4 _ _ hd)
      refine ⟨rfl, ?_⟩
      refine iteT (B := False) ?_
      have npdp : p ≠ dp := ne_of_none upd_same hdp
      refine ⟨_, rfl, _, rfl, _, rfl, d, _, rfl, hg, _, Sum.inr x, rfl, h5, fitsL (by rw [prK_len _ _ (by rw [List.length_map]), List.length_take]; omega), fun b u e => by rw [upd_ne (ne_of_none e (s14.free hdp))]; exact s4 _ _ e, by rw [upd_ne npdp]; exact h4, ?_⟩
      rw [upd_same, prK_put (by rw [List.length_map]) (not_taken mnd hx), take_more hx, List.map_append]
      rfl
    · rintro H4 ⟨s4, h4, h5⟩
      rw [List.length_map, List.take_of_length_le (Nat.le_refl _)] at h5
      refine ⟨_, rfl, o, C, dx, [], rfl, s4 _ _ ho, W.cl, W.np, (by decide : 0 < 1000), ?_⟩
      have fdp : H dp = none := s14.free hdp
      have nod : o ≠ dp := ne_of_none ho fdp
      have bG : But o H (upd H4 o (.ins C dx (putF "_prices" (.ref dp) []))) := (But.of s4).trans But.upd
      generalize hGG : upd H4 o (.ins C dx (putF "_prices" (.ref dp) [])) = G at bG
      have go : G o = some (.ins C dx [("_prices", .ref dp)]) := by rw [← hGG, upd_same] <;> rfl
      have gd : G dp = some (.dK (prK ms (ms.map (prF ns ps)))) := by rw [← hGG, upd_ne nod.symm]; exact h5
      have ntl : tl ≠ o := ne_of ht ho (by intro z; cases z)
      have gt : G tl = some (.lst xs) := bG _ _ ht ntl
      have gti : Ties G xs ts := paired_mono ti fun x y h => by
        obtain ⟨t, rfl, h⟩ := h
        exact ⟨t, rfl, bG _ _ h (ne_of h ho (by intro z; cases z))⟩
      refine ⟨_, rfl, tl, rfl, ⟨_, SqL.of gt⟩, fun D hD => lc_it (walk_list (K := K) (a := tl) (xs := xs)) (fun i H5 => ∃ ys, Same G H5 ∧ H5 D = some (.lst ys) ∧ Ties H5 ys ((ts.map ordP).take i))
        ⟨[], Same.new hD, upd_same, .nil⟩ (fun i H5 _ ⟨_, h, _⟩ => SqL.of (h _ _ gt)) ?_ ?_⟩
      · rintro i v H5 H6 hi ⟨ys, s5, h6, t6⟩ ⟨rfl, hx⟩
        obtain ⟨pp, hpp, t, rfl, htt⟩ := paired_get gti hx
        refine ⟨t, _, rfl, SqT.of (s5 _ _ htt), rfl, _, _, rfl, _, _, rfl, rfl, rfl, ?_⟩
        refine iteT (B := False) ?_
        refine ⟨_, rfl, _, rfl, _, _, rfl, fun u hu5 => ?_⟩
        have nDu : D ≠ u := ne_of_none h6 hu5
        have s6 := s5.trans (Same.new (o := .tup [.str (ordP pp).1, .str (ordP pp).2]) hu5)
        refine ⟨ys, by rw [upd_ne nDu]; exact h6, fitsL (by rw [paired_len t6, List.length_take]; omega), _, fun b z e => by rw [upd_ne (ne_of_none e hD)]; exact s6 _ _ e, upd_same, ?_⟩
        have hop : (ts.map ordP)[i]? = some (ordP pp) := by rw [List.getElem?_map, hpp] <;> rfl
        rw [take_more hop]
        have t7 := t6.same (Same.new (o := .tup [.str (ordP pp).1, .str (ordP pp).2]) hu5)
        have t8 : Ties _ (ys ++ [V.ref u]) _ := paired_app t7 (.cons ⟨u, rfl, upd_same⟩ .nil)
        exact t8.upd fun z l e => ne_of e (by rw [upd_ne nDu]; exact h6) (by intro z; cases z)
      · rintro H5 ⟨ys, s5, h6, t6⟩
        rw [List.take_of_length_le (by rw [List.length_map]; omega)] at t6
        have hall : ∀ x ∈ ys, ∃ t a b, x = V.ref t ∧ H5 t = some (.tup [.str a, .str b]) := fun x hx => by
          obtain ⟨i, hi⟩ := List.getElem?_of_mem hx
          obtain ⟨pp, _, t, e, h⟩ := paired_get t6 hi
          exact ⟨t, _, _, e, h⟩
        refine ⟨D, ys, rfl, .inl (SqL.of h6), hall, fun zs p2 hzp hza hp2 => ?_⟩
        have s7 : Same G (upd H5 p2 (.lst zs)) := s5.trans (Same.new hp2)
        refine ⟨_, rfl, o, C, dx, [("_prices", .ref dp)], rfl, s7 _ _ go, W.cl, W.nt, (by decide : 1 < 1000), ?_⟩
        have fp2 : H p2 = none := bG.free ⟨_, go⟩ (s5.free hp2)
        have nop : o ≠ p2 := ne_of_none ho fp2
        refine q dp p2 zs ms (ms.map (prF ns ps)) (zs.map (Own.tieV H5)) _ ((bG.trans (.of s7)).trans But.upd) fdp fp2 ⟨upd_same, ?_, ?_, ?_⟩ ⟨hpm, fun x hx => ?_, by rw [List.length_map], ham, ?_, hza⟩
        · rw [upd_ne nod.symm]
          exact s7 _ _ gd
        · rw [upd_ne nop.symm, upd_same]
        · have t8 := (ties_of fun x hx => hall x (hzp.mem_iff.mp hx)).same (Same.new (o := .lst zs) hp2)
          exact t8.upd fun z l e => ne_of e (s7 _ _ go) (by intro z; cases z)
        · rw [prF_some no.nd hl hx, prK_fun, valV_fun (hpm.mem_iff.mpr hx)]
        · rw [← ties_tieV t6]
          exact hzp.map _
end
end KK
end

section
set_option maxRecDepth 100000
set_option maxHeartbeats 4000000
namespace KK
open PySem PySem.Spec PyProof.Rows L2
def nearS (us : List (Str × Str)) (x : Str) : List Str := (us.filter fun p => decide (p.2 = x)).map (·.1) ++ (us.filter fun p => decide (p.1 = x)).map (·.2)
def spPlaces (C : Addr) : Sp := fun vs H Q _ => ∃ o dx dp tl xs ms qs us, vs = [.ref o] ∧ WebAt H C o dx dp tl xs ms qs us ∧ qs.length = ms.length ∧ ∀ p, H p = none → Q (.ref p) (upd H p (.lst (ms.map V.str)))
def spTies (C : Addr) : Sp := fun vs H Q _ => ∃ o dx dp tl xs ms qs us, vs = [.ref o] ∧ WebAt H C o dx dp tl xs ms qs us ∧ ∀ p, H p = none → Q (.ref p) (upd H p (.lst xs))
def spLen (C : Addr) : Sp := fun vs H Q _ => ∃ o dx dp tl xs ms qs us, vs = [.ref o] ∧ WebAt H C o dx dp tl xs ms qs us ∧ qs.length = ms.length ∧ Q (.int ms.length) H
def spHas (K : PySem.W.Frag) (C : Addr) : Sp := fun vs H Q _ => ∃ o dx dp tl xs ms qs us x t b, vs = [.ref o, x] ∧ WebAt H C o dx dp tl xs ms qs us ∧ TyX K H x (.type t) ∧ kitB t "str" = some b ∧ (b = false → Q (.bl false) H) ∧
  (b = true → ∃ s, x = .str s ∧ Q (.bl (valV (prK ms qs) (Sum.inr s : Key)).isSome) H)
def spNeed (C : Addr) : Sp := fun vs H Q _ => ∃ o dx dp tl xs ms qs us x r, vs = [.ref o, .str x] ∧ WebAt H C o dx dp tl xs ms qs us ∧ valV (prK ms qs) (Sum.inr x : Key) = some (.int r) ∧ Q .non H
def spPrice (C : Addr) : Sp := fun vs H Q _ => ∃ o dx dp tl xs ms qs us x r, vs = [.ref o, .str x] ∧ WebAt H C o dx dp tl xs ms qs us ∧ valV (prK ms qs) (Sum.inr x : Key) = some (.int r) ∧ Q (.int r) H
def spNear (C : Addr) : Sp := fun vs H Q _ => ∃ o dx dp tl xs ms qs us x r, vs = [.ref o, .str x] ∧ WebAt H C o dx dp tl xs ms qs us ∧ valV (prK ms qs) (Sum.inr x : Key) = some (.int r) ∧ us.length ≤ 400 ∧
  ∀ p H', Same H H' → H p = none → H' p = some (.lst ((nearS us x).map V.str)) → Q (.ref p) H'
def spDeg (C : Addr) : Sp := fun vs H Q _ => ∃ o dx dp tl xs ms qs us x r, vs = [.ref o, .str x] ∧ WebAt H C o dx dp tl xs ms qs us ∧ valV (prK ms qs) (Sum.inr x : Key) = some (.int r) ∧ us.length ≤ 400 ∧
  ∀ H', Same H H' → Q (.int (nearS us x).length) H'
theorem prK_keys : ∀ {ms : List Str} {qs : List Int}, qs.length = ms.length → (prK ms qs).map (fun kv => kV kv.1) = ms.map V.str
  | [], _, _ => rfl
  | m :: ms, [], h => by simp at h
  | m :: ms, q :: qs, h => by
    have ih := prK_keys (ms := ms) (qs := qs) (by simpa using h)
    unfold prK at ih ⊢
    rw [List.zip_cons_cons, List.map_cons, List.map_cons, ih]
    rfl
section
variable {P : Program} {w : World} {K : PySem.W.Frag} {mg : Str → Option Value} {base : Heap} {C : Addr}
abbrev NWebplaces : List Str := ["self"]
theorem scWebplaces : FnScope NWebplaces ["self"] (defScope s_Web_places) := ⟨rfl, rfl, rfl, by decide +kernel, rfl, by decide +kernel, by decide +kernel⟩
theorem c_places (T : Blt mg) (W : WebC K mg C) (F : HasM K C "places" "Web.places" s_Web_places) : C8.Met P w K mg base 1 C "places" (spPlaces C) [] := by
  have Cl := W.cl
  refine metF Cl F (fun f fd F => F.binds (ps := ["self"]) fun _ _ _ _ _ _ us hl => match us, hl with | [_], _ => rfl) scWebplaces (fun vs H Q E h => ?_) (fun f cdv A outer s H vs Q E hr h => ?_)
  · obtain ⟨o, dx, dp, tl, xs, ms, qs, us, rfl, _⟩ := h
    rfl
  · obtain ⟨o, dx, dp, tl, xs, ms, qs, us, rfl, wa, hl, q⟩ := h
    refine ⟨_, (pss_one (ps_ret (pe_callTy (call_list_dK rfl) (by rfl) T.b_list (by decide +kernel) (pa_cons (pe_fld (pv 0) rfl) pa_nil)))), ?_⟩
    refine ⟨_, rfl, o, C, dx, _, _, rfl, wa.ho, Cl, W.np, rfl, dp, _, rfl, wa.hp, fun p hp => ?_⟩
    rw [prK_keys hl]
    exact q p hp
abbrev NWebties : List Str := ["self"]
theorem scWebties : FnScope NWebties ["self"] (defScope s_Web_ties) := ⟨rfl, rfl, rfl, by decide +kernel, rfl, by decide +kernel, by decide +kernel⟩
theorem c_ties (T : Blt mg) (W : WebC K mg C) (F : HasM K C "ties" "Web.ties" s_Web_ties) : C8.Met P w K mg base 1 C "ties" (spTies C) [] := by
  have Cl := W.cl
  refine metF Cl F (fun f fd F => F.binds (ps := ["self"]) fun _ _ _ _ _ _ us hl => match us, hl with | [_], _ => rfl) scWebties (fun vs H Q E h => ?_) (fun f cdv A outer s H vs Q E hr h => ?_)
  · obtain ⟨o, dx, dp, tl, xs, ms, qs, us, rfl, _⟩ := h
    rfl
  · obtain ⟨o, dx, dp, tl, xs, ms, qs, us, rfl, wa, q⟩ := h
    refine ⟨_, (pss_one (ps_ret (pe_callTy call_list_of (by rfl) T.b_list (by decide +kernel) (pa_cons (pe_fld (pv 0) rfl) pa_nil)))), ?_⟩
    refine ⟨_, rfl, o, C, dx, _, _, rfl, wa.ho, Cl, W.nt, rfl, tl, _, rfl, .inl (SqL.of wa.ht), fun p hp => ?_⟩
    exact q p hp
abbrev NWeblen : List Str := ["self"]
theorem scWeblen : FnScope NWeblen ["self"] (defScope s_Web_len) := ⟨rfl, rfl, rfl, by decide +kernel, rfl, by decide +kernel, by decide +kernel⟩
theorem c_len (T : Blt mg) (W : WebC K mg C) (F : HasM K C "__len__" "Web.__len__" s_Web_len) : C8.Met P w K mg base 1 C "__len__" (spLen C) [] := by
  have Cl := W.cl
  refine metF Cl F (fun f fd F => F.binds (ps := ["self"]) fun _ _ _ _ _ _ us hl => match us, hl with | [_], _ => rfl) scWeblen (fun vs H Q E h => ?_) (fun f cdv A outer s H vs Q E hr h => ?_)
  · obtain ⟨o, dx, dp, tl, xs, ms, qs, us, rfl, _⟩ := h
    rfl
  · obtain ⟨o, dx, dp, tl, xs, ms, qs, us, rfl, wa, hl, q⟩ := h
    refine ⟨_, (pss_one (ps_ret (pe_callB call_lenD (by rfl) T.b_len PySem.boot_len (pa_cons (pe_fld (pv 0) rfl) pa_nil)))), ?_⟩
    refine ⟨_, rfl, o, C, dx, _, _, rfl, wa.ho, Cl, W.np, rfl, dp, _, rfl, wa.hp, ?_⟩
    rw [prK_len _ _ hl]
    exact q
abbrev NWebcontains : List Str := ["self", "x"]
theorem scWebcontains : FnScope NWebcontains ["self", "x"] (defScope s_Web_contains) := ⟨rfl, rfl, rfl, by decide +kernel, rfl, by decide +kernel, by decide +kernel⟩
theorem c_has (T : Blt mg) (W : WebC K mg C) (F : HasM K C "__contains__" "Web.__contains__" s_Web_contains) (CAMONG : C8.Cal P w K mg base 1 "is_among" (spAmong K) []) : C8.Met P w K mg base 2 C "__contains__" (spHas K C) [] := by
  have Cl := W.cl
  refine metF Cl F (fun f fd F => F.binds (ps := ["self", "x"]) fun _ _ _ _ _ _ us hl => match us, hl with | [_, _], _ => rfl) scWebcontains (fun vs H Q E h => ?_) (fun f cdv A outer s H vs Q E hr h => ?_)
  · obtain ⟨o, dx, dp, tl, xs, ms, qs, us, x, t, b, rfl, _⟩ := h
    rfl
  · obtain ⟨o, dx, dp, tl, xs, ms, qs, us, x, t, b, rfl, wa, ht, hb, q1, q2⟩ := h
    refine ⟨_, (pss_one (ps_ret (C8.pe_c CAMONG hr (by decide) rfl (pa_cons (pv 1) (pa_cons (pe_fld (pv 0) rfl) pa_nil))))), ?_⟩
    refine ⟨_, rfl, _, rfl, o, C, dx, _, _, rfl, wa.ho, Cl, W.np, rfl, x, dp, t, b, rfl, ht, hb, q1, fun z => ?_⟩
    obtain ⟨s, e, q⟩ := q2 z
    exact ⟨s, e, .inr ⟨_, .of wa.hp, q⟩⟩
abbrev NWebneed : List Str := ["self", "place"]
theorem scWebneed : FnScope NWebneed ["self", "place"] (defScope s_Web_need) := ⟨rfl, rfl, rfl, by decide +kernel, rfl, by decide +kernel, by decide +kernel⟩
theorem c_need (T : Blt mg) (W : WebC K mg C) (F : HasM K C "_need" "Web._need" s_Web_need) (CAMONG : C8.Cal P w K mg base 1 "is_among" (spAmong K) []) : C8.Met P w K mg base 2 C "_need" (spNeed C) [] := by
  have Cl := W.cl
  refine metF Cl F (fun f fd F => F.binds (ps := ["self", "place"]) fun _ _ _ _ _ _ us hl => match us, hl with | [_, _], _ => rfl) scWebneed (fun vs H Q E h => ?_) (fun f cdv A outer s H vs Q E hr h => ?_)
  · obtain ⟨o, dx, dp, tl, xs, ms, qs, us, x, r, rfl, _⟩ := h
    rfl
  · obtain ⟨o, dx, dp, tl, xs, ms, qs, us, x, r, rfl, wa, hx, q⟩ := h
    refine ⟨_, (pss_one (ps_if (pt_not (pt_val (C8.pe_c CAMONG hr (by decide) rfl (pa_cons (pv 1) (pa_cons (pe_fld (pv 0) rfl) pa_nil))))) (pss_one ps_never) pss_nil)), ?_⟩
    refine ⟨_, rfl, _, rfl, o, C, dx, _, _, rfl, wa.ho, Cl, W.np, rfl, .str x, dp, "str", true, rfl, .base (.str x), by decide +kernel, fun z => (by cases z), fun _ => ⟨x, rfl, .inr ⟨_, .of wa.hp, ?_⟩⟩⟩
    rw [hx]
    exact ⟨_, rfl, iteF q⟩
abbrev NWebprice : List Str := ["self", "place"]
theorem scWebprice : FnScope NWebprice ["self", "place"] (defScope s_Web_price) := ⟨rfl, rfl, rfl, by decide +kernel, rfl, by decide +kernel, by decide +kernel⟩
theorem c_price (T : Blt mg) (W : WebC K mg C) (F : HasM K C "price" "Web.price" s_Web_price) (CNEED : C8.Met P w K mg base 2 C "_need" (spNeed C) []) : C8.Met P w K mg base 3 C "price" (spPrice C) [] := by
  have Cl := W.cl
  refine metF Cl F (fun f fd F => F.binds (ps := ["self", "place"]) fun _ _ _ _ _ _ us hl => match us, hl with | [_, _], _ => rfl) scWebprice (fun vs H Q E h => ?_) (fun f cdv A outer s H vs Q E hr h => ?_)
  · obtain ⟨o, dx, dp, tl, xs, ms, qs, us, x, r, rfl, _⟩ := h
    rfl
  · obtain ⟨o, dx, dp, tl, xs, ms, qs, us, x, r, rfl, wa, hx, q⟩ := h
    have hu := hu_of hr
    refine ⟨_, (pss_cons (ps_expr (C8.pe_mt CNEED hr (by decide) (pv 0) (pa_cons (pv 1) pa_nil)))
      (pss_one (ps_ret (pe_dget hu (pe_fld (pv 0) rfl) (pv 1) (fun _ _ => rfl))))), ?_⟩
    refine ⟨_, rfl, o, dx, _, rfl, wa.ho, rfl, _, rfl, o, dx, dp, tl, xs, ms, qs, us, x, r, rfl, wa, hx, ?_⟩
    have hg : DGet H dp (.str x) (some (.int r)) := by
      rw [← hx]
      exact DGet.k (k := Sum.inr x) wa.hp
    exact ⟨_, rfl, o, C, dx, _, _, rfl, wa.ho, Cl, W.np, rfl, _, rfl, dp, _, rfl, hg, q⟩
abbrev NWebnear : List Str := ["self", "place", "a", "b"]
theorem scWebnear : FnScope NWebnear ["self", "place"] (defScope s_Web_near) := ⟨rfl, rfl, rfl, by decide +kernel, rfl, by decide +kernel, by decide +kernel⟩
theorem c_near (T : Blt mg) (W : WebC K mg C) (F : HasM K C "near" "Web.near" s_Web_near) (CNEED : C8.Met P w K mg base 2 C "_need" (spNeed C) []) : C8.Met P w K mg base 3 C "near" (spNear C) [] := by
  have Cl := W.cl
  refine metF Cl F (fun f fd F => F.binds (ps := ["self", "place"]) fun _ _ _ _ _ _ us hl => match us, hl with | [_, _], _ => rfl) scWebnear (fun vs H Q E h => ?_) (fun f cdv A outer s H vs Q E hr h => ?_)
  · obtain ⟨o, dx, dp, tl, xs, ms, qs, us, x, r, rfl, _⟩ := h
    rfl
  · obtain ⟨o, dx, dp, tl, xs, ms, qs, us, x, r, rfl, wa, hx, hul, q⟩ := h
    have hu := hu_of hr
    refine ⟨_, (pss_cons (ps_expr (C8.pe_mt CNEED hr (by decide) (pv 0) (pa_cons (pv 1) pa_nil)))
      (pss_one (ps_ret (pe_op op_cat (pe_lc (own := [("a", 2), ("b", 3)]) (g := gTup K 2 (gCons (gName 2) (gCons (gName 3) gNil))) rfl scWebnear.nd (pi_list (pe_fld (pv 0) rfl)) (blkOk_by (own := [("a", 2), ("b", 3)]) (N := NWebnear) (sc := defScope s_Web_near) (by decide +kernel)) (fun _ _ _ _ _ => (pg_tup rfl (pgs_cons (pg_name (i := 2) scWebnear.nd rfl (Or.inl rfl)) (pgs_cons (pg_name (i := 3) scWebnear.nd rfl (Or.inl rfl)) pgs_nil)))) (fun _ _ _ _ _ => pts_one (pt_cmpR op_eq (pv 3) (pv 1) (nomark _))) (fun _ _ _ _ _ => (pv 2))) (pe_lc (own := [("a", 2), ("b", 3)]) (g := gTup K 2 (gCons (gName 2) (gCons (gName 3) gNil))) rfl scWebnear.nd (pi_list (pe_fld (pv 0) rfl)) (blkOk_by (own := [("a", 2), ("b", 3)]) (N := NWebnear) (sc := defScope s_Web_near) (by decide +kernel)) (fun _ _ _ _ _ => (pg_tup rfl (pgs_cons (pg_name (i := 2) scWebnear.nd rfl (Or.inl rfl)) (pgs_cons (pg_name (i := 3) scWebnear.nd rfl (Or.inl rfl)) pgs_nil)))) (fun _ _ _ _ _ => pts_one (pt_cmpR op_eq (pv 2) (pv 1) (nomark _))) (fun _ _ _ _ _ => (pv 3))))))), ?_⟩
    refine ⟨_, rfl, o, dx, _, rfl, wa.ho, rfl, _, rfl, o, dx, dp, tl, xs, ms, qs, us, x, r, rfl, wa, hx, ?_⟩
    have lxs := paired_len wa.ti
    refine ⟨_, rfl, o, C, dx, _, _, rfl, wa.ho, Cl, W.nt, rfl, tl, rfl, ⟨_, SqL.of wa.ht⟩, fun D hD => lc_it (walk_list (K := K) (a := tl) (xs := xs)) (fun i H5 => Same H H5 ∧ H5 D = some (.lst ((((us.take i).filter fun p => decide (p.2 = x)).map (·.1)).map V.str)))
      ⟨Same.new hD, upd_same⟩ (fun i H5 _ h => SqL.of (h.1 _ _ wa.ht)) ?_ ?_⟩
    · rintro i v H5 H6 hi ⟨s5, h6⟩ ⟨rfl, hy⟩
      obtain ⟨pp, hpp, t, rfl, htt⟩ := paired_get wa.ti hy
      refine ⟨t, _, rfl, SqT.of (s5 _ _ htt), rfl, _, _, rfl, _, _, rfl, rfl, rfl, ?_⟩
      refine ⟨_, rfl, _, rfl, rfl, _, rfl, ?_⟩
      have e : decide (V.str pp.2 = V.str x) = decide (pp.2 = x) := by
        by_cases h : pp.2 = x
        · rw [decide_eq_true h, h, decide_eq_true rfl]
        · rw [decide_eq_false h, decide_eq_false fun z => h (V.str.inj z)]
      rw [e]
      by_cases h : pp.2 = x
      · rw [decide_eq_true h]
        refine iteT (B := False) ?_
        refine ⟨_, rfl, _, h6, fitsL (by rw [List.length_map, List.length_map]; have := List.length_filter_le (fun p : Str × Str => decide (p.2 = x)) (us.take i); rw [List.length_take] at this; omega), fun b z e => by rw [upd_ne (ne_of_none e hD)]; exact s5 _ _ e, ?_⟩
        rw [upd_same, take_more hpp, List.filter_append, List.filter_cons_of_pos (by exact decide_eq_true h), List.map_append, List.map_append]
        rfl
      · rw [decide_eq_false h]
        refine iteF (A := False) ?_
        refine ⟨s5, ?_⟩
        rw [take_more hpp, List.filter_append, List.filter_cons_of_neg (by show ¬ decide (pp.2 = x) = true; rw [decide_eq_true_eq]; exact h), List.filter_nil, List.append_nil]
        exact h6
    rintro H5 ⟨s5, h5⟩
    rw [List.take_of_length_le (by omega)] at h5
    refine ⟨_, rfl, o, C, dx, _, _, rfl, s5 _ _ wa.ho, Cl, W.nt, rfl, tl, rfl, ⟨_, SqL.of (s5 _ _ wa.ht)⟩, fun D2 hD2 => lc_it (walk_list (K := K) (a := tl) (xs := xs)) (fun i H6 => Same H5 H6 ∧ H6 D2 = some (.lst ((((us.take i).filter fun p => decide (p.1 = x)).map (·.2)).map V.str)))
      ⟨Same.new hD2, upd_same⟩ (fun i H6 _ h => SqL.of (h.1 _ _ (s5 _ _ wa.ht))) ?_ ?_⟩
    · rintro i v H6 H7 hi ⟨s6, h6⟩ ⟨rfl, hy⟩
      obtain ⟨pp, hpp, t, rfl, htt⟩ := paired_get wa.ti hy
      refine ⟨t, _, rfl, SqT.of (s6 _ _ (s5 _ _ htt)), rfl, _, _, rfl, _, _, rfl, rfl, rfl, ?_⟩
      refine ⟨_, rfl, _, rfl, rfl, _, rfl, ?_⟩
      have e : decide (V.str pp.1 = V.str x) = decide (pp.1 = x) := by
        by_cases h : pp.1 = x
        · rw [decide_eq_true h, h, decide_eq_true rfl]
        · rw [decide_eq_false h, decide_eq_false fun z => h (V.str.inj z)]
      rw [e]
      by_cases h : pp.1 = x
      · rw [decide_eq_true h]
        refine iteT (B := False) ?_
        refine ⟨_, rfl, _, h6, fitsL (by rw [List.length_map, List.length_map]; have := List.length_filter_le (fun p : Str × Str => decide (p.1 = x)) (us.take i); rw [List.length_take] at this; omega), fun b z e => by rw [upd_ne (ne_of_none e hD2)]; exact s6 _ _ e, ?_⟩
        rw [upd_same, take_more hpp, List.filter_append, List.filter_cons_of_pos (by exact decide_eq_true h), List.map_append, List.map_append]
        rfl
      · rw [decide_eq_false h]
        refine iteF (A := False) ?_
        refine ⟨s6, ?_⟩
        rw [take_more hpp, List.filter_append, List.filter_cons_of_neg (by show ¬ decide (pp.1 = x) = true; rw [decide_eq_true_eq]; exact h), List.filter_nil, List.append_nil]
        exact h6
    rintro H6 ⟨s6, h6⟩
    rw [List.take_of_length_le (by omega)] at h6
    have hf : ∀ (f : Str × Str → Bool) (g : Str × Str → Str), (((us.filter f).map g).map V.str).length ≤ 400 := fun f g => by
      rw [List.length_map, List.length_map]
      have := List.length_filter_le f us
      omega
    have l1 := hf (fun p => decide (p.2 = x)) (·.1)
    have l2 := hf (fun p => decide (p.1 = x)) (·.2)
    refine ⟨D, D2, _, _, rfl, rfl, s6 _ _ h5, h6, fits (by omega), fun p hp => ?_⟩
    have s7 : Same H (upd H6 p (.lst (((us.filter fun p => decide (p.2 = x)).map (·.1)).map V.str ++ ((us.filter fun p => decide (p.1 = x)).map (·.2)).map V.str))) := (s5.trans s6).trans (Same.new hp)
    refine q p _ s7 ((s5.trans s6).free hp) ?_
    rw [upd_same]
    unfold nearS
    rw [List.map_append]
abbrev NWebdegree : List Str := ["self", "place"]
theorem scWebdegree : FnScope NWebdegree ["self", "place"] (defScope s_Web_degree) := ⟨rfl, rfl, rfl, by decide +kernel, rfl, by decide +kernel, by decide +kernel⟩
theorem c_degree (T : Blt mg) (W : WebC K mg C) (F : HasM K C "degree" "Web.degree" s_Web_degree) (CNEAR : C8.Met P w K mg base 3 C "near" (spNear C) []) : C8.Met P w K mg base 4 C "degree" (spDeg C) [] := by
  have Cl := W.cl
  refine metF Cl F (fun f fd F => F.binds (ps := ["self", "place"]) fun _ _ _ _ _ _ us hl => match us, hl with | [_, _], _ => rfl) scWebdegree (fun vs H Q E h => ?_) (fun f cdv A outer s H vs Q E hr h => ?_)
  · obtain ⟨o, dx, dp, tl, xs, ms, qs, us, x, r, rfl, _⟩ := h
    rfl
  · obtain ⟨o, dx, dp, tl, xs, ms, qs, us, x, r, rfl, wa, hx, hul, q⟩ := h
    refine ⟨_, (pss_one (ps_ret (pe_callB call_len (by rfl) T.b_len PySem.boot_len (pa_cons (C8.pe_mt CNEAR hr (by decide) (pv 0) (pa_cons (pv 1) pa_nil)) pa_nil)))), ?_⟩
    refine ⟨_, rfl, o, dx, _, rfl, wa.ho, rfl, _, rfl, o, dx, dp, tl, xs, ms, qs, us, x, r, rfl, wa, hx, hul, fun p H' s hp h' => ?_⟩
    refine ⟨_, _, rfl, .inl ⟨_, SqL.of h', rfl⟩, ?_⟩
    rw [List.length_map]
    exact q H' s
end
end KK
end

section
set_option maxRecDepth 100000
set_option maxHeartbeats 4000000
/-! an own error class whose __init__ says super().__init__(text) and stores its one argument -/
namespace PySem
namespace Err1
open PySem.W PySem.Calls PyProof.Rows PySem.HandSPX
def iA (fld : Str) (p1 p2 : Pos) : Arguments := { posonlyargs := [], args := [{ arg := "self", annotation := none, pos := p1 }, { arg := fld, annotation := none, pos := p2 }], vararg := none, kwonlyargs := [], kw_defaults := [], kwarg := none, defaults := [] }
/-- the text of such an __init__: its message, its places -/
structure EP where
  txt : Str
  k : Nat
  p1 : Pos
  p2 : Pos
  q0 : Pos
  q1 : Pos
  q2 : Pos
  q3 : Pos
  q4 : Pos
  q5 : Pos
  q6 : Pos
  q7 : Pos
  q8 : Pos
  q9 : Pos
abbrev sC (e : EP) : Expr := .Call (.Name "super" e.q0) [] [] e.q1
abbrev cC (e : EP) : Expr := .Call (.Attribute (sC e) "__init__" e.q2) [.Constant (.str e.txt) e.k e.q3] [] e.q4
def iB (fld : Str) (e : EP) : List Stmt := [.Expr (cC e) e.q5, .Assign [.Attribute (.Name "self" e.q6) fld e.q7] (.Name fld e.q8) e.q9]
def iS (fld : Str) : Scope := { kind := .function, names := [(PySem.Str.ofString "self", .local), (fld, .local), (PySem.Str.ofString "__class__", .free), (PySem.Str.ofString "super", .globalImplicit)], isGenerator := false, isCoroutine := false, more := [] }
/-- a name that may be such a field -/
structure FldOk (fld : Str) (e : EP) : Prop where
  bd : ∀ (qual : Str) (body : List Stmt) (doc pm : Value) (an : Option Addr) (cda ct : Value) (cc : Addr) (x v : Value), bindArgs (ksFn "__init__" qual (iA fld e.p1 e.p2) body (iS fld) .none .none doc pm an cda ct cc) ⟨[x, v], []⟩ = pure [(("self" : Str), x), (fld, v)]
  hx : ∀ env : Env, interactive env = false → swapsWith (cC e) none e.q5.line env = pure false
  he : ∀ env : Env, ∃ pl, eval (cC e) env = (do
      let ov ← attributeBase (sC e) "__init__" env (eval (sC e) env)
      standAt e.q2.atName
      let (f, first) ← holding [ov] (getMethod ov "__init__" pl)
      callWith e.q4 f first (backTo e.q4 (starEach [.Constant (.str e.txt) e.k e.q3] env)) [])
  s : ¬ fld = "self"
  c : ¬ fld = "__class__"
  u : ¬ fld = "super"
  d : (fld == ("__debug__" : Str)) = false
/-- what the written part says of the class at C, and of its __init__, at fI -/
structure ErrTxt (prog : Program) (K : Frag) (mg : Str → Option Value) (nm qual fld : Str) (e : EP) (C fI : Addr) : Prop where
  fo : FldOk fld e
  gC : mg nm = some (.ref C)
  gS : mg "super" = none
  top : (prog.main.scope.names.lookup ("super" : Str)).isSome = false
  cls : ∃ nm' q N bs bm sn sub ab col dd k0 k1 k2 k3 k5, K.lookup C = some (excClassObj nm' q C N bs bm true sn sub ab col dd k0 k1 k2 k3 k5 "ValueError.__new__") ∧ refsVE bm = true
  sa : findIn K (.ref C) "__setattr__" = some (some (.builtin "object.__setattr__"))
  noN : findIn K (.ref C) fld = some none
  iC : findIn K (.ref C) "__init__" = some (some (.ref fI))
  tC : typeIn K (.ref fI) = some (.type "function")
  kC : keepIn K (.ref C) = true
  exC : subIn K (.ref C) (.type "BaseException") = some true
  tyC : typeIn K (.ref C) = some (.type "type")
  hdC : hasDictIn K C = true
  veC : subIn K (.ref C) (.type "ValueError") = some true
  opq : nsIn K cStatics "thirdparty.any" = some none
  sup : ks_superIn K C C "__init__" = some (some (.builtin "ValueError.__init__"))
  fn : ∃ (oc : Value) (od : Option Addr) (doc pm : Value) (an : Option Addr) (cda : Addr) (ct : Value) (osl : Array (Option Value)) (cc : Addr),
    K.lookup fI = some ⟨oc, od, .func (ksFn "__init__" qual (iA fld e.p1 e.p2) (iB fld e) (iS fld) .none .none doc pm an (.ref cda) ct cc), osl⟩ ∧ codeIn K (.ref cda) qual = true ∧
    (∃ ccl cdd vs ccs tf, K.lookup cda = some ⟨ccl, cdd, .fields vs, ccs⟩ ∧ vs[2]? = some (.str prog.main.file tf)) ∧ ∃ cl cld csl, K.lookup cc = some ⟨cl, cld, .cell (some (.ref C)), csl⟩
theorem one_size (v : Value) : [v].length ≤ sizeLine := by
  rw [sizeLine_eq]
  exact (by decide : 1 ≤ 16777216)
section
variable {prog : Program} {w : World} {A : Around} {E : Value → Shared → Prop} {h : Heap} {g : Array GenState} {d : Drawn} {t : Nat} {os : OsState}
variable {nm q : Str} {C N : Addr} {bs bm : List Value} {hdct : Bool} {sn : List Str} {sub : List Value} {ab : Bool} {col : Option Bool} {dd : Option Addr} {k0 k1 k2 k3 k5 : Option Value}
theorem call_mwV {u e t0 : Addr} {rest : List Value} {Q : Value → Shared → Prop}
    (hC : h.get? C = some (excClassObj nm q C N bs bm hdct sn sub ab col dd k0 k1 k2 k3 k5 "ValueError.__new__")) (he : h.get? e = some (excO C t0)) (hu : h.get? u = some (kxs_mw "ValueError.__init__" e)) (hrest : rest.length ≤ sizeLine)
    (hq : ∀ h' t1, (∀ b o, b ≠ e → h.get? b = some o → h'.get? b = some o) → h'.get? e = some (excO C t1) → Q .none ⟨h', g, d, t, os⟩) :
    wpAny (model prog w) A (call (.ref u) rest) Q E ⟨h, g, d, t, os⟩ := by
  refine wpAny_call (codeAny_of_tree ?_)
  show wpAny _ A.in1 (callAny (.ref u) ⟨rest, []⟩) _ _ _
  simp only [callAny]
  refine wpAny_bind (wpAny_load hu ?_)
  simp only [kxs_mw, show (Value.type "method-wrapper" == Value.type "method" || Value.type "method-wrapper" == Value.type "builtin_function_or_method" || Value.type "method-wrapper" == Value.type "method-wrapper") = true by decide, if_true]
  refine W.KFB.if_so (by decide) ?_
  refine wpAny_bind (ESX.check_bound F.excBase_ValueError hC he rfl ?_)
  refine wpAny_bind (wpAny_pure (wpAny_pure ?_))
  refine ⟨Code.quiet_builtin _ (by decide +kernel), codeAny_builtin F.excBase_ValueError.initEntry ?_⟩
  rw [Around.under_plainId F.excBase_ValueError.init.plain _]
  wp_walk
  refine hq _ h.objs.size (fun b o hb ho => ?_) ?_
  · rw [Heap.get?_update_other _ _ (Ne.symm hb)]
    exact Heap.get?_push_of_some _ ho
  · rw [Heap.get?_update_self _ (Heap.get?_push_of_some _ he) rfl]
    rfl
end
/-- what __init__ leaves of a fresh exception at x -/
structure InitEnd (h h' : Heap) (x C dx t1 : Addr) (fld : Str) (v : Value) : Prop where
  keep : ∀ b o, b ≠ x → h.get? b = some o → h'.get? b = some o
  obj : h'.get? x = some { cls := .ref C, dict := some dx, data := .fields #[.ref t1, .none, .none, .none, .bool false, .none] }
  dbig : h.objs.size ≤ dx
  dne : dx ≠ x
  ns : h'.Ns1 dx (fun y => if y = fld then some v else none)
/-- a made one -/
structure OwnMade (h h' : Heap) (e C d : Addr) (fld : Str) (v : Value) : Prop where
  keep : ∀ b o, h.get? b = some o → h'.get? b = some o
  new : h.objs.size ≤ e
  obj : ∃ oe vs, h'.get? e = some oe ∧ oe.cls = .ref C ∧ oe.dict = some d ∧ oe.data = .fields vs ∧ vs[1]? = some .none
  dbig : h.objs.size ≤ d
  dne : d ≠ e
  ns : h'.Ns1 d (fun y => if y = fld then some v else none)
theorem mw_callWith1 {M : Model} {A : Around} {E : Value → Shared → Prop} {s : Shared} {i : String} {u x : Addr} {pos : Pos} {env : Env} {e : Expr} {rest : List Expr} {Q : Value → Shared → Prop}
    (h : wpAny M A (spliced (backTo pos (starEach (e :: rest) env))) (fun vs s₁ => KxsAt i u x s₁.heap ∧ wpAny M A (call (.ref u) vs) Q E s₁) E s)
    (he : starEach (e :: rest) env = (false, eval e env) :: starEach rest env := by rfl) (hplain : (backTo pos (starEach rest env)).any (·.1) = false := by rfl) :
    wpAny M A (callWith pos (.ref u) [] (backTo pos (starEach (e :: rest) env)) []) Q E s := by
  rw [he] at h ⊢
  refine kxs_callWith (i := i) (x := x) (by show (false || (backTo pos (starEach rest env)).any (·.1)) = false; rw [hplain]; rfl) ?_
  exact evalArgs_plain h
section
variable {prog : Program} {w : World} {A : Around} {E : Value → Shared → Prop} {R : Result → Shared → Prop} {s : Shared} {K : Frag} {mg : Str → Option Value} {nm qual fld : Str} {e : EP} {C fI : Addr}
theorem err_init (T : ErrTxt prog K mg nm qual fld e C fI) {x t0 : Addr} {v : Value} (X : K.In s.heap) (hlim : s.heap.NoLimit) (hG : s.heap.Ns mainGlobals mg) (hB : ∃ mb, s.heap.Ns builtinsNs mb ∧ mb "super" = some (.type "super"))
    (hx : s.heap.get? x = some (excO C t0)) (hxs : s.heap.objs.size = x + 1) (hnx : K.lookup x = none) (hgx : x ≠ mainGlobals) (hbx : x ≠ builtinsNs) (hroom : A.depth < recursionLimit)
    (hq : ∀ h' tk dx t1, InitEnd s.heap h' x C dx t1 fld v → R (.ok (.ret .none)) { s with heap := h', toks := tk }) :
    codeAny (model prog w) A (.call (.ref fI) ⟨[.ref x, v], []⟩) R s := by
  obtain ⟨oc, od, doc, pm, an, cda, ct, osl, cc, ho, hcd, ⟨ccl, cdd, vs, ccs, tf, hcode, hvs⟩, cl, cld, csl, hcell⟩ := T.fn
  obtain ⟨nm', q, N, bs, bm, sn, sub, ab, col, dd, k0, k1, k2, k3, k5, hC, hbm⟩ := T.cls
  have hcl : clsIn K C = some { name := nm', bases := bs, mro := .ref C :: bm, ns := N, qualname := q, hasDict := true, slotNames := sn, subclasses := sub, abstract := ab, collection := col, hasDel := false } := by unfold clsIn; rw [hC] <;> rfl
  have hks : (iS fld).names.lookup ("super" : Str) = some .globalImplicit := by
    have e1 : ¬ ("super" : Str) = fld := fun z => T.fo.u z.symm
    have b1 : (("super" : Str) == fld) = false := beq_eq_false_iff_ne.mpr e1
    have b0 : (("super" : Str) == PySem.Str.ofString "self") = false := by decide +kernel
    have b2 : (("super" : Str) == PySem.Str.ofString "__class__") = false := by decide +kernel
    have b3 : (("super" : Str) == PySem.Str.ofString "super") = true := by decide +kernel
    simp only [iS, List.lookup, b0, b1, b2, b3]
  have hkc : (iS fld).names.lookup ("__class__" : Str) = some .free := by
    have e1 : ¬ ("__class__" : Str) = fld := fun z => T.fo.c z.symm
    have b1 : (("__class__" : Str) == fld) = false := beq_eq_false_iff_ne.mpr e1
    have b0 : (("__class__" : Str) == PySem.Str.ofString "self") = false := by decide +kernel
    have b2 : (("__class__" : Str) == PySem.Str.ofString "__class__") = true := by decide +kernel
    simp only [iS, List.lookup, b0, b1, b2]
  have hka : (iS fld).names.lookup ("self" : Str) = some .local := by
    have b0 : (("self" : Str) == PySem.Str.ofString "self") = true := by decide +kernel
    simp only [iS, List.lookup, b0]
  have hkf : (iS fld).names.lookup fld = some .local := by
    have b0 : (fld == PySem.Str.ofString "self") = false := beq_eq_false_iff_ne.mpr T.fo.s
    have b1 : (fld == fld) = true := beq_self_eq_true _
    simp only [iS, List.lookup, b0, b1]
  have mself : ∀ (y : Str), y = ("self" : Str) → ([(("self" : Str), Value.ref x), (fld, v)] : List (Str × Value)).reverse.lookup y = some (.ref x) := fun y e => by
    subst e
    have b1 : (("self" : Str) == fld) = false := beq_eq_false_iff_ne.mpr fun z => T.fo.s z.symm
    have b0 : (("self" : Str) == ("self" : Str)) = true := beq_self_eq_true _
    simp only [List.reverse_cons, List.reverse_nil, List.nil_append, List.cons_append, List.lookup, b1, b0]
  have mfld : ([(("self" : Str), Value.ref x), (fld, v)] : List (Str × Value)).reverse.lookup fld = some v := by
    have b1 : (fld == fld) = true := beq_self_eq_true _
    simp only [List.reverse_cons, List.reverse_nil, List.nil_append, List.cons_append, List.lookup, b1]
  refine ks_codeAny_call_defAt (fd := ksFn "__init__" qual (iA fld e.p1 e.p2) (iB fld e) (iS fld) .none .none doc pm an (.ref cda) ct cc) (binds := [("self", .ref x), (fld, v)]) hroom (X _ _ ho) rfl hlim (codeRec_of X hcd) rfl (BindsTo.of_eq (T.fo.bd _ _ _ _ _ _ _ _ _ _)) ?_ ?_ (fun h₁ hns hk => ?_) rfl rfl rfl
  · intro y hy
    have hy' : y ∈ (iS fld).names := hy
    simp only [iS, List.mem_cons, List.not_mem_nil, or_false] at hy'
    rcases hy' with rfl | rfl | rfl | rfl <;> (intro z; cases z)
  · intro y hy
    simp only [List.mem_cons, List.not_mem_nil, or_false] at hy
    rcases hy with rfl | rfl
    · exact hka
    · exact hkf
  · have X₁ : K.In h₁ := X.keeps hk
    have hC₁ : h₁.get? C = some (excClassObj nm' q C N bs bm true sn sub ab col dd k0 k1 k2 k3 k5 "ValueError.__new__") := X₁ _ _ hC
    have hx₁ := hk _ _ hx
    have I₁ : InstAt h₁ x (excO C t0) C none := ⟨hx₁, rfl, rfl, trivial⟩
    obtain ⟨mb, hb, hmb⟩ := hB
    obtain ⟨pl, he⟩ := T.fo.he (callEnv (ksFn "__init__" qual (iA fld e.p1 e.p2) (iB fld e) (iS fld) .none .none doc pm an (.ref cda) ct cc) s.heap.objs.size fI)
    refine ks_wpAt_execs_cons (ks_wpAt_Expr_any (ks_wpAt_MethodCall (pl := pl) ?_ he) rfl (T.fo.hx _ rfl))
    refine ks_wpAt_super_base (env := ksEnv qual (iS fld) s.heap.objs.size fI (.ref cda) cc) (of := ⟨oc, od, .func (ksFn "__init__" qual (iA fld e.p1 e.p2) (iB fld e) (iS fld) .none .none doc pm an (.ref cda) ct cc), osl⟩) hks hkc (by decide +kernel) rfl (X₁ _ _ ho) rfl rfl rfl (X₁ _ _ hcode) rfl hvs (beq_self_eq_true _) T.top ?_
    refine ks_loadName_global rfl hks (loadGlobal_builtin (env := ksEnv qual (iS fld) s.heap.objs.size fI (.ref cda) cc) (hG.keeps hk) T.gS (hb.keeps hk) hmb ⟨rfl, ?_⟩)
    refine wpAny_loadName_free rfl hkc rfl ⟨_, X₁ _ _ hcell, rfl⟩ ?_
    refine wpAny_loadName_local rfl hka hns (mself _ rfl) ?_
    refine ks_wpAny_isType_cls hC₁ rfl ⟨rfl, ?_⟩
    refine ks_wpAny_call_super hC₁ rfl hx₁ rfl (fun c z => nomatch z) (looks_mroIn X₁ (by unfold mroIn; rw [hcl, Option.bind_some, if_neg (by simp)]; simp)) (fun h₂ hso hk2 => ?_)
    have X₂ : K.In h₂ := X₁.keeps hk2
    have hx₂ := hk2 _ _ hx₁
    have I₂ : InstAt h₂ x (excO C t0) C none := ⟨hx₂, rfl, rfl, trivial⟩
    have hsup := T.sup
    unfold ks_superIn at hsup
    rw [hcl] at hsup
    refine kxs_getMethod kxs_ValueError hso (looks_opaque X₂ T.opq) (l₀ := .ref C :: bm) (fun A Q E s k q => wpAny_bind ((looks_clsIn X₂ hcl) A _ E s k (wpAny_pure q))) rfl X₂ hsup (I₂.type.andThen (looks_subIn X₂ T.veC)) (ks_ne X₂ I₂ hcl) (by decide +kernel) ?_
    refine mw_callWith1 (i := "ValueError.__init__") (x := x) (spliced_cons (Constant_str (k := e.k) (pos := e.q3) (spliced_nil ⟨Heap.get?_push_size _ rfl, ?_⟩)))
    refine call_mwV (C := C) (t0 := t0) (Heap.get?_push_of_some _ (X₂ _ _ hC)) (Heap.get?_push_of_some _ hx₂) (Heap.get?_push_size _ rfl) (one_size _) (fun h₄ t1 k₄ hx₄ => ?_)
    have old : ∀ b o, b ≠ x → s.heap.get? b = some o → h₄.get? b = some o := fun b o hb e => k₄ b o hb (Heap.get?_push_of_some _ (hk2 _ _ (hk _ _ e)))
    have X₄ : K.In h₄ := fun a o e => old a o (fun z => by rw [z, hnx] at e; cases e) (X a o e)
    have hLx : s.heap.objs.size ≠ x := by omega
    have hn₄ : h₄.Ns s.heap.objs.size fun y => ([(("self" : Str), Value.ref x), (fld, v)] : List (Str × Value)).reverse.lookup y := hns.at fun o q => k₄ _ o hLx (Heap.get?_push_of_some _ (hk2 _ _ q))
    refine wpAt_of_wpAny ?_
    show wpAny _ _ (execs _ _) _ _ _
    refine wpAny_execs_cons (plainObj_wpAny_Assign_Attribute ?_)
    refine wpAny_Name (wpAny_loadName_local rfl hkf hn₄ mfld ?_) T.fo.d
    refine wpAny_Name (wpAny_loadName_local rfl hka hn₄ (mself _ rfl) ?_) (by decide +kernel)
    refine set_plain X₄ (ox := excO C t1) (od := none) ⟨hx₄, rfl, rfl, trivial⟩ T.sa ?_
    refine exc_osa X₄ hx₄ hcl (show refsVE (.ref C :: bm) = true from hbm) rfl T.noN (fun h₅ tk₅ dx k₅ dn dne hx₅ hn₅ => ?_)
    show wpAny _ _ (execs _ _) _ _ _
    have z : s.heap.objs.size < h₄.objs.size := hn₄.lt
    exact wpAny_execs_nil (hq h₅ tk₅ dx t1 ⟨fun b o hb e => k₅ b o hb (old b o hb e), hx₅, Nat.le_of_lt (Nat.lt_of_lt_of_le z dn), dne, hn₅⟩)
theorem err_made (T : ErrTxt prog K mg nm qual fld e C fI) {v : Value} (X : K.In s.heap) (hlim : s.heap.NoLimit) (hG : s.heap.Ns mainGlobals mg) (hB : ∃ mb, s.heap.Ns builtinsNs mb ∧ mb "super" = some (.type "super")) (hroom : A.depth + 1 < recursionLimit)
    (hq : ∀ h' tk e d, OwnMade s.heap h' e C d fld v → R (.ok (.ret (.ref e))) { s with heap := h', toks := tk }) :
    codeAny (model prog w) A (.call (.ref C) ⟨[v], []⟩) R s := by
  obtain ⟨nm', q, N, bs, bm, sn, sub, ab, col, dd, k0, k1, k2, k3, k5, hC, hbm⟩ := T.cls
  obtain ⟨hp, g, dr, tk, os⟩ := s
  have k : ∀ b o, hp.get? b = some o → ((hp.push (kdv_tup [v])).push (excO C hp.objs.size)).get? b = some o := fun b o e => Heap.get?_push_of_some _ (Heap.get?_push_of_some _ e)
  have hget : ((hp.push (kdv_tup [v])).push (excO C hp.objs.size)).get? (hp.objs.size + 1) = some (excO C hp.objs.size) := by heap_get
  have hnx : K.lookup (hp.objs.size + 1) = none := by
    cases e : K.lookup (hp.objs.size + 1) with
    | none => rfl
    | some o =>
      have z : hp.get? (hp.objs.size + 1) = some o := X _ _ e
      exact absurd (Nat.lt_of_succ_lt (Heap.lt_size z)) (Nat.lt_irrefl _)
  obtain ⟨mb, hb, hmb⟩ := hB
  have hsz : ((hp.push (kdv_tup [v])).push (excO C hp.objs.size)).objs.size = hp.objs.size + 1 + 1 := by rw [Heap.size_push, Heap.size_push]
  refine call_own F.excBase_ValueError (fun X => refsVE_contains X bm hbm) (X _ _ hC) (looks_findIn X T.iC) (fun self => bind_fn X self T.tC) (one_size v) ?_
  refine err_init (s := ⟨(hp.push (kdv_tup [v])).push (excO C hp.objs.size), g, dr, tk, os⟩) T (X.keeps k) (hlim.keeps k) (hG.keeps k) ⟨mb, hb.keeps k, hmb⟩ hget hsz hnx (Nat.ne_of_gt (Nat.lt_succ_of_lt hG.lt)) (Nat.ne_of_gt (Nat.lt_succ_of_lt hb.lt)) ?_ fun h' tk' dx t1 ⟨k', hx, dn, dne, hns⟩ => ?_
  · show A.depth + 1 < recursionLimit
    exact hroom
  · have old : ∀ b o, hp.get? b = some o → h'.get? b = some o := fun b o e => k' b o (Nat.ne_of_lt (Nat.lt_succ_of_lt (Heap.lt_size e))) (k b o e)
    have z : hp.objs.size + 1 + 1 ≤ dx := by
      have q := dn
      rw [hsz] at q
      exact q
    exact ⟨rfl, hq h' tk' (hp.objs.size + 1) dx ⟨old, Nat.le_succ _, ⟨_, _, hx, rfl, rfl, rfl, rfl⟩, Nat.le_trans (Nat.le_trans (Nat.le_succ _) (Nat.le_succ _)) z, dne, hns⟩⟩
end
end Err1
end PySem
namespace L2
open PySem PySem.Spec PyProof.Rows
theorem relO_fld {fld : Str} {v : V} {v' : Value} (r : RelV v v') (f : Str) : RelO (List.lookup f [(fld, v)]) (if f = fld then some v' else none) := by
  by_cases hw : f = fld
  · subst hw
    rw [if_pos rfl]
    have q : List.lookup f [(f, v)] = some v := by simp [List.lookup]
    rw [q]
    exact r
  · rw [if_neg hw]
    have qw : (f == fld) = false := by simpa using hw
    have q2 : List.lookup f [(fld, v)] = none := by simp [List.lookup, qw]
    rw [q2]
    trivial
section
variable {X : Cx} {C fI : Addr} {nm qual fld : Str} {ep : PySem.Err1.EP}
/-- Name(e) -/
def tMkErr (C : Addr) (fld : Str) (ta : TA) : St → Hp → XK → Prop := fun σ H Q => ta σ H fun vs H1 => ∃ v, vs = [v] ∧ ∀ d, H1 d = none → Q (.ref C) (some d) (upd H1 d (.xd [(fld, v)]))
theorem pmk_err {a : Expr} {ta : TA} {p pos : Pos} {k : Nat} (T : PySem.Err1.ErrTxt X.prog X.K X.mg nm qual fld ep C fI) (hr : Room k X.A) (ha : PA X [a] ta) (hg : Gl X nm := by rfl) (hd : (nm == ("__debug__" : Str)) = false := by decide +kernel)
    (he : starEach (a :: []) X.env = (false, eval a X.env) :: starEach [] X.env := by rfl) (hpl : (backTo pos (starEach [] X.env)).any (·.1) = false := by rfl) :
    PMk X (.Call (.Name nm p) [a] [] pos) (tMkErr C fld ta) := by
  intro pins s σ H Q I h
  refine wpAny_Call_Name_kw (ld_glob I hg T.gC ?_ hd)
  refine PySem.W.callWith_K (h₀ := X.base) I.ok.mod.kin T.kC (thn (ha.run pos pins s σ H _ I h) fun us s1 hh => ?_) he hpl
  obtain ⟨vs, H1, I1, r1, v, ev, q1⟩ := hh
  subst ev
  refine ⟨I1.kIn, ?_⟩
  cases r1 with
  | cons rv rn =>
    rename_i v' us'
    cases rn
    show wpAny _ _ (call (.ref C) [v']) _ _ _
    have hlim := I1.nolimit
    have hG := I1.ok.mod.glob.keeps I1.bk
    have hB : ∃ mb, s1.heap.Ns builtinsNs mb ∧ mb "super" = some (.type "super") := by
      obtain ⟨mb, h1, h2⟩ := I1.ok.mod.blt
      exact ⟨mb, h1.keeps I1.bk, (h2 "super" (by decide +kernel)).trans (by decide +kernel)⟩
    obtain ⟨hp, g, dr, tk, os⟩ := s1
    refine wpAny_call (PySem.Err1.err_made T I1.kIn hlim hG hB (by have := hr.dp; omega) fun h' tk' e d M => ?_)
    show MkP X pins σ Q (.ref e) ⟨h', g, dr, tk', os⟩
    obtain ⟨oe, fv, hoe, hc, hd, hdat, h1⟩ := M.obj
    have hns := M.ns
    obtain ⟨G', g1, g2⟩ := restrict h' fun b => decide (b ≠ e)
    have gk : ∀ b, b ≠ e → G'.get? b = h'.get? b := fun b hb => g1 b (decide_eq_true hb)
    have ge : G'.get? e = none := g2 e (by simp)
    have old : ∀ b o, hp.get? b = some o → G'.get? b = some o := fun b o q => (gk b (Nat.ne_of_lt (Nat.lt_of_lt_of_le (Heap.lt_size q) M.new))).trans (M.keep b o q)
    have ob : ObjOk X.prog X.w (upd H1 d (.xd [(fld, v)])) G' d (.xd [(fld, v)]) :=
      ⟨_, hns.at (fun o q => (gk d M.dne).trans q), fun f => relO_fld rv f⟩
    have J : Inv X pins σ (upd H1 d (.xd [(fld, v)])) ⟨G', g, dr, tk', os⟩ := I1.laid (t' := tk') old M.dbig ob
    refine ⟨e, oe, fv, ⟨G', g, dr, tk', os⟩, _, .ref C, some d, rfl, J, fun b o q => ?_, ge, hoe, ⟨hc, hd⟩, hdat, h1, ?_, rfl, I1.bare, raises_own T.exC T.tyC, q1 d (I1.hok.fresh M.dbig)⟩
    · by_cases hb : b = e
      · have q' : G'.get? b = some o := q
        rw [hb, ge] at q'; cases q'
      · exact (gk b hb).symm.trans q
    · rw [upd_ne (Ne.symm M.dne)]
      exact I1.hok.fresh M.new
/-- raise Name(e) -/
def tRaiseErr (C : Addr) (fld : Str) (W : WX) (ta : TA) : TS := fun _ σ H => tMkErr C fld ta σ H fun cls d H' => W cls d σ H'
theorem ps_raiseErr {a : Expr} {ta : TA} {W : WX} {p pos pos2 : Pos} {k : Nat} (hc : X.calm = true) (T : PySem.Err1.ErrTxt X.prog X.K X.mg nm qual fld ep C fI) (hr : Room k X.A) (tk : Takes X W) (ha : PA X [a] ta) (hg : Gl X nm := by rfl) (hd : (nm == ("__debug__" : Str)) = false := by decide +kernel)
    (he : starEach (a :: []) X.env = (false, eval a X.env) :: starEach [] X.env := by rfl) (hpl : (backTo pos (starEach [] X.env)).any (·.1) = false := by rfl) :
    PS X (.Raise (some (.Call (.Name nm p) [a] [] pos)) none pos2) (tRaiseErr C fld W ta) := ps_raise hc tk (pmk_err T hr ha hg hd he hpl)
end
end L2
end

section
set_option maxRecDepth 100000
set_option maxHeartbeats 4000000
namespace KK
open PySem PySem.Spec PyProof.Rows L2
/-- a method that may raise -/
structure MetX (P : Program) (w : World) (K : PySem.W.Frag) (mg : Str → Option Value) (base : Heap) (k : Nat) (C : Addr) (m : Str) (sp : Sp) : Prop where
  ex : ∃ (f : Addr) (fd : FuncData) (ps : List Str), Cls K C ∧ Meth K C m f ∧ FnOk P w K mg base (L2.CX P w) k f fd ps sp ∧ Binds K fd ps []
theorem metX {P : Program} {w : World} {K : PySem.W.Frag} {mg : Str → Option Value} {base : Heap} {m qual : Str} {C : Addr} {st : Stmt} {N ps : List Str} {k : Nat} {sp : Sp} (c : Cls K C) (F : HasM K C m qual st) (b : ∀ f fd, Fun K m qual st f fd → Binds K fd ps []) (S : FnScope N ps (defScope st)) (len : ∀ vs H Q E, sp vs H Q E → vs.length = ps.length)
    (hbody : ∀ (f : Addr) (cdv : Value) (A : Around) (outer : List Env) (s : Shared) (H : Hp) (vs : List V) (Q : VK) (E : XK), Room k (A.deeper (envOfC qual (defScope st) s.heap.objs.size f cdv)) → sp vs H Q E →
      ∃ t, PSs (cxOf (L2.CX P w) P w K mg base N qual (defScope st) f cdv A outer s H E) (defBody st) t ∧ t { nx := fun _ H' => Q .non H', rt := Q } (start N vs) H) : MetX P w K mg base (k + 1) C m sp := by
  obtain ⟨f, fd, F, hm⟩ := F
  exact ⟨f, fd, ps, c, hm, F.okX S len (hbody f), b f fd F⟩
section
variable {X : Cx} {k j : Nat} {C : Addr} {m : Str} {sp : Sp} {e o : Expr} {es : List Expr} {ta : TE} {t : TA} {p apos pos : Pos}
theorem pe_mx {E : XK} {pl : Sem Bool} (c : MetX X.prog X.w X.K X.mg X.base k C m sp) (hr : Room j X.A) (hk : k ≤ j) (tk : Takes X (fun cls d _ H => E cls d H)) (he : PE X o ta) (ha : PA X (e :: es) t)
    (hst : starEach (e :: es) X.env = (false, eval e X.env) :: starEach es X.env := by rfl) (hpl : (backTo pos (starEach es X.env)).any (·.1) = false := by rfl)
    (ht : eval (.Call (.Attribute o m apos) (e :: es) [] pos) X.env = (do
      let ov ← eval o X.env
      standAt apos.atName
      let (f, first) ← holding [ov] (getMethod ov m pl)
      callWith pos f first (backTo pos (starEach (e :: es) X.env)) (backToKw pos (keywordEach [] X.env))) := by rfl) :
    PE X (.Call (.Attribute o m apos) (e :: es) [] pos) (tMeth C m sp [] E ta t) := by
  obtain ⟨f, fd, ps, hc, hm, F, b⟩ := c.ex
  exact pe_meth (pl := pl) he hc hm F (hr.mono hk) b .nil (passes_call tk fun _ _ _ _ h => h) ha hst hpl ht
/-- in a try's body: what it lets out may look at the slots -/
def tMethS (C : Addr) (m : Str) (sp : Sp) (E : L2.St → XK) (ta : TE) (t : TA) : TE := fun σ H Q => ta σ H fun x H1 => ∃ a dx fs, x = .ref a ∧ H1 a = some (.ins C dx fs) ∧ fs.lookup m = none ∧
  t σ H1 fun vs H2 => sp (x :: vs) H2 Q (E σ)
theorem pe_mxS {W : WX} {pl : Sem Bool} (c : MetX X.prog X.w X.K X.mg X.base k C m sp) (hr : Room j X.A) (hk : k ≤ j) (tk : Takes X W) (he : PE X o ta) (ha : PA X (e :: es) t)
    (hst : starEach (e :: es) X.env = (false, eval e X.env) :: starEach es X.env := by rfl) (hpl : (backTo pos (starEach es X.env)).any (·.1) = false := by rfl)
    (ht : eval (.Call (.Attribute o m apos) (e :: es) [] pos) X.env = (do
      let ov ← eval o X.env
      standAt apos.atName
      let (f, first) ← holding [ov] (getMethod ov m pl)
      callWith pos f first (backTo pos (starEach (e :: es) X.env)) (backToKw pos (keywordEach [] X.env))) := by rfl) :
    PE X (.Call (.Attribute o m apos) (e :: es) [] pos) (tMethS C m sp (WE W) ta t) := by
  obtain ⟨f, fd, ps, hc, hm, F, b⟩ := c.ex
  refine ⟨fun pins s σ H Q I h => ?_⟩
  refine PySem.W.methodCall_KW (pl := pl) (thn (he.run pins s σ H _ I h) fun u s1 ⟨x, H1, I1, rx, a, dx, fs, ex, ea, l, q⟩ => ?_) ht
  subst ex
  obtain rfl : u = Value.ref a := rx
  refine getmeth_ok I1 ea hc hm l ?_
  refine PySem.W.callWith_K (first := [.ref a]) (h₀ := X.base) I.ok.mod.kin hm.kp (thn (ha.run pos pins s1 σ H1 _ I1 q) fun us s2 ⟨vs, H2, I2, r, q2⟩ => ⟨I2.kIn, ?_⟩) hst hpl
  exact run_fnS (us := .ref a :: us) (vs := .ref a :: vs) F (hr.mono hk) b (passAt tk σ) I2 (.cons rfl r) q2
end
/-- asked of what is no place: NoPlace goes, its place is the value -/
def spX (K : PySem.W.Frag) (C CN : Addr) : Sp := fun vs H Q E => ∃ o dx dp tl xs ms qs us x t b, vs = [.ref o, x] ∧ WebAt H C o dx dp tl xs ms qs us ∧ TyX K H x (.type t) ∧ kitB t "str" = some b ∧
  (b = true → ∃ s, x = .str s ∧ valV (prK ms qs) (Sum.inr s : Key) = none) ∧ ∀ d, H d = none → E (.ref CN) (some d) (upd H d (.xd [("place", x)]))
section
variable {P : Program} {w : World} {K : PySem.W.Frag} {mg : Str → Option Value} {base : Heap} {C CN fN : Addr} {ep : PySem.Err1.EP}
theorem x_need (T : Blt mg) (W : WebC K mg C) (F : HasM K C "_need" "Web._need" s_Web_need) (EN : PySem.Err1.ErrTxt P K mg "NoPlace" "NoPlace.__init__" "place" ep CN fN) (CAMONG : C8.Cal P w K mg base 1 "is_among" (spAmong K) []) : MetX P w K mg base 3 C "_need" (spX K C CN) := by
  refine metX W.cl F (fun f fd F => F.binds (ps := ["self", "place"]) fun _ _ _ _ _ _ us hl => match us, hl with | [_, _], _ => rfl) scWebneed (fun vs H Q E h => ?_) (fun f cdv A outer s H vs Q E hr h => ?_)
  · obtain ⟨o, dx, dp, tl, xs, ms, qs, us, x, t, b, rfl, _⟩ := h
    rfl
  · obtain ⟨o, dx, dp, tl, xs, ms, qs, us, x, t, b, rfl, wa, ht, hb, hx, q⟩ := h
    refine ⟨_, (pss_one (ps_if (pt_not (pt_val (C8.pe_c CAMONG hr (by decide) rfl (pa_cons (pv 1) (pa_cons (pe_fld (pv 0) rfl) pa_nil))))) (pss_one (ps_raiseErr rfl EN hr (takes_of rfl rfl rfl rfl) (by exact (pa_cons (pv 1) pa_nil)))) pss_nil)), ?_⟩
    refine ⟨_, rfl, _, rfl, o, C, dx, _, _, rfl, wa.ho, W.cl, W.np, rfl, x, dp, t, b, rfl, ht, hb, fun z => ?_, fun z => ?_⟩
    · refine ⟨_, rfl, iteT ?_⟩
      exact ⟨_, rfl, _, rfl, q⟩
    · obtain ⟨s, e, hs⟩ := hx z
      refine ⟨s, e, .inr ⟨_, .of wa.hp, ?_⟩⟩
      rw [hs]
      refine ⟨_, rfl, iteT ?_⟩
      exact ⟨_, rfl, _, rfl, q⟩
theorem x_price (T : Blt mg) (W : WebC K mg C) (F : HasM K C "price" "Web.price" s_Web_price) (XNEED : MetX P w K mg base 3 C "_need" (spX K C CN)) : MetX P w K mg base 4 C "price" (spX K C CN) := by
  refine metX W.cl F (fun f fd F => F.binds (ps := ["self", "place"]) fun _ _ _ _ _ _ us hl => match us, hl with | [_, _], _ => rfl) scWebprice (fun vs H Q E h => ?_) (fun f cdv A outer s H vs Q E hr h => ?_)
  · obtain ⟨o, dx, dp, tl, xs, ms, qs, us, x, t, b, rfl, _⟩ := h
    rfl
  · obtain ⟨o, dx, dp, tl, xs, ms, qs, us, x, t, b, rfl, wa, ht, hb, hx, q⟩ := h
    have hu := hu_of hr
    refine ⟨_, (pss_cons (ps_expr (pe_mx XNEED hr (by decide) (takes_of rfl rfl rfl rfl) (pv 0) (pa_cons (pv 1) pa_nil)))
      (pss_one (ps_ret (pe_dget hu (pe_fld (pv 0) rfl) (pv 1) (fun _ _ => rfl))))), ?_⟩
    exact ⟨_, rfl, o, dx, _, rfl, wa.ho, rfl, _, rfl, o, dx, dp, tl, xs, ms, qs, us, x, t, b, rfl, wa, ht, hb, hx, q⟩
theorem x_near (T : Blt mg) (W : WebC K mg C) (F : HasM K C "near" "Web.near" s_Web_near) (XNEED : MetX P w K mg base 3 C "_need" (spX K C CN)) : MetX P w K mg base 4 C "near" (spX K C CN) := by
  refine metX W.cl F (fun f fd F => F.binds (ps := ["self", "place"]) fun _ _ _ _ _ _ us hl => match us, hl with | [_, _], _ => rfl) scWebnear (fun vs H Q E h => ?_) (fun f cdv A outer s H vs Q E hr h => ?_)
  · obtain ⟨o, dx, dp, tl, xs, ms, qs, us, x, t, b, rfl, _⟩ := h
    rfl
  · obtain ⟨o, dx, dp, tl, xs, ms, qs, us, x, t, b, rfl, wa, ht, hb, hx, q⟩ := h
    have hu := hu_of hr
    refine ⟨_, (pss_cons (ps_expr (pe_mx XNEED hr (by decide) (takes_of rfl rfl rfl rfl) (pv 0) (pa_cons (pv 1) pa_nil)))
      (pss_one (ps_ret (pe_op op_cat (pe_lc (own := [("a", 2), ("b", 3)]) (g := gTup K 2 (gCons (gName 2) (gCons (gName 3) gNil))) rfl scWebnear.nd (pi_list (pe_fld (pv 0) rfl)) (blkOk_by (own := [("a", 2), ("b", 3)]) (N := NWebnear) (sc := defScope s_Web_near) (by decide +kernel)) (fun _ _ _ _ _ => (pg_tup rfl (pgs_cons (pg_name (i := 2) scWebnear.nd rfl (Or.inl rfl)) (pgs_cons (pg_name (i := 3) scWebnear.nd rfl (Or.inl rfl)) pgs_nil)))) (fun _ _ _ _ _ => pts_one (pt_cmpR op_eq (pv 3) (pv 1) (nomark _))) (fun _ _ _ _ _ => (pv 2))) (pe_lc (own := [("a", 2), ("b", 3)]) (g := gTup K 2 (gCons (gName 2) (gCons (gName 3) gNil))) rfl scWebnear.nd (pi_list (pe_fld (pv 0) rfl)) (blkOk_by (own := [("a", 2), ("b", 3)]) (N := NWebnear) (sc := defScope s_Web_near) (by decide +kernel)) (fun _ _ _ _ _ => (pg_tup rfl (pgs_cons (pg_name (i := 2) scWebnear.nd rfl (Or.inl rfl)) (pgs_cons (pg_name (i := 3) scWebnear.nd rfl (Or.inl rfl)) pgs_nil)))) (fun _ _ _ _ _ => pts_one (pt_cmpR op_eq (pv 2) (pv 1) (nomark _))) (fun _ _ _ _ _ => (pv 3))))))), ?_⟩
    exact ⟨_, rfl, o, dx, _, rfl, wa.ho, rfl, _, rfl, o, dx, dp, tl, xs, ms, qs, us, x, t, b, rfl, wa, ht, hb, hx, q⟩
theorem x_degree (T : Blt mg) (W : WebC K mg C) (F : HasM K C "degree" "Web.degree" s_Web_degree) (XNEAR : MetX P w K mg base 4 C "near" (spX K C CN)) : MetX P w K mg base 5 C "degree" (spX K C CN) := by
  refine metX W.cl F (fun f fd F => F.binds (ps := ["self", "place"]) fun _ _ _ _ _ _ us hl => match us, hl with | [_, _], _ => rfl) scWebdegree (fun vs H Q E h => ?_) (fun f cdv A outer s H vs Q E hr h => ?_)
  · obtain ⟨o, dx, dp, tl, xs, ms, qs, us, x, t, b, rfl, _⟩ := h
    rfl
  · obtain ⟨o, dx, dp, tl, xs, ms, qs, us, x, t, b, rfl, wa, ht, hb, hx, q⟩ := h
    have hu := hu_of hr
    refine ⟨_, (pss_one (ps_ret (pe_callB call_len (by rfl) T.b_len PySem.boot_len (pa_cons (pe_mx XNEAR hr (by decide) (takes_of rfl rfl rfl rfl) (pv 0) (pa_cons (pv 1) pa_nil)) pa_nil)))), ?_⟩
    exact ⟨_, rfl, o, dx, _, rfl, wa.ho, rfl, _, rfl, o, dx, dp, tl, xs, ms, qs, us, x, t, b, rfl, wa, ht, hb, hx, q⟩
end
end KK
end

section
set_option maxRecDepth 100000
set_option maxHeartbeats 4000000
namespace KK
open PySem PySem.Spec PyProof.Rows L2
def bes1 (x : Str) (p : Str × Str) : List Str := (if p.1 = x then [p.2] else []) ++ (if p.2 = x then [p.1] else [])
def bes (ts : List (Str × Str)) (x : Str) : List Str := ts.flatMap (bes1 x)
theorem bes1_len (x : Str) (p : Str × Str) : (bes1 x p).length ≤ 2 := by
  unfold bes1
  split <;> split <;> simp
theorem bes_len (x : Str) : ∀ ts : List (Str × Str), (bes ts x).length ≤ 2 * ts.length
  | [] => Nat.le_refl _
  | p :: ts => by
    have ih := bes_len x ts
    have h := bes1_len x p
    unfold bes at ih ⊢
    rw [List.flatMap_cons, List.length_append, List.length_cons]
    omega
theorem bes_app (x : Str) (ts : List (Str × Str)) (p : Str × Str) : bes (ts ++ [p]) x = bes ts x ++ bes1 x p := by
  unfold bes
  rw [List.flatMap_append]
  show _ ++ ([p].flatMap (bes1 x)) = _
  rw [List.flatMap_cons, List.flatMap_nil, List.append_nil]
theorem ordP_cases (p : Str × Str) : ordP p = p ∨ ordP p = (p.2, p.1) := by
  unfold ordP
  split
  · exact .inr rfl
  · exact .inl rfl
theorem bes1_swap {x : Str} {p : Str × Str} (h : p.1 ≠ p.2) : bes1 x (p.2, p.1) = bes1 x p := by
  unfold bes1
  show (if p.2 = x then [p.1] else []) ++ (if p.1 = x then [p.2] else []) = _
  by_cases h1 : p.1 = x
  · have h2 : ¬ p.2 = x := fun z => h (h1.trans z.symm)
    rw [if_pos h1, if_neg h2, List.append_nil, List.nil_append]
  · rw [if_neg h1, List.append_nil, List.nil_append]
theorem bes1_ord {x : Str} {p : Str × Str} (h : p.1 ≠ p.2) : bes1 x (ordP p) = bes1 x p := by
  rcases ordP_cases p with e | e
  · rw [e]
  · rw [e, bes1_swap h]
theorem bes_ord {x : Str} : ∀ {ts : List (Str × Str)}, (∀ p ∈ ts, p.1 ≠ p.2) → bes (ts.map ordP) x = bes ts x
  | [], _ => rfl
  | p :: ts, h => by
    have ih := bes_ord (x := x) (ts := ts) fun q hq => h q (List.mem_cons_of_mem _ hq)
    unfold bes at ih ⊢
    rw [List.map_cons, List.flatMap_cons, List.flatMap_cons, ih, bes1_ord (h p List.mem_cons_self)]
theorem near_perm (x : Str) : ∀ us : List (Str × Str), (nearS us x).Perm (bes us x)
  | [] => .refl _
  | p :: us => by
    have ih := near_perm x us
    unfold nearS at ih ⊢
    unfold bes at ih ⊢
    rw [List.flatMap_cons]
    unfold bes1
    by_cases h1 : p.1 = x <;> by_cases h2 : p.2 = x
    · rw [if_pos h1, if_pos h2, List.filter_cons_of_pos (by exact decide_eq_true h2), List.filter_cons_of_pos (by exact decide_eq_true h1), List.map_cons, List.map_cons]
      have e1 : p.1 = p.2 := h1.trans h2.symm
      show (p.1 :: (_ ++ p.2 :: _)).Perm (p.2 :: p.1 :: _)
      rw [e1]
      refine .cons _ ?_
      exact (List.perm_middle).trans (.cons _ ih)
    · rw [if_pos h1, if_neg h2, List.filter_cons_of_neg (by show ¬ decide (p.2 = x) = true; rw [decide_eq_true_eq]; exact h2), List.filter_cons_of_pos (by exact decide_eq_true h1), List.map_cons]
      exact (List.perm_middle).trans (.cons _ ih)
    · rw [if_neg h1, if_pos h2, List.filter_cons_of_pos (by exact decide_eq_true h2), List.filter_cons_of_neg (by show ¬ decide (p.1 = x) = true; rw [decide_eq_true_eq]; exact h1), List.map_cons]
      exact .cons _ ih
    · rw [if_neg h1, if_neg h2, List.filter_cons_of_neg (by show ¬ decide (p.2 = x) = true; rw [decide_eq_true_eq]; exact h2), List.filter_cons_of_neg (by show ¬ decide (p.1 = x) = true; rw [decide_eq_true_eq]; exact h1)]
      exact ih
theorem bes_perm {x : Str} {us ts : List (Str × Str)} (h : us.Perm ts) : (bes us x).Perm (bes ts x) := h.flatMap_right _
theorem near_asc {x : Str} {us : List (Str × Str)} (ha : Own.AscP us) (ho : ∀ p ∈ us, Own.ltS p.1 p.2 = true) : Own.AscS (nearS us x) := by
  unfold Own.AscS nearS
  rw [List.pairwise_append]
  have ha' : us.Pairwise fun p q => Own.ltP q p = false := ha
  refine ⟨?_, ?_, ?_⟩
  · rw [List.pairwise_map]
    refine ((ha'.filter _).imp_of_mem ?_)
    intro p q hp hq h
    have hp2 : p.2 = x := of_decide_eq_true (List.mem_filter.mp hp).2
    have hq2 : q.2 = x := of_decide_eq_true (List.mem_filter.mp hq).2
    unfold Own.ltP at h
    by_cases e : q.1 = p.1
    · rw [e]
      exact Own.ltS_irr _
    · rw [if_neg e] at h
      exact h
  · rw [List.pairwise_map]
    refine ((ha'.filter _).imp_of_mem ?_)
    intro p q hp hq h
    have hp2 : p.1 = x := of_decide_eq_true (List.mem_filter.mp hp).2
    have hq2 : q.1 = x := of_decide_eq_true (List.mem_filter.mp hq).2
    unfold Own.ltP at h
    rw [if_pos (hq2.trans hp2.symm)] at h
    exact h
  · intro a haa b hb
    obtain ⟨p, hp, rfl⟩ := List.mem_map.mp haa
    obtain ⟨q, hq, rfl⟩ := List.mem_map.mp hb
    have hp2 : p.2 = x := of_decide_eq_true (List.mem_filter.mp hp).2
    have hq2 : q.1 = x := of_decide_eq_true (List.mem_filter.mp hq).2
    have h1 := ho p (List.mem_filter.mp hp).1
    have h2 := ho q (List.mem_filter.mp hq).1
    rw [hp2] at h1
    rw [hq2] at h2
    exact Own.ltS_asym (Own.ltS_trans h1 h2)
theorem ordP_lt {p : Str × Str} (h : p.1 ≠ p.2) : Own.ltS (ordP p).1 (ordP p).2 = true := by
  unfold ordP
  cases e : Own.ltS p.2 p.1 with
  | true =>
    rw [if_pos rfl]
    exact e
  | false =>
    rw [if_neg Bool.false_ne_true]
    exact (Own.ltS_tot h).resolve_right fun z => by rw [e] at z; cases z
/-- the neighbours that the web tells are the ones that the ties tell -/
theorem near_is {ns : List Str} {ts us : List (Str × Str)} {x : Str} (to : TsOk ns ts) (pu : us.Perm (ts.map ordP)) (au : Own.AscP us) : (nearS us x).Perm (bes ts x) ∧ Own.AscS (nearS us x) := by
  have hne : ∀ p ∈ ts, p.1 ≠ p.2 := fun p hp => (to.ok p hp).ne
  refine ⟨?_, near_asc au fun q hq => ?_⟩
  · have h1 := (near_perm x us).trans (bes_perm pu)
    rw [bes_ord hne] at h1
    exact h1
  · obtain ⟨p, hp, rfl⟩ := List.mem_map.mp (pu.mem_iff.mp hq)
    exact ordP_lt (hne p hp)
def upP (p : Str × Str) : Str × Str := if Own.ltS p.1 p.2 = true then p else (p.2, p.1)
theorem upP_is {p : Str × Str} (h : p.1 ≠ p.2) : upP p = ordP p := by
  unfold upP ordP
  cases e : Own.ltS p.1 p.2 with
  | true =>
    rw [if_pos rfl, Own.ltS_asym e, if_neg Bool.false_ne_true]
  | false =>
    rw [if_neg Bool.false_ne_true]
    have e2 := (Own.ltS_tot h).resolve_left fun z => by rw [e] at z; cases z
    rw [e2, if_pos rfl]
end KK
end

section
set_option maxRecDepth 100000
set_option maxHeartbeats 4000000
namespace KK
open PySem PySem.Spec PyProof.Rows L2
def spUp : Sp := fun vs H Q _ => ∃ (t : Addr) (p : Str × Str), vs = [.ref t] ∧ H t = some (.tup [.str p.1, .str p.2]) ∧ ∀ u, H u = none → Q (.ref u) (upd H u (.tup [.str (upP p).1, .str (upP p).2]))
def spCopy : Sp := fun vs H Q _ => ∃ (d : Addr) (ns : List Str) (ps : List Int), vs = [.ref d] ∧ H d = some (.dK (prK ns ps)) ∧ ns.Nodup ∧ ns.length ≤ 40 ∧ ps.length = ns.length ∧
  ∀ c H', Same H H' → H c = none → H' c = some (.dK (prK ns ps)) → Q (.ref c) H'
def beK (ns : List Str) (as : List Addr) : List (Key × V) := (ns.zip as).map fun e => (Sum.inr e.1, V.ref e.2)
/-- the dict of the neighbours' lists -/
structure BesAt (H : Hp) (d : Addr) (ns : List Str) (as : List Addr) (f : Str → List Str) : Prop where
  hd : H d = some (.dK (beK ns as))
  len : as.length = ns.length
  nd : as.Nodup
  ls : ∀ (i : Nat) (x : Str) (a : Addr), ns[i]? = some x → as[i]? = some a → H a = some (.lst ((f x).map V.str))
def spBeside : Sp := fun vs H Q _ => ∃ (pl tl : Addr) (ns : List Str) (xs : List V) (ts : List (Str × Str)), vs = [.ref pl, .ref tl] ∧ H pl = some (.tup (ns.map V.str)) ∧ H tl = some (.lst xs) ∧ Ties H xs ts ∧ NsOk ns ∧ TsOk ns ts ∧
  ∀ d as H', Same H H' → BesAt H' d ns as (bes ts) → Q (.ref d) H'
theorem beK_none {ns : List Str} {as : List Addr} {x : Str} (h : x ∉ ns) : valV (beK ns as) (Sum.inr x : Key) = none := by
  cases e : valV (beK ns as) (Sum.inr x : Key) with
  | none => rfl
  | some v =>
    unfold valV at e
    cases e2 : (beK ns as).find? (fun kv => decide (kv.1 = (Sum.inr x : Key))) with
    | none => rw [e2] at e; cases e
    | some p =>
      have hm := List.mem_of_find?_eq_some e2
      have hp := of_decide_eq_true (List.find?_some (p := fun kv : Key × V => decide (kv.1 = (Sum.inr x : Key))) e2)
      unfold beK at hm
      obtain ⟨q, hq, rfl⟩ := List.mem_map.mp hm
      have h3 : q.1 = x := Sum.inr.inj hp
      exact absurd (h3 ▸ (List.of_mem_zip hq).1) h
theorem beK_put {ns : List Str} {as : List Addr} {x : Str} {a : Addr} (hl : as.length = ns.length) (h : x ∉ ns) : putK (beK ns as) (Sum.inr x : Key) (V.ref a) = beK (ns ++ [x]) (as ++ [a]) := by
  rw [putK_new _ (beK_none h)]
  unfold beK
  rw [List.zip_append (by rw [hl]), List.map_append]
  rfl
theorem beK_some {ns : List Str} {as : List Addr} (hn : ns.Nodup) (hl : as.length = ns.length) {i : Nat} {x : Str} (h : ns[i]? = some x) : ∃ a, as[i]? = some a ∧ valV (beK ns as) (Sum.inr x : Key) = some (.ref a) := by
  induction ns generalizing as i with
  | nil => simp at h
  | cons n ns ih =>
    cases as with
    | nil => simp at hl
    | cons p as =>
      have hn' := List.nodup_cons.mp hn
      cases i with
      | zero =>
        have e : n = x := Option.some.inj h
        subst e
        refine ⟨p, rfl, ?_⟩
        unfold valV beK
        rw [List.zip_cons_cons, List.map_cons, List.find?_cons_of_pos (by exact decide_eq_true rfl)]
        rfl
      | succ i =>
        have h' : ns[i]? = some x := h
        obtain ⟨q, h1, h2⟩ := ih (as := as) (i := i) hn'.2 (by simpa using hl) h'
        refine ⟨q, h1, ?_⟩
        unfold valV beK at h2 ⊢
        rw [List.zip_cons_cons, List.map_cons, List.find?_cons_of_neg]
        · exact h2
        · show ¬ decide ((Sum.inr n : Key) = Sum.inr x) = true
          rw [decide_eq_true_eq]
          intro e
          have := Sum.inr.inj e
          subst this
          exact hn'.1 (List.mem_of_getElem? h')
/-- one list grows -/
theorem BesAt.put {H : Hp} {d : Addr} {ns : List Str} {as : List Addr} {f : Str → List Str} {i : Nat} {x y : Str} {a : Addr} (h : BesAt H d ns as f) (hn : ns.Nodup) (hx : ns[i]? = some x) (ha : as[i]? = some a) :
    BesAt (upd H a (.lst ((f x).map V.str ++ [V.str y]))) d ns as (fun z => if z = x then f z ++ [y] else f z) := by
  have e0 := h.ls i x a hx ha
  refine ⟨by rw [upd_ne (ne_of h.hd e0 (by intro z; cases z))]; exact h.hd, h.len, h.nd, fun j z b hz hb => ?_⟩
  by_cases e : z = x
  · subst e
    have ej : j = i := nd_ix hn hz hx
    subst ej
    rw [ha] at hb
    cases hb
    rw [upd_same]
    show _ = some (HO.lst (List.map V.str (if z = z then f z ++ [y] else f z)))
    rw [if_pos rfl, List.map_append]
    rfl
  · have nb : b ≠ a := fun q => by
      subst q
      have := nd_ix h.nd hb ha
      subst this
      rw [hx] at hz
      exact e (Option.some.inj hz).symm
    rw [upd_ne nb]
    show _ = some (HO.lst (List.map V.str (if z = x then f z ++ [y] else f z)))
    rw [if_neg e]
    exact h.ls j z b hz hb
theorem BesAt.same {H H' : Hp} {d : Addr} {ns : List Str} {as : List Addr} {f : Str → List Str} (h : BesAt H d ns as f) (s : Same H H') : BesAt H' d ns as f := ⟨s _ _ h.hd, h.len, h.nd, fun i x a hx ha => s _ _ (h.ls i x a hx ha)⟩
theorem BesAt.fn {H : Hp} {d : Addr} {ns : List Str} {as : List Addr} {f g : Str → List Str} (h : BesAt H d ns as f) (e : ∀ x, f x = g x) : BesAt H d ns as g := ⟨h.hd, h.len, h.nd, fun i x a hx ha => by rw [← e]; exact h.ls i x a hx ha⟩
theorem prK_at {ns : List Str} {ps : List Int} {i : Nat} {k : Key} {v : V} (h : (prK ns ps)[i]? = some (k, v)) : ∃ x p, ns[i]? = some x ∧ ps[i]? = some p ∧ k = Sum.inr x ∧ v = .int p := by
  unfold prK at h
  rw [List.getElem?_map] at h
  obtain ⟨e, he, e2⟩ := Option.map_eq_some_iff.mp h
  rw [List.getElem?_zip_eq_some] at he
  injection e2 with e3 e4
  exact ⟨e.1, e.2, he.1, he.2, e3.symm, e4.symm⟩
section
variable {P : Program} {w : World} {K : PySem.W.Frag} {mg : Str → Option Value} {base : Heap}
abbrev NLisinteger : List Str := ["_law_value"]
theorem scLisinteger : FnScope NLisinteger ["_law_value"] (defScope s_law_is_integer) := ⟨rfl, rfl, rfl, by decide +kernel, rfl, by decide +kernel, by decide +kernel⟩
theorem c_lisint (T : Blt mg) (F : Has K mg "_law_is_integer" s_law_is_integer) : C8.Cal P w K mg base 1 "_law_is_integer" (spIsInt K) [] := by
  refine calF F (fun f fd F => F.binds (ps := ["_law_value"]) fun _ _ _ _ _ _ us hl => match us, hl with | [_], _ => rfl) scLisinteger (fun vs H Q E h => ?_) (fun f cdv A outer s H vs Q E hr h => ?_)
  · obtain ⟨x, t, b1, b2, rfl, _⟩ := h
    rfl
  · obtain ⟨x, t, b1, b2, rfl, ht, h1, h2, q⟩ := h
    refine ⟨_, (pss_one (ps_ret (pe_and (pe_callB call_isi (by rfl) T.b_isinstance (by decide +kernel) (pa_cons (pv 0) (pa_cons (pe_bltn (v := .ty "int") (by rfl) T.b_int (by decide +kernel) rfl) pa_nil))) (pe_one (pe_not (pe_callB call_isi (by rfl) T.b_isinstance (by decide +kernel) (pa_cons (pv 0) (pa_cons (pe_bltn (v := .ty "bool") (by rfl) T.b_bool (by decide +kernel) rfl) pa_nil)))))))), ?_⟩
    refine ⟨_, rfl, _, _, _, _, _, rfl, .ty "int", ht, kit_ty h1, _, rfl, ?_⟩
    cases b1 with
    | false =>
      refine iteF ?_
      exact q
    | true =>
      refine iteT ?_
      exact ⟨_, rfl, _, _, _, _, _, rfl, .ty "bool", ht, kit_ty h2, _, rfl, q⟩
abbrev NLup : List Str := ["_law_pair_here"]
theorem scLup : FnScope NLup ["_law_pair_here"] (defScope s_law_up) := ⟨rfl, rfl, rfl, by decide +kernel, rfl, by decide +kernel, by decide +kernel⟩
theorem c_up (T : Blt mg) (F : Has K mg "_law_up" s_law_up) : C8.Cal P w K mg base 1 "_law_up" spUp [] := by
  refine calF F (fun f fd F => F.binds (ps := ["_law_pair_here"]) fun _ _ _ _ _ _ us hl => match us, hl with | [_], _ => rfl) scLup (fun vs H Q E h => ?_) (fun f cdv A outer s H vs Q E hr h => ?_)
  · obtain ⟨t, p, rfl, _⟩ := h
    rfl
  · obtain ⟨t, p, rfl, ht, q⟩ := h
    refine ⟨_, (pss_cons (ps_if (pt_cmpR op_lt_str (pe_ix ix_tup (pv 0) pe_int (fun _ _ => rfl)) (pe_ix ix_tup (pv 0) pe_int (fun _ _ => rfl)) (nomark _)) (pss_one (ps_ret (pe_tup (pa_cons (pe_ix ix_tup (pv 0) pe_int (fun _ _ => rfl)) (pa_cons (pe_ix ix_tup (pv 0) pe_int (fun _ _ => rfl)) pa_nil))))) pss_nil)
      (pss_one (ps_ret (pe_tup (pa_cons (pe_ix ix_tup (pv 0) pe_int (fun _ _ => rfl)) (pa_cons (pe_ix ix_tup (pv 0) pe_int (fun _ _ => rfl)) pa_nil)))))), ?_⟩
    refine ⟨_, rfl, t, _, 0, _, rfl, rfl, SqT.of ht, rfl, ?_⟩
    refine ⟨_, rfl, t, _, 1, _, rfl, rfl, SqT.of ht, rfl, ?_⟩
    refine ⟨_, _, rfl, rfl, _, rfl, ?_⟩
    unfold upP Own.ltS at q
    by_cases c : p.1.cps.toList < p.2.cps.toList
    · rw [decide_eq_true c]
      refine iteT ?_
      refine ⟨_, rfl, t, _, 0, _, rfl, rfl, SqT.of ht, rfl, ?_⟩
      refine ⟨_, rfl, t, _, 1, _, rfl, rfl, SqT.of ht, rfl, ?_⟩
      refine ⟨(show 2 ≤ sizeLine from fits (by decide)), fun u hu => ?_⟩
      have := q u hu
      rw [if_pos (decide_eq_true c)] at this
      exact this
    · rw [decide_eq_false c]
      refine iteF ?_
      refine ⟨_, rfl, t, _, 1, _, rfl, rfl, SqT.of ht, rfl, ?_⟩
      refine ⟨_, rfl, t, _, 0, _, rfl, rfl, SqT.of ht, rfl, ?_⟩
      refine ⟨(show 2 ≤ sizeLine from fits (by decide)), fun u hu => ?_⟩
      have := q u hu
      rw [if_neg (by rw [decide_eq_false c]; decide)] at this
      exact this
abbrev NLcopy : List Str := ["_law_prices", "_law_copied", "_law_place"]
theorem scLcopy : FnScope NLcopy ["_law_prices"] (defScope s_law_copy) := ⟨rfl, rfl, rfl, by decide +kernel, rfl, by decide +kernel, by decide +kernel⟩
theorem c_copy (T : Blt mg) (F : Has K mg "_law_copy" s_law_copy) : C8.Cal P w K mg base 1 "_law_copy" spCopy [] := by
  refine calF F (fun f fd F => F.binds (ps := ["_law_prices"]) fun _ _ _ _ _ _ us hl => match us, hl with | [_], _ => rfl) scLcopy (fun vs H Q E h => ?_) (fun f cdv A outer s H vs Q E hr h => ?_)
  · obtain ⟨d, ns, ps, rfl, _⟩ := h
    rfl
  · obtain ⟨d, ns, ps, rfl, hd, hn, hn2, hl, q⟩ := h
    have hu := hu_of hr
    refine ⟨_, (pss_cons (ps_set (i := 1) scLcopy.nd rfl (Or.inl rfl) pe_dnewK)
      (pss_cons (ps_lock (ps_for PassesOwn.never rfl (pi_keys (pv 0)) (pg_name (i := 2) scLcopy.nd rfl (Or.inl rfl))
        (pss_one (ps_dput hu (pv 1) (pv 2) (pe_dget hu (pv 0) (pv 2) (fun _ _ => rfl)) rfl))))
      (pss_one (ps_ret (pv 1))))), ?_⟩
    intro c hc
    have ndc : d ≠ c := ne_of_none hd hc
    refine ⟨d, .dK (prK ns ps), by rw [upd_ne ndc]; exact hd, by trivial, fun od => ?_⟩
    refine ⟨_, rfl, d, od, rfl, .inl ⟨prK ns ps, upd_same, for_it walk_keys (fun i σ H2 => ∃ v2, σ = [some (.ref d), some (.ref c), v2] ∧ But d H H2 ∧ H2 d = some (.frz od (.dK (prK ns ps))) ∧ H2 c = some (.dK (prK (ns.take i) (ps.take i))))
      ⟨_, rfl, (But.of (Same.new hc)).trans But.upd, upd_same, by rw [upd_ne ndc.symm]; exact upd_same⟩ (fun i σ H2 _ ⟨_, _, _, h, _⟩ => h) ?_ ?_⟩⟩
    · rintro i z σ H2 H3 hi ⟨v2, rfl, b2, h2, h3⟩ ⟨rfl, k, v, hk, rfl⟩
      obtain ⟨x, p, hx, hpp, rfl, rfl⟩ := prK_at hk
      obtain ⟨p', hp1, hp2⟩ := prK_some hn hl hx
      rw [hpp] at hp1
      cases hp1
      have hg : DGet H3 d (.str x) (some (.int p)) := by
        rw [← hp2]
        exact .inl ⟨_, Sum.inr x, .inr ⟨od, h2⟩, rfl, rfl⟩
      refine ⟨_, rfl, _, rfl, d, _, rfl, hg, _, rfl, _, rfl, c, _, rfl, DPut.k (k := Sum.inr x) h3 (fitsL (by rw [prK_len _ _ (by rw [List.length_take, List.length_take, hl]), List.length_take]; omega)), ?_⟩
      refine ⟨_, rfl, fun b o e n => by rw [upd_ne (ne_of_none e hc)]; exact b2 _ _ e n, by rw [upd_ne ndc]; exact h2, ?_⟩
      rw [upd_same, prK_put (by rw [List.length_take, List.length_take, hl]) (not_taken hn hx), take_more hx, take_more hpp]
    · rintro σ H2 ⟨v2, rfl, b2, h2, h3⟩
      refine ⟨h2, _, rfl, q c _ (fun b o e => ?_) hc ?_⟩
      · by_cases n : b = d
        · subst n
          rw [hd] at e
          cases e
          exact upd_same
        · rw [upd_ne n]
          exact b2 _ _ e n
      · rw [upd_ne ndc.symm]
        rw [prK_len _ _ hl, List.take_of_length_le (Nat.le_refl _), List.take_of_length_le (Nat.le_of_eq hl)] at h3
        exact h3
abbrev NLbeside : List Str := ["_law_places", "_law_ties", "_law_beside_here", "_law_place", "_law_pair_here"]
theorem scLbeside : FnScope NLbeside ["_law_places", "_law_ties"] (defScope s_law_beside) := ⟨rfl, rfl, rfl, by decide +kernel, rfl, by decide +kernel, by decide +kernel⟩
theorem c_beside (T : Blt mg) (F : Has K mg "_law_beside" s_law_beside) : C8.Cal P w K mg base 1 "_law_beside" spBeside [] := by
  refine calF F (fun f fd F => F.binds (ps := ["_law_places", "_law_ties"]) fun _ _ _ _ _ _ us hl => match us, hl with | [_, _], _ => rfl) scLbeside (fun vs H Q E h => ?_) (fun f cdv A outer s H vs Q E hr h => ?_)
  · obtain ⟨pl, tl, ns, xs, ts, rfl, _⟩ := h
    rfl
  · obtain ⟨pl, tl, ns, xs, ts, rfl, hp, ht, ti, no, to, q⟩ := h
    have hu := hu_of hr
    refine ⟨_, (pss_cons (ps_set (i := 2) scLbeside.nd rfl (Or.inl rfl) pe_dnewK)
      (pss_cons (ps_for PassesOwn.never rfl (pi_tup (pv 0)) (pg_name (i := 3) scLbeside.nd rfl (Or.inl rfl))
        (pss_one (ps_dput hu (pv 2) (pv 3) (pe_lst pa_nil) rfl)))
      (pss_cons (ps_for PassesOwn.never rfl (pi_list (pv 1)) (pg_name (i := 4) scLbeside.nd rfl (Or.inl rfl))
        (pss_cons (ps_expr (pe_bm PySem.F.plainAttrs_list PySem.F.slot_list_append PySem.F.type_list_append mt_append (pe_dget hu (pv 2) (pe_ix ix_tup (pv 4) pe_int (fun _ _ => rfl)) (fun _ _ => rfl)) (pa_cons (pe_ix ix_tup (pv 4) pe_int (fun _ _ => rfl)) pa_nil)))
      (pss_one (ps_expr (pe_bm PySem.F.plainAttrs_list PySem.F.slot_list_append PySem.F.type_list_append mt_append (pe_dget hu (pv 2) (pe_ix ix_tup (pv 4) pe_int (fun _ _ => rfl)) (fun _ _ => rfl)) (pa_cons (pe_ix ix_tup (pv 4) pe_int (fun _ _ => rfl)) pa_nil))))))
      (pss_one (ps_ret (pv 2)))))), ?_⟩
    intro d hd
    have n2 := no.hi
    have lxs := paired_len ti
    have lts := to.hi
    have ndp : pl ≠ d := ne_of_none hp hd
    refine ⟨_, rfl, pl, rfl, ⟨_, SqT.of (by rw [upd_ne ndp]; exact hp)⟩, for_tup (K := K) (a := pl) (xs := ns.map V.str) (fun i σ H2 => ∃ (v3 : Option V) (as : List Addr), σ = [some (.ref pl), some (.ref tl), some (.ref d), v3, none] ∧ Same H H2 ∧ (∀ a ∈ as, H a = none) ∧ BesAt H2 d (ns.take i) as fun _ => [])
      ⟨none, [], rfl, Same.new hd, fun a h => by simp at h, upd_same, rfl, List.nodup_nil, fun i x a h => by simp at h⟩ (fun i σ H2 _ ⟨_, _, _, s2, _⟩ => Same.seqT s2 (SqT.of hp)) ?_ ?_⟩
    · rintro i v σ H2 hi ⟨v3, as, rfl, s2, fr2, b2⟩
      obtain ⟨x, hx, rfl⟩ := strs_at hi
      refine ⟨Nat.zero_le _, fun a ha => ?_⟩
      have nda : d ≠ a := ne_of_none b2.hd ha
      have hin : i < ns.length := (List.getElem?_eq_some_iff.mp hx).1
      have hnt := not_taken no.nd hx
      have lt : (ns.take i).length = i := by rw [List.length_take]; omega
      have h1 : upd H2 a (.lst []) d = some (.dK (beK (ns.take i) as)) := by rw [upd_ne nda]; exact b2.hd
      refine ⟨_, rfl, _, rfl, d, _, rfl, DPut.k (k := Sum.inr x) h1 (fitsL (by unfold beK; rw [List.length_map, List.length_zip, b2.len, lt]; omega)), ?_⟩
      have fa : H a = none := s2.free ha
      refine ⟨_, as ++ [a], rfl, fun b o e => by rw [upd_ne (ne_of_none e hd), upd_ne (ne_of_none e fa)]; exact s2 _ _ e, fun b hb => ?_, ?_, ?_, ?_, ?_⟩
      · rcases List.mem_append.mp hb with hb | hb
        · exact fr2 b hb
        · have : b = a := by simpa using hb
          rw [this]
          exact fa
      · rw [upd_same, beK_put b2.len hnt, take_more hx]
      · rw [List.length_append, b2.len, take_more hx, List.length_append]
        rfl
      · rw [List.nodup_append]
        refine ⟨b2.nd, List.nodup_cons.mpr ⟨by simp, List.nodup_nil⟩, fun y hy z hz e => ?_⟩
        have : z = a := by simpa using hz
        subst this
        subst e
        obtain ⟨j, hj⟩ := List.getElem?_of_mem hy
        have hj1 : j < (ns.take i).length := by rw [← b2.len]; exact (List.getElem?_eq_some_iff.mp hj).1
        have := b2.ls j _ _ (List.getElem?_eq_getElem hj1) hj
        rw [ha] at this
        cases this
      · intro j z b hz hb
        have e : upd (upd H2 a (.lst [])) d (.dK (putK (beK (ns.take i) as) (Sum.inr x) (V.ref a))) b = upd H2 a (.lst []) b := by
          refine upd_ne fun q => ?_
          subst q
          by_cases hj : j < as.length
          · rw [List.getElem?_append_left hj] at hb
            have hj1 : j < (ns.take i).length := by rw [← b2.len]; exact hj
            have := b2.ls j _ _ (List.getElem?_eq_getElem hj1) hb
            rw [b2.hd] at this
            cases this
          · rw [List.getElem?_append_right (by omega)] at hb
            have : a = b := by
              cases hh : j - as.length with
              | zero => rw [hh] at hb; exact Option.some.inj hb
              | succ n => rw [hh] at hb; simp at hb
            exact nda this.symm
        rw [e]
        by_cases hba : b = a
        · rw [hba, upd_same]
          rfl
        · rw [upd_ne hba]
          by_cases hj : j < as.length
          · rw [List.getElem?_append_left hj] at hb
            rw [take_more hx, List.getElem?_append_left (by rw [← b2.len]; exact hj)] at hz
            exact b2.ls j z b hz hb
          · rw [List.getElem?_append_right (by omega)] at hb
            exfalso
            cases hh : j - as.length with
            | zero => rw [hh] at hb; exact hba (Option.some.inj hb).symm
            | succ n => rw [hh] at hb; simp at hb
    rintro σ H2 ⟨v3, as, rfl, s2, fr2, b2⟩
    rw [List.length_map, List.take_of_length_le (Nat.le_refl _)] at b2
    refine ⟨_, rfl, tl, rfl, ⟨_, SqL.of (s2 _ _ ht)⟩, for_list (K := K) (a := tl) (xs := xs) (fun i σ H3 => ∃ (v4 : Option V), σ = [some (.ref pl), some (.ref tl), some (.ref d), v3, v4] ∧ Same H H3 ∧ BesAt H3 d ns as (bes (ts.take i)))
      ⟨none, rfl, s2, b2⟩ (fun i σ H3 _ ⟨_, _, s3, _⟩ => SqL.of (s3 _ _ ht)) ?_ ?_⟩
    · rintro i v σ H3 hi ⟨v4, rfl, s3, b3⟩
      obtain ⟨p, hpp, t, rfl, htt⟩ := paired_get ti hi
      have e3 : H3 t = some (.tup [.str p.1, .str p.2]) := s3 _ _ htt
      have tok := to.ok p (List.mem_of_getElem? hpp)
      obtain ⟨i1, hi1⟩ := List.getElem?_of_mem tok.a
      obtain ⟨i2, hi2⟩ := List.getElem?_of_mem tok.b
      obtain ⟨a1, ha1, hv1⟩ := beK_some no.nd b3.len hi1
      obtain ⟨a2, ha2, hv2⟩ := beK_some no.nd b3.len hi2
      have l1 := b3.ls _ _ _ hi1 ha1
      have l2 := b3.ls _ _ _ hi2 ha2
      have k1 := bes_len p.1 (ts.take i)
      have k2 := bes_len p.2 (ts.take i)
      have lti : (ts.take i).length ≤ 400 := by rw [List.length_take]; omega
      have hg1 : DGet H3 d (.str p.1) (some (.ref a1)) := by
        rw [← hv1]
        exact DGet.k (k := Sum.inr p.1) b3.hd
      refine ⟨_, rfl, _, rfl, t, _, 0, _, rfl, rfl, SqT.of e3, rfl, d, _, rfl, hg1, .inl ⟨rfl, _, SqL.of l1⟩, ?_⟩
      refine ⟨_, rfl, t, _, 1, _, rfl, rfl, SqT.of e3, rfl, a1, _, _, rfl, rfl, l1, fitsL (by rw [List.length_map]; omega), ?_⟩
      have b4 := b3.put (y := p.2) no.nd hi1 ha1
      have nta1 : t ≠ a1 := ne_of e3 l1 (by intro z; cases z)
      have f1 := fr2 a1 (List.mem_of_getElem? ha1)
      have f2 := fr2 a2 (List.mem_of_getElem? ha2)
      have e4 : upd H3 a1 (.lst ((bes (ts.take i) p.1).map V.str ++ [V.str p.2])) t = some (.tup [.str p.1, .str p.2]) := by rw [upd_ne nta1]; exact e3
      have hg2 : DGet (upd H3 a1 (.lst ((bes (ts.take i) p.1).map V.str ++ [V.str p.2]))) d (.str p.2) (some (.ref a2)) := by
        rw [← hv2]
        exact DGet.k (k := Sum.inr p.2) b4.hd
      have l4 := b4.ls _ _ _ hi2 ha2
      rw [if_neg (fun z => tok.ne z.symm)] at l4
      refine ⟨_, rfl, _, rfl, t, _, 1, _, rfl, rfl, SqT.of e4, rfl, d, _, rfl, hg2, .inl ⟨rfl, _, SqL.of l4⟩, ?_⟩
      refine ⟨_, rfl, t, _, 0, _, rfl, rfl, SqT.of e4, rfl, a2, _, _, rfl, rfl, l4, fitsL (by rw [List.length_map]; omega), ?_⟩
      have b5 := b4.put (y := p.1) no.nd hi2 ha2
      rw [if_neg (fun z => tok.ne z.symm)] at b5
      refine ⟨_, rfl, fun b o e => by rw [upd_ne (ne_of_none e f2), upd_ne (ne_of_none e f1)]; exact s3 _ _ e, b5.fn fun x => ?_⟩
      rw [take_more hpp, bes_app]
      unfold bes1
      by_cases h1 : x = p.1
      · have h2 : ¬ x = p.2 := fun z => tok.ne (h1.symm.trans z)
        rw [if_neg h2, if_pos h1, if_pos h1.symm, if_neg (fun z => h2 z.symm), List.append_nil]
      · by_cases h2 : x = p.2
        · rw [if_pos h2, if_neg h1, if_neg (fun z => h1 z.symm), if_pos h2.symm, List.nil_append]
        · rw [if_neg h2, if_neg h1, if_neg (fun z => h1 z.symm), if_neg (fun z => h2 z.symm), List.append_nil, List.append_nil]
    · rintro σ H3 ⟨v4, rfl, s3, b3⟩
      rw [lxs, List.take_of_length_le (Nat.le_refl _)] at b3
      exact ⟨_, rfl, q d as _ s3 b3⟩
end
end KK
end

section
set_option maxRecDepth 100000
set_option maxHeartbeats 4000000
namespace KK
open PySem PySem.Spec PyProof.Rows L2
theorem strOk_name {x : Str} (h : NameOk x) : PyData.strOk x = true := by
  unfold PyData.strOk
  rw [← Array.all_toList, List.all_eq_true]
  intro c hc
  have := (h.cs c hc).2
  exact decide_eq_true (by omega)
theorem dp_strs {K : PySem.W.Frag} {H : Hp} : ∀ (ms : List Str), DpAll K H (ms.map V.str) (ms.map PyData.str)
  | [] => .nil
  | m :: ms => .cons (.str m) (dp_strs ms)
theorem lay_strs : ∀ {ms : List Str}, (∀ x ∈ ms, NameOk x) → PyData.canLayAll0 (ms.map PyData.str) = true
  | [], _ => rfl
  | m :: ms, h => by
    rw [List.map_cons, PyData.canLayAll0, lay_strs fun x hx => h x (List.mem_cons_of_mem _ hx), Bool.and_true]
    exact strOk_name (h m List.mem_cons_self)
theorem dep_strs : ∀ (ms : List Str), PyData.depthAll (ms.map PyData.str) ≤ 0
  | [] => by decide
  | m :: ms => by
    have ih := dep_strs ms
    rw [List.map_cons, PyData.depthAll]
    show max 0 _ ≤ 0
    omega
theorem shp_strs {ms : List Str} (h : ∀ x ∈ ms, NameOk x) : SeqAt.shaped (.list (ms.map PyData.str)) = true := by
  unfold SeqAt.shaped
  rw [Bool.and_eq_true]
  refine ⟨lay_strs h, decide_eq_true ?_⟩
  have := dep_strs ms
  show PyData.depthAll _ + 1 ≤ 64
  omega
abbrev tieD (p : Str × Str) : PyData := .tuple [.str p.1, .str p.2]
theorem dp_ties {K : PySem.W.Frag} {H : Hp} : ∀ {xs : List V} {us : List (Str × Str)}, Ties H xs us → DpAll K H xs (us.map tieD)
  | _, _, .nil => .nil
  | _, _, .cons r t => by
    obtain ⟨a, rfl, h⟩ := r
    exact .cons (.tup (SqT.of h) (.cons (.str _) (.cons (.str _) .nil))) (dp_ties t)
theorem lay_ties : ∀ {us : List (Str × Str)}, (∀ p ∈ us, NameOk p.1 ∧ NameOk p.2) → PyData.canLayAll0 (us.map tieD) = true
  | [], _ => rfl
  | p :: us, h => by
    rw [List.map_cons, PyData.canLayAll0, lay_ties fun x hx => h x (List.mem_cons_of_mem _ hx), Bool.and_true]
    have h1 := h p List.mem_cons_self
    show PyData.canLayAll0 [.str p.1, .str p.2] = true
    rw [PyData.canLayAll0, PyData.canLayAll0, PyData.canLayAll0, Bool.and_true]
    show (PyData.strOk p.1 && PyData.strOk p.2) = true
    rw [strOk_name h1.1, strOk_name h1.2]
    rfl
theorem dep_ties : ∀ (us : List (Str × Str)), PyData.depthAll (us.map tieD) ≤ 1
  | [] => by decide
  | p :: us => by
    have ih := dep_ties us
    rw [List.map_cons, PyData.depthAll]
    show max 1 _ ≤ 1
    omega
theorem shp_ties {us : List (Str × Str)} (h : ∀ p ∈ us, NameOk p.1 ∧ NameOk p.2) : SeqAt.shaped (.list (us.map tieD)) = true := by
  unfold SeqAt.shaped
  rw [Bool.and_eq_true]
  refine ⟨lay_ties h, decide_eq_true ?_⟩
  have := dep_ties us
  show PyData.depthAll _ + 1 ≤ 64
  omega
/-- two lists with the same texts -/
theorem ne_strs {K : PySem.W.Frag} {H : Hp} {a b : Addr} {ms : List Str} {Q : VK} (ha : H a = some (.lst (ms.map V.str))) (hb : H b = some (.lst (ms.map V.str))) (hn : ∀ x ∈ ms, NameOk x) (q : Q (.bl false) H) : rNeD K (.ref a) (.ref b) H Q := by
  refine ⟨_, _, .lst (SqL.of ha) (dp_strs ms), .lst (SqL.of hb) (dp_strs ms), shp_strs hn, shp_strs hn, ?_⟩
  rw [SeqAt.eqv_refl _ (SeqAt.canLay_of_shaped (shp_strs hn))]
  exact q
theorem ne_ties {K : PySem.W.Frag} {H : Hp} {a b : Addr} {xs ys : List V} {us : List (Str × Str)} {Q : VK} (ha : H a = some (.lst xs)) (hb : H b = some (.lst ys)) (ta : Ties H xs us) (tb : Ties H ys us) (hn : ∀ p ∈ us, NameOk p.1 ∧ NameOk p.2) (q : Q (.bl false) H) : rNeD K (.ref a) (.ref b) H Q := by
  refine ⟨_, _, .lst (SqL.of ha) (dp_ties ta), .lst (SqL.of hb) (dp_ties tb), shp_ties hn, shp_ties hn, ?_⟩
  rw [SeqAt.eqv_refl _ (SeqAt.canLay_of_shaped (shp_ties hn))]
  exact q
end KK
end

section
set_option maxRecDepth 100000
set_option maxHeartbeats 4000000
namespace KK
open PySem PySem.Spec PyProof.Rows L2
def spWebIs (C : Addr) : Sp := fun vs H Q _ => ∃ (o dx dp tl : Addr) (ys : List V) (ms : List Str) (qs : List Int) (us : List (Str × Str)) (r pl tl0 d0 : Addr) (ns : List Str) (ps : List Int) (xs : List V) (ts : List (Str × Str)),
  vs = [.ref o, .ref r] ∧ WebAt H C o dx dp tl ys ms qs us ∧ PartsAt H r pl tl0 d0 ns ps xs ts ∧ WebOk ns ps ts ms qs us ∧ ∀ H', Same H H' → Q (.bl true) H'
theorem sUpd {H H' : Hp} {p : Addr} {o : HO} (s : Same H H') (h : H p = none) : Same H (L2.upd H' p o) := fun b z e => by
  rw [upd_ne (ne_of_none e h)]
  exact s _ _ e
theorem sNew {H H' : Hp} {p : Addr} {o : HO} (s : Same H H') (h : H' p = none) : Same H (L2.upd H' p o) := sUpd s (s.free h)
theorem bes_mem {ts : List (Str × Str)} {x y : Str} (h : y ∈ bes ts x) : ∃ p ∈ ts, y = p.1 ∨ y = p.2 := by
  unfold bes at h
  obtain ⟨p, hp, hy⟩ := List.mem_flatMap.mp h
  refine ⟨p, hp, ?_⟩
  unfold bes1 at hy
  rcases List.mem_append.mp hy with hy | hy
  · by_cases c : p.1 = x
    · rw [if_pos c] at hy
      exact .inr (by simpa using hy)
    · rw [if_neg c] at hy
      simp at hy
  · by_cases c : p.2 = x
    · rw [if_pos c] at hy
      exact .inl (by simpa using hy)
    · rw [if_neg c] at hy
      simp at hy
section
variable {P : Program} {w : World} {K : PySem.W.Frag} {mg : Str → Option Value} {base : Heap} {C : Addr}
abbrev NLwebis : List Str := ["_law_web_here", "_law_parts_here", "_law_told", "_law_pairs", "_law_beside_here", "_law_place", "_law_pair_here"]
theorem scLwebis : FnScope NLwebis ["_law_web_here", "_law_parts_here"] (defScope s_law_web_is) := ⟨rfl, rfl, rfl, by decide +kernel, rfl, by decide +kernel, by decide +kernel⟩
theorem c_webis (T : Blt mg) (F : Has K mg "_law_web_is" s_law_web_is) (CPLACES : C8.Met P w K mg base 1 C "places" (spPlaces C) []) (CTIES : C8.Met P w K mg base 1 C "ties" (spTies C) []) (CLEN : C8.Met P w K mg base 1 C "__len__" (spLen C) [])
    (CHAS : C8.Met P w K mg base 2 C "__contains__" (spHas K C) []) (CPRICE : C8.Met P w K mg base 3 C "price" (spPrice C) []) (CNEAR : C8.Met P w K mg base 3 C "near" (spNear C) []) (CDEGREE : C8.Met P w K mg base 4 C "degree" (spDeg C) [])
    (CLISINT : C8.Cal P w K mg base 1 "_law_is_integer" (spIsInt K) []) (CUP : C8.Cal P w K mg base 1 "_law_up" spUp []) (CBESIDE : C8.Cal P w K mg base 1 "_law_beside" spBeside []) : C8.Cal P w K mg base 5 "_law_web_is" (spWebIs C) [] := by
  refine calF F (fun f fd F => F.binds (ps := ["_law_web_here", "_law_parts_here"]) fun _ _ _ _ _ _ us hl => match us, hl with | [_, _], _ => rfl) scLwebis (fun vs H Q E h => ?_) (fun f cdv A outer s H vs Q E hr h => ?_)
  · obtain ⟨o, dx, dp, tl, ys, ms, qs, us, r, pl, tl0, d0, ns, ps, xs, ts, rfl, _⟩ := h
    rfl
  · obtain ⟨o, dx, dp, tl, ys, ms, qs, us, r, pl, tl0, d0, ns, ps, xs, ts, rfl, wa, pa, wo, q⟩ := h
    have hu := hu_of hr
    obtain ⟨fL, fdL, psL, dsL, clL, LENm, LENF, LENb, vL⟩ := CLEN.ex
    cases vL
    obtain ⟨fI, fdI, psI, dsI, clI, INm, INF, INb, vI⟩ := CHAS.ex
    cases vI
    refine ⟨_, (pss_cons (ps_set (i := 2) scLwebis.nd rfl (Or.inl rfl) (C8.pe_mt0 CPLACES hr (by decide) (pv 0)))
      (pss_cons (ps_if (PW.pt (pw_or (pt_not (pt_val (pe_callB call_isi (by rfl) T.b_isinstance (by decide +kernel) (pa_cons (pv 2) (pa_cons (pe_bltn (v := .ty "list") (by rfl) T.b_list (by decide +kernel) rfl) pa_nil))))) (pw_or (pt_cmpR (op_neD hr.units) (pv 2) (pe_callB Own.cr_sortS (by rfl) T.b_sorted (by decide +kernel) (pa_cons (pe_ix ix_list (pv 1) pe_int (fun _ _ => rfl)) pa_nil)) (nomark _)) (pw_or1 (pt_cmpR op_ne (pe_callB (Own.call_lenO LENm LENF (hr.mono (by decide)) LENb) (by rfl) T.b_len PySem.boot_len (pa_cons (pv 0) pa_nil)) (pe_callB call_len (by rfl) T.b_len PySem.boot_len (pa_cons (pe_ix ix_list (pv 1) pe_int (fun _ _ => rfl)) pa_nil)) (nomark _)))))) (pss_one (ps_ret pe_bl)) pss_nil)
      (pss_cons (ps_expr (pe_bm0 PySem.F.plainAttrs_list PySem.F.slot_list_clear PySem.F.type_list_clear mt_clear (pv 2)))
      (pss_cons (ps_set (i := 3) scLwebis.nd rfl (Or.inl rfl) (C8.pe_mt0 CTIES hr (by decide) (pv 0)))
      (pss_cons (ps_if (PW.pt (pw_or (pt_not (pt_val (pe_callB call_isi (by rfl) T.b_isinstance (by decide +kernel) (pa_cons (pv 3) (pa_cons (pe_bltn (v := .ty "list") (by rfl) T.b_list (by decide +kernel) rfl) pa_nil))))) (pw_or1 (pt_cmpR (op_neD hr.units) (pv 3) (pe_callB Own.cr_sortT (by rfl) T.b_sorted (by decide +kernel) (pa_cons (pe_lc (own := [("_law_pair_here", 6)]) (g := gName 6) (tt := tYes) rfl scLwebis.nd (pi_list (pe_ix ix_list (pv 1) pe_int (fun _ _ => rfl))) (blkOk_by (own := [("_law_pair_here", 6)]) (N := NLwebis) (sc := defScope s_law_web_is) (by decide +kernel)) (fun _ _ _ _ _ => (pg_name (i := 6) scLwebis.nd rfl (Or.inl rfl))) (fun _ _ _ _ _ => pts_nil) (fun _ _ _ _ _ => (C8.pe_c CUP hr (by decide) rfl (pa_cons (pv 6) pa_nil)))) pa_nil)) (nomark _))))) (pss_one (ps_ret pe_bl)) pss_nil)
      (pss_cons (ps_expr (pe_bm0 PySem.F.plainAttrs_list PySem.F.slot_list_clear PySem.F.type_list_clear mt_clear (pv 3)))
      (pss_cons (ps_set (i := 4) scLwebis.nd rfl (Or.inl rfl) (C8.pe_c CBESIDE hr (by decide) rfl (pa_cons (pe_ix ix_list (pv 1) pe_int (fun _ _ => rfl)) (pa_cons (pe_ix ix_list (pv 1) pe_int (fun _ _ => rfl)) pa_nil))))
      (pss_cons (ps_for PassesOwn.never rfl (pi_tup (pe_ix ix_list (pv 1) pe_int (fun _ _ => rfl))) (pg_name (i := 5) scLwebis.nd rfl (Or.inl rfl))
        (pss_cons (ps_set (i := 2) scLwebis.nd rfl (Or.inl rfl) (C8.pe_mt CNEAR hr (by decide) (pv 0) (pa_cons (pv 5) pa_nil)))
      (pss_cons (ps_if (PW.pt (pw_or (pt_not (pt_val (pe_callB call_isi (by rfl) T.b_isinstance (by decide +kernel) (pa_cons (pv 2) (pa_cons (pe_bltn (v := .ty "list") (by rfl) T.b_list (by decide +kernel) rfl) pa_nil))))) (pw_or1 (pt_cmpR (op_neD hr.units) (pv 2) (pe_callB Own.cr_sortS (by rfl) T.b_sorted (by decide +kernel) (pa_cons (pe_dget hu (pv 4) (pv 5) (fun _ _ => rfl)) pa_nil)) (nomark _))))) (pss_one (ps_ret pe_bl)) pss_nil)
      (pss_cons (ps_expr (pe_bm0 PySem.F.plainAttrs_list PySem.F.slot_list_clear PySem.F.type_list_clear mt_clear (pv 2)))
      (pss_cons (ps_if (PW.pt (pw_or (pt_not (pt_val (C8.pe_c CLISINT hr (by decide) rfl (pa_cons (C8.pe_mt CDEGREE hr (by decide) (pv 0) (pa_cons (pv 5) pa_nil)) pa_nil)))) (pw_or1 (pt_cmpR op_ne (C8.pe_mt CDEGREE hr (by decide) (pv 0) (pa_cons (pv 5) pa_nil)) (pe_callB call_len (by rfl) T.b_len PySem.boot_len (pa_cons (pe_dget hu (pv 4) (pv 5) (fun _ _ => rfl)) pa_nil)) (nomark _))))) (pss_one (ps_ret pe_bl)) pss_nil)
      (pss_cons (ps_if (PW.pt (pw_or (pt_not (pt_val (C8.pe_c CLISINT hr (by decide) rfl (pa_cons (C8.pe_mt CPRICE hr (by decide) (pv 0) (pa_cons (pv 5) pa_nil)) pa_nil)))) (pw_or1 (pt_cmpR op_ne (C8.pe_mt CPRICE hr (by decide) (pv 0) (pa_cons (pv 5) pa_nil)) (pe_dget hu (pe_ix ix_list (pv 1) pe_int (fun _ _ => rfl)) (pv 5) (fun _ _ => rfl)) (nomark _))))) (pss_one (ps_ret pe_bl)) pss_nil)
      (pss_one (ps_if (pt_cmpR (Own.op_notInO INm INF (hr.mono (by decide)) INb) (pv 5) (pv 0) (by rfl)) (pss_one (ps_ret pe_bl)) pss_nil))))))))
      (pss_one (ps_ret pe_bl)))))))))), ?_⟩
    have n2 := pa.no.hi
    have lms : ms.length = ns.length := wo.pm.length_eq
    have lxs := paired_len pa.ti
    have lts := pa.to.hi
    have nok : ∀ x ∈ ms, NameOk x := fun x hx => pa.no.ok x (wo.pm.mem_iff.mp hx)
    have uok : ∀ p ∈ us, NameOk p.1 ∧ NameOk p.2 := fun p hp => by
      obtain ⟨z, hz, rfl⟩ := List.mem_map.mp (wo.pu.mem_iff.mp hp)
      have := pa.to.ok z hz
      have h1 := pa.no.ok _ this.a
      have h2 := pa.no.ok _ this.b
      rcases ordP_cases z with e | e
      · rw [e]
        exact ⟨h1, h2⟩
      · rw [e]
        exact ⟨h2, h1⟩
    have lus : us.length = ts.length := by rw [wo.pu.length_eq, List.length_map]
    refine ⟨_, rfl, o, dx, _, rfl, wa.ho, rfl, o, dx, dp, tl, ys, ms, qs, us, rfl, wa, wo.ql, fun p hp => ?_⟩
    have S1 : Same H (upd H p (.lst (ms.map V.str))) := Same.new hp
    refine ⟨_, rfl, _, _, _, _, _, rfl, .ty "list", .base (.lst upd_same), kit_ty (b := "list") (r := true) (by decide +kernel), _, rfl, iteF ?_⟩
    refine ⟨_, rfl, _, rfl, r, _, 0, _, rfl, rfl, SqL.of (S1 _ _ pa.hr), rfl, pl, ns, rfl, .inr (SqT.of (S1 _ _ pa.hp)), fun zs p2 hz az hp2 => ?_⟩
    have ez : zs = ms := Own.asc_uniqS (hz.trans wo.pm.symm) az wo.am
    subst ez
    have S2 := sNew S1 (o := .lst (zs.map V.str)) hp2
    have np2 : p ≠ p2 := ne_of_none upd_same hp2
    refine ne_strs (by rw [upd_ne np2]; exact upd_same) upd_same nok ⟨_, rfl, iteF ?_⟩
    refine ⟨_, rfl, o, dx, _, rfl, S2 _ _ wa.ho, o, dx, dp, tl, ys, zs, qs, us, rfl, wa.same S2, wo.ql, _, rfl, by omega, by omega, ?_⟩
    refine ⟨_, rfl, r, _, 0, _, rfl, rfl, SqL.of (S2 _ _ pa.hr), rfl, _, _, rfl, .inr ⟨_, SqT.of (S2 _ _ pa.hp), rfl⟩, rfl, ?_⟩
    rw [List.length_map, lms, decide_eq_true rfl]
    refine ⟨_, rfl, iteF ?_⟩
    have ep : upd (upd H p (.lst (zs.map V.str))) p2 (.lst (zs.map V.str)) p = some (.lst (zs.map V.str)) := by rw [upd_ne np2]; exact upd_same
    refine ⟨_, rfl, .inl ⟨rfl, _, SqL.of ep⟩, p, _, rfl, rfl, ep, ?_⟩
    have S3 := sUpd S2 (o := .lst []) hp
    generalize upd (upd (upd H p (.lst (zs.map V.str))) p2 (.lst (zs.map V.str))) p (.lst []) = H3 at S3
    have wa3 := wa.same S3
    refine ⟨_, rfl, o, dx, _, rfl, wa3.ho, rfl, o, dx, dp, tl, ys, zs, qs, us, rfl, wa3, fun p3 hp3 => ?_⟩
    have S4 := sNew S3 (o := .lst ys) hp3
    refine ⟨_, rfl, _, _, _, _, _, rfl, .ty "list", .base (.lst upd_same), kit_ty (b := "list") (r := true) (by decide +kernel), _, rfl, iteF ?_⟩
    refine ⟨_, rfl, _, rfl, r, _, 1, _, rfl, rfl, SqL.of (S4 _ _ pa.hr), rfl, tl0, rfl, ⟨_, SqL.of (S4 _ _ pa.ht)⟩, fun D hD => lc_it (walk_list (K := K) (a := tl0) (xs := xs)) (fun i H5 => ∃ zz, Same (upd H3 p3 (.lst ys)) H5 ∧ H5 D = some (.lst zz) ∧ Ties H5 zz ((ts.map ordP).take i))
        ⟨[], Same.new hD, upd_same, .nil⟩ (fun i H5 _ ⟨_, h, _⟩ => SqL.of (h _ _ (S4 _ _ pa.ht))) ?_ ?_⟩
    · rintro i v H5 H6 hi ⟨zz, s5, h6, t6⟩ ⟨rfl, hx⟩
      obtain ⟨pp, hpp, t, rfl, htt⟩ := paired_get pa.ti hx
      have hne := (pa.to.ok pp (List.mem_of_getElem? hpp)).ne
      refine ⟨rfl, ?_⟩
      refine iteT (B := False) ?_
      refine ⟨_, rfl, t, pp, rfl, s5 _ _ (S4 _ _ htt), fun u hu5 => ?_⟩
      rw [upP_is hne]
      have nDu : D ≠ u := ne_of_none h6 hu5
      have s6 := s5.trans (Same.new (o := .tup [.str (ordP pp).1, .str (ordP pp).2]) hu5)
      refine ⟨zz, by rw [upd_ne nDu]; exact h6, fitsL (by rw [paired_len t6, List.length_take, List.length_map]; omega), _, fun b z e => by rw [upd_ne (ne_of_none e hD)]; exact s6 _ _ e, upd_same, ?_⟩
      have hop : (ts.map ordP)[i]? = some (ordP pp) := by rw [List.getElem?_map, hpp] <;> rfl
      rw [take_more hop]
      have t7 := t6.same (Same.new (o := .tup [.str (ordP pp).1, .str (ordP pp).2]) hu5)
      have t8 : Ties _ (zz ++ [V.ref u]) _ := paired_app t7 (.cons ⟨u, rfl, upd_same⟩ .nil)
      exact t8.upd fun z l e => ne_of e (by rw [upd_ne nDu]; exact h6) (by intro z; cases z)
    rintro H5 ⟨zz, s5, h6, t6⟩
    rw [List.take_of_length_le (by rw [List.length_map]; omega)] at t6
    have hall : ∀ x ∈ zz, ∃ t a b, x = V.ref t ∧ H5 t = some (.tup [.str a, .str b]) := fun x hx => by
      obtain ⟨i, hi⟩ := List.getElem?_of_mem hx
      obtain ⟨pp, _, t, e, h⟩ := paired_get t6 hi
      exact ⟨t, _, _, e, h⟩
    refine ⟨D, zz, rfl, .inl (SqL.of h6), hall, fun zs2 p4 hzp hza hp4 => ?_⟩
    have S5 := S4.trans s5
    have S6 := sNew S5 (o := .lst zs2) hp4
    have eus : zs2.map (Own.tieV H5) = us := by
      refine Own.asc_uniqP (List.Perm.trans ?_ wo.pu.symm) hza wo.au
      rw [← ties_tieV t6]
      exact hzp.map _
    have tz : Ties H5 zs2 us := by
      rw [← eus]
      exact ties_of fun x hx => hall x (hzp.mem_iff.mp hx)
    have e3 : upd H5 p4 (.lst zs2) p3 = some (.lst ys) := by
      rw [upd_ne (ne_of_none (s5 _ _ upd_same) hp4)]
      exact s5 _ _ upd_same
    refine ne_ties e3 upd_same (wa.ti.same S6) (tz.same (Same.new hp4)) uok ⟨_, rfl, iteF ?_⟩
    refine ⟨_, rfl, .inl ⟨rfl, _, SqL.of e3⟩, p3, _, rfl, rfl, e3, ?_⟩
    have S7 := sUpd S6 (o := .lst []) (S3.free hp3)
    generalize upd (upd H5 p4 (.lst zs2)) p3 (.lst []) = H7 at S7
    refine ⟨_, rfl, r, _, 0, _, rfl, rfl, SqL.of (S7 _ _ pa.hr), rfl, _, rfl, r, _, 1, _, rfl, rfl, SqL.of (S7 _ _ pa.hr), rfl, pl, tl0, ns, xs, ts, rfl, S7 _ _ pa.hp, S7 _ _ pa.ht, pa.ti.same S7, pa.no, pa.to, fun d as H8 s8 b8 => ?_⟩
    have S8 := S7.trans s8
    have wa8 := wa.same S8
    refine ⟨_, rfl, r, _, 0, _, rfl, rfl, SqL.of (S8 _ _ pa.hr), rfl, pl, rfl, ⟨_, SqT.of (S8 _ _ pa.hp)⟩, for_tup (K := K) (a := pl) (xs := ns.map V.str) (fun i σ H9 => ∃ (v2 v5 : Option V), σ = [some (.ref o), some (.ref r), v2, some (.ref p3), some (.ref d), v5, none] ∧ Same H8 H9)
      ⟨_, _, rfl, Same.refl H8⟩ (fun i σ H9 _ ⟨_, _, _, s9⟩ => SqT.of (s9 _ _ (S8 _ _ pa.hp))) ?_ ?_⟩
    · rintro i v σ H9 hi ⟨v2, v5, rfl, s9⟩
      obtain ⟨x, hx, rfl⟩ := strs_at hi
      obtain ⟨pr, hpr1, hpr2⟩ := prK_some pa.no.nd pa.pl hx
      have hxm := List.mem_of_getElem? hx
      have hpr3 : valV (prK zs qs) (Sum.inr x : Key) = some (.int pr) := (wo.pq x hxm).trans hpr2
      obtain ⟨a, ha, hva⟩ := beK_some pa.no.nd b8.len hx
      have la := b8.ls _ _ _ hx ha
      have S9 := S8.trans s9
      have wa9 := wa.same S9
      obtain ⟨hnp, hna⟩ := near_is (x := x) pa.to wo.pu wo.au
      have nnok : ∀ y ∈ nearS us x, NameOk y := fun y hy => by
        obtain ⟨z, hz, e⟩ := bes_mem (hnp.mem_iff.mp hy)
        have h := pa.to.ok z hz
        rcases e with rfl | rfl
        · exact pa.no.ok _ h.a
        · exact pa.no.ok _ h.b
      have hg : ∀ G, Same H8 G → DGet G d (.str x) (some (.ref a)) := fun G sg => by
        rw [← hva]
        exact DGet.k (k := Sum.inr x) (sg _ _ b8.hd)
      refine ⟨_, rfl, o, dx, _, rfl, wa9.ho, rfl, _, rfl, o, dx, dp, tl, ys, zs, qs, us, x, pr, rfl, wa9, hpr3, by omega, fun p5 H10 s10 hp5 h10 => ?_⟩
      have S10 := s9.trans s10
      refine ⟨_, rfl, _, _, _, _, _, rfl, .ty "list", .base (.lst h10), kit_ty (b := "list") (r := true) (by decide +kernel), _, rfl, iteF ?_⟩
      refine ⟨_, rfl, _, rfl, _, rfl, d, _, rfl, hg _ S10, a, bes ts x, rfl, .inl (SqL.of (S10 _ _ la)), fun ws p6 hw aw hp6 => ?_⟩
      have ews : ws = nearS us x := Own.asc_uniqS (hw.trans hnp.symm) aw hna
      subst ews
      have np6 : p5 ≠ p6 := ne_of_none h10 hp6
      have S11 := sNew S10 (o := .lst ((nearS us x).map V.str)) hp6
      have h11 : upd H10 p6 (.lst ((nearS us x).map V.str)) p5 = some (.lst ((nearS us x).map V.str)) := by rw [upd_ne np6]; exact h10
      refine ne_strs h11 upd_same nnok ⟨_, rfl, iteF ?_⟩
      refine ⟨_, rfl, .inl ⟨rfl, _, SqL.of h11⟩, p5, _, rfl, rfl, h11, ?_⟩
      have S12 := sUpd S11 (o := .lst []) (s9.free hp5)
      generalize upd (upd H10 p6 (.lst ((nearS us x).map V.str))) p5 (.lst []) = H12 at S12
      have wa12 := wa8.same S12
      refine ⟨_, rfl, o, dx, _, rfl, wa12.ho, rfl, _, rfl, o, dx, dp, tl, ys, zs, qs, us, x, pr, rfl, wa12, hpr3, by omega, fun H13 s13 => ?_⟩
      have S13 := S12.trans s13
      refine ⟨_, "int", true, false, rfl, .base (.int _), by decide +kernel, by decide +kernel, _, rfl, iteF ?_⟩
      have wa13 := wa8.same S13
      refine ⟨_, rfl, o, dx, _, rfl, wa13.ho, rfl, _, rfl, o, dx, dp, tl, ys, zs, qs, us, x, pr, rfl, wa13, hpr3, by omega, fun H14 s14 => ?_⟩
      have S14 := S13.trans s14
      have wa14 := wa8.same S14
      refine ⟨_, rfl, _, rfl, d, _, rfl, hg _ S14, _, _, rfl, .inl ⟨_, SqL.of (S14 _ _ la), rfl⟩, rfl, ?_⟩
      rw [List.length_map, hnp.length_eq, decide_eq_true rfl]
      refine ⟨_, rfl, iteF ?_⟩
      refine ⟨_, rfl, o, dx, _, rfl, wa14.ho, rfl, _, rfl, o, dx, dp, tl, ys, zs, qs, us, x, pr, rfl, wa14, hpr3, ?_⟩
      refine ⟨_, "int", true, false, rfl, .base (.int _), by decide +kernel, by decide +kernel, _, rfl, iteF ?_⟩
      refine ⟨_, rfl, o, dx, _, rfl, wa14.ho, rfl, _, rfl, o, dx, dp, tl, ys, zs, qs, us, x, pr, rfl, wa14, hpr3, ?_⟩
      have hg0 : DGet H14 d0 (.str x) (some (.int pr)) := by
        rw [← hpr2]
        exact DGet.k (k := Sum.inr x) (S14 _ _ (S8 _ _ pa.hd))
      refine ⟨_, rfl, r, _, 2, _, rfl, rfl, SqL.of (S14 _ _ (S8 _ _ pa.hr)), rfl, _, rfl, d0, _, rfl, hg0, rfl, ?_⟩
      rw [decide_eq_true rfl]
      refine ⟨_, rfl, iteF ?_⟩
      refine ⟨_, rfl, _, rfl, o, dx, _, rfl, wa14.ho, o, dx, dp, tl, ys, zs, qs, us, .str x, "str", true, rfl, wa14, .base (.str x), by decide +kernel, fun z => (by cases z), fun _ => ⟨x, rfl, _, rfl, ?_⟩⟩
      rw [hpr3]
      refine ⟨_, rfl, iteF ?_⟩
      exact ⟨_, _, rfl, S14⟩
    · rintro σ H9 ⟨v2, v5, rfl, s9⟩
      exact q H9 (S8.trans s9)
end
end KK
end

section
set_option maxRecDepth 100000
set_option maxHeartbeats 4000000
namespace KK
open PySem PySem.Spec PyProof.Rows L2
/-- a value that is equal to itself, however it is compared -/
inductive SelfEq (H : Hp) : V → Prop where
  | scal {x : V} (h : L2.scal x x = true) : SelfEq H x
  | lst {a : Addr} {ns : List Str} (h : H a = some (.lst (ns.map V.str))) (o : ∀ x ∈ ns, PyData.strOk x = true) : SelfEq H (.ref a)
  | tup {a : Addr} {ns : List Str} (h : H a = some (.tup (ns.map V.str))) (o : ∀ x ∈ ns, PyData.strOk x = true) : SelfEq H (.ref a)
  | dK {a : Addr} {kvs : List (Key × V)} (h : H a = some (.dK kvs)) (nd : (kvs.map (·.1)).Nodup) (l : kvs.length ≤ 10) (o : ∀ p ∈ kvs, valV kvs p.1 = some p.2 ∧ flatB p.2 = true) : SelfEq H (.ref a)
theorem SelfEq.same {H H' : Hp} {x : V} (h : SelfEq H x) (s : Same H H') : SelfEq H' x := by
  cases h with
  | scal h => exact .scal h
  | lst h o => exact .lst (s _ _ h) o
  | tup h o => exact .tup (s _ _ h) o
  | dK h nd l o => exact .dK (s _ _ h) nd l o
/-- no place of any web -/
structure NotPl (K : PySem.W.Frag) (H : Hp) (ms : List Str) (x : V) : Prop where
  ex : ∃ t b, TyX K H x (.type t) ∧ kitB t "str" = some b ∧ (b = true → ∃ s, x = .str s ∧ s ∉ ms)
  se : SelfEq H x
def spOdd (K : PySem.W.Frag) : Sp := fun vs H Q _ => ∃ (k : Int), vs = [.int k] ∧ 0 ≤ k ∧ k ≤ 1000 ∧ ∀ x H', Same H H' → (∀ a, x = .ref a → H a = none) → (∀ ms, (∀ y ∈ ms, NameOk y) → NotPl K H' ms x) → Q x H'
section
variable {P : Program} {w : World} {K : PySem.W.Frag} {mg : Str → Option Value} {base : Heap} {C : Addr}
abbrev NLodd : List Str := ["_law_k", "_law_menu"]
theorem scLodd : FnScope NLodd ["_law_k"] (defScope s_law_odd) := ⟨rfl, rfl, rfl, by decide +kernel, rfl, by decide +kernel, by decide +kernel⟩
theorem c_odd (T : Blt mg) (F : Has K mg "_law_odd" s_law_odd) : C8.Cal P w K mg base 1 "_law_odd" (spOdd K) [] := by
  refine calF F (fun f fd F => F.binds (ps := ["_law_k"]) fun _ _ _ _ _ _ us hl => match us, hl with | [_], _ => rfl) scLodd (fun vs H Q E h => ?_) (fun f cdv A outer s H vs Q E hr h => ?_)
  · obtain ⟨k, rfl, _⟩ := h
    rfl
  · obtain ⟨k, rfl, k0, k1, q⟩ := h
    refine ⟨_, (pss_cons (ps_set (i := 1) scLodd.nd rfl (Or.inl rfl) (pe_lst (pa_cons pe_non (pa_cons pe_bl (pa_cons pe_int (pa_cons pe_int (pa_cons pe_str (pa_cons pe_str (pa_cons pe_str (pa_cons pe_str (pa_cons pe_str (pa_cons (pe_tup pa_nil) (pa_cons (pe_tup (pa_cons pe_str pa_nil)) (pa_cons (pe_lst pa_nil) (pa_cons (pe_lst (pa_cons pe_str pa_nil)) (pa_cons pe_dnewK (pa_cons (pe_disp (pps_cons pe_str pe_int pps_nil) (by rfl) (by rfl) (fun z => by cases z) (by decide)) (pa_cons (pe_un un_neg pe_int) (pa_cons (pe_op op_pow pe_int pe_int) (pa_cons pe_str (pa_cons pe_bl (pa_cons pe_str pa_nil))))))))))))))))))))))
      (pss_one (ps_ret (pe_ix ix_list (pv 1) (pe_op op_modN (pv 0) pe_int) (fun _ _ => rfl))))), ?_⟩
    have z0 : (0 : Nat) ≤ sizeLine := fits (by decide)
    have z1 : (1 : Nat) ≤ sizeLine := fits (by decide)
    refine ⟨z0, fun a1 h1 => ?_⟩
    have S1 : Same H (upd H a1 (.tup [])) := Same.new h1
    have E1 : upd H a1 (.tup []) a1 = some (.tup []) := upd_same
    generalize upd H a1 (.tup []) = G1 at S1 E1
    refine ⟨z1, fun a2 h2 => ?_⟩
    have S2 : Same G1 (upd G1 a2 (.tup [V.str "a"])) := Same.new h2
    have E2 : upd G1 a2 (.tup [V.str "a"]) a2 = some (.tup [V.str "a"]) := upd_same
    generalize upd G1 a2 (.tup [V.str "a"]) = G2 at S2 E2
    refine ⟨z0, fun a3 h3 => ?_⟩
    have S3 : Same G2 (upd G2 a3 (.lst [])) := Same.new h3
    have E3 : upd G2 a3 (.lst []) a3 = some (.lst []) := upd_same
    generalize upd G2 a3 (.lst []) = G3 at S3 E3
    refine ⟨z1, fun a4 h4 => ?_⟩
    have S4 : Same G3 (upd G3 a4 (.lst [V.str "a"])) := Same.new h4
    have E4 : upd G3 a4 (.lst [V.str "a"]) a4 = some (.lst [V.str "a"]) := upd_same
    generalize upd G3 a4 (.lst [V.str "a"]) = G4 at S4 E4
    refine fun a5 h5 => ?_
    have S5 : Same G4 (upd G4 a5 (.dK [])) := Same.new h5
    have E5 : upd G4 a5 (.dK []) a5 = some (.dK []) := upd_same
    generalize upd G4 a5 (.dK []) = G5 at S5 E5
    refine fun a6 h6 => ⟨upd_same, [(Sum.inr "a", .int 1)], rfl, by decide, ?_⟩
    have S6 : Same G5 (upd (upd G5 a6 (.dK [])) a6 (.dK (mergeK [] [((Sum.inr "a" : Key), V.int 1)]))) := sUpd (Same.new h6) h6
    have E6 : upd (upd G5 a6 (.dK [])) a6 (.dK (mergeK [] [((Sum.inr "a" : Key), V.int 1)])) a6 = some (.dK [((Sum.inr "a" : Key), V.int 1)]) := by rw [upd_same] <;> rfl
    generalize upd (upd G5 a6 (.dK [])) a6 (.dK (mergeK [] [((Sum.inr "a" : Key), V.int 1)])) = G6 at S6 E6
    refine ⟨_, rfl, _, _, rfl, rfl, ⟨by decide, by decide, by decide⟩, (show 20 ≤ sizeLine from fits (by decide)), fun p hp => ?_⟩
    have S7 : ∀ o, Same G6 (upd G6 p o) := fun o => Same.new hp
    have T5 := S5.trans S6
    have T4 := S4.trans T5
    have T3 := S3.trans T4
    have T2 := S2.trans T3
    have T1 := S1.trans T2
    suffices fin : ∃ v, atI [V.non, .bl true, .int 0, .int 7, .str "", .str "A", .str "abcdefghi", .str "a1", .str "a ", .ref a1, .ref a2, .ref a3, .ref a4, .ref a5, .ref a6, .int (-1), .int (10 ^ (40 : Int).toNat), .str " a", .bl false, .str "a\n"] (k.fmod 20) = some v ∧ (∀ a, v = .ref a → H a = none) ∧
        ∀ G, Same G6 G → ∀ ms : List Str, (∀ y ∈ ms, NameOk y) → NotPl K G ms v by
      obtain ⟨v, h1, h3, h2⟩ := fin
      exact ⟨_, rfl, _, rfl, _, _, rfl, rfl, (by decide : (20 : Int) ≠ 0), p, _, _, v, rfl, rfl, SqL.of upd_same, h1, q v _ (T1.trans (S7 _)) h3 fun ms hm => h2 _ (S7 _) ms hm⟩
    have ns : ∀ (x : Str), nameB x = false → ∀ G, Same G6 G → ∀ ms : List Str, (∀ y ∈ ms, NameOk y) → NotPl K G ms (.str x) := fun x hx G _ ms hm =>
      ⟨⟨"str", true, .base (.str x), by decide +kernel, fun _ => ⟨x, rfl, fun h => by rw [nameB_ok (hm x h)] at hx; cases hx⟩⟩, .scal rfl⟩
    have ni : ∀ (i : Int), ∀ G, Same G6 G → ∀ ms : List Str, (∀ y ∈ ms, NameOk y) → NotPl K G ms (.int i) := fun i G _ ms hm =>
      ⟨⟨"int", false, .base (.int i), by decide +kernel, fun z => by cases z⟩, .scal rfl⟩
    have nb : ∀ (i : Bool), ∀ G, Same G6 G → ∀ ms : List Str, (∀ y ∈ ms, NameOk y) → NotPl K G ms (.bl i) := fun i G _ ms hm =>
      ⟨⟨"bool", false, .base (.bl i), by decide +kernel, fun z => by cases z⟩, .scal (by cases i <;> rfl)⟩
    have oa : ∀ x ∈ [("a" : Str)], PyData.strOk x = true := by decide +kernel
    have o0 : ∀ x ∈ ([] : List Str), PyData.strOk x = true := fun x h => by simp at h
    have hf : k.fmod 20 = k % 20 := Int.fmod_eq_emod_of_nonneg k (by decide)
    have hm : k.fmod 20 = 0 ∨ k.fmod 20 = 1 ∨ k.fmod 20 = 2 ∨ k.fmod 20 = 3 ∨ k.fmod 20 = 4 ∨ k.fmod 20 = 5 ∨ k.fmod 20 = 6 ∨ k.fmod 20 = 7 ∨ k.fmod 20 = 8 ∨ k.fmod 20 = 9 ∨ k.fmod 20 = 10 ∨ k.fmod 20 = 11 ∨ k.fmod 20 = 12 ∨ k.fmod 20 = 13 ∨ k.fmod 20 = 14 ∨ k.fmod 20 = 15 ∨ k.fmod 20 = 16 ∨ k.fmod 20 = 17 ∨ k.fmod 20 = 18 ∨ k.fmod 20 = 19 := by
      rw [hf]
      omega
    rcases hm with e | e | e | e | e | e | e | e | e | e | e | e | e | e | e | e | e | e | e | e <;> rw [e]
    · exact ⟨_, rfl, (fun a z => by cases z), fun G _ ms _ => ⟨⟨"NoneType", false, .base .non, by decide +kernel, fun z => by cases z⟩, .scal rfl⟩⟩
    · exact ⟨_, rfl, (fun a z => by cases z), nb _⟩
    · exact ⟨_, rfl, (fun a z => by cases z), ni _⟩
    · exact ⟨_, rfl, (fun a z => by cases z), ni _⟩
    · exact ⟨_, rfl, (fun a z => by cases z), ns _ (by decide +kernel)⟩
    · exact ⟨_, rfl, (fun a z => by cases z), ns _ (by decide +kernel)⟩
    · exact ⟨_, rfl, (fun a z => by cases z), ns _ (by decide +kernel)⟩
    · exact ⟨_, rfl, (fun a z => by cases z), ns _ (by decide +kernel)⟩
    · exact ⟨_, rfl, (fun a z => by cases z), ns _ (by decide +kernel)⟩
    · exact ⟨_, rfl, (fun a z => by cases z; exact h1), fun G s ms _ => ⟨⟨"tuple", false, .base (.tup (s _ _ (T2 _ _ E1))), by decide +kernel, fun z => by cases z⟩, .tup (ns := []) (s _ _ (T2 _ _ E1)) o0⟩⟩
    · exact ⟨_, rfl, (fun a z => by cases z; exact (S1.free h2)), fun G s ms _ => ⟨⟨"tuple", false, .base (.tup (s _ _ (T3 _ _ E2))), by decide +kernel, fun z => by cases z⟩, .tup (ns := ["a"]) (s _ _ (T3 _ _ E2)) oa⟩⟩
    · exact ⟨_, rfl, (fun a z => by cases z; exact ((S1.trans S2).free h3)), fun G s ms _ => ⟨⟨"list", false, .base (.lst (s _ _ (T4 _ _ E3))), by decide +kernel, fun z => by cases z⟩, .lst (ns := []) (s _ _ (T4 _ _ E3)) o0⟩⟩
    · exact ⟨_, rfl, (fun a z => by cases z; exact (((S1.trans S2).trans S3).free h4)), fun G s ms _ => ⟨⟨"list", false, .base (.lst (s _ _ (T5 _ _ E4))), by decide +kernel, fun z => by cases z⟩, .lst (ns := ["a"]) (s _ _ (T5 _ _ E4)) oa⟩⟩
    · exact ⟨_, rfl, (fun a z => by cases z; exact ((((S1.trans S2).trans S3).trans S4).free h5)), fun G s ms _ => ⟨⟨"dict", false, .base (.dK (s _ _ (S6 _ _ E5))), by decide +kernel, fun z => by cases z⟩, .dK (s _ _ (S6 _ _ E5)) List.nodup_nil (by decide) fun p h => by simp at h⟩⟩
    · exact ⟨_, rfl, (fun a z => by cases z; exact (((((S1.trans S2).trans S3).trans S4).trans S5).free h6)), fun G s ms _ => ⟨⟨"dict", false, .base (.dK (s _ _ E6)), by decide +kernel, fun z => by cases z⟩, .dK (s _ _ E6) (by decide +kernel) (by show 1 ≤ 10; decide) fun p h => by
        have : p = ((Sum.inr "a" : Key), V.int 1) := by simpa using h
        subst this
        exact ⟨rfl, rfl⟩⟩⟩
    · exact ⟨_, rfl, (fun a z => by cases z), ni _⟩
    · exact ⟨_, rfl, (fun a z => by cases z), ni _⟩
    · exact ⟨_, rfl, (fun a z => by cases z), ns _ (by decide +kernel)⟩
    · exact ⟨_, rfl, (fun a z => by cases z), nb _⟩
    · exact ⟨_, rfl, (fun a z => by cases z), ns _ (by decide +kernel)⟩
end
end KK
end

section
set_option maxRecDepth 100000
set_option maxHeartbeats 4000000
namespace KK
open PySem PySem.Spec PyProof.Rows L2
def okV : V → Bool
  | .int i => decide (0 ≤ i ∧ i ≤ 2)
  | _ => false
def vI (kvs : List (Key × V)) (x : Str) : Int := match valV kvs (Sum.inr x : Key) with
  | some (.int i) => i
  | _ => 0
def hasOk (kvs : List (Key × V)) (x : Str) : Bool := match valV kvs (Sum.inr x : Key) with
  | some v => okV v
  | none => false
def ansB (ns : List Str) (ts : List (Str × Str)) (kvs : List (Key × V)) : Bool := decide (kvs.length = ns.length) && (ns.all (hasOk kvs) && ts.all fun p => decide (2 ≤ vI kvs p.1 + vI kvs p.2))
/-- the kind of a value -/
def ValK (K : PySem.W.Frag) (H : Hp) (v : V) : Prop := ∃ (t : String) (b1 b2 : Bool), TyX K H v (.type t) ∧ kitB t "int" = some b1 ∧ kitB t "bool" = some b2 ∧ ((b1 && !b2) = true → ∃ i, v = .int i) ∧ ((b1 && !b2) = false → ∀ i, v ≠ .int i)
/-- what may be passed as an answer -/
inductive Passed (K : PySem.W.Frag) (H : Hp) : V → Option (List (Key × V)) → Prop where
  | dict {d : Addr} {kvs : List (Key × V)} (h : H d = some (.dK kvs)) (nd : (kvs.map (·.1)).Nodup) (l : kvs.length ≤ 1000) (v : ∀ p ∈ kvs, ValK K H p.2) : Passed K H (.ref d) (some kvs)
  | other {x : V} {t : String} (h : TyX K H x (.type t)) (k : kitB t "dict" = some false) : Passed K H x none
def isAns (ns : List Str) (ts : List (Str × Str)) : Option (List (Key × V)) → Bool
  | none => false
  | some kvs => ansB ns ts kvs
def spAnsIs (K : PySem.W.Frag) : Sp := fun vs H Q _ => ∃ r pl tl d ns ps xs ts x o, vs = [.ref r, x] ∧ PartsAt H r pl tl d ns ps xs ts ∧ Passed K H x o ∧ ∀ H', Same H H' → Q (.bl (isAns ns ts o)) H'
def spIsAns (K : PySem.W.Frag) (C : Addr) : Sp := fun vs H Q _ => ∃ o dx dp tl xs ms qs us x oo, vs = [.ref o, x] ∧ WebAt H C o dx dp tl xs ms qs us ∧ qs.length = ms.length ∧ ms.Nodup ∧ ms.length ≤ 100 ∧ us.length ≤ 400 ∧ (∀ p ∈ us, p.1 ∈ ms ∧ p.2 ∈ ms) ∧ Passed K H x oo ∧ ∀ H', Same H H' → Q (.bl (isAns ms us oo)) H'
theorem valV_mem {kvs : List (Key × V)} {k : Key} {v : V} (h : valV kvs k = some v) : (k, v) ∈ kvs := by
  unfold valV at h
  obtain ⟨p, hp, rfl⟩ := Option.map_eq_some_iff.mp h
  have e := of_decide_eq_true (List.find?_some (p := fun kv : Key × V => decide (kv.1 = k)) hp)
  have := List.mem_of_find?_eq_some hp
  rw [← e]
  exact this
theorem okV_not {v : V} (h : ∀ i, v ≠ .int i) : okV v = false := by
  cases v with
  | int i => exact absurd rfl (h i)
  | _ => rfl
theorem hasOk_int {kvs : List (Key × V)} {x : Str} (h : hasOk kvs x = true) : ∃ i : Unit, valV kvs (Sum.inr x : Key) = some (.int (vI kvs x)) := by
  unfold hasOk at h
  cases e : valV kvs (Sum.inr x : Key) with
  | none => rw [e] at h; cases h
  | some v =>
    rw [e] at h
    cases v with
    | int i =>
      refine ⟨(), ?_⟩
      unfold vI
      rw [e]
    | _ => cases h
section
variable {P : Program} {w : World} {K : PySem.W.Frag} {mg : Str → Option Value} {base : Heap} {C : Addr}
abbrev NLansweris : List Str := ["_law_parts_here", "_law_x", "_law_place", "_law_pair_here"]
theorem scLansweris : FnScope NLansweris ["_law_parts_here", "_law_x"] (defScope s_law_answer_is) := ⟨rfl, rfl, rfl, by decide +kernel, rfl, by decide +kernel, by decide +kernel⟩
theorem c_ansis (T : Blt mg) (F : Has K mg "_law_answer_is" s_law_answer_is) (CLISINT : C8.Cal P w K mg base 1 "_law_is_integer" (spIsInt K) []) : C8.Cal P w K mg base 2 "_law_answer_is" (spAnsIs K) [] := by
  refine calF F (fun f fd F => F.binds (ps := ["_law_parts_here", "_law_x"]) fun _ _ _ _ _ _ us hl => match us, hl with | [_, _], _ => rfl) scLansweris (fun vs H Q E h => ?_) (fun f cdv A outer s H vs Q E hr h => ?_)
  · obtain ⟨r, pl, tl, d, ns, ps, xs, ts, x, o, rfl, _⟩ := h
    rfl
  · obtain ⟨r, pl, tl, d, ns, ps, xs, ts, x, o, rfl, pa, pp, q⟩ := h
    have hu := hu_of hr
    refine ⟨_, (pss_cons (ps_if (PW.pt (pw_or (pt_not (pt_val (pe_callB call_isi (by rfl) T.b_isinstance (by decide +kernel) (pa_cons (pv 1) (pa_cons (pe_bltn (v := .ty "dict") (by rfl) T.b_dict (by decide +kernel) rfl) pa_nil))))) (pw_or1 (pt_cmpR op_ne (pe_callB call_lenD (by rfl) T.b_len PySem.boot_len (pa_cons (pv 1) pa_nil)) (pe_callB call_len (by rfl) T.b_len PySem.boot_len (pa_cons (pe_ix ix_list (pv 0) pe_int (fun _ _ => rfl)) pa_nil)) (nomark _))))) (pss_one (ps_ret pe_bl)) pss_nil)
      (pss_cons (ps_for PassesOwn.never rfl (pi_tup (pe_ix ix_list (pv 0) pe_int (fun _ _ => rfl))) (pg_name (i := 2) scLansweris.nd rfl (Or.inl rfl))
        (pss_one (ps_if (PW.pt (pw_or (pt_cmp (pc_dnotin hu (pv 2) (pv 1))) (pw_or (pt_not (pt_val (C8.pe_c CLISINT hr (by decide) rfl (pa_cons (pe_dget hu (pv 1) (pv 2) (fun _ _ => rfl)) pa_nil)))) (pw_or (pt_cmpR op_lt (pe_dget hu (pv 1) (pv 2) (fun _ _ => rfl)) pe_int (nomark _)) (pw_or1 (pt_cmpR op_gt (pe_dget hu (pv 1) (pv 2) (fun _ _ => rfl)) pe_int (nomark _))))))) (pss_one (ps_ret pe_bl)) pss_nil)))
      (pss_cons (ps_for PassesOwn.never rfl (pi_list (pe_ix ix_list (pv 0) pe_int (fun _ _ => rfl))) (pg_name (i := 3) scLansweris.nd rfl (Or.inl rfl))
        (pss_one (ps_if (pt_cmpR op_lt (pe_op op_add (pe_dget hu (pv 1) (pe_ix ix_tup (pv 3) pe_int (fun _ _ => rfl)) (fun _ _ => rfl)) (pe_dget hu (pv 1) (pe_ix ix_tup (pv 3) pe_int (fun _ _ => rfl)) (fun _ _ => rfl))) pe_int (nomark _)) (pss_one (ps_ret pe_bl)) pss_nil)))
      (pss_one (ps_ret pe_bl))))), ?_⟩
    cases pp with
    | other ht hk =>
      refine ⟨_, rfl, _, _, _, _, _, rfl, .ty "dict", ht, kit_ty hk, _, rfl, iteT ?_⟩
      exact q H (Same.refl H)
    | @dict d1 kvs hd nd hl hv =>
      refine ⟨_, rfl, _, _, _, _, _, rfl, .ty "dict", .base (.dK hd), kit_ty (b := "dict") (r := true) (by decide +kernel), _, rfl, iteF ?_⟩
      have n2 := pa.no.hi
      have lxs := paired_len pa.ti
      have fin : ∀ b, b = ansB ns ts kvs → Q (.bl b) H := fun b e => by
        rw [e]
        exact q H (Same.refl H)
      refine ⟨_, rfl, d1, kvs, rfl, hd, _, rfl, r, _, 0, _, rfl, rfl, SqL.of pa.hr, rfl, _, _, rfl, .inr ⟨_, SqT.of pa.hp, rfl⟩, rfl, ?_⟩
      have e : decide (V.int (kvs.length : Int) = V.int ((ns.map V.str).length : Int)) = decide (kvs.length = ns.length) := by
        rw [List.length_map]
        by_cases h : kvs.length = ns.length
        · rw [decide_eq_true h, h, decide_eq_true rfl]
        · rw [decide_eq_false h, decide_eq_false fun z => h (by have := V.int.inj z; omega)]
      rw [e]
      by_cases hlen : kvs.length = ns.length
      · rw [decide_eq_true hlen]
        refine ⟨_, rfl, iteF ?_⟩
        refine ⟨_, rfl, r, _, 0, _, rfl, rfl, SqL.of pa.hr, rfl, pl, rfl, ⟨_, SqT.of pa.hp⟩, for_tup (K := K) (a := pl) (xs := ns.map V.str) (fun i σ H2 => ∃ (v2 v3 : Option V), σ = [some (.ref r), some (.ref d1), v2, v3] ∧ H2 = H ∧ ∀ x ∈ ns.take i, hasOk kvs x = true)
          ⟨_, _, rfl, rfl, fun x hx => by simp at hx⟩ (fun i σ H2 _ ⟨_, _, _, e, _⟩ => by rw [e]; exact SqT.of pa.hp) ?_ ?_⟩
        · rintro i v σ H2 hi ⟨v2, v3, rfl, rfl, hall⟩
          obtain ⟨x, hx, rfl⟩ := strs_at hi
          have hxm := List.mem_of_getElem? hx
          have bad : hasOk kvs x = false → Q (.bl false) H2 := fun hb => fin false (by
            unfold ansB
            have : ns.all (hasOk kvs) = false := by
              rw [List.all_eq_false]
              exact ⟨x, hxm, by rw [hb]; exact Bool.false_ne_true⟩
            rw [this, Bool.false_and, Bool.and_false])
          have good : hasOk kvs x = true → ∀ y ∈ ns.take (i + 1), hasOk kvs y = true := fun hb y hy => by
            rw [take_more hx] at hy
            rcases List.mem_append.mp hy with hy | hy
            · exact hall y hy
            · have : y = x := by simpa using hy
              rw [this]
              exact hb
          have hg : DGet H2 d1 (.str x) (valV kvs (Sum.inr x : Key)) := DGet.k (k := Sum.inr x) hd
          refine ⟨_, rfl, _, rfl, d1, _, rfl, hg, ?_⟩
          cases hv1 : valV kvs (Sum.inr x : Key) with
          | none =>
            refine ⟨_, rfl, iteT ?_⟩
            exact bad (by unfold hasOk; rw [hv1])
          | some v =>
            rw [hv1] at hg
            have hok : hasOk kvs x = okV v := by unfold hasOk; rw [hv1]
            refine ⟨_, rfl, iteF ?_⟩
            obtain ⟨t, b1, b2, ht, k1, k2, h1, h2⟩ := hv _ (valV_mem hv1)
            refine ⟨_, rfl, _, rfl, d1, _, rfl, hg, v, t, b1, b2, rfl, ht, k1, k2, ?_⟩
            cases hbb : (b1 && !b2) with
            | false =>
              refine ⟨_, rfl, iteT ?_⟩
              exact bad (by rw [hok]; exact okV_not (h2 hbb))
            | true =>
              obtain ⟨z, rfl⟩ := h1 hbb
              refine ⟨_, rfl, iteF ?_⟩
              refine ⟨_, rfl, _, rfl, d1, _, rfl, hg, _, _, rfl, rfl, _, rfl, ?_⟩
              by_cases c1 : z < 0
              · rw [decide_eq_true c1]
                refine iteT ?_
                exact bad (by rw [hok]; exact decide_eq_false (by omega))
              · rw [decide_eq_false c1]
                refine iteF ?_
                refine ⟨_, rfl, _, rfl, d1, _, rfl, hg, _, _, rfl, rfl, _, rfl, ?_⟩
                by_cases c2 : 2 < z
                · rw [decide_eq_true c2]
                  refine iteT ?_
                  exact bad (by rw [hok]; exact decide_eq_false (by omega))
                · rw [decide_eq_false c2]
                  refine iteF ?_
                  exact ⟨_, _, rfl, rfl, good (by rw [hok]; exact decide_eq_true (by omega))⟩
        · rintro σ H2 ⟨v2, v3, rfl, rfl, hall⟩
          rw [List.length_map, List.take_of_length_le (Nat.le_refl _)] at hall
          have a1 : ns.all (hasOk kvs) = true := List.all_eq_true.mpr hall
          refine ⟨_, rfl, r, _, 1, _, rfl, rfl, SqL.of pa.hr, rfl, tl, rfl, ⟨_, SqL.of pa.ht⟩, for_list (K := K) (a := tl) (xs := xs) (fun i σ H3 => ∃ (v3 : Option V), σ = [some (.ref r), some (.ref d1), v2, v3] ∧ H3 = H2 ∧ ∀ p ∈ ts.take i, 2 ≤ vI kvs p.1 + vI kvs p.2)
            ⟨_, rfl, rfl, fun x hx => by simp at hx⟩ (fun i σ H3 _ ⟨_, _, e, _⟩ => by rw [e]; exact SqL.of pa.ht) ?_ ?_⟩
          · rintro i v σ H3 hi ⟨v3, rfl, rfl, hts⟩
            obtain ⟨p, hpp, t, rfl, htt⟩ := paired_get pa.ti hi
            have tok := pa.to.ok p (List.mem_of_getElem? hpp)
            obtain ⟨i1, g1⟩ := hasOk_int (hall _ tok.a)
            obtain ⟨i2, g2⟩ := hasOk_int (hall _ tok.b)
            have e1 : DGet H3 d1 (.str p.1) (some (.int (vI kvs p.1))) := by
              rw [← g1]
              exact DGet.k (k := Sum.inr p.1) hd
            have e2 : DGet H3 d1 (.str p.2) (some (.int (vI kvs p.2))) := by
              rw [← g2]
              exact DGet.k (k := Sum.inr p.2) hd
            refine ⟨_, rfl, _, rfl, t, _, 0, _, rfl, rfl, SqT.of htt, rfl, d1, _, rfl, e1, _, rfl, _, rfl, t, _, 1, _, rfl, rfl, SqT.of htt, rfl, d1, _, rfl, e2, _, _, rfl, rfl, _, _, rfl, rfl, _, rfl, ?_⟩
            by_cases c : vI kvs p.1 + vI kvs p.2 < 2
            · rw [decide_eq_true c]
              refine iteT ?_
              refine fin false ?_
              unfold ansB
              have : (ts.all fun p => decide (2 ≤ vI kvs p.1 + vI kvs p.2)) = false := by
                rw [List.all_eq_false]
                exact ⟨p, List.mem_of_getElem? hpp, by rw [decide_eq_true_eq]; omega⟩
              rw [this, Bool.and_false, Bool.and_false]
            · rw [decide_eq_false c]
              refine iteF ?_
              refine ⟨_, rfl, rfl, fun y hy => ?_⟩
              rw [take_more hpp] at hy
              rcases List.mem_append.mp hy with hy | hy
              · exact hts y hy
              · have : y = p := by simpa using hy
                rw [this]
                omega
          · rintro σ H3 ⟨v3, rfl, rfl, hts⟩
            rw [lxs, List.take_of_length_le (Nat.le_refl _)] at hts
            refine fin true ?_
            unfold ansB
            rw [decide_eq_true hlen, a1, List.all_eq_true.mpr fun p hp => decide_eq_true (hts p hp)]
            rfl
      · rw [decide_eq_false hlen]
        refine ⟨_, rfl, iteT ?_⟩
        refine fin false ?_
        unfold ansB
        rw [decide_eq_false hlen, Bool.false_and]
end
end KK
end

section
set_option maxRecDepth 100000
set_option maxHeartbeats 4000000
namespace KK
open PySem PySem.Spec PyProof.Rows L2
theorem tyx_same {K : PySem.W.Frag} {H H' : Hp} {x : V} {t : Value} (h : TyX K H x t) (s : Same H H') : TyX K H' x t := by
  cases h with
  | base h =>
    cases h with
    | non => exact .base .non
    | bl b => exact .base (.bl b)
    | int i => exact .base (.int i)
    | str y => exact .base (.str y)
    | flt y => exact .base (.flt y)
    | lst e => exact .base (.lst (s _ _ e))
    | frz e => exact .base (.frz (s _ _ e))
    | tup e => exact .base (.tup (s _ _ e))
    | dK e => exact .base (.dK (s _ _ e))
    | dT e => exact .base (.dT (s _ _ e))
    | ins e cl ha hn htk hm => exact .base (.ins (s _ _ e) cl ha hn htk hm)
  | byt b => exact .byt b
  | set e => exact .set (s _ _ e)
  | kList e c => exact .kList e c
  | kTuple e c => exact .kTuple e c
  | kDict e c => exact .kDict e c
  | fTuple e => exact .fTuple (s _ _ e)
  | fDict e => exact .fDict (s _ _ e)
theorem isAns_some {ms : List Str} {us : List (Str × Str)} {kvs : List (Key × V)} : isAns ms us (some kvs) = ansB ms us kvs := rfl
theorem valV_nd : ∀ {kvs : List (Key × V)} {i : Nat} {k : Key} {v : V}, (kvs.map (·.1)).Nodup → kvs[i]? = some (k, v) → valV kvs k = some v
  | [], i, k, v, _, h => by simp at h
  | (k1, v1) :: r, 0, k, v, _, h => by
    have e := Option.some.inj h
    injection e with e1 e2
    subst e1 e2
    unfold valV
    rw [List.find?_cons_of_pos (by exact decide_eq_true rfl)]
    rfl
  | (k1, v1) :: r, i + 1, k, v, nd, h => by
    have nd' := List.nodup_cons.mp nd
    have h' : r[i]? = some (k, v) := h
    have ih := valV_nd nd'.2 h'
    unfold valV at ih ⊢
    rw [List.find?_cons_of_neg]
    · exact ih
    · show ¬ decide (k1 = k) = true
      rw [decide_eq_true_eq]
      intro e
      subst e
      exact nd'.1 (List.mem_map.mpr ⟨(k1, v), List.mem_of_getElem? h', rfl⟩)
theorem tyx_lock {K : PySem.W.Frag} {H H2 : Hp} {x : V} {t : Value} {d : Addr} {kvs : List (Key × V)} {od : Obj} (h : TyX K H x t) (hd : H d = some (.dK kvs)) (b : But d H H2) (f : H2 d = some (.frz od (.dK kvs))) : TyX K H2 x t := by
  cases h with
  | base h =>
    cases h with
    | non => exact .base .non
    | bl b => exact .base (.bl b)
    | int i => exact .base (.int i)
    | str y => exact .base (.str y)
    | flt y => exact .base (.flt y)
    | lst e => exact .base (.lst (b _ _ e (ne_of e hd (by intro z; cases z))))
    | frz e => exact .base (.frz (b _ _ e (ne_of e hd (by intro z; cases z))))
    | tup e => exact .base (.tup (b _ _ e (ne_of e hd (by intro z; cases z))))
    | @dK a ks e =>
      by_cases n : a = d
      · subst n
        rw [hd] at e
        cases e
        exact .fDict f
      · exact .base (.dK (b _ _ e n))
    | dT e => exact .base (.dT (b _ _ e (ne_of e hd (by intro z; cases z))))
    | ins e cl ha hn htk hm => exact .base (.ins (b _ _ e (ne_of e hd (by intro z; cases z))) cl ha hn htk hm)
  | byt b => exact .byt b
  | set e => exact .set (b _ _ e (ne_of e hd (by intro z; cases z)))
  | kList e c => exact .kList e c
  | kTuple e c => exact .kTuple e c
  | kDict e c => exact .kDict e c
  | fTuple e => exact .fTuple (b _ _ e (ne_of e hd (by intro z; cases z)))
  | fDict e => exact .fDict (b _ _ e (ne_of e hd (by intro z; cases z)))
theorem keys_in {ms : List Str} {kvs : List (Key × V)} (nd : (kvs.map (·.1)).Nodup) (mnd : ms.Nodup) (hl : kvs.length = ms.length) (hs : ∀ x ∈ ms, (valV kvs (Sum.inr x : Key)).isSome = true) {p : Key × V} (hp : p ∈ kvs) : ∃ x ∈ ms, p.1 = Sum.inr x := by
  by_cases h : p.1 ∈ ms.map (Sum.inr : Str → Key)
  · obtain ⟨x, hx, e⟩ := List.mem_map.mp h
    exact ⟨x, hx, e.symm⟩
  · exfalso
    have n1 : (p.1 :: ms.map (Sum.inr : Str → Key)).Nodup := List.nodup_cons.mpr ⟨h, List.Pairwise.map _ (fun a b hab e => hab (Sum.inr.inj e)) mnd⟩
    have := pigeon n1 (ys := kvs.map (·.1)) fun z hz => by
      rcases List.mem_cons.mp hz with rfl | hz
      · exact List.mem_map.mpr ⟨p, hp, rfl⟩
      · obtain ⟨x, hx, rfl⟩ := List.mem_map.mp hz
        have := hs x hx
        cases e : valV kvs (Sum.inr x : Key) with
        | none => rw [e] at this; cases this
        | some v => exact List.mem_map.mpr ⟨_, valV_mem e, rfl⟩
    rw [List.length_cons, List.length_map, List.length_map] at this
    omega
section
variable {P : Program} {w : World} {K : PySem.W.Frag} {mg : Str → Option Value} {base : Heap} {C : Addr}
theorem valk_same {K : PySem.W.Frag} {H H' : Hp} {v : V} (h : ValK K H v) (s : Same H H') : ValK K H' v := by
  obtain ⟨t, b1, b2, ht, r⟩ := h
  exact ⟨t, b1, b2, tyx_same ht s, r⟩
theorem passed_same {K : PySem.W.Frag} {H H' : Hp} {x : V} {oo : Option (List (Key × V))} (h : Passed K H x oo) (s : Same H H') : Passed K H' x oo := by
  cases h with
  | other ht hk => exact .other (tyx_same ht s) hk
  | dict hd nd hl hv => exact .dict (s _ _ hd) nd hl fun p hp => valk_same (hv p hp) s
def valsB (ms : List Str) : Option (List (Key × V)) → Bool
  | none => false
  | some kvs => decide (kvs.length = ms.length) && ms.all (hasOk kvs)
def spVals (K : PySem.W.Frag) : Sp := fun vs H Q _ => ∃ x p ms oo, vs = [x, .ref p] ∧ H p = some (.lst (ms.map V.str)) ∧ ms.length ≤ 100 ∧ Passed K H x oo ∧ ∀ H', Same H H' → Q (.bl (valsB ms oo)) H'
abbrev Nhasvalues : List Str := ["value", "names", "name"]
theorem schasvalues : FnScope Nhasvalues ["value", "names"] (defScope s_has_values) := ⟨rfl, rfl, rfl, by decide +kernel, rfl, by decide +kernel, by decide +kernel⟩
theorem c_vals (T : Blt mg) (F : Has K mg "has_values" s_has_values) (CHASJUST : C8.Cal P w K mg base 1 "has_just" (spJustG K) []) (CISBET : C8.Cal P w K mg base 2 "is_between" (spBetween K) []) : C8.Cal P w K mg base 3 "has_values" (spVals K) [] := by
  refine calF F (fun f fd F => F.binds (ps := ["value", "names"]) fun _ _ _ _ _ _ us hl => match us, hl with | [_, _], _ => rfl) schasvalues (fun vs H Q E h => ?_) (fun f cdv A outer s H vs Q E hr h => ?_)
  · obtain ⟨x, p, ms, oo, rfl, _⟩ := h
    rfl
  · obtain ⟨x, p, ms, oo, rfl, sq, ml, pp, q⟩ := h
    have hu := hu_of hr
    refine ⟨_, (pss_one (ps_ret (pe_and (C8.pe_c CHASJUST hr (by decide) rfl (pa_cons (pv 0) (pa_cons (pv 1) pa_nil))) (pe_one (pe_callB (cr_all rfl) (by rfl) T.b_all (by decide +kernel) (pa_cons (pe_lc (own := [("name", 2)]) (g := gName 2) (tt := tYes) rfl schasvalues.nd (pi_list (pv 1)) (blkOk_by (own := [("name", 2)]) (N := Nhasvalues) (sc := defScope s_has_values) (by decide +kernel)) (fun _ _ _ _ _ => (pg_name (i := 2) schasvalues.nd rfl (Or.inl rfl))) (fun _ _ _ _ _ => pts_nil) (fun _ _ _ _ _ => (C8.pe_c CISBET hr (by decide) rfl (pa_cons (pe_dget hu (pv 0) (pv 2) (fun _ _ => rfl)) (pa_cons pe_int (pa_cons pe_int pa_nil)))))) pa_nil)))))), ?_⟩
    cases pp with
    | @other x t ht hk =>
      refine ⟨_, rfl, _, rfl, x, p, ms, t, false, rfl, ht, hk, .inl (SqL.of sq), by omega, fun _ => ?_, fun z => by cases z⟩
      refine ⟨_, rfl, iteF ?_⟩
      exact q H (Same.refl H)
    | @dict d kvs hd nd hl hv =>
      refine ⟨_, rfl, _, rfl, .ref d, p, ms, "dict", true, rfl, .base (.dK hd), by decide +kernel, .inl (SqL.of sq), by omega, fun z => (by cases z), fun _ => ⟨d, kvs, rfl, hd, fun H2 S2 => ?_⟩⟩
      cases hbb : (decide (kvs.length = ms.length) && ms.all fun x => (valV kvs (Sum.inr x : Key)).isSome) with
      | false =>
        refine ⟨_, rfl, iteF ?_⟩
        have := q H2 S2
        have e : valsB ms (some kvs) = false := by
          show (decide (kvs.length = ms.length) && ms.all (hasOk kvs)) = _
          cases h1 : decide (kvs.length = ms.length) with
          | false => rfl
          | true =>
            rw [h1, Bool.true_and] at hbb
            rw [Bool.true_and]
            rw [List.all_eq_false] at hbb ⊢
            obtain ⟨x, hx, hn⟩ := hbb
            refine ⟨x, hx, fun hk => hn ?_⟩
            obtain ⟨_, g⟩ := hasOk_int hk
            rw [g]
            rfl
        rw [e] at this
        exact this
      | true =>
        refine ⟨_, rfl, iteT ?_⟩
        rw [Bool.and_eq_true, decide_eq_true_eq, List.all_eq_true] at hbb
        obtain ⟨hlen, hsome⟩ := hbb
        have hd2 := S2 _ _ hd
        have sq2 := S2 _ _ sq
        refine ⟨_, rfl, p, rfl, ⟨_, SqL.of sq2⟩, fun D2 hD2 => lc_it (walk_list (K := K) (a := p) (xs := ms.map V.str)) (fun i H8 => Same H2 H8 ∧ H8 D2 = some (.lst (((ms.take i).map (hasOk kvs)).map V.bl)))
              ⟨Same.new hD2, upd_same⟩ (fun i H8 _ h => SqL.of (h.1 _ _ sq2)) ?_ ?_⟩
        · rintro i z H8 H9 hi ⟨s8, l8⟩ ⟨rfl, hx⟩
          obtain ⟨x, hx9, rfl⟩ := strs_at hx
          have hxm := List.mem_of_getElem? hx9
          have hs := hsome x hxm
          cases hv1 : valV kvs (Sum.inr x : Key) with
          | none => rw [hv1] at hs; cases hs
          | some v =>
          have hg : DGet H9 d (.str x) (some v) := by
            rw [← hv1]
            exact DGet.k (k := Sum.inr x) (s8 _ _ hd2)
          have hok : hasOk kvs x = okV v := by unfold hasOk; rw [hv1]
          obtain ⟨t, b1, b2, ht, k1, k2, h1, h2⟩ := valk_same (valk_same (hv _ (valV_mem hv1)) S2) s8
          have go : ∀ b, b = okV v → ∃ acc, H9 D2 = some (.lst acc) ∧ acc.length < sizeLine ∧ Same H2 (upd H9 D2 (.lst (acc ++ [V.bl b]))) ∧ (upd H9 D2 (.lst (acc ++ [V.bl b]))) D2 = some (.lst (((ms.take (i + 1)).map (hasOk kvs)).map V.bl)) := fun b e => by
            refine ⟨_, l8, fitsL (by rw [List.length_map, List.length_map, List.length_take]; omega), fun b u e => by rw [upd_ne (ne_of_none e hD2)]; exact s8 _ _ e, ?_⟩
            rw [upd_same, take_more hx9, List.map_append, List.map_append, e, ← hok]
            rfl
          refine ⟨rfl, ?_⟩
          refine iteT (B := False) ?_
          refine ⟨_, rfl, _, rfl, d, _, rfl, hg, v, 0, 2, t, b1, b2, rfl, ht, k1, k2, fun hbt => ?_, fun hbf => ?_⟩
          · obtain ⟨z, rfl⟩ := h1 hbt
            exact ⟨z, rfl, go _ rfl⟩
          · exact go _ (okV_not (h2 hbf)).symm
        · rintro H8 ⟨s8, l8⟩
          rw [List.length_map, List.take_of_length_le (Nat.le_refl _)] at l8
          refine ⟨D2, _, rfl, SqL.of l8, ?_⟩
          have := q H8 (S2.trans s8)
          have e : valsB ms (some kvs) = ms.all (hasOk kvs) := by
            show (decide (kvs.length = ms.length) && ms.all (hasOk kvs)) = _
            rw [decide_eq_true hlen, Bool.true_and]
          rw [e] at this
          rw [List.all_map]
          exact this
abbrev Nisanswer : List Str := ["web", "x", "a", "b"]
theorem scisanswer : FnScope Nisanswer ["web", "x"] (defScope s_is_answer) := ⟨rfl, rfl, rfl, by decide +kernel, rfl, by decide +kernel, by decide +kernel⟩
theorem c_isans (T : Blt mg) (F : Has K mg "is_answer" s_is_answer) (CVALS : C8.Cal P w K mg base 3 "has_values" (spVals K) []) (CPLACES : C8.Met P w K mg base 1 C "places" (spPlaces C) []) (CTIES : C8.Met P w K mg base 1 C "ties" (spTies C) []) : C8.Cal P w K mg base 4 "is_answer" (spIsAns K C) [] := by
  refine calF F (fun f fd F => F.binds (ps := ["web", "x"]) fun _ _ _ _ _ _ us hl => match us, hl with | [_, _], _ => rfl) scisanswer (fun vs H Q E h => ?_) (fun f cdv A outer s H vs Q E hr h => ?_)
  · obtain ⟨o, dx, dp, tl, xs, ms, qs, us, x, oo, rfl, _⟩ := h
    rfl
  · obtain ⟨o, dx, dp, tl, xs, ms, qs, us, x, oo, rfl, wa, ql, mnd, ml, ul, um, pp, q⟩ := h
    have hu := hu_of hr
    have lxs := paired_len wa.ti
    refine ⟨_, (pss_one (ps_ret (pe_and (C8.pe_c CVALS hr (by decide) rfl (pa_cons (pv 1) (pa_cons (C8.pe_mt0 CPLACES hr (by decide) (pv 0)) pa_nil))) (pe_one (pe_callB (cr_all rfl) (by rfl) T.b_all (by decide +kernel) (pa_cons (pe_lc (own := [("a", 2), ("b", 3)]) (g := gTup K 2 (gCons (gName 2) (gCons (gName 3) gNil))) (tt := tYes) rfl scisanswer.nd (pi_list (C8.pe_mt0 CTIES hr (by decide) (pv 0))) (blkOk_by (own := [("a", 2), ("b", 3)]) (N := Nisanswer) (sc := defScope s_is_answer) (by decide +kernel)) (fun _ _ _ _ _ => (pg_tup rfl (pgs_cons (pg_name (i := 2) scisanswer.nd rfl (Or.inl rfl)) (pgs_cons (pg_name (i := 3) scisanswer.nd rfl (Or.inl rfl)) pgs_nil)))) (fun _ _ _ _ _ => pts_nil) (fun _ _ _ _ _ => (pe_cmpR op_ge (pe_op op_add (pe_dget hu (pv 1) (pv 2) (fun _ _ => rfl)) (pe_dget hu (pv 1) (pv 3) (fun _ _ => rfl))) pe_int (nomark _)))) pa_nil)))))), ?_⟩
    refine ⟨_, rfl, _, rfl, o, dx, _, rfl, wa.ho, rfl, o, dx, dp, tl, xs, ms, qs, us, rfl, wa, ql, fun p hp => ?_⟩
    have S1 : Same H (upd H p (.lst (ms.map V.str))) := Same.new hp
    have e1 : upd H p (.lst (ms.map V.str)) p = some (.lst (ms.map V.str)) := upd_same
    generalize upd H p (.lst (ms.map V.str)) = H1 at S1 e1
    refine ⟨x, p, ms, oo, rfl, e1, ml, passed_same pp S1, fun H5 s5 => ?_⟩
    have S6 := S1.trans s5
    cases hA : valsB ms oo with
    | false =>
      refine ⟨_, rfl, iteF ?_⟩
      have := q H5 S6
      have e : isAns ms us oo = false := by
        cases oo with
        | none => rfl
        | some kvs =>
          have : (decide (kvs.length = ms.length) && ms.all (hasOk kvs)) = false := hA
          show ansB ms us kvs = false
          unfold ansB
          rw [← Bool.and_assoc, this, Bool.false_and]
      rw [e] at this
      exact this
    | true =>
      refine ⟨_, rfl, iteT ?_⟩
      cases pp with
      | @other x t ht hk => cases hA
      | @dict d kvs hd nd hl hv =>
      have hA' : (decide (kvs.length = ms.length) && ms.all (hasOk kvs)) = true := hA
      rw [Bool.and_eq_true, decide_eq_true_eq, List.all_eq_true] at hA'
      obtain ⟨hlen, hAll⟩ := hA'
      have wa5 := wa.same S6
      refine ⟨_, rfl, o, dx, _, rfl, wa5.ho, rfl, o, dx, dp, tl, xs, ms, qs, us, rfl, wa5, fun p6 hp6 => ?_⟩
      have S7 := sNew S6 (o := .lst xs) hp6
      have e7 : upd H5 p6 (.lst xs) p6 = some (.lst xs) := upd_same
      generalize upd H5 p6 (.lst xs) = H7 at S7 e7
      refine ⟨p6, rfl, ⟨_, SqL.of e7⟩, fun D2 hD2 => lc_it (walk_list (K := K) (a := p6) (xs := xs)) (fun i H8 => Same H7 H8 ∧ H8 D2 = some (.lst (((us.take i).map fun p => decide (2 ≤ vI kvs p.1 + vI kvs p.2)).map V.bl)))
        ⟨Same.new hD2, upd_same⟩ (fun i H8 _ h => SqL.of (h.1 _ _ e7)) ?_ ?_⟩
      · rintro i z H8 H9 hi ⟨s8, l8⟩ ⟨rfl, hx⟩
        obtain ⟨pr, hpr, t, rfl, htt⟩ := paired_get wa.ti hx
        obtain ⟨m1, m2⟩ := um pr (List.mem_of_getElem? hpr)
        obtain ⟨_, g1⟩ := hasOk_int (hAll _ m1)
        obtain ⟨_, g2⟩ := hasOk_int (hAll _ m2)
        have hd8 := s8 _ _ (S7 _ _ hd)
        have q1 : DGet H9 d (.str pr.1) (some (.int (vI kvs pr.1))) := by
          rw [← g1]
          exact DGet.k (k := Sum.inr pr.1) hd8
        have q2 : DGet H9 d (.str pr.2) (some (.int (vI kvs pr.2))) := by
          rw [← g2]
          exact DGet.k (k := Sum.inr pr.2) hd8
        refine ⟨t, _, rfl, SqT.of (s8 _ _ (S7 _ _ htt)), rfl, _, _, rfl, _, _, rfl, rfl, rfl, ?_⟩
        refine iteT (B := False) ?_
        refine ⟨_, rfl, _, rfl, d, _, rfl, q1, _, rfl, _, rfl, d, _, rfl, q2, _, _, rfl, rfl, _, _, rfl, rfl, _, l8, fitsL (by rw [List.length_map, List.length_map, List.length_take]; omega), fun b u e => by rw [upd_ne (ne_of_none e hD2)]; exact s8 _ _ e, ?_⟩
        rw [upd_same, take_more hpr, List.map_append, List.map_append]
        rfl
      · rintro H8 ⟨s8, l8⟩
        rw [lxs, List.take_of_length_le (Nat.le_refl _)] at l8
        refine ⟨D2, _, rfl, SqL.of l8, ?_⟩
        have := q H8 (S7.trans s8)
        rw [isAns_some] at this
        unfold ansB at this
        rw [decide_eq_true hlen, List.all_eq_true.mpr hAll, Bool.true_and, Bool.true_and] at this
        rw [List.all_map]
        exact this
end
end KK
end

section
set_option maxRecDepth 100000
set_option maxHeartbeats 4000000
namespace KK
open PySem PySem.Spec PyProof.Rows L2
def keyG (f : Str → Int) : Key → Int
  | .inr x => f x
  | .inl _ => 0
def costI (ms : List Str) (qs : List Int) (kvs : List (Key × V)) : Int := ((kvs.map (·.1)).map (keyG fun x => prF ms qs x * vI kvs x)).sum
/-- what the class of a plain own error has -/
structure ExC (K : PySem.W.Frag) (mg : Str → Option Value) (x : Str) (C : Addr) : Prop where
  gC : mg x = some (.ref C)
  q : PySem.W.excIn K C He.veBase "ValueError.__new__" = true
  kC : PySem.W.keepIn K (.ref C) = true
  exC : PySem.W.subIn K (.ref C) (.type "BaseException") = some true
  tyC : PySem.W.typeIn K (.ref C) = some (.type "type")
theorem fnX {P : Program} {w : World} {K : PySem.W.Frag} {mg : Str → Option Value} {base : Heap} {x : Str} {st : Stmt} {N ps : List Str} {k : Nat} {sp : Sp} (F : Has K mg x st) (b : ∀ f fd, Fun K x x st f fd → Binds K fd ps []) (S : FnScope N ps (defScope st)) (len : ∀ vs H Q E, sp vs H Q E → vs.length = ps.length)
    (hbody : ∀ (f : Addr) (cdv : Value) (A : Around) (outer : List Env) (s : Shared) (H : Hp) (vs : List V) (Q : VK) (E : XK), Room k (A.deeper (envOfC x (defScope st) s.heap.objs.size f cdv)) → sp vs H Q E →
      ∃ t, PSs (cxOf (L2.CX P w) P w K mg base N x (defScope st) f cdv A outer s H E) (defBody st) t ∧ t { nx := fun _ H' => Q .non H', rt := Q } (start N vs) H) : Own.CalX P w K mg base (k + 1) x sp := by
  obtain ⟨f, fd, F, hm⟩ := F
  exact ⟨f, fd, ps, F.okX S len (hbody f), hm, F.kp, b f fd F⟩
structure WebN (H : Hp) (C o dx dp tl : Addr) (xs : List V) (ms : List Str) (qs : List Int) (us : List (Str × Str)) : Prop where
  wa : WebAt H C o dx dp tl xs ms qs us
  ql : qs.length = ms.length
  nd : ms.Nodup
  ml : ms.length ≤ 100
  ul : us.length ≤ 400
  um : ∀ p ∈ us, p.1 ∈ ms ∧ p.2 ∈ ms
def spCost (K : PySem.W.Frag) (C CA : Addr) : Sp := fun vs H Q E => ∃ o dx dp tl xs ms qs us x oo, vs = [.ref o, x] ∧ WebN H C o dx dp tl xs ms qs us ∧ Passed K H x oo ∧ x ≠ .ref dp ∧
  (isAns ms us oo = false → ∀ H', Same H H' → E (.ref CA) none H') ∧ (∀ kvs, oo = some kvs → ansB ms us kvs = true → ∀ H', Same H H' → Q (.int (costI ms qs kvs)) H')
theorem ansB_has {ms : List Str} {us : List (Str × Str)} {kvs : List (Key × V)} (h : ansB ms us kvs = true) : kvs.length = ms.length ∧ ∀ x ∈ ms, hasOk kvs x = true := by
  unfold ansB at h
  rw [Bool.and_eq_true, Bool.and_eq_true, decide_eq_true_eq, List.all_eq_true] at h
  exact ⟨h.1, h.2.1⟩
section
variable {P : Program} {w : World} {K : PySem.W.Frag} {mg : Str → Option Value} {base : Heap} {C CA : Addr}
abbrev Ncost : List Str := ["web", "x", "place"]
theorem sccost : FnScope Ncost ["web", "x"] (defScope s_cost) := ⟨rfl, rfl, rfl, by decide +kernel, rfl, by decide +kernel, by decide +kernel⟩
theorem c_cost (T : Blt mg) (BS : mg "sum" = none) (F : Has K mg "cost" s_cost) (EX : ExC K mg "NoAnswer" CA) (CISANS : C8.Cal P w K mg base 4 "is_answer" (spIsAns K C) []) (CPRICE : C8.Met P w K mg base 3 C "price" (spPrice C) []) : Own.CalX P w K mg base 5 "cost" (spCost K C CA) := by
  refine fnX F (fun f fd F => F.binds (ps := ["web", "x"]) fun _ _ _ _ _ _ us hl => match us, hl with | [_, _], _ => rfl) sccost (fun vs H Q E h => ?_) (fun f cdv A outer s H vs Q E hr h => ?_)
  · obtain ⟨o, dx, dp, tl, xs, ms, qs, us, x, oo, rfl, _⟩ := h
    rfl
  · obtain ⟨o, dx, dp, tl, xs, ms, qs, us, x, oo, rfl, wn, pp, ndp, q0, q1⟩ := h
    have hu := hu_of hr
    refine ⟨_, (pss_cons (ps_if (pt_not (pt_val (C8.pe_c CISANS hr (by decide) rfl (pa_cons (pv 0) (pa_cons (pv 1) pa_nil))))) (pss_one (Own.ps_raise0 (C := CA) rfl EX.q EX.gC EX.kC EX.exC EX.tyC (takes_of rfl rfl rfl rfl))) pss_nil)
      (pss_one (ps_ret (pe_callB (cr_sum rfl) (by rfl) BS (by decide +kernel) (pa_cons (pe_lock (pe_lc (own := [("place", 2)]) (g := gName 2) (tt := tYes) rfl sccost.nd (pi_keys (pv 1)) (blkOk_by (own := [("place", 2)]) (N := Ncost) (sc := defScope s_cost) (by decide +kernel)) (fun _ _ _ _ _ => (pg_name (i := 2) sccost.nd rfl (Or.inl rfl))) (fun _ _ _ _ _ => pts_nil) (fun _ _ _ _ _ => (pe_op op_mul (C8.pe_mt CPRICE hr (by decide) (pv 0) (pa_cons (pv 2) pa_nil)) (pe_dget hu (pv 1) (pv 2) (fun _ _ => rfl)))))) pa_nil))))), ?_⟩
    refine ⟨_, rfl, _, rfl, o, dx, dp, tl, xs, ms, qs, us, x, oo, rfl, wn.wa, wn.ql, wn.nd, wn.ml, wn.ul, wn.um, pp, fun H1 S1 => ?_⟩
    cases hA : isAns ms us oo with
    | false =>
      refine ⟨_, rfl, iteT ?_⟩
      exact q0 hA H1 S1
    | true =>
      refine ⟨_, rfl, iteF ?_⟩
      cases pp with
      | @other x t ht hk => cases hA
      | @dict d kvs hd nd hl hv =>
        obtain ⟨hlen, hok⟩ := ansB_has hA
        have hsome : ∀ x ∈ ms, (valV kvs (Sum.inr x : Key)).isSome = true := fun x hx => by
          obtain ⟨_, g⟩ := hasOk_int (hok x hx)
          rw [g]
          rfl
        have hd1 := S1 _ _ hd
        have wa1 := wn.wa.same S1
        have n1 : dp ≠ d := fun z => ndp (by rw [z])
        refine ⟨d, .dK kvs, hd1, by trivial, fun od => ?_⟩
        have bL : But d H1 (upd H1 d (.frz od (.dK kvs))) := But.upd
        have fL : upd H1 d (.frz od (.dK kvs)) d = some (.frz od (.dK kvs)) := upd_same
        generalize upd H1 d (.frz od (.dK kvs)) = H3 at bL fL
        have waF : ∀ {G : Hp}, But d H1 G → WebAt G C o dx dp tl xs ms qs us := fun {G} b =>
          ⟨b _ _ wa1.ho (ne_of wa1.ho hd1 (by intro z; cases z)), b _ _ wa1.hp n1, b _ _ wa1.ht (ne_of wa1.ht hd1 (by intro z; cases z)), paired_mono wa1.ti fun x y h => by
            obtain ⟨t, rfl, h⟩ := h
            exact ⟨t, rfl, b _ _ h (ne_of h hd1 (by intro z; cases z))⟩⟩
        refine ⟨_, rfl, d, od, rfl, .inl ⟨kvs, fL, fun D hD => lc_it (walk_keys (d := d) (o := od) (kvs := kvs)) (fun i H4 => But d H1 H4 ∧ H4 d = some (.frz od (.dK kvs)) ∧ H4 D = some (.lst ((((kvs.take i).map (·.1)).map (keyG fun x => prF ms qs x * vI kvs x)).map V.int)))
          ⟨fun b o e n => by rw [upd_ne (ne_of_none (bL _ _ e n) hD)]; exact bL _ _ e n, by rw [upd_ne (ne_of_none fL hD)]; exact fL, upd_same⟩ (fun i H4 _ h => h.2.1) ?_ ?_⟩⟩
        · rintro i z H4 H5 hi ⟨b4, f4, l4⟩ ⟨rfl, k, v, hkv, rfl⟩
          obtain ⟨x, hx, ex⟩ := keys_in nd wn.nd hlen hsome (List.mem_of_getElem? hkv)
          have ex' : k = Sum.inr x := ex
          subst ex'
          obtain ⟨_, g1⟩ := hasOk_int (hok x hx)
          have g2 := prF_some wn.nd wn.ql hx
          have b2 : 0 ≤ vI kvs x ∧ vI kvs x ≤ 2 := by
            have := hok x hx
            unfold hasOk at this
            rw [g1] at this
            exact of_decide_eq_true this
          have hg : DGet H5 d (.str x) (some (.int (vI kvs x))) := by
            rw [← g1]
            exact .inl ⟨kvs, Sum.inr x, .inr ⟨od, f4⟩, rfl, rfl⟩
          have nDd : D ≠ d := ne_of l4 f4 (by intro z; cases z)
          have fD : H1 D = none := by
            cases e : H1 D with
            | none => rfl
            | some u => rw [bL _ _ e nDd] at hD; cases hD
          have wa5 := waF b4
          refine ⟨rfl, ?_⟩
          refine iteT (B := False) ?_
          refine ⟨_, rfl, o, dx, _, rfl, wa5.ho, rfl, _, rfl, o, dx, dp, tl, xs, ms, qs, us, x, _, rfl, wa5, g2, ?_⟩
          refine ⟨_, rfl, _, rfl, d, _, rfl, hg, _, _, rfl, rfl, .inr ⟨by omega, by omega⟩, _, l4, fitsL (by rw [List.length_map, List.length_map, List.length_map, List.length_take]; omega), fun b o e n => by rw [upd_ne (ne_of_none e fD)]; exact b4 _ _ e n, by rw [upd_ne nDd.symm]; exact f4, ?_⟩
          rw [upd_same, take_more hkv, List.map_append, List.map_append, List.map_append]
          rfl
        · rintro H4 ⟨b4, f4, l4⟩
          rw [List.take_of_length_le (Nat.le_refl _)] at l4
          have nDd : D ≠ d := ne_of l4 f4 (by intro z; cases z)
          have S5 : Same H1 (upd H4 d (.dK kvs)) := fun b u e => by
            by_cases n : b = d
            · subst n
              rw [hd1] at e
              cases e
              exact upd_same
            · rw [upd_ne n]
              exact b4 _ _ e n
          have l5 : upd H4 d (.dK kvs) D = some (.lst (((kvs.map (·.1)).map (keyG fun x => prF ms qs x * vI kvs x)).map V.int)) := by rw [upd_ne nDd]; exact l4
          exact ⟨f4, D, _, rfl, SqL.of l5, q1 kvs rfl hA _ (S1.trans S5)⟩
end
end KK
end

section
set_option maxRecDepth 100000
set_option maxHeartbeats 4000000
namespace KK
open PySem PySem.Spec PyProof.Rows L2
theorem PartsAt.same {H H' : Hp} {r pl tl d : Addr} {ns : List Str} {ps : List Int} {xs : List V} {ts : List (Str × Str)} (h : PartsAt H r pl tl d ns ps xs ts) (s : Same H H') : PartsAt H' r pl tl d ns ps xs ts :=
  ⟨s _ _ h.hr, s _ _ h.hp, s _ _ h.ht, s _ _ h.hd, h.ti.same s, h.nr, h.pl, h.no, h.to, h.po⟩
theorem Passed.same {K : PySem.W.Frag} {H H' : Hp} {x : V} {o : Option (List (Key × V))} (h : Passed K H x o) (s : Same H H') : Passed K H' x o := by
  cases h with
  | dict h nd l v =>
    refine .dict (s _ _ h) nd l fun p hp => ?_
    obtain ⟨t, b1, b2, h1, h2⟩ := v p hp
    exact ⟨t, b1, b2, tyx_same h1 s, h2⟩
  | other h k => exact .other (tyx_same h s) k
theorem WebN.same {H H' : Hp} {C o dx dp tl : Addr} {xs : List V} {ms : List Str} {qs : List Int} {us : List (Str × Str)} (h : WebN H C o dx dp tl xs ms qs us) (s : Same H H') : WebN H' C o dx dp tl xs ms qs us := ⟨h.wa.same s, h.ql, h.nd, h.ml, h.ul, h.um⟩
theorem webN_of {H : Hp} {C o dx dp tl : Addr} {ys : List V} {ms : List Str} {qs : List Int} {us : List (Str × Str)} {ns : List Str} {ps : List Int} {ts : List (Str × Str)} (wa : WebAt H C o dx dp tl ys ms qs us) (wo : WebOk ns ps ts ms qs us) (no : NsOk ns) (to : TsOk ns ts) : WebN H C o dx dp tl ys ms qs us := by
  have h1 := no.hi
  have h2 := to.hi
  refine ⟨wa, wo.ql, wo.pm.nodup_iff.mpr no.nd, by rw [wo.pm.length_eq]; omega, by rw [wo.pu.length_eq, List.length_map]; omega, fun p hp => ?_⟩
  obtain ⟨z, hz, rfl⟩ := List.mem_map.mp (wo.pu.mem_iff.mp hp)
  have tk := to.ok z hz
  have a1 := wo.pm.mem_iff.mpr tk.a
  have a2 := wo.pm.mem_iff.mpr tk.b
  rcases ordP_cases z with e | e
  · rw [e]; exact ⟨a1, a2⟩
  · rw [e]; exact ⟨a2, a1⟩
theorem ansB_perm {ns ms : List Str} {ts us : List (Str × Str)} (pm : ms.Perm ns) (pu : us.Perm (ts.map ordP)) (kvs : List (Key × V)) : ansB ms us kvs = ansB ns ts kvs := by
  unfold ansB
  have e1 : decide (kvs.length = ms.length) = decide (kvs.length = ns.length) := by rw [pm.length_eq]
  have e2 : ms.all (hasOk kvs) = ns.all (hasOk kvs) := by
    rw [Bool.eq_iff_iff, List.all_eq_true, List.all_eq_true]
    exact ⟨fun h x hx => h x (pm.mem_iff.mpr hx), fun h x hx => h x (pm.mem_iff.mp hx)⟩
  have e3 : (us.all fun p => decide (2 ≤ vI kvs p.1 + vI kvs p.2)) = ts.all fun p => decide (2 ≤ vI kvs p.1 + vI kvs p.2) := by
    have sw : ∀ p, (2 ≤ vI kvs (ordP p).1 + vI kvs (ordP p).2) ↔ 2 ≤ vI kvs p.1 + vI kvs p.2 := fun p => by
      rcases ordP_cases p with e | e
      · rw [e]
      · rw [e]
        show 2 ≤ vI kvs p.2 + vI kvs p.1 ↔ _
        omega
    rw [Bool.eq_iff_iff, List.all_eq_true, List.all_eq_true]
    refine ⟨fun h p hp => ?_, fun h p hp => ?_⟩
    · have := h (ordP p) (pu.mem_iff.mpr (List.mem_map.mpr ⟨p, hp, rfl⟩))
      rw [decide_eq_true_eq] at this ⊢
      exact (sw p).mp this
    · obtain ⟨z, hz, rfl⟩ := List.mem_map.mp (pu.mem_iff.mp hp)
      have := h z hz
      rw [decide_eq_true_eq] at this ⊢
      exact (sw z).mpr this
  rw [e1, e2, e3]
theorem isAns_perm {ns ms : List Str} {ts us : List (Str × Str)} (pm : ms.Perm ns) (pu : us.Perm (ts.map ordP)) (o : Option (List (Key × V))) : isAns ms us o = isAns ns ts o := by
  cases o with
  | none => rfl
  | some kvs => exact ansB_perm pm pu kvs
theorem perm_of {α : Type} [DecidableEq α] : ∀ {xs ys : List α}, xs.Nodup → (∀ x ∈ xs, x ∈ ys) → ys.length ≤ xs.length → xs.Perm ys
  | [], ys, _, _, hl => by
    have : ys = [] := List.length_eq_zero_iff.mp (by simpa using hl)
    rw [this]
  | x :: xs, ys, hn, hs, hl => by
    have hx : x ∈ ys := hs x List.mem_cons_self
    have h1 := List.nodup_cons.mp hn
    have ih := perm_of (xs := xs) (ys := ys.erase x) h1.2 (fun z hz => (List.mem_erase_of_ne (fun q => h1.1 (by rw [← q]; exact hz))).mpr (hs z (List.mem_cons_of_mem _ hz))) (by rw [List.length_erase_of_mem hx]; rw [List.length_cons] at hl; omega)
    exact (ih.cons x).trans (List.perm_cons_erase hx).symm
theorem sum_perm {a b : List Int} (h : a.Perm b) : a.sum = b.sum := by
  induction h with
  | nil => rfl
  | cons x _ ih => rw [List.sum_cons, List.sum_cons, ih]
  | swap x y l => rw [List.sum_cons, List.sum_cons, List.sum_cons, List.sum_cons]; omega
  | trans _ _ i1 i2 => exact i1.trans i2
def spentI (ns : List Str) (ps : List Int) (kvs : List (Key × V)) : Int := (ns.map fun x => prF ns ps x * vI kvs x).sum
theorem cost_spent {ns ms : List Str} {ps qs : List Int} {ts us : List (Str × Str)} {kvs : List (Key × V)} (wo : WebOk ns ps ts ms qs us) (nd : (kvs.map (·.1)).Nodup) (no : NsOk ns) (h : ansB ns ts kvs = true) : costI ms qs kvs = spentI ns ps kvs := by
  obtain ⟨hlen, hok⟩ := ansB_has h
  have hsome : ∀ x ∈ ns, (valV kvs (Sum.inr x : Key)).isSome = true := fun x hx => by
    obtain ⟨_, g⟩ := hasOk_int (hok x hx)
    rw [g]
    rfl
  have hp : (kvs.map (·.1)).Perm (ns.map (Sum.inr : Str → Key)) := perm_of nd (fun k hk => by
    obtain ⟨p, hp, rfl⟩ := List.mem_map.mp hk
    obtain ⟨x, hx, e⟩ := keys_in nd no.nd hlen hsome hp
    exact List.mem_map.mpr ⟨x, hx, e.symm⟩) (by rw [List.length_map, List.length_map, hlen]; exact Nat.le_refl _)
  unfold costI spentI
  rw [sum_perm (hp.map _), List.map_map]
  refine congrArg List.sum (List.map_congr_left fun x hx => ?_)
  show prF ms qs x * vI kvs x = _
  have : prF ms qs x = prF ns ps x := by
    unfold prF
    rw [wo.pq x hx]
  rw [this]
def spSpent : Sp := fun vs H Q _ => ∃ r pl tl d ns ps xs ts a kvs, vs = [.ref r, .ref a] ∧ PartsAt H r pl tl d ns ps xs ts ∧ H a = some (.dK kvs) ∧ ansB ns ts kvs = true ∧ Q (.int (spentI ns ps kvs)) H
def spTruth : Sp := fun vs H Q _ => ∃ (a : Bool), vs = [.bl a, .bl a] ∧ Q (.bl true) H
def spLCost (K : PySem.W.Frag) (C : Addr) : Sp := fun vs H Q _ => ∃ o dx dp tl xs ms qs us x oo, vs = [.ref o, x] ∧ WebN H C o dx dp tl xs ms qs us ∧ Passed K H x oo ∧ x ≠ .ref dp ∧
  (isAns ms us oo = false → ∀ p H', Same H H' → H' p = some (.lst [.str "refused", .non]) → Q (.ref p) H') ∧ (∀ kvs, oo = some kvs → ansB ms us kvs = true → ∀ p H', Same H H' → H' p = some (.lst [.str "told", .int (costI ms qs kvs)]) → Q (.ref p) H')
def spAsked (K : PySem.W.Frag) (C : Addr) : Sp := fun vs H Q _ => ∃ o dx dp tl2 ys ms qs us r pl tl d ns ps xs ts x oo, vs = [.ref o, .ref r, x] ∧ WebAt H C o dx dp tl2 ys ms qs us ∧ WebOk ns ps ts ms qs us ∧ PartsAt H r pl tl d ns ps xs ts ∧ Passed K H x oo ∧ x ≠ .ref dp ∧ ∀ H', Same H H' → Q (.bl true) H'
section
variable {P : Program} {w : World} {K : PySem.W.Frag} {mg : Str → Option Value} {base : Heap} {C CA : Addr}
abbrev NLspent : List Str := ["_law_parts_here", "_law_x", "_law_total", "_law_place"]
theorem scLspent : FnScope NLspent ["_law_parts_here", "_law_x"] (defScope s_law_spent) := ⟨rfl, rfl, rfl, by decide +kernel, rfl, by decide +kernel, by decide +kernel⟩
theorem c_spent (T : Blt mg) (F : Has K mg "_law_spent" s_law_spent) : C8.Cal P w K mg base 1 "_law_spent" spSpent [] := by
  refine calF F (fun f fd F => F.binds (ps := ["_law_parts_here", "_law_x"]) fun _ _ _ _ _ _ us hl => match us, hl with | [_, _], _ => rfl) scLspent (fun vs H Q E h => ?_) (fun f cdv A outer s H vs Q E hr h => ?_)
  · obtain ⟨r, pl, tl, d, ns, ps, xs, ts, a, kvs, rfl, _⟩ := h
    rfl
  · obtain ⟨r, pl, tl, d, ns, ps, xs, ts, a, kvs, rfl, pa, ha, hA, q⟩ := h
    have hu := hu_of hr
    obtain ⟨hlen, hok⟩ := ansB_has hA
    refine ⟨_, (pss_cons (ps_set (i := 2) scLspent.nd rfl (Or.inl rfl) pe_int)
      (pss_cons (ps_for PassesOwn.never rfl (pi_tup (pe_ix ix_list (pv 0) pe_int (fun _ _ => rfl))) (pg_name (i := 3) scLspent.nd rfl (Or.inl rfl))
        (pss_one (ps_set (i := 2) scLspent.nd rfl (Or.inl rfl) (pe_op op_add (pv 2) (pe_op op_mul (pe_dget hu (pe_ix ix_list (pv 0) pe_int (fun _ _ => rfl)) (pv 3) (fun _ _ => rfl)) (pe_dget hu (pv 1) (pv 3) (fun _ _ => rfl)))))))
      (pss_one (ps_ret (pv 2))))), ?_⟩
    refine ⟨_, rfl, r, _, 0, _, rfl, rfl, SqL.of pa.hr, rfl, pl, rfl, ⟨_, SqT.of pa.hp⟩, for_tup (K := K) (a := pl) (xs := ns.map V.str) (fun i σ H2 => ∃ (v3 : Option V), σ = [some (.ref r), some (.ref a), some (.int (((ns.take i).map fun x => prF ns ps x * vI kvs x).sum)), v3] ∧ H2 = H)
      ⟨none, rfl, rfl⟩ (fun i σ H2 _ ⟨_, _, e⟩ => by rw [e]; exact SqT.of pa.hp) ?_ ?_⟩
    · rintro i v σ H2 hi ⟨v3, rfl, rfl⟩
      obtain ⟨x, hx, rfl⟩ := strs_at hi
      have hxm := List.mem_of_getElem? hx
      obtain ⟨_, g1⟩ := hasOk_int (hok x hxm)
      have g2 := prF_some pa.no.nd pa.pl hxm
      have b2 : 0 ≤ vI kvs x ∧ vI kvs x ≤ 2 := by
        have := hok x hxm
        unfold hasOk at this
        rw [g1] at this
        exact of_decide_eq_true this
      have e1 : DGet H2 d (.str x) (some (.int (prF ns ps x))) := by
        rw [← g2]
        exact DGet.k (k := Sum.inr x) pa.hd
      have e2 : DGet H2 a (.str x) (some (.int (vI kvs x))) := by
        rw [← g1]
        exact DGet.k (k := Sum.inr x) ha
      refine ⟨_, rfl, _, rfl, r, _, 2, _, rfl, rfl, SqL.of pa.hr, rfl, _, rfl, d, _, rfl, e1, _, rfl, _, rfl, a, _, rfl, e2, _, _, rfl, rfl, .inr ⟨by omega, by omega⟩, _, _, rfl, rfl, ?_⟩
      have es : ((ns.take (i + 1)).map fun x => prF ns ps x * vI kvs x).sum = ((ns.take i).map fun x => prF ns ps x * vI kvs x).sum + prF ns ps x * vI kvs x := by
        rw [take_more hx, List.map_append, List.sum_append, List.map_cons, List.map_nil, List.sum_cons, List.sum_nil, Int.add_zero]
      rw [es]
      exact ⟨_, rfl, rfl⟩
    · rintro σ H2 ⟨v3, rfl, rfl⟩
      rw [List.length_map, List.take_of_length_le (Nat.le_refl _)]
      exact ⟨_, rfl, q⟩
abbrev NLtruthis : List Str := ["_law_told", "_law_due"]
theorem scLtruthis : FnScope NLtruthis ["_law_told", "_law_due"] (defScope s_law_truth_is) := ⟨rfl, rfl, rfl, by decide +kernel, rfl, by decide +kernel, by decide +kernel⟩
theorem c_truth (T : Blt mg) (F : Has K mg "_law_truth_is" s_law_truth_is) : C8.Cal P w K mg base 1 "_law_truth_is" spTruth [] := by
  refine calF F (fun f fd F => F.binds (ps := ["_law_told", "_law_due"]) fun _ _ _ _ _ _ us hl => match us, hl with | [_, _], _ => rfl) scLtruthis (fun vs H Q E h => ?_) (fun f cdv A outer s H vs Q E hr h => ?_)
  · obtain ⟨a, rfl, _⟩ := h
    rfl
  · obtain ⟨a, rfl, q⟩ := h
    refine ⟨_, (pss_one (ps_ret (pe_and (pe_callB call_isi (by rfl) T.b_isinstance (by decide +kernel) (pa_cons (pv 0) (pa_cons (pe_bltn (v := .ty "bool") (by rfl) T.b_bool (by decide +kernel) rfl) pa_nil))) (pe_one (pe_cmpR op_eq (pv 0) (pv 1) (nomark _)))))), ?_⟩
    refine ⟨_, rfl, _, _, _, _, _, rfl, .ty "bool", .base (.bl a), kit_ty (b := "bool") (r := true) (by decide +kernel), _, rfl, iteT ?_⟩
    refine ⟨_, rfl, _, rfl, by cases a <;> rfl, ?_⟩
    rw [decide_eq_true rfl]
    exact q
def t_cBody (K : PySem.W.Frag) (C CA : Addr) (W : WX) : TS := tRet (tLst (tCons (tC (.str "told")) (tCons (tCallS (spCost K C CA) (WE W) (tCons (tVar 0) (tCons (tVar 1) tNil))) tNil)))
def t_cSuite : Addr → Value → Option Addr → TS := fun _ _ _ => tRet (tLst (tCons (tC (.str "refused")) (tCons (tC .non) tNil)))
abbrev NLcost : List Str := ["_law_web_here", "_law_x"]
theorem scLcost : FnScope NLcost ["_law_web_here", "_law_x"] (defScope s_law_cost) := ⟨rfl, rfl, rfl, by decide +kernel, rfl, by decide +kernel, by decide +kernel⟩
theorem c_lcost (T : Blt mg) (F : Has K mg "_law_cost" s_law_cost) (EX : ExC K mg "NoAnswer" CA) (TE : PySem.W.exmOne K (.ref CA) (.ref CA) = some true) (CCOST : Own.CalX P w K mg base 5 "cost" (spCost K C CA)) : C8.Cal P w K mg base 6 "_law_cost" (spLCost K C) [] := by
  refine calF F (fun f fd F => F.binds (ps := ["_law_web_here", "_law_x"]) fun _ _ _ _ _ _ us hl => match us, hl with | [_, _], _ => rfl) scLcost (fun vs H Q E h => ?_) (fun f cdv A outer s H vs Q E hr h => ?_)
  · obtain ⟨o, dx, dp, tl, xs, ms, qs, us, x, oo, rfl, _⟩ := h
    rfl
  · obtain ⟨o, dx, dp, tl, xs, ms, qs, us, x, oo, rfl, wn, pp, nx, q0, q1⟩ := h
    refine ⟨_, pss_one (ps_try_only (tb := t_cBody K C CA) (ts := t_cSuite) (Wout := fun _ _ _ _ => False) rfl rfl ⟨rfl, by decide, Or.inl EX.gC⟩ takes0
      (fun W pn xe tk _ => pss_one (ps_ret (by exact (pe_lst (pa_cons pe_str (pa_cons (Own.pe_cxS CCOST hr (by decide) tk rfl (by exact (pa_cons (pv 0) (pa_cons (pv 1) pa_nil)))) pa_nil))))))
      (fun a oe cls d pn hz hf => pss_one (ps_ret (by exact (pe_lst (pa_cons pe_str (pa_cons pe_non pa_nil))))))), ?_⟩
    refine ⟨_, rfl, _, rfl, o, dx, dp, tl, xs, ms, qs, us, x, oo, rfl, wn, pp, nx, fun hA H1 S1 => ?_, fun kvs e hA H1 S1 => ?_⟩
    · refine ⟨true, TE, fun _ a0 ha0 => ?_, fun z => by cases z⟩
      exact ⟨(show 2 ≤ sizeLine from fits (by decide)), fun p hp => q0 hA p _ (sNew S1 hp) upd_same⟩
    · exact ⟨(show 2 ≤ sizeLine from fits (by decide)), fun p hp => q1 kvs e hA p _ (sNew S1 hp) upd_same⟩
abbrev NLasked : List Str := ["_law_web_here", "_law_parts_here", "_law_x", "_law_due", "_law_told"]
theorem scLasked : FnScope NLasked ["_law_web_here", "_law_parts_here", "_law_x"] (defScope s_law_asked) := ⟨rfl, rfl, rfl, by decide +kernel, rfl, by decide +kernel, by decide +kernel⟩
theorem c_asked (T : Blt mg) (F : Has K mg "_law_asked" s_law_asked) (CANSIS : C8.Cal P w K mg base 2 "_law_answer_is" (spAnsIs K) []) (CTRUTH : C8.Cal P w K mg base 1 "_law_truth_is" spTruth []) (CISANS : C8.Cal P w K mg base 4 "is_answer" (spIsAns K C) [])
    (CLCOST : C8.Cal P w K mg base 6 "_law_cost" (spLCost K C) []) (CLISINT : C8.Cal P w K mg base 1 "_law_is_integer" (spIsInt K) []) (CSPENT : C8.Cal P w K mg base 1 "_law_spent" spSpent []) : C8.Cal P w K mg base 7 "_law_asked" (spAsked K C) [] := by
  refine calF F (fun f fd F => F.binds (ps := ["_law_web_here", "_law_parts_here", "_law_x"]) fun _ _ _ _ _ _ us hl => match us, hl with | [_, _, _], _ => rfl) scLasked (fun vs H Q E h => ?_) (fun f cdv A outer s H vs Q E hr h => ?_)
  · obtain ⟨o, dx, dp, tl2, ys, ms, qs, us, r, pl, tl, d, ns, ps, xs, ts, x, oo, rfl, _⟩ := h
    rfl
  · obtain ⟨o, dx, dp, tl2, ys, ms, qs, us, r, pl, tl, d, ns, ps, xs, ts, x, oo, rfl, wa, wo, pa, pp, nx, q⟩ := h
    refine ⟨_, (pss_cons (ps_set (i := 3) scLasked.nd rfl (Or.inl rfl) (C8.pe_c CANSIS hr (by decide) rfl (pa_cons (pv 1) (pa_cons (pv 2) pa_nil))))
      (pss_cons (ps_if (pt_not (pt_val (C8.pe_c CTRUTH hr (by decide) rfl (pa_cons (C8.pe_c CISANS hr (by decide) rfl (pa_cons (pv 0) (pa_cons (pv 2) pa_nil))) (pa_cons (pv 3) pa_nil))))) (pss_one (ps_ret pe_bl)) pss_nil)
      (pss_cons (ps_set (i := 4) scLasked.nd rfl (Or.inl rfl) (C8.pe_c CLCOST hr (by decide) rfl (pa_cons (pv 0) (pa_cons (pv 2) pa_nil))))
      (pss_cons (ps_if (pt_not (pt_val (pv 3))) (pss_one (ps_ret (pe_cmpR op_eq (pe_ix ix_list (pv 4) pe_int (fun _ _ => rfl)) pe_str (nomark _)))) pss_nil)
      (pss_one (ps_ret (pe_and (pe_cmpR op_eq (pe_ix ix_list (pv 4) pe_int (fun _ _ => rfl)) pe_str (nomark _)) (pe_and (C8.pe_c CLISINT hr (by decide) rfl (pa_cons (pe_ix ix_list (pv 4) pe_int (fun _ _ => rfl)) pa_nil)) (pe_one (pe_cmpR op_eq (pe_ix ix_list (pv 4) pe_int (fun _ _ => rfl)) (C8.pe_c CSPENT hr (by decide) rfl (pa_cons (pv 1) (pa_cons (pv 2) pa_nil))) (nomark _))))))))))), ?_⟩
    have wn := webN_of wa wo pa.no pa.to
    refine ⟨_, rfl, _, rfl, r, pl, tl, d, ns, ps, xs, ts, x, oo, rfl, pa, pp, fun H1 S1 => ?_⟩
    have wn1 := wn.same S1
    refine ⟨_, rfl, _, rfl, o, dx, dp, tl2, ys, ms, qs, us, x, oo, rfl, wn1.wa, wn1.ql, wn1.nd, wn1.ml, wn1.ul, wn1.um, pp.same S1, fun H2 s2 => ?_⟩
    have S2 := S1.trans s2
    rw [isAns_perm wo.pm wo.pu]
    have hpm := isAns_perm (ns := ns) (ts := ts) wo.pm wo.pu oo
    refine ⟨_, rfl, isAns ns ts oo, rfl, ?_⟩
    refine ⟨_, rfl, iteF ?_⟩
    refine ⟨_, rfl, _, rfl, o, dx, dp, tl2, ys, ms, qs, us, x, oo, rfl, wn.same S2, pp.same S2, nx, fun hA p H3 s3 h3 => ?_, fun kvs e hA p H3 s3 h3 => ?_⟩
    · rw [hpm] at hA
      rw [hA]
      refine ⟨_, rfl, _, rfl, iteT ?_⟩
      exact ⟨_, rfl, p, _, 0, _, rfl, rfl, SqL.of h3, rfl, rfl, q H3 (S2.trans s3)⟩
    · subst e
      have hA' : isAns ns ts (some kvs) = true := hpm.symm.trans hA
      rw [hA']
      refine ⟨_, rfl, _, rfl, iteF ?_⟩
      cases pp with
      | @dict d1 _ hd nd hl hv =>
        refine ⟨_, rfl, p, _, 0, _, rfl, rfl, SqL.of h3, rfl, rfl, ?_⟩
        refine ⟨_, rfl, iteT ?_⟩
        refine ⟨_, rfl, p, _, 1, _, rfl, rfl, SqL.of h3, rfl, _, "int", true, false, rfl, .base (.int _), by decide +kernel, by decide +kernel, ?_⟩
        refine ⟨_, rfl, iteT ?_⟩
        have S3 := S2.trans s3
        refine ⟨_, rfl, p, _, 1, _, rfl, rfl, SqL.of h3, rfl, _, rfl, _, rfl, r, pl, tl, d, ns, ps, xs, ts, d1, kvs, rfl, pa.same S3, S3 _ _ hd, hA', rfl, ?_⟩
        rw [cost_spent wo nd pa.no hA', decide_eq_true rfl]
        exact q H3 S3
end
end KK
end

section
set_option maxRecDepth 100000
set_option maxHeartbeats 4000000
namespace KK
open PySem PySem.Spec PyProof.Rows L2
def spLawWeb (C : Addr) : Sp := fun vs H Q _ => ∃ r pl tl d ns ps xs ts, vs = [.ref r] ∧ PartsAt H r pl tl d ns ps xs ts ∧
  ∀ o dx dp tl2 ys ms qs us H', Same H H' → H dp = none → H tl2 = none → WebAt H' C o dx dp tl2 ys ms qs us → WebOk ns ps ts ms qs us → Q (.ref o) H'
def spBack : Sp := fun vs H Q _ => ∃ a kvs, vs = [.ref a] ∧ H a = some (.dK kvs) ∧ (kvs.map (·.1)).Nodup ∧ kvs.length ≤ 1000 ∧ ∀ c H', Same H H' → H c = none → H' c = some (.dK kvs.reverse) → Q (.ref c) H'
theorem prK_set {ns : List Str} {as : List Int} {i : Nat} {x : Str} {z : Int} (hn : ns.Nodup) (hl : as.length = ns.length) (h : ns[i]? = some x) : putK (prK ns as) (Sum.inr x : Key) (.int z) = prK ns (as.set i z) := by
  obtain ⟨p, h1, h2⟩ := prK_some hn hl h
  unfold putK
  rw [if_pos (by rw [valV_any, h2] <;> rfl)]
  unfold prK
  apply List.ext_getElem?
  intro j
  rw [List.getElem?_map, List.getElem?_map, List.getElem?_map]
  by_cases hj : j < ns.length
  · have e1 : (ns.zip as)[j]? = some (ns[j], as[j]'(by omega)) := by
      rw [List.getElem?_zip_eq_some]
      exact ⟨List.getElem?_eq_getElem hj, List.getElem?_eq_getElem (by omega)⟩
    by_cases e : j = i
    · subst e
      have ex : ns[j] = x := by
        rw [List.getElem?_eq_getElem hj] at h
        exact Option.some.inj h
      have e2 : (ns.zip (as.set j z))[j]? = some (ns[j], z) := by
        rw [List.getElem?_zip_eq_some]
        exact ⟨List.getElem?_eq_getElem hj, by rw [List.getElem?_set_self (by omega)]⟩
      rw [e1, e2]
      show some (if (Sum.inr ns[j] : Key) = Sum.inr x then _ else _) = _
      rw [if_pos (by rw [ex])]
      rfl
    · have ne : ns[j] ≠ x := fun q => e (nd_ix hn (by rw [List.getElem?_eq_getElem hj, q]) h)
      have e2 : (ns.zip (as.set i z))[j]? = some (ns[j], as[j]'(by omega)) := by
        rw [List.getElem?_zip_eq_some]
        exact ⟨List.getElem?_eq_getElem hj, by rw [List.getElem?_set_ne (fun q => e q.symm), List.getElem?_eq_getElem (by omega)]⟩
      rw [e1, e2]
      show some (if (Sum.inr ns[j] : Key) = Sum.inr x then _ else _) = _
      rw [if_neg (fun q => ne (Sum.inr.inj q))]
      rfl
  · have e1 : (ns.zip as)[j]? = none := by rw [List.getElem?_eq_none]; rw [List.length_zip]; omega
    have e2 : (ns.zip (as.set i z))[j]? = none := by rw [List.getElem?_eq_none]; rw [List.length_zip]; omega
    rw [e1, e2]
    rfl
def spSome : Sp := fun vs H Q _ => ∃ a m r pl tl d ns ps xs ts, vs = [.ref a, .ref r] ∧ StrAt H a m ∧ m ≤ 10000 ∧ PartsAt H r pl tl d ns ps xs ts ∧ a ≠ r ∧ a ≠ tl ∧
  ∀ c as H', But a H H' → StrAt H' a (m + 1000) → H c = none → H' c = some (.dK (prK ns as)) → as.length = ns.length → Q (.ref c) H'
section
variable {P : Program} {w : World} {K : PySem.W.Frag} {mg : Str → Option Value} {base : Heap} {C CA : Addr}
abbrev NLweb : List Str := ["_law_parts_here", "_law_prices", "_law_place"]
theorem scLweb : FnScope NLweb ["_law_parts_here"] (defScope s_law_web) := ⟨rfl, rfl, rfl, by decide +kernel, rfl, by decide +kernel, by decide +kernel⟩
theorem c_lweb (T : Blt mg) (F : Has K mg "_law_web" s_law_web) (CMAKE : C8.Mak P w K mg base 4 "Web" C (spInit K C) []) : C8.Cal P w K mg base 6 "_law_web" (spLawWeb C) [] := by
  refine calF F (fun f fd F => F.binds (ps := ["_law_parts_here"]) fun _ _ _ _ _ _ us hl => match us, hl with | [_], _ => rfl) scLweb (fun vs H Q E h => ?_) (fun f cdv A outer s H vs Q E hr h => ?_)
  · obtain ⟨r, pl, tl, d, ns, ps, xs, ts, rfl, _⟩ := h
    rfl
  · obtain ⟨r, pl, tl, d, ns, ps, xs, ts, rfl, pa, q⟩ := h
    have hu := hu_of hr
    refine ⟨_, (pss_cons (ps_set (i := 1) scLweb.nd rfl (Or.inl rfl) pe_dnewK)
      (pss_cons (ps_lock (ps_for PassesOwn.never rfl (pi_keys (pe_ix ix_list (pv 0) pe_int (fun _ _ => rfl))) (pg_name (i := 2) scLweb.nd rfl (Or.inl rfl))
        (pss_one (ps_dput hu (pv 1) (pv 2) (pe_dget hu (pe_ix ix_list (pv 0) pe_int (fun _ _ => rfl)) (pv 2) (fun _ _ => rfl)) rfl))))
      (pss_one (ps_ret (C8.pe_mk CMAKE hr (by decide) rfl (pa_cons (pe_ix ix_list (pv 0) pe_int (fun _ _ => rfl)) (pa_cons (pe_callTy call_list_of (by rfl) T.b_list (by decide +kernel) (pa_cons (pe_ix ix_list (pv 0) pe_int (fun _ _ => rfl)) pa_nil)) (pa_cons (pv 1) pa_nil)))))))), ?_⟩
    intro c hc
    have S0 : Same H (upd H c (.dK [])) := Same.new hc
    have ec : upd H c (.dK []) c = some (.dK []) := upd_same
    have n2 := pa.no.hi
    have ndc : d ≠ c := ne_of_none pa.hd hc
    refine ⟨d, .dK (prK ns ps), S0 _ _ pa.hd, by trivial, fun od => ?_⟩
    have nrd : r ≠ d := ne_of pa.hr pa.hd (by intro z; cases z)
    have ed : upd H c (.dK []) d = some (.dK (prK ns ps)) := S0 _ _ pa.hd
    refine ⟨_, rfl, r, _, 2, _, rfl, rfl, SqL.of (by rw [upd_ne nrd]; exact S0 _ _ pa.hr), rfl, d, od, rfl, .inl ⟨prK ns ps, upd_same, for_it walk_keys (fun i σ H2 => ∃ v2, σ = [some (.ref r), some (.ref c), v2] ∧ But d H H2 ∧ H2 d = some (.frz od (.dK (prK ns ps))) ∧ H2 c = some (.dK (prK (ns.take i) (ps.take i))))
      ⟨_, rfl, (But.of S0).trans But.upd, upd_same, by rw [upd_ne ndc.symm]; exact ec⟩ (fun i σ H2 _ ⟨_, _, _, h, _⟩ => h) ?_ ?_⟩⟩
    · rintro i z σ H2 H3 hi ⟨v2, rfl, b2, h2, h3⟩ ⟨rfl, k, v, hk, rfl⟩
      obtain ⟨x, p, hx, hpp, rfl, rfl⟩ := prK_at hk
      obtain ⟨p', hp1, hp2⟩ := prK_some pa.no.nd pa.pl hx
      rw [hpp] at hp1
      cases hp1
      have hg : DGet H3 d (.str x) (some (.int p)) := by
        rw [← hp2]
        exact .inl ⟨_, Sum.inr x, .inr ⟨od, h2⟩, rfl, rfl⟩
      refine ⟨_, rfl, r, _, 2, _, rfl, rfl, SqL.of (b2 _ _ pa.hr nrd), rfl, _, rfl, d, _, rfl, hg, _, rfl, _, rfl, c, _, rfl, DPut.k (k := Sum.inr x) h3 (fitsL (by rw [prK_len _ _ (by rw [List.length_take, List.length_take, pa.pl]), List.length_take]; omega)), ?_⟩
      refine ⟨_, rfl, fun b o e n => by rw [upd_ne (ne_of_none e hc)]; exact b2 _ _ e n, by rw [upd_ne ndc]; exact h2, ?_⟩
      rw [upd_same, prK_put (by rw [List.length_take, List.length_take, pa.pl]) (not_taken pa.no.nd hx), take_more hx, take_more hpp]
    · rintro σ H2 ⟨v2, rfl, b2, h2, h3⟩
      refine ⟨h2, ?_⟩
      have S5 : Same H (upd H2 d (.dK (prK ns ps))) := fun b o e => by
        by_cases n : b = d
        · subst n
          rw [pa.hd] at e
          cases e
          exact upd_same
        · rw [upd_ne n]
          exact b2 _ _ e n
      have h5 : upd H2 d (.dK (prK ns ps)) c = some (.dK (prK ns ps)) := by
        rw [upd_ne ndc.symm]
        rw [prK_len _ _ pa.pl, List.take_of_length_le (Nat.le_refl _), List.take_of_length_le (Nat.le_of_eq pa.pl)] at h3
        exact h3
      generalize upd H2 d (.dK (prK ns ps)) = H5 at S5 h5
      refine ⟨_, rfl, r, _, 0, _, rfl, rfl, SqL.of (S5 _ _ pa.hr), rfl, _, rfl, r, _, 1, _, rfl, rfl, SqL.of (S5 _ _ pa.hr), rfl, tl, xs, rfl, .inl (SqL.of (S5 _ _ pa.ht)), fun l2 hl2 => ?_⟩
      have S6 := sNew S5 (o := .lst xs) hl2
      have e6 : upd H5 l2 (.lst xs) l2 = some (.lst xs) := upd_same
      have h6 : upd H5 l2 (.lst xs) c = some (.dK (prK ns ps)) := by rw [upd_ne (ne_of_none h5 hl2)]; exact h5
      generalize upd H5 l2 (.lst xs) = H6 at S6 e6 h6
      refine ⟨_, rfl, fun o dx ho hdx hne => ?_⟩
      have s7 : Same H6 (upd (upd H6 dx (.own o)) o (.ins C dx [])) := sUpd (Same.new hdx) ho
      have eo : upd (upd H6 dx (.own o)) o (.ins C dx []) o = some (.ins C dx []) := upd_same
      generalize upd (upd H6 dx (.own o)) o (.ins C dx []) = H7 at s7 eo
      have S7 := S6.trans s7
      refine ⟨o, dx, pl, l2, c, ns, ps, xs, ts, rfl, eo, S7 _ _ pa.hp, s7 _ _ e6, s7 _ _ h6, pa.ti.same S7, pa.pl, pa.no, pa.to, pa.po, fun dp tl2 ys ms qs us H8 b8 fdp ftl wa wo => ⟨rfl, ?_⟩⟩
      have S8 : Same H H8 := fun b z e => b8 _ _ (S7 _ _ e) (ne_of_none (S6 _ _ e) ho)
      exact q o dx dp tl2 ys ms qs us H8 S8 (S7.free fdp) (S7.free ftl) wa wo
abbrev NLback : List Str := ["_law_x", "_law_turned", "_law_key"]
theorem scLback : FnScope NLback ["_law_x"] (defScope s_law_back) := ⟨rfl, rfl, rfl, by decide +kernel, rfl, by decide +kernel, by decide +kernel⟩
theorem c_back (T : Blt mg) (F : Has K mg "_law_back" s_law_back) : C8.Cal P w K mg base 1 "_law_back" spBack [] := by
  refine calF F (fun f fd F => F.binds (ps := ["_law_x"]) fun _ _ _ _ _ _ us hl => match us, hl with | [_], _ => rfl) scLback (fun vs H Q E h => ?_) (fun f cdv A outer s H vs Q E hr h => ?_)
  · obtain ⟨a, kvs, rfl, _⟩ := h
    rfl
  · obtain ⟨a, kvs, rfl, ha, nd, hl, q⟩ := h
    have hu := hu_of hr
    refine ⟨_, (pss_cons (ps_set (i := 1) scLback.nd rfl (Or.inl rfl) pe_dnewK)
      (pss_cons (ps_for PassesOwn.never rfl (pi_list (pe_revL (pe_callTy (call_list_dK rfl) (by rfl) T.b_list (by decide +kernel) (pa_cons (pv 0) pa_nil)))) (pg_name (i := 2) scLback.nd rfl (Or.inl rfl))
        (pss_one (ps_dput hu (pv 1) (pv 2) (pe_dget hu (pv 0) (pv 2) (fun _ _ => rfl)) rfl)))
      (pss_one (ps_ret (pv 1))))), ?_⟩
    intro c hc
    have S0 : Same H (upd H c (.dK [])) := Same.new hc
    have nac : a ≠ c := ne_of_none ha hc
    have ec : upd H c (.dK []) c = some (.dK []) := upd_same
    refine ⟨_, rfl, a, _, rfl, S0 _ _ ha, fun p hp => ?_⟩
    refine ⟨p, _, rfl, SqL.of upd_same, fun p2 hp2 => ?_⟩
    have S1 := sNew S0 (o := .lst (kvs.map fun kv => kV kv.1)) hp
    have npc : c ≠ p := ne_of_none ec hp
    have e1 : upd (upd H c (.dK [])) p (.lst (kvs.map fun kv => kV kv.1)) c = some (.dK []) := by rw [upd_ne npc]; exact ec
    generalize upd (upd H c (.dK [])) p (.lst (kvs.map fun kv => kV kv.1)) = H1 at S1 e1 hp2
    have S2 := sNew S1 (o := .lst (kvs.map fun kv => kV kv.1).reverse) hp2
    have np2c : c ≠ p2 := ne_of_none e1 hp2
    have e2 : upd H1 p2 (.lst (kvs.map fun kv => kV kv.1).reverse) c = some (.dK []) := by rw [upd_ne np2c]; exact e1
    have l2 : upd H1 p2 (.lst (kvs.map fun kv => kV kv.1).reverse) p2 = some (.lst (kvs.reverse.map fun kv => kV kv.1)) := by rw [upd_same, List.map_reverse]
    generalize upd H1 p2 (.lst (kvs.map fun kv => kV kv.1).reverse) = H2 at S2 e2 l2
    have ndr : (kvs.reverse.map (·.1)).Nodup := by
      rw [List.map_reverse]
      exact List.pairwise_reverse.mpr (List.Pairwise.imp (fun h e => h e.symm) nd)
    refine ⟨p2, rfl, ⟨_, SqL.of l2⟩, for_list (K := K) (a := p2) (xs := kvs.reverse.map fun kv => kV kv.1) (fun i σ H3 => ∃ v2, σ = [some (.ref a), some (.ref c), v2] ∧ Same H H3 ∧ H3 p2 = some (.lst (kvs.reverse.map fun kv => kV kv.1)) ∧ H3 c = some (.dK (kvs.reverse.take i)))
      ⟨_, rfl, S2, l2, e2⟩ (fun i σ H3 _ ⟨_, _, _, h, _⟩ => SqL.of h) ?_ ?_⟩
    · rintro i v σ H3 hi ⟨v2, rfl, s3, l3, c3⟩
      rw [List.getElem?_map] at hi
      obtain ⟨⟨k, u⟩, hk, rfl⟩ := Option.map_eq_some_iff.mp hi
      have hm : (k, u) ∈ kvs := List.mem_reverse.mp (List.mem_of_getElem? hk)
      obtain ⟨j, hj⟩ := List.getElem?_of_mem hm
      have hg : DGet H3 a (kV k) (some u) := by
        rw [← valV_nd nd hj]
        exact DGet.k (s3 _ _ ha)
      have ltk : (kvs.reverse.take i).length ≤ 1000 := by rw [List.length_take, List.length_reverse]; omega
      refine ⟨_, rfl, _, rfl, a, _, rfl, hg, _, rfl, _, rfl, c, _, rfl, DPut.k (k := k) c3 (fitsL (by omega)), ?_⟩
      refine ⟨_, rfl, fun b o e => by rw [upd_ne (ne_of_none e hc)]; exact s3 _ _ e, by rw [upd_ne (ne_of l3 c3 (by intro z; cases z))]; exact l3, ?_⟩
      rw [upd_same, take_more hk, putK_new]
      cases e : valV (kvs.reverse.take i) k with
      | none => rfl
      | some w =>
        exfalso
        have h1 := valV_mem e
        have h2 : k ∈ (kvs.reverse.map (·.1)).take i := by
          rw [← List.map_take]
          exact List.mem_map.mpr ⟨_, h1, rfl⟩
        exact not_taken' ndr (by rw [List.getElem?_map, hk] <;> rfl) h2
    · rintro σ H3 ⟨v2, rfl, s3, l3, c3⟩
      rw [List.length_map, List.take_of_length_le (Nat.le_refl _)] at c3
      exact ⟨_, rfl, q c H3 s3 hc c3⟩
abbrev NLsomeanswer : List Str := ["_law_stream_here", "_law_parts_here", "_law_x", "_law_place", "_law_pair_here", "_law_raised"]
theorem scLsomeanswer : FnScope NLsomeanswer ["_law_stream_here", "_law_parts_here"] (defScope s_law_some_answer) := ⟨rfl, rfl, rfl, by decide +kernel, rfl, by decide +kernel, by decide +kernel⟩
theorem c_some (T : Blt mg) (F : Has K mg "_law_some_answer" s_law_some_answer) (CDRAW : C8.Cal P w K mg base 1 "_law_draw" spDraw []) : C8.Cal P w K mg base 2 "_law_some_answer" spSome [] := by
  refine calF F (fun f fd F => F.binds (ps := ["_law_stream_here", "_law_parts_here"]) fun _ _ _ _ _ _ us hl => match us, hl with | [_, _], _ => rfl) scLsomeanswer (fun vs H Q E h => ?_) (fun f cdv A outer s H vs Q E hr h => ?_)
  · obtain ⟨a, m, r, pl, tl, d, ns, ps, xs, ts, rfl, _⟩ := h
    rfl
  · obtain ⟨a, m, r, pl, tl, d, ns, ps, xs, ts, rfl, sa, hm, pa, nar, nat, q⟩ := h
    have hu := hu_of hr
    refine ⟨_, (pss_cons (ps_set (i := 2) scLsomeanswer.nd rfl (Or.inl rfl) pe_dnewK)
      (pss_cons (ps_for PassesOwn.never rfl (pi_tup (pe_ix ix_list (pv 1) pe_int (fun _ _ => rfl))) (pg_name (i := 3) scLsomeanswer.nd rfl (Or.inl rfl))
        (pss_one (ps_dput hu (pv 2) (pv 3) (C8.pe_c CDRAW hr (by decide) rfl (pa_cons (pv 0) (pa_cons pe_int pa_nil))) rfl)))
      (pss_cons (ps_for PassesOwn.never rfl (pi_list (pe_ix ix_list (pv 1) pe_int (fun _ _ => rfl))) (pg_name (i := 4) scLsomeanswer.nd rfl (Or.inl rfl))
        (pss_one (ps_if (pt_cmpR op_lt (pe_op op_add (pe_dget hu (pv 2) (pe_ix ix_tup (pv 4) pe_int (fun _ _ => rfl)) (fun _ _ => rfl)) (pe_dget hu (pv 2) (pe_ix ix_tup (pv 4) pe_int (fun _ _ => rfl)) (fun _ _ => rfl))) pe_int (nomark _)) (pss_cons (ps_set (i := 5) scLsomeanswer.nd rfl (Or.inl rfl) (pe_ix ix_tup (pv 4) (C8.pe_c CDRAW hr (by decide) rfl (pa_cons (pv 0) (pa_cons pe_int pa_nil))) (fun _ _ => rfl)))
      (pss_one (ps_dput hu (pv 2) (pv 5) (pe_op op_add (pe_op op_sub (pe_op op_sub pe_int (pe_dget hu (pv 2) (pe_ix ix_tup (pv 4) pe_int (fun _ _ => rfl)) (fun _ _ => rfl))) (pe_dget hu (pv 2) (pe_ix ix_tup (pv 4) pe_int (fun _ _ => rfl)) (fun _ _ => rfl))) (pe_dget hu (pv 2) (pv 5) (fun _ _ => rfl))) rfl))) pss_nil)))
      (pss_one (ps_ret (pv 2)))))), ?_⟩
    intro c hc
    obtain ⟨ca, ka, hA, _⟩ := id sa
    have n2 := pa.no.hi
    have lxs := paired_len pa.ti
    have lts := pa.to.hi
    have nac : a ≠ c := ne_of_none hA hc
    have npa : pl ≠ a := ne_of pa.hp hA (by intro z; cases z)
    have npc : pl ≠ c := ne_of_none pa.hp hc
    have nrc : r ≠ c := ne_of_none pa.hr hc
    have ntc : tl ≠ c := ne_of_none pa.ht hc
    refine ⟨_, rfl, r, _, 0, _, rfl, rfl, SqL.of (by rw [upd_ne nrc]; exact pa.hr), rfl, pl, rfl, ⟨_, SqT.of (by rw [upd_ne npc]; exact pa.hp)⟩, for_tup (K := K) (a := pl) (xs := ns.map V.str) (fun i σ H2 => ∃ (v3 : Option V) (as : List Int), σ = [some (.ref a), some (.ref r), some (.ref c), v3, none, none] ∧ But a H H2 ∧ StrAt H2 a (m + i) ∧ H2 c = some (.dK (prK (ns.take i) as)) ∧ as.length = i)
      ⟨none, [], rfl, .of (Same.new hc), (sa.upd nac).mono (by omega), upd_same, rfl⟩ (fun i σ H2 _ ⟨_, _, _, b, _⟩ => SqT.of (b _ _ pa.hp npa)) ?_ ?_⟩
    · rintro i v σ H2 hi ⟨v3, as, rfl, b2, s2, h2, hl⟩
      obtain ⟨x, hx, rfl⟩ := strs_at hi
      have hin : i < ns.length := (List.getElem?_eq_some_iff.mp hx).1
      refine ⟨_, rfl, a, 3, _, rfl, s2, by omega, by decide, by decide, fun z H3 z0 z1 b3 s3 => ?_⟩
      have h3 := b3 _ _ h2 nac.symm
      have lt : (ns.take i).length = i := by rw [List.length_take]; omega
      refine ⟨_, rfl, _, rfl, c, _, rfl, DPut.k (k := Sum.inr x) h3 (fitsL (by rw [prK_len _ _ (by rw [hl, lt]), lt]; omega)), ?_⟩
      refine ⟨_, as ++ [z], rfl, (b2.trans b3).mut hc, (s3.upd nac).mono (by omega), ?_, by rw [List.length_append, hl]; rfl⟩
      rw [upd_same, prK_put (by rw [hl, lt]) (not_taken pa.no.nd hx), take_more hx]
    rintro σ H2 ⟨v3, as, rfl, b2, s2, h2, hl⟩
    rw [List.length_map] at hl
    rw [List.length_map, List.take_of_length_le (Nat.le_refl _)] at h2
    rw [List.length_map] at s2
    refine ⟨_, rfl, r, _, 1, _, rfl, rfl, SqL.of (b2 _ _ pa.hr nar.symm), rfl, tl, rfl, ⟨_, SqL.of (b2 _ _ pa.ht nat.symm)⟩, for_list (K := K) (a := tl) (xs := xs) (fun i σ H3 => ∃ (v4 v5 : Option V) (as : List Int), σ = [some (.ref a), some (.ref r), some (.ref c), v3, v4, v5] ∧ But a H H3 ∧ StrAt H3 a (m + 40 + i) ∧ H3 c = some (.dK (prK ns as)) ∧ as.length = ns.length)
      ⟨none, none, as, rfl, b2, s2.mono (by omega), h2, hl⟩ (fun i σ H3 _ ⟨_, _, _, _, b, _⟩ => SqL.of (b _ _ pa.ht nat.symm)) ?_ ?_⟩
    · rintro i v σ H3 hi ⟨v4, v5, as, rfl, b3, s3, h3, hl3⟩
      obtain ⟨p, hpp, t, rfl, htt⟩ := paired_get pa.ti hi
      have hin : i < ts.length := (List.getElem?_eq_some_iff.mp hpp).1
      have tok := pa.to.ok p (List.mem_of_getElem? hpp)
      have nta : t ≠ a := ne_of htt hA (by intro z; cases z)
      have e3 : H3 t = some (.tup [.str p.1, .str p.2]) := b3 _ _ htt nta
      obtain ⟨i1, hi1⟩ := List.getElem?_of_mem tok.a
      obtain ⟨i2, hi2⟩ := List.getElem?_of_mem tok.b
      obtain ⟨y1, hy1, hv1⟩ := prK_some pa.no.nd hl3 hi1
      obtain ⟨y2, hy2, hv2⟩ := prK_some pa.no.nd hl3 hi2
      have gg : ∀ G, G c = some (.dK (prK ns as)) → DGet G c (.str p.1) (some (.int y1)) ∧ DGet G c (.str p.2) (some (.int y2)) := fun G e => by
        refine ⟨?_, ?_⟩
        · rw [← hv1]
          exact DGet.k (k := Sum.inr p.1) e
        · rw [← hv2]
          exact DGet.k (k := Sum.inr p.2) e
      obtain ⟨q1, q2⟩ := gg H3 h3
      refine ⟨_, rfl, _, rfl, t, _, 0, _, rfl, rfl, SqT.of e3, rfl, c, _, rfl, q1, _, rfl, _, rfl, t, _, 1, _, rfl, rfl, SqT.of e3, rfl, c, _, rfl, q2, _, _, rfl, rfl, _, _, rfl, rfl, _, rfl, ite2 (fun _ => ?_) (fun _ => ?_)⟩
      · refine ⟨_, rfl, _, rfl, a, 2, _, rfl, s3, by omega, by decide, by decide, fun z H4 z0 z1 b4 s4 => ?_⟩
        obtain ⟨c3, k3, hA3, _⟩ := id s3
        have e4 : H4 t = some (.tup [.str p.1, .str p.2]) := b4 _ _ e3 nta
        have h4 := b4 _ _ h3 nac.symm
        obtain ⟨q3, q4⟩ := gg H4 h4
        have fin : ∀ (x : Str) (j : Nat), ns[j]? = some x → ∀ y, valV (prK ns as) (Sum.inr x : Key) = some (.int y) → ∀ (w : Int),
            (But a H (upd H4 c (.dK (putK (prK ns as) (Sum.inr x : Key) (.int w)))) ∧ StrAt (upd H4 c (.dK (putK (prK ns as) (Sum.inr x : Key) (.int w)))) a (m + 40 + ((i + 1 : Nat) : Int)) ∧ (upd H4 c (.dK (putK (prK ns as) (Sum.inr x : Key) (.int w)))) c = some (.dK (prK ns (as.set j w))) ∧ (as.set j w).length = ns.length) := fun x j hj y hy w =>
          ⟨(b3.trans b4).mut hc, (s4.upd nac).mono (by omega), by rw [upd_same, prK_set pa.no.nd hl3 hj], by rw [List.length_set]; exact hl3⟩
        have lK : (prK ns as).length < sizeLine := fitsL (by rw [prK_len _ _ hl3]; omega)
        have hz : z = 0 ∨ z = 1 := by omega
        rcases hz with rfl | rfl
        · refine ⟨t, _, 0, _, rfl, rfl, SqT.of e4, rfl, ?_⟩
          refine ⟨_, rfl, _, rfl, t, _, 0, _, rfl, rfl, SqT.of e4, rfl, c, _, rfl, q3, _, _, rfl, rfl, _, rfl, _, rfl, t, _, 1, _, rfl, rfl, SqT.of e4, rfl, c, _, rfl, q4, _, _, rfl, rfl, _, rfl, _, rfl, c, _, rfl, q3, _, _, rfl, rfl, _, rfl, _, rfl, c, _, rfl, DPut.k (k := Sum.inr p.1) h4 lK, ?_⟩
          exact ⟨_, _, _, rfl, fin p.1 i1 hi1 _ hv1 _⟩
        · refine ⟨t, _, 1, _, rfl, rfl, SqT.of e4, rfl, ?_⟩
          refine ⟨_, rfl, _, rfl, t, _, 0, _, rfl, rfl, SqT.of e4, rfl, c, _, rfl, q3, _, _, rfl, rfl, _, rfl, _, rfl, t, _, 1, _, rfl, rfl, SqT.of e4, rfl, c, _, rfl, q4, _, _, rfl, rfl, _, rfl, _, rfl, c, _, rfl, q4, _, _, rfl, rfl, _, rfl, _, rfl, c, _, rfl, DPut.k (k := Sum.inr p.2) h4 lK, ?_⟩
          exact ⟨_, _, _, rfl, fin p.2 i2 hi2 _ hv2 _⟩
      · exact ⟨_, _, as, rfl, b3, s3.mono (by omega), h3, hl3⟩
    · rintro σ H3 ⟨v4, v5, as, rfl, b3, s3, h3, hl3⟩
      exact ⟨_, rfl, q c as H3 b3 (s3.mono (by omega)) hc h3 hl3⟩
end
end KK
end

section
set_option maxRecDepth 100000
set_option maxHeartbeats 4000000
namespace KK
open PySem PySem.Spec PyProof.Rows L2
/-- what is passed, and what comparing it with itself needs -/
inductive PassEq (K : PySem.W.Frag) (H : Hp) : V → Option (List (Key × V)) → Prop where
  | dict {d : Addr} {kvs : List (Key × V)} (p : Passed K H (.ref d) (some kvs)) (h : H d = some (.dK kvs)) (f : ∀ p ∈ kvs, Own.sameB p.2 = true) : PassEq K H (.ref d) (some kvs)
  | other {x : V} (p : Passed K H x none) (s : SelfEq H x) : PassEq K H x none
/-- all that stood stands, but what is at a and c -/
def But2 (a c : Addr) (H H' : Hp) : Prop := ∀ b o, H b = some o → b ≠ a → b ≠ c → H' b = some o
def spChanged (K : PySem.W.Frag) : Sp := fun vs H Q _ => ∃ a m r pl tl d ns ps xs ts c as, vs = [.ref a, .ref r, .ref c] ∧ StrAt H a m ∧ m ≤ 10000 ∧ PartsAt H r pl tl d ns ps xs ts ∧ a ≠ r ∧ a ≠ tl ∧ H c = some (.dK (prK ns as)) ∧ as.length = ns.length ∧ d ≠ c ∧
  ∀ x oo H', But2 a c H H' → (∀ b, x = .ref b → b = c ∨ H b = none) → PassEq K H' x oo → Q x H'
theorem But2.of {a c : Addr} {H H' : Hp} (b : But a H H') : But2 a c H H' := fun z o e n _ => b z o e n
theorem But2.put {a c : Addr} {H H' : Hp} {o : HO} (b : But2 a c H H') : But2 a c H (L2.upd H' c o) := fun z u e n1 n2 => by
  rw [upd_ne n2]
  exact b z u e n1 n2
theorem But2.same {a c : Addr} {H H1 H2 : Hp} (b : But2 a c H H1) (s : Same H1 H2) : But2 a c H H2 := fun z u e n1 n2 => s _ _ (b z u e n1 n2)
theorem valK_int (K : PySem.W.Frag) (H : Hp) (i : Int) : ValK K H (.int i) := ⟨"int", true, false, .base (.int i), by decide +kernel, by decide +kernel, fun _ => ⟨i, rfl⟩, fun z => by cases z⟩
theorem prK_mem {ns : List Str} {as : List Int} {p : Key × V} (h : p ∈ prK ns as) : ∃ x i, p = (Sum.inr x, V.int i) := by
  unfold prK at h
  obtain ⟨q, _, rfl⟩ := List.mem_map.mp h
  exact ⟨_, _, rfl⟩
theorem prK_nodup : ∀ {ns : List Str} {as : List Int}, ns.Nodup → ((prK ns as).map (·.1)).Nodup
  | [], _, _ => List.nodup_nil
  | n :: ns, [], _ => List.nodup_nil
  | n :: ns, a :: as, h => by
    have h1 := List.nodup_cons.mp h
    have ih := prK_nodup (as := as) h1.2
    unfold prK at ih ⊢
    rw [List.zip_cons_cons, List.map_cons, List.map_cons]
    refine List.nodup_cons.mpr ⟨fun hm => ?_, ih⟩
    obtain ⟨q, hq, e⟩ := List.mem_map.mp hm
    obtain ⟨z, hz, rfl⟩ := List.mem_map.mp hq
    have e2 : z.1 = n := Sum.inr.inj e
    exact h1.1 (by rw [← e2]; exact (List.of_mem_zip hz).1)
theorem valK_scal (K : PySem.W.Frag) (H : Hp) {v : V} (h : flatB v = true) : ValK K H v := by
  cases v with
  | non => exact ⟨"NoneType", false, false, .base .non, by decide +kernel, by decide +kernel, fun z => (by cases z), fun _ i z => by cases z⟩
  | bl b => exact ⟨"bool", true, true, .base (.bl b), by decide +kernel, by decide +kernel, fun z => (by cases z), fun _ i z => by cases z⟩
  | int i => exact valK_int K H i
  | str y => exact ⟨"str", false, false, .base (.str y), by decide +kernel, by decide +kernel, fun z => (by cases z), fun _ i z => by cases z⟩
  | byt y => exact ⟨"bytes", false, false, .byt y, by decide +kernel, by decide +kernel, fun z => (by cases z), fun _ i z => by cases z⟩
  | _ => cases h
theorem passEq_of {K : PySem.W.Frag} {H : Hp} {x : V} (h : SelfEq H x) : ∃ o, PassEq K H x o := by
  cases h with
  | @scal x h =>
    have hs : SelfEq H x := .scal h
    cases x with
    | non => exact ⟨_, .other (.other (.base .non) (by decide +kernel)) hs⟩
    | bl b => exact ⟨_, .other (.other (.base (.bl b)) (by decide +kernel)) hs⟩
    | int b => exact ⟨_, .other (.other (.base (.int b)) (by decide +kernel)) hs⟩
    | str b => exact ⟨_, .other (.other (.base (.str b)) (by decide +kernel)) hs⟩
    | byt b => exact ⟨_, .other (.other (.byt b) (by decide +kernel)) hs⟩
    | _ => cases h
  | @lst a ns h o => exact ⟨_, .other (.other (.base (.lst h)) (by decide +kernel)) (.lst h o)⟩
  | @tup a ns h o => exact ⟨_, .other (.other (.base (.tup h)) (by decide +kernel)) (.tup h o)⟩
  | @dK a kvs h nd l o =>
    refine ⟨_, .dict (.dict h nd (by omega) fun p hp => valK_scal K H (o p hp).2) h fun p hp => ?_⟩
    have := (o p hp).2
    unfold Own.sameB
    split
    · rfl
    · exact this
theorem putK_mem {kvs : List (Key × V)} {k : Key} {v : V} {p : Key × V} (h : p ∈ putK kvs k v) : p ∈ kvs ∨ p = (k, v) := by
  unfold putK at h
  split at h
  · obtain ⟨q, hq, e⟩ := List.mem_map.mp h
    by_cases c : q.1 = k
    · rw [if_pos c] at e
      right
      rw [← e, c]
    · rw [if_neg c] at e
      left
      rw [← e]
      exact hq
  · rcases List.mem_append.mp h with h | h
    · exact .inl h
    · exact .inr (by simpa using h)
theorem putK_len (kvs : List (Key × V)) (k : Key) (v : V) : (putK kvs k v).length ≤ kvs.length + 1 := by
  unfold putK
  split
  · rw [List.length_map]
    omega
  · rw [List.length_append]
    exact Nat.le_refl _
theorem putK_nd {kvs : List (Key × V)} {k : Key} {v : V} (h : (kvs.map (·.1)).Nodup) : ((putK kvs k v).map (·.1)).Nodup := by
  unfold putK
  split
  · rw [List.map_map]
    have e : ((fun x : Key × V => x.1) ∘ fun kv : Key × V => if kv.1 = k then (kv.1, v) else kv) = fun kv => kv.1 := by
      funext kv
      show (if kv.1 = k then (kv.1, v) else kv).1 = kv.1
      split <;> rfl
    rw [e]
    exact h
  · rename_i hn
    rw [List.map_append, List.nodup_append]
    refine ⟨h, List.nodup_cons.mpr ⟨by simp, List.nodup_nil⟩, fun y hy z hz e => hn ?_⟩
    have : z = k := by simpa using hz
    subst this
    subst e
    obtain ⟨q, hq, e⟩ := List.mem_map.mp hy
    rw [List.any_eq_true]
    exact ⟨q, hq, decide_eq_true e⟩
theorem dropK_sub (kvs : List (Key × V)) (k : Key) : (dropK kvs k).Sublist kvs := List.filter_sublist
section
variable {P : Program} {w : World} {K : PySem.W.Frag} {mg : Str → Option Value} {base : Heap} {C CA : Addr}
abbrev NLchanged : List Str := ["_law_stream_here", "_law_parts_here", "_law_x", "_law_kind", "_law_place", "_law_stranger"]
theorem scLchanged : FnScope NLchanged ["_law_stream_here", "_law_parts_here", "_law_x"] (defScope s_law_changed) := ⟨rfl, rfl, rfl, by decide +kernel, rfl, by decide +kernel, by decide +kernel⟩
theorem c_changed (T : Blt mg) (F : Has K mg "_law_changed" s_law_changed) (CDRAW : C8.Cal P w K mg base 1 "_law_draw" spDraw []) (CNAME : C8.Cal P w K mg base 2 "_law_name" (spName K) []) (CODD : C8.Cal P w K mg base 1 "_law_odd" (spOdd K) []) : C8.Cal P w K mg base 3 "_law_changed" (spChanged K) [] := by
  refine calF F (fun f fd F => F.binds (ps := ["_law_stream_here", "_law_parts_here", "_law_x"]) fun _ _ _ _ _ _ us hl => match us, hl with | [_, _, _], _ => rfl) scLchanged (fun vs H Q E h => ?_) (fun f cdv A outer s H vs Q E hr h => ?_)
  · obtain ⟨a, m, r, pl, tl, d, ns, ps, xs, ts, c, as, rfl, _⟩ := h
    rfl
  · obtain ⟨a, m, r, pl, tl, d, ns, ps, xs, ts, c, as, rfl, sa, hm, pa, nar, nat, hc, hl, ndc, q⟩ := h
    have hu := hu_of hr
    refine ⟨_, (pss_cons (ps_set (i := 3) scLchanged.nd rfl (Or.inl rfl) (C8.pe_c CDRAW hr (by decide) rfl (pa_cons (pv 0) (pa_cons pe_int pa_nil))))
      (pss_cons (ps_set (i := 4) scLchanged.nd rfl (Or.inl rfl) (pe_ix ix_tup (pe_ix ix_list (pv 1) pe_int (fun _ _ => rfl)) (C8.pe_c CDRAW hr (by decide) rfl (pa_cons (pv 0) (pa_cons (pe_callB call_len (by rfl) T.b_len PySem.boot_len (pa_cons (pe_ix ix_list (pv 1) pe_int (fun _ _ => rfl)) pa_nil)) pa_nil))) (fun _ _ => rfl)))
      (pss_cons (ps_set (i := 5) scLchanged.nd rfl (Or.inl rfl) (C8.pe_c CNAME hr (by decide) rfl (pa_cons (pv 0) (pa_cons (pe_ix ix_list (pv 1) pe_int (fun _ _ => rfl)) pa_nil))))
      (pss_cons (ps_if (pt_cmpR op_eq (pv 3) pe_int (nomark _)) (pss_one (ps_dput hu (pv 2) (pv 4) (pe_op op_sub (pe_dget hu (pv 2) (pv 4) (fun _ _ => rfl)) pe_int) rfl)) (pss_one (ps_if (pt_cmpR op_eq (pv 3) pe_int (nomark _)) (pss_one (ps_dput hu (pv 2) (pv 4) (pe_ix ix_list (pe_lst (pa_cons pe_bl (pa_cons pe_non (pa_cons pe_str (pa_cons pe_int (pa_cons (pe_un un_neg pe_int) (pa_cons (pe_lst (pa_cons pe_int pa_nil)) (pa_cons pe_bl (pa_cons (pe_op op_pow pe_int pe_int) pa_nil))))))))) (C8.pe_c CDRAW hr (by decide) rfl (pa_cons (pv 0) (pa_cons pe_int pa_nil))) (fun _ _ => rfl)) rfl)) (pss_one (ps_if (pt_cmpR op_eq (pv 3) pe_int (nomark _)) (pss_one (ps_expr (pe_dpop1 (pv 2) (pv 4) ⟨rfl, rfl, rfl, rfl⟩))) (pss_one (ps_if (pt_cmpR op_eq (pv 3) pe_int (nomark _)) (pss_one (ps_dput hu (pv 2) (pv 5) pe_int rfl)) (pss_one (ps_if (pt_cmpR op_eq (pv 3) pe_int (nomark _)) (pss_one (ps_dput hu (pv 2) (pv 5) (pe_dpop1 (pv 2) (pv 4) ⟨rfl, rfl, rfl, rfl⟩) rfl)) (pss_one (ps_if (pt_cmpR op_eq (pv 3) pe_int (nomark _)) (pss_one (ps_ret (C8.pe_c CODD hr (by decide) rfl (pa_cons (C8.pe_c CDRAW hr (by decide) rfl (pa_cons (pv 0) (pa_cons pe_int pa_nil))) pa_nil)))) pss_nil)))))))))))
      (pss_one (ps_ret (pv 2))))))), ?_⟩
    obtain ⟨ca, ka, hA, _⟩ := id sa
    have n1 := pa.no.lo
    have n2 := pa.no.hi
    have npa : pl ≠ a := ne_of pa.hp hA (by intro z; cases z)
    have nca : c ≠ a := ne_of hc hA (by intro z; cases z)
    have nd0 := prK_nodup (as := as) pa.no.nd
    have ln0 : (prK ns as).length ≤ 40 := by rw [prK_len _ _ hl]; omega
    have fin : ∀ kvs' H', But2 a c H H' → H' c = some (.dK kvs') → (kvs'.map (·.1)).Nodup → kvs'.length ≤ 100 → (∀ p ∈ kvs', ValK K H' p.2 ∧ Own.sameB p.2 = true) → Q (.ref c) H' := fun kvs' H' b h nd l v =>
      q (.ref c) (some kvs') H' b (fun z e => .inl (V.ref.inj e).symm) (.dict (.dict h nd (by omega) fun p hp => (v p hp).1) h fun p hp => (v p hp).2)
    have v0 : ∀ H', ∀ p ∈ prK ns as, ValK K H' p.2 ∧ Own.sameB p.2 = true := fun H' p hp => by
      obtain ⟨x, i, rfl⟩ := prK_mem hp
      exact ⟨valK_int K H' i, rfl⟩
    refine ⟨_, rfl, a, 8, m, rfl, sa, by omega, by decide, by decide, fun kd H1 kd0 kd1 b1 s1 => ?_⟩
    refine ⟨_, rfl, r, _, 0, _, rfl, rfl, SqL.of (b1 _ _ pa.hr nar.symm), rfl, ?_⟩
    refine ⟨_, rfl, _, rfl, r, _, 0, _, rfl, rfl, SqL.of (b1 _ _ pa.hr nar.symm), rfl, _, _, rfl, .inr ⟨_, SqT.of (b1 _ _ pa.hp npa), rfl⟩, ?_⟩
    rw [List.length_map]
    refine ⟨a, ns.length, m + 1, rfl, s1, by omega, by omega, by omega, fun at_ H2 at0 at1 b2 s2 => ?_⟩
    have b12 := b1.trans b2
    obtain ⟨x, hx⟩ : ∃ x, ns[at_.toNat]? = some x := ⟨ns[at_.toNat]'(by omega), List.getElem?_eq_getElem (by omega)⟩
    have gx : (ns.map V.str)[at_.toNat]? = some (.str x) := by rw [List.getElem?_map, hx] <;> rfl
    refine ⟨pl, _, _, _, rfl, rfl, SqT.of (b12 _ _ pa.hp npa), at_of (j := at_.toNat) (by omega) gx, ?_⟩
    refine ⟨_, rfl, _, rfl, r, _, 0, _, rfl, rfl, SqL.of (b12 _ _ pa.hr nar.symm), rfl, a, pl, _, ns, rfl, s2, by omega, npa, .inr (SqT.of (b12 _ _ pa.hp npa)), by omega, fun st H3 hst hstn b3 s3 => ?_⟩
    have b13 := b12.trans b3
    have hc3 := b13 _ _ hc nca
    obtain ⟨p0, hp1, hp2⟩ := prK_some pa.no.nd hl hx
    have hg : ∀ G, G c = some (.dK (prK ns as)) → DGet G c (.str x) (some (.int p0)) := fun G e => by
      rw [← hp2]
      exact DGet.k (k := Sum.inr x) e
    refine ⟨_, rfl, rfl, _, rfl, ite2 (fun _ => ?_) (fun _ => ?_)⟩
    · refine ⟨_, rfl, _, rfl, c, _, rfl, hg _ hc3, _, _, rfl, rfl, _, rfl, _, rfl, c, _, rfl, DPut.k (k := Sum.inr x) hc3 (fitsL (by omega)), ?_⟩
      refine ⟨_, rfl, fin _ _ (But2.of b13).put upd_same (putK_nd nd0) (Nat.le_trans (putK_len _ _ _) (by omega)) fun p hp => ?_⟩
      rcases putK_mem hp with hp | rfl
      · exact v0 _ p hp
      · exact ⟨valK_int K _ _, rfl⟩
    refine ⟨_, rfl, rfl, _, rfl, ite2 (fun _ => ?_) (fun _ => ?_)⟩
    · refine ⟨_, rfl, (show 1 ≤ sizeLine from fits (by decide)), fun l1 hl1 => ?_⟩
      have S4 : Same H3 (upd H3 l1 (.lst [.int 1])) := Same.new hl1
      have e4 : upd H3 l1 (.lst [.int 1]) l1 = some (.lst [.int 1]) := upd_same
      generalize upd H3 l1 (.lst [.int 1]) = H4 at S4 e4
      refine ⟨_, _, rfl, rfl, ⟨by decide, by decide, by decide⟩, (show 8 ≤ sizeLine from fits (by decide)), fun l2 hl2 => ?_⟩
      have S5 := sNew S4 (o := .lst [V.bl true, .non, .str "1", .int 3, .int (-1), .ref l1, .bl false, .int (10 ^ (40 : Int).toNat)]) hl2
      have s45 : Same H4 (upd H4 l2 (.lst [V.bl true, .non, .str "1", .int 3, .int (-1), .ref l1, .bl false, .int (10 ^ (40 : Int).toNat)])) := Same.new hl2
      have e5 : upd H4 l2 (.lst [V.bl true, .non, .str "1", .int 3, .int (-1), .ref l1, .bl false, .int (10 ^ (40 : Int).toNat)]) l2 = some (.lst [V.bl true, .non, .str "1", .int 3, .int (-1), .ref l1, .bl false, .int (10 ^ (40 : Int).toNat)]) := upd_same
      generalize upd H4 l2 (.lst [V.bl true, .non, .str "1", .int 3, .int (-1), .ref l1, .bl false, .int (10 ^ (40 : Int).toNat)]) = H5 at S5 s45 e5
      refine ⟨_, rfl, a, 8, _, rfl, s3.same S5, by omega, by decide, by decide, fun k H6 k0 k1 b6 s6 => ?_⟩
      have f1 := (s3.ne hl1).symm
      have f2 := ((s3.same S4).ne hl2).symm
      have e6 := b6 _ _ e5 f2
      have d6 := b6 _ _ (s45 _ _ e4) f1
      have c6 := b6 _ _ (S5 _ _ hc3) nca
      have B6 : But a H H6 := (b13.trans (.of S5)).trans b6
      suffices hh : ∃ v, atI [V.bl true, .non, .str "1", .int 3, .int (-1), .ref l1, .bl false, .int (10 ^ (40 : Int).toNat)] k = some v ∧ Own.sameB v = true ∧ ∀ G, (G l1 = some (.lst [.int 1])) → ValK K G v by
        obtain ⟨v, h1, h2, h3⟩ := hh
        refine ⟨l2, _, _, v, rfl, rfl, SqL.of e6, h1, _, rfl, _, rfl, c, _, rfl, DPut.k (k := Sum.inr x) c6 (fitsL (by omega)), ?_⟩
        have n1c : l1 ≠ c := ne_of d6 c6 (by intro z; cases z)
        refine ⟨_, rfl, fin _ _ (But2.of B6).put upd_same (putK_nd nd0) (Nat.le_trans (putK_len _ _ _) (by omega)) fun p hp => ?_⟩
        rcases putK_mem hp with hp | rfl
        · exact v0 _ p hp
        · exact ⟨h3 _ (by rw [upd_ne n1c]; exact d6), h2⟩
      have hk : k = 0 ∨ k = 1 ∨ k = 2 ∨ k = 3 ∨ k = 4 ∨ k = 5 ∨ k = 6 ∨ k = 7 := by omega
      rcases hk with rfl | rfl | rfl | rfl | rfl | rfl | rfl | rfl
      · exact ⟨_, rfl, rfl, fun G _ => valK_scal K G rfl⟩
      · exact ⟨_, rfl, rfl, fun G _ => valK_scal K G rfl⟩
      · exact ⟨_, rfl, rfl, fun G _ => valK_scal K G rfl⟩
      · exact ⟨_, rfl, rfl, fun G _ => valK_scal K G rfl⟩
      · exact ⟨_, rfl, rfl, fun G _ => valK_scal K G rfl⟩
      · exact ⟨_, rfl, rfl, fun G e => ⟨"list", false, false, .base (.lst e), by decide +kernel, by decide +kernel, fun z => (by cases z), fun _ i z => by cases z⟩⟩
      · exact ⟨_, rfl, rfl, fun G _ => valK_scal K G rfl⟩
      · exact ⟨_, rfl, rfl, fun G _ => valK_scal K G rfl⟩
    refine ⟨_, rfl, rfl, _, rfl, ite2 (fun _ => ?_) (fun _ => ?_)⟩
    · refine ⟨_, rfl, c, rfl, .inl ⟨_, .of hc3⟩, _, rfl, _, Sum.inr x, _, hc3, rfl, hp2, ?_⟩
      refine ⟨_, rfl, fin _ _ (But2.of b13).put upd_same (((dropK_sub _ _).map _).nodup nd0) (by have := (dropK_sub (prK ns as) (Sum.inr x)).length_le; omega) fun p hp => ?_⟩
      exact v0 _ p ((dropK_sub _ _).subset hp)
    refine ⟨_, rfl, rfl, _, rfl, ite2 (fun _ => ?_) (fun _ => ?_)⟩
    · refine ⟨_, rfl, _, rfl, c, _, rfl, DPut.k (k := Sum.inr st) hc3 (fitsL (by omega)), ?_⟩
      refine ⟨_, rfl, fin _ _ (But2.of b13).put upd_same (putK_nd nd0) (Nat.le_trans (putK_len _ _ _) (by omega)) fun p hp => ?_⟩
      rcases putK_mem hp with hp | rfl
      · exact v0 _ p hp
      · exact ⟨valK_int K _ _, rfl⟩
    refine ⟨_, rfl, rfl, _, rfl, ite2 (fun _ => ?_) (fun _ => ?_)⟩
    · have sub := dropK_sub (prK ns as) (Sum.inr x)
      have sl := sub.length_le
      refine ⟨_, rfl, c, rfl, .inl ⟨_, .of hc3⟩, _, rfl, _, Sum.inr x, _, hc3, rfl, hp2, ?_⟩
      refine ⟨_, rfl, _, rfl, c, _, rfl, DPut.k (k := Sum.inr st) upd_same (fitsL (by omega)), ?_⟩
      refine ⟨_, rfl, fin _ _ ((But2.of b13).put).put upd_same (putK_nd ((sub.map _).nodup nd0)) (Nat.le_trans (putK_len _ _ _) (by omega)) fun p hp => ?_⟩
      rcases putK_mem hp with hp | rfl
      · exact v0 _ p (sub.subset hp)
      · exact ⟨valK_int K _ _, rfl⟩
    refine ⟨_, rfl, rfl, _, rfl, ite2 (fun _ => ?_) (fun _ => ?_)⟩
    · refine ⟨_, rfl, a, 20, _, rfl, s3, by omega, by decide, by decide, fun k H4 k0 k1 b4 s4 => ?_⟩
      refine ⟨k, rfl, k0, by omega, fun y H5 s5 fy np => ?_⟩
      obtain ⟨o, hpe⟩ := passEq_of (K := K) (np [] fun _ h => by simp at h).se
      refine q y o H5 ((But2.of (b13.trans b4)).same s5) (fun b e => .inr ?_) hpe
      exact (b13.trans b4).free s4.ex (fy b e)
    · exact ⟨_, rfl, fin _ _ (But2.of b13) hc3 nd0 (by omega) (v0 _)⟩
end
end KK
end

section
set_option maxRecDepth 100000
set_option maxHeartbeats 4000000
namespace KK
open PySem PySem.Spec PyProof.Rows L2
theorem seqL_new {K : PySem.W.Frag} {H H' : Hp} {a p : Addr} {xs : List V} (h : SqL K H a xs) (hp : H p = none) (b : But p H H') : SqL K H' a xs := by
  rcases h with (h | ⟨o, h⟩) | h
  · exact .inl (.inl (b _ _ h (ne_of_none h hp)))
  · exact .inl (.inr ⟨o, b _ _ h (ne_of_none h hp)⟩)
  · exact .inr h
theorem seqL_same {K : PySem.W.Frag} {H H' : Hp} {a : Addr} {xs : List V} (h : SqL K H a xs) (b : Same H H') : SqL K H' a xs := b.seq h
def spLaw (K : PySem.W.Frag) : Sp := fun vs H Q _ => ∃ (a : Addr) (zs : List Int), vs = [.ref a] ∧ SqL K H a (zs.map V.int) ∧ zs.length ≤ 1000 ∧ ∀ H', Q (.bl true) H'
theorem lay_strs' : ∀ {ms : List Str}, (∀ x ∈ ms, PyData.strOk x = true) → PyData.canLayAll0 (ms.map PyData.str) = true
  | [], _ => rfl
  | m :: ms, h => by
    rw [List.map_cons, PyData.canLayAll0, lay_strs' fun x hx => h x (List.mem_cons_of_mem _ hx), Bool.and_true]
    exact h m List.mem_cons_self
theorem ne_self {K : PySem.W.Frag} {H : Hp} {x : V} {t : String} {Q : VK} (h : SelfEq H x) (hk : kitB t "dict" = some false) (ht : TyX K H x (.type t)) (q : Q (.bl false) H) : Own.rNeSame K x x H Q := by
  cases h with
  | scal h =>
    refine .inl ⟨h, ?_⟩
    rw [decide_eq_true rfl]
    exact q
  | @lst a ns h o =>
    have s1 : SeqAt.shaped (.list (ns.map PyData.str)) = true := by
      unfold SeqAt.shaped
      rw [Bool.and_eq_true]
      refine ⟨lay_strs' o, decide_eq_true ?_⟩
      have := dep_strs ns
      show PyData.depthAll _ + 1 ≤ 64
      omega
    refine .inr (.inl ⟨_, _, .lst (SqL.of h) (dp_strs ns), .lst (SqL.of h) (dp_strs ns), s1, s1, ?_⟩)
    rw [SeqAt.eqv_refl _ (SeqAt.canLay_of_shaped s1)]
    exact q
  | @tup a ns h o =>
    have s1 : SeqAt.shaped (.tuple (ns.map PyData.str)) = true := by
      unfold SeqAt.shaped
      rw [Bool.and_eq_true]
      refine ⟨lay_strs' o, decide_eq_true ?_⟩
      have := dep_strs ns
      show PyData.depthAll _ + 1 ≤ 64
      omega
    refine .inr (.inl ⟨_, _, .tup (SqT.of h) (dp_strs ns), .tup (SqT.of h) (dp_strs ns), s1, s1, ?_⟩)
    rw [SeqAt.eqv_refl _ (SeqAt.canLay_of_shaped s1)]
    exact q
  | @dK a kvs h nd l o => exact .inr (.inr ⟨a, a, kvs, kvs, rfl, rfl, h, h, rfl, fun p hp => ⟨(o p hp).1, by have := (o p hp).2; unfold Own.sameB; split; rfl; exact this⟩, q⟩)
section
variable {P : Program} {w : World} {K : PySem.W.Frag} {mg : Str → Option Value} {base : Heap} {C : Addr}
abbrev Nlaw : List Str := ["_law_script", "_law_parts_here", "_law_extra", "_law_web_here", "_law_good", "_law_passed", "_law_copied", "_law_place"]
theorem sclaw : FnScope Nlaw ["_law_script"] (defScope s_law) := ⟨rfl, rfl, rfl, by decide +kernel, rfl, by decide +kernel, by decide +kernel⟩
theorem calG {x : Str} {st : Stmt} {N ps : List Str} {k : Nat} {sp : Sp} (F : Has K mg x st) (S : FnScope N ps (defScope st)) (len : ∀ vs H Q E, sp vs H Q E → vs.length = ps.length)
    (hbody : ∀ (f : Addr) (cdv : Value) (A : Around) (outer : List Env) (s : Shared) (H : Hp) (vs : List V) (Q : VK) (E : XK), Room k (A.deeper (envOfC x (defScope st) s.heap.objs.size f cdv)) → sp vs H Q E →
      ∃ t, PSs (cxOf CX0 P w K mg base N x (defScope st) f cdv A outer s H E).nox (defBody st) t ∧ t { nx := fun _ H' => Q .non H', rt := Q } (start N vs) H) : ∃ f fd, Fun K x x st f fd ∧ mg x = some (.ref f) ∧ FnOk P w K mg base CX0 (k + 1) f fd ps sp := by
  obtain ⟨f, fd, F, hm⟩ := F
  exact ⟨f, fd, F, hm, F.ok S len (hbody f)⟩
theorem c_law (T : Blt mg) (F : Has K mg "law" s_law) (FS : Has K mg "_law_stream" s_law_stream) (CPARTS : C8.Cal P w K mg base 3 "_law_parts" (spParts K) []) (CWEB : C8.Cal P w K mg base 6 "_law_web" (spLawWeb C) []) (CSOME : C8.Cal P w K mg base 2 "_law_some_answer" spSome [])
    (CASKED : C8.Cal P w K mg base 7 "_law_asked" (spAsked K C) []) (CCHANGED : C8.Cal P w K mg base 3 "_law_changed" (spChanged K) []) (CCOPY : C8.Cal P w K mg base 1 "_law_copy" spCopy []) (CBACK : C8.Cal P w K mg base 1 "_law_back" spBack []) (CWEBIS : C8.Cal P w K mg base 5 "_law_web_is" (spWebIs C) []) :
    ∃ f fd, Fun K "law" "law" s_law f fd ∧ mg "law" = some (.ref f) ∧ FnOk P w K mg base CX0 8 f fd ["_law_script"] (spLaw K) := by
  refine calG F sclaw (fun vs H Q E h => ?_) (fun f cdv A outer s H vs Q E hr h => ?_)
  · obtain ⟨a, zs, rfl, _⟩ := h
    rfl
  · obtain ⟨a, zs, rfl, hs, hz, q⟩ := h
    have hu := hu_of hr
    have F_stream := FS
    refine ⟨_, (pss_cons (ps_set (i := 1) sclaw.nd rfl (Or.inl rfl) (C8.pe_c CPARTS hr (by decide) rfl (pa_cons (C8.pe_c (c_stream T F_stream) hr (by decide) rfl (pa_cons (pv 0) (pa_cons pe_int pa_nil))) (pa_cons pe_int (pa_cons pe_int pa_nil)))))
      (pss_cons (ps_set (i := 2) sclaw.nd rfl (Or.inl rfl) (C8.pe_c (c_stream T F_stream) hr (by decide) rfl (pa_cons (pv 0) (pa_cons pe_int pa_nil))))
      (pss_cons (ps_set (i := 3) sclaw.nd rfl (Or.inl rfl) (C8.pe_c CWEB hr (by decide) rfl (pa_cons (pv 1) pa_nil)))
      (pss_cons (ps_set (i := 4) sclaw.nd rfl (Or.inr rfl) (C8.pe_c CSOME hr (by decide) rfl (pa_cons (C8.pe_c (c_stream T F_stream) hr (by decide) rfl (pa_cons (pv 0) (pa_cons pe_int pa_nil))) (pa_cons (pv 1) pa_nil))))
      (pss_cons (ps_if (pt_not (pt_val (C8.pe_c CASKED hr (by decide) rfl (pa_cons (pv 3) (pa_cons (pv 1) (pa_cons (pv 4) pa_nil)))))) (pss_one (ps_ret pe_bl)) pss_nil)
      (pss_cons (ps_set (i := 5) sclaw.nd rfl (Or.inl rfl) (C8.pe_c CCHANGED hr (by decide) rfl (pa_cons (pv 2) (pa_cons (pv 1) (pa_cons (C8.pe_c CCOPY hr (by decide) rfl (pa_cons (pv 4) pa_nil)) pa_nil)))))
      (pss_cons (ps_set (i := 6) sclaw.nd rfl (Or.inl rfl) (pv 5))
      (C8.pss_cut (ps_if (pt_val (pe_callB call_isi (by rfl) T.b_isinstance (by decide +kernel) (pa_cons (pv 5) (pa_cons (pe_bltn (v := .ty "dict") (by rfl) T.b_dict (by decide +kernel) rfl) pa_nil)))) (pss_one (ps_set (i := 6) sclaw.nd rfl (Or.inl rfl) (C8.pe_c CBACK hr (by decide) rfl (pa_cons (pv 5) pa_nil)))) pss_nil)
      (pss_cons (ps_if (PW.pt (pw_or (pt_not (pt_val (C8.pe_c CASKED hr (by decide) rfl (pa_cons (pv 3) (pa_cons (pv 1) (pa_cons (pv 5) pa_nil)))))) (pw_or1 (pt_cmpR (Own.op_ne_same hr.units (Nat.lt_of_succ_lt hu)) (pv 5) (pv 6) (nomark _))))) (pss_one (ps_ret pe_bl)) pss_nil)
      (pss_cons (ps_if (PW.pt (pw_or (pt_not (pt_val (C8.pe_c CASKED hr (by decide) rfl (pa_cons (pv 3) (pa_cons (pv 1) (pa_cons (pv 6) pa_nil)))))) (pw_or1 (pt_not (pt_val (C8.pe_c CASKED hr (by decide) rfl (pa_cons (pv 3) (pa_cons (pv 1) (pa_cons (C8.pe_c CBACK hr (by decide) rfl (pa_cons (pv 4) pa_nil)) pa_nil))))))))) (pss_one (ps_ret pe_bl)) pss_nil)
      (pss_one (ps_ret (pe_and (C8.pe_c CASKED hr (by decide) rfl (pa_cons (pv 3) (pa_cons (pv 1) (pa_cons (pe_lc (own := [("_law_place", 7)]) (g := gName 7) (tt := tYes) rfl sclaw.nd (pi_tup (pe_ix ix_list (pv 1) pe_int (fun _ _ => rfl))) (blkOk_by (own := [("_law_place", 7)]) (N := Nlaw) (sc := defScope s_law) (by decide +kernel)) (fun _ _ _ _ _ => (pg_name (i := 7) sclaw.nd rfl (Or.inl rfl))) (fun _ _ _ _ _ => pts_nil) (fun _ _ _ _ _ => (pe_dget hu (pv 4) (pv 7) (fun _ _ => rfl)))) pa_nil)))) (pe_one (C8.pe_c CWEBIS hr (by decide) rfl (pa_cons (pv 3) (pa_cons (pv 1) pa_nil))))))))))))))))), ?_⟩
    refine ⟨_, rfl, a, zs, 0, rfl, hs, hz, by decide, by decide, fun p c hp => ?_⟩
    have npa1 : StrAt (upd H p (.lst [.int c, .int (1 + 101 * 0)])) p 1 := ⟨c, _, upd_same, by decide, by decide⟩
    refine ⟨p, 1, 10, 1, rfl, npa1, by decide, by decide, by decide, by decide, fun r pl tl d ns ps xs ts H2 _ _ _ _ b2 s2 pa nlo nhi => ?_⟩
    have hs2 : SqL K H2 a (zs.map V.int) := seqL_new hs hp (But.upd.trans b2)
    refine ⟨_, rfl, a, zs, 1, rfl, hs2, hz, by decide, by decide, fun a2 c2 ha2 => ?_⟩
    have S3 : Same H2 (upd H2 a2 (.lst [.int c2, .int (1 + 101 * 1)])) := Same.new ha2
    have sa3 : StrAt (upd H2 a2 (.lst [.int c2, .int (1 + 101 * 1)])) a2 102 := ⟨c2, _, upd_same, by decide, by decide⟩
    generalize upd H2 a2 (.lst [.int c2, .int (1 + 101 * 1)]) = H3 at S3 sa3
    have pa3 := pa.same S3
    have n2 := pa3.no.hi
    have nra : a2 ≠ r := (ne_of_none pa.hr ha2).symm
    have nta : a2 ≠ tl := (ne_of_none pa.ht ha2).symm
    refine ⟨_, rfl, r, pl, tl, d, ns, ps, xs, ts, rfl, pa3, fun o dx dp tl2 ys ms qs us H4 s4 fdp ftl wa wo => ?_⟩
    have pa4 := pa3.same s4
    have S4 := S3.trans s4
    have hs4 : SqL K H4 a (zs.map V.int) := seqL_same hs2 S4
    refine ⟨_, rfl, a, zs, 2, rfl, hs4, hz, by decide, by decide, fun a3 cc3 ha3 => ?_⟩
    have S5 : Same H4 (upd H4 a3 (.lst [.int cc3, .int (1 + 101 * 2)])) := Same.new ha3
    have sb5 : StrAt (upd H4 a3 (.lst [.int cc3, .int (1 + 101 * 2)])) a3 203 := ⟨cc3, _, upd_same, by decide, by decide⟩
    generalize upd H4 a3 (.lst [.int cc3, .int (1 + 101 * 2)]) = H5 at S5 sb5
    have nra3 : a3 ≠ r := (ne_of_none pa4.hr ha3).symm
    have nta3 : a3 ≠ tl := (ne_of_none pa4.ht ha3).symm
    have nt23 : a3 ≠ tl2 := (ne_of_none wa.ht ha3).symm
    have sa4 := sa3.same s4
    have n23 : a2 ≠ a3 := sa4.ne ha3
    refine ⟨_, rfl, a3, 203, r, pl, tl, d, ns, ps, xs, ts, rfl, sb5, by decide, pa4.same S5, nra3, nta3, fun c1 as H6 b6 s6 hc1 e1 hl => ?_⟩
    have waB : ∀ {q : Addr} {G G' : Hp}, WebAt G C o dx dp tl2 ys ms qs us → But q G G' → (∃ l : List V, G q = some (.lst l)) → q ≠ tl2 → WebAt G' C o dx dp tl2 ys ms qs us := fun {q G G'} w b ⟨l, hl⟩ n =>
      ⟨b _ _ w.ho (ne_of w.ho hl (by intro z; cases z)), b _ _ w.hp (ne_of w.hp hl (by intro z; cases z)), b _ _ w.ht n.symm, w.ti.but b hl⟩
    have paB : ∀ {q : Addr} {G G' : Hp}, PartsAt G r pl tl d ns ps xs ts → But q G G' → (∃ l : List V, G q = some (.lst l)) → q ≠ r → q ≠ tl → PartsAt G' r pl tl d ns ps xs ts := fun {q G G'} w b ⟨l, hl⟩ n1 n2 =>
      ⟨b _ _ w.hr n1.symm, b _ _ w.hp (ne_of w.hp hl (by intro z; cases z)), b _ _ w.ht n2.symm, b _ _ w.hd (ne_of w.hd hl (by intro z; cases z)), w.ti.but b hl, w.nr, w.pl, w.no, w.to, w.po⟩
    have stL : ∀ {q : Addr} {G : Hp} {m : Int}, StrAt G q m → ∃ l : List V, G q = some (.lst l) := fun {q G m} s => by
      obtain ⟨c, k, h, _⟩ := s
      exact ⟨_, h⟩
    have wa6 := waB (wa.same S5) b6 (stL sb5) nt23
    have pa6 := paB (pa4.same S5) b6 (stL sb5) nra3 nta3
    have sa6 : StrAt H6 a2 102 := by
      obtain ⟨c, k, h1, h2⟩ := sa4.same S5
      exact ⟨c, k, b6 _ _ h1 n23, h2⟩
    have nd1 := prK_nodup (as := as) pa3.no.nd
    have ln1 : (prK ns as).length ≤ 40 := by rw [prK_len _ _ hl]; omega
    have pass1 : ∀ {G : Hp}, G c1 = some (.dK (prK ns as)) → Passed K G (.ref c1) (some (prK ns as)) := fun {G} e => .dict e nd1 (by omega) fun p hp => by
      obtain ⟨x, i, rfl⟩ := prK_mem hp
      exact valK_int K G i
    have dp5 : ∀ {G : Hp}, WebAt G C o dx dp tl2 ys ms qs us → ∃ u, G dp = some u := fun w => ⟨_, w.hp⟩
    have nc1 : V.ref c1 ≠ .ref dp := fun z => by
      have z' := V.ref.inj z
      have := (wa.same S5).hp
      rw [← z', hc1] at this
      cases this
    refine ⟨_, rfl, _, rfl, _, rfl, o, dx, dp, tl2, ys, ms, qs, us, r, pl, tl, d, ns, ps, xs, ts, .ref c1, some (prK ns as), rfl, wa6, wo, pa6, pass1 e1, nc1, fun H7 s7 => ?_⟩
    refine ⟨_, rfl, iteF ?_⟩
    have wa7 := wa6.same s7
    have pa7 := pa6.same s7
    have e7 := s7 _ _ e1
    refine ⟨_, rfl, _, rfl, _, rfl, c1, ns, as, rfl, e7, pa3.no.nd, n2, hl, fun cp H8 s8 hcp ecp => ?_⟩
    have wa8 := wa7.same s8
    have pa8 := pa7.same s8
    have e8 := s8 _ _ e7
    have sa8 := (sa6.same s7).same s8
    have ndp : dp ≠ cp := ne_of_none wa7.hp hcp
    have n1p : c1 ≠ cp := ne_of_none e7 hcp
    have nt22 : a2 ≠ tl2 := by
      obtain ⟨l, hl⟩ := stL sa3
      exact ne_of_none hl ftl
    refine ⟨a2, 102, r, pl, tl, d, ns, ps, xs, ts, cp, as, rfl, sa8, by decide, pa8, nra, nta, ecp, hl, ne_of_none pa7.hd hcp, fun x oo H9 b9 fx px => ?_⟩
    have hA8 := stL sa8
    obtain ⟨l8, hl8⟩ := hA8
    have nca : cp ≠ a2 := ne_of ecp hl8 (by intro z; cases z)
    have wa9 : WebAt H9 C o dx dp tl2 ys ms qs us := ⟨b9 _ _ wa8.ho (ne_of wa8.ho hl8 (by intro z; cases z)) (ne_of wa8.ho ecp (by intro z; cases z)), b9 _ _ wa8.hp (ne_of wa8.hp hl8 (by intro z; cases z)) ndp, b9 _ _ wa8.ht nt22.symm (ne_of wa8.ht ecp (by intro z; cases z)), paired_mono wa8.ti fun x y h => by
      obtain ⟨t, rfl, h⟩ := h
      exact ⟨t, rfl, b9 _ _ h (ne_of h hl8 (by intro z; cases z)) (ne_of h ecp (by intro z; cases z))⟩⟩
    have pa9 : PartsAt H9 r pl tl d ns ps xs ts := ⟨b9 _ _ pa8.hr nra.symm (ne_of pa8.hr ecp (by intro z; cases z)), b9 _ _ pa8.hp (ne_of pa8.hp hl8 (by intro z; cases z)) (ne_of pa8.hp ecp (by intro z; cases z)), b9 _ _ pa8.ht nta.symm (ne_of pa8.ht ecp (by intro z; cases z)), b9 _ _ pa8.hd (ne_of pa8.hd hl8 (by intro z; cases z)) (ne_of_none pa7.hd hcp), paired_mono pa8.ti fun x y h => by
      obtain ⟨t, rfl, h⟩ := h
      exact ⟨t, rfl, b9 _ _ h (ne_of h hl8 (by intro z; cases z)) (ne_of h ecp (by intro z; cases z))⟩, pa8.nr, pa8.pl, pa8.no, pa8.to, pa8.po⟩
    have e9 : H9 c1 = some (.dK (prK ns as)) := b9 _ _ e8 (ne_of e8 hl8 (by intro z; cases z)) n1p
    have nxp : x ≠ .ref dp := fun z => by
      rcases fx dp z with h | h
      · exact ndp h
      · rw [wa8.hp] at h
        cases h
    refine ⟨_, rfl, ?_⟩
    refine ⟨fun σ G => ∃ (y : V) (o2 : Option (List (Key × V))), σ = [some (.ref a), some (.ref r), some (.ref a2), some (.ref o), some (.ref c1), some x, some y, none] ∧ WebAt G C o dx dp tl2 ys ms qs us ∧ PartsAt G r pl tl d ns ps xs ts ∧ G c1 = some (.dK (prK ns as)) ∧ Passed K G x oo ∧ Passed K G y o2 ∧ y ≠ .ref dp ∧
      (∀ G' Q, Same G G' → Q (.bl false) G' → Own.rNeSame K x y G' Q), ?_, ?_⟩
    · cases px with
      | @dict d1 kvs pp h f =>
        cases pp with
        | dict _ nd lk vk =>
          refine ⟨_, rfl, _, _, _, _, _, rfl, .ty "dict", .base (.dK h), kit_ty (b := "dict") (r := true) (by decide +kernel), _, rfl, iteT ?_⟩
          refine ⟨_, rfl, d1, kvs, rfl, h, nd, lk, fun c4 G sG hc4 ec4 => ?_⟩
          have ndr : (kvs.reverse.map (·.1)).Nodup := by
            rw [List.map_reverse]
            exact List.pairwise_reverse.mpr (List.Pairwise.imp (fun h e => h e.symm) nd)
          have pd : Passed K H9 (.ref d1) (some kvs) := .dict h nd lk vk
          refine ⟨.ref c4, some kvs.reverse, rfl, wa9.same sG, pa9.same sG, sG _ _ e9, pd.same sG, ?_, ?_, ?_⟩
          · refine .dict ec4 ndr (by rw [List.length_reverse]; exact lk) fun p hp => ?_
            obtain ⟨t, b1, b2, h1, h2⟩ := vk p (List.mem_reverse.mp hp)
            exact ⟨t, b1, b2, tyx_same h1 sG, h2⟩
          · intro z
            have z' := V.ref.inj z
            have := wa9.hp
            rw [← z', hc4] at this
            cases this
          · intro G' Q' s' hq
            refine .inr (.inr ⟨d1, c4, kvs, kvs.reverse, rfl, rfl, s' _ _ (sG _ _ h), s' _ _ ec4, by rw [List.length_reverse], fun p hp => ⟨?_, f p hp⟩, hq⟩)
            obtain ⟨j, hj⟩ := List.getElem?_of_mem (List.mem_reverse.mpr hp)
            exact valV_nd (k := p.1) (v := p.2) ndr hj
      | other pp se =>
        cases pp with
        | @other _ t ht hk =>
          refine ⟨_, rfl, _, _, _, _, _, rfl, .ty "dict", ht, kit_ty hk, _, rfl, iteF ?_⟩
          refine ⟨x, none, rfl, wa9, pa9, e9, .other ht hk, .other ht hk, nxp, fun G' Q' s' hq => ne_self (se.same s') hk (tyx_same ht s') hq⟩
    · rintro σ G ⟨y, o2, rfl, waG, paG, eG, pX, pY, nyp, hne⟩
      refine ⟨_, rfl, _, rfl, _, rfl, o, dx, dp, tl2, ys, ms, qs, us, r, pl, tl, d, ns, ps, xs, ts, x, oo, rfl, waG, wo, paG, pX, nxp, fun G1 g1 => ?_⟩
      refine ⟨_, rfl, iteF ?_⟩
      refine ⟨_, rfl, _, rfl, hne G1 _ g1 ⟨_, rfl, iteF ?_⟩⟩
      have wa1 := waG.same g1
      have pa1 := paG.same g1
      refine ⟨_, rfl, _, rfl, _, rfl, o, dx, dp, tl2, ys, ms, qs, us, r, pl, tl, d, ns, ps, xs, ts, y, o2, rfl, wa1, wo, pa1, pY.same g1, nyp, fun G2 g2 => ?_⟩
      refine ⟨_, rfl, iteF ?_⟩
      have g12 := g1.trans g2
      refine ⟨_, rfl, _, rfl, _, rfl, c1, _, rfl, g12 _ _ eG, nd1, by omega, fun c5 G3 g3 hc5 ec5 => ?_⟩
      have g13 := g12.trans g3
      have wa3' := waG.same g13
      have pa3' := paG.same g13
      have n5 : V.ref c5 ≠ .ref dp := fun z => by
        have z' := V.ref.inj z
        have := (waG.same g12).hp
        rw [← z', hc5] at this
        cases this
      have ndr : ((prK ns as).reverse.map (·.1)).Nodup := by
        rw [List.map_reverse]
        exact List.pairwise_reverse.mpr (List.Pairwise.imp (fun h e => h e.symm) nd1)
      have p5 : Passed K G3 (.ref c5) (some (prK ns as).reverse) := .dict ec5 ndr (by rw [List.length_reverse]; omega) fun p hp => by
        obtain ⟨x, i, rfl⟩ := prK_mem (List.mem_reverse.mp hp)
        exact valK_int K G3 i
      refine ⟨o, dx, dp, tl2, ys, ms, qs, us, r, pl, tl, d, ns, ps, xs, ts, .ref c5, _, rfl, wa3', wo, pa3', p5, n5, fun G4 g4 => ?_⟩
      refine ⟨_, rfl, iteF ?_⟩
      have g14 := g13.trans g4
      have wa4 := waG.same g14
      have pa4' := paG.same g14
      have e4 := g14 _ _ eG
      refine ⟨_, rfl, _, rfl, _, rfl, r, _, 0, _, rfl, rfl, SqL.of pa4'.hr, rfl, pl, rfl, ⟨_, SqT.of pa4'.hp⟩, fun D hD => lc_tup (K := K) (a := pl) (xs := ns.map V.str) (fun i G5 => ∃ l, Same G4 G5 ∧ G5 D = some (.lst l) ∧ l.length = i)
        ⟨[], Same.new hD, upd_same, rfl⟩ (fun i G5 _ ⟨_, g, _⟩ => Same.seqT g (SqT.of pa4'.hp)) ?_ ?_⟩
      · rintro i v G5 hi ⟨l, g5, l5, hll⟩
        obtain ⟨z, hz2, rfl⟩ := strs_at hi
        have hin : i < ns.length := (List.getElem?_eq_some_iff.mp hz2).1
        obtain ⟨w1, _, hw2⟩ := prK_some pa3.no.nd hl hz2
        have hg : DGet G5 c1 (.str z) (some (.int w1)) := by
          rw [← hw2]
          exact DGet.k (k := Sum.inr z) (g5 _ _ e4)
        refine ⟨rfl, ?_⟩
        refine iteT (B := False) ?_
        exact ⟨_, rfl, _, rfl, c1, _, rfl, hg, l, l5, fitsL (by omega), _, sUpd g5 hD, upd_same, by rw [List.length_append, hll]; rfl⟩
      · rintro G5 ⟨l, g5, l5, hll⟩
        have n6 : V.ref D ≠ .ref dp := fun z => by
          have z' := V.ref.inj z
          have := wa4.hp
          rw [← z', hD] at this
          cases this
        refine ⟨o, dx, dp, tl2, ys, ms, qs, us, r, pl, tl, d, ns, ps, xs, ts, .ref D, none, rfl, wa4.same g5, wo, pa4'.same g5, .other (.base (.lst l5)) (by decide +kernel), n6, fun G6 g6 => ?_⟩
        refine ⟨_, rfl, iteT ?_⟩
        exact ⟨_, rfl, _, rfl, o, dx, dp, tl2, ys, ms, qs, us, r, pl, tl, d, ns, ps, xs, ts, rfl, (wa4.same g5).same g6, (pa4'.same g5).same g6, wo, fun G7 _ => q G7⟩
end
end KK
end

section
set_option maxRecDepth 100000
set_option maxHeartbeats 4000000
/-! the head's facts: the kit's, and an own error class with a closed __init__ -/
namespace OwnH
open PySem PySem.Spec PyProof.Rows L2 He
def asO (g : Addr → Option Obj) (n : Nat) : List Addr := cStatics :: asD g n
/-- an own error class: its name, its __init__ -/
structure ErrD where
  name : Str
  qual : Str
  fld : Str
  ep : PySem.Err1.EP
abbrev FnC : Type := Option (Str × Str × Arguments × FuncBody × Scope × Addr × List Str × Addr × Value × Value)
def fnC (K : PySem.W.Frag) (p : Str × Option Str) : FnC := match K.lookup (fAd K p) with
  | some ⟨_, _, .func fd, _⟩ => some (fd.name, fd.qualname, fd.params, fd.body, fd.scope, fd.globals, fd.closure.map (·.1), fd.builtins, fd.defaults, fd.kwdefaults)
  | _ => none
def ErrD.at_ (d : ErrD) : Str × Option Str := (d.name, some "__init__")
def ErrD.val (d : ErrD) : FnC := some ("__init__", d.qual, PySem.Err1.iA d.fld d.ep.p1 d.ep.p2, .stmts (PySem.Err1.iB d.fld d.ep), PySem.Err1.iS d.fld, mainGlobals, ["__class__"], builtinsNs, .none, .none)
def clsB (K : PySem.W.Frag) (C : Addr) : Bool := match K.lookup C with
  | some ⟨.type "type", _, .cls cd, sl⟩ => (match cd.mro, sl.toList with
    | .ref C' :: bm, [_, _, _, _, some (.builtin n), _] => C' == C && (n == "ValueError.__new__" && (!cd.hasDel && (cd.hasDict && PySem.HandSPX.refsVE bm)))
    | _, _ => false)
  | _ => false
theorem clsB_ok {K : PySem.W.Frag} {C : Addr} (h : clsB K C = true) : ∃ nm' q N bs bm sn sub ab col dd k0 k1 k2 k3 k5, K.lookup C = some (excClassObj nm' q C N bs bm true sn sub ab col dd k0 k1 k2 k3 k5 "ValueError.__new__") ∧ PySem.HandSPX.refsVE bm = true := by
  unfold clsB at h
  split at h
  · rename_i dd cd sl ho
    split at h
    · rename_i C' bm k0 k1 k2 k3 n k5 hm hs
      simp only [Bool.and_eq_true, beq_iff_eq, Bool.not_eq_true'] at h
      obtain ⟨rfl, rfl, hdel, hdt, hr⟩ := h
      obtain ⟨nm, bs, mro, ns, qn, hd, sn, sub, ab, col, del⟩ := cd
      dsimp only at hm hdel hdt
      subst hm hdel hdt
      have hsl : sl = #[k0, k1, k2, k3, some (.builtin "ValueError.__new__"), k5] := by
        obtain ⟨l⟩ := sl
        simp only at hs
        rw [hs]
      subst hsl
      exact ⟨nm, qn, ns, bs, bm, sn, sub, ab, col, dd, k0, k1, k2, k3, k5, ho, hr⟩
    · cases h
  · cases h
def codeB (file : Str) (K : PySem.W.Frag) (C : Addr) (fd : FuncData) (qual : Str) : Bool := match fd.code with
  | .ref cda => PySem.W.codeIn K (.ref cda) qual && ((match K.lookup cda with
    | some ⟨_, _, .fields vs, _⟩ => (match vs[2]? with
      | some (Value.str z _) => decide (z = file)
      | _ => false)
    | _ => false) && (match fd.closure with
    | [(_, cc)] => (match K.lookup cc with
      | some ⟨_, _, .cell (some (.ref C')), _⟩ => decide (C' = C)
      | _ => false)
    | _ => false))
  | _ => false
def initB (file : Str) (K : PySem.W.Frag) (C : Addr) (f : Addr) (qual : Str) : Bool := match K.lookup f with
  | some ⟨_, _, .func fd, _⟩ => codeB file K C fd qual
  | _ => false
def errB (file : Str) (K : PySem.W.Frag) (d : ErrD) : Bool :=
  eqO (PySem.W.nsIn K mainGlobals d.name) (some (some (.ref (ga K d.name)))) && (eqO (PySem.W.nsIn K mainGlobals "super") (some none) && (clsB K (ga K d.name) && (eqO (PySem.W.findIn K (.ref (ga K d.name)) "__setattr__") (some (some (.builtin "object.__setattr__"))) && (eqO (PySem.W.findIn K (.ref (ga K d.name)) d.fld) (some none) &&
  (eqO (PySem.W.findIn K (.ref (ga K d.name)) "__init__") (some (some (.ref (fAd K d.at_)))) && (decide (PySem.W.typeIn K (.ref (fAd K d.at_)) = some (.type "function")) && (PySem.W.keepIn K (.ref (ga K d.name)) && (decide (PySem.W.subIn K (.ref (ga K d.name)) (.type "BaseException") = some true) &&
  (decide (PySem.W.typeIn K (.ref (ga K d.name)) = some (.type "type")) && (PySem.W.hasDictIn K (ga K d.name) && (decide (PySem.W.subIn K (.ref (ga K d.name)) (.type "ValueError") = some true) && (eqO (PySem.W.nsIn K cStatics "thirdparty.any") (some none) &&
  (eqO (PySem.W.ks_superIn K (ga K d.name) (ga K d.name) "__init__") (some (some (.builtin "ValueError.__init__"))) && (initB file K (ga K d.name) (fAd K d.at_) d.qual && (xfB K (ga K d.name) && decide (PySem.W.exmOne K (.ref (ga K d.name)) (.ref (ga K d.name)) = some true))))))))))))))))
theorem err_ok {prog : Program} {K : PySem.W.Frag} {h : Heap} {mg : Str → Option Value} {d : ErrD} (X : K.In h) (G : h.Ns mainGlobals mg) (fo : PySem.Err1.FldOk d.fld d.ep) (top : (prog.main.scope.names.lookup ("super" : Str)).isSome = false)
    (e : fnC K d.at_ = d.val) (c : errB prog.main.file K d = true) : PySem.Err1.ErrTxt prog K mg d.name d.qual d.fld d.ep (ga K d.name) (fAd K d.at_) ∧ XfC K (ga K d.name) ∧ PySem.W.exmOne K (.ref (ga K d.name)) (.ref (ga K d.name)) = some true := by
  unfold errB at c
  obtain ⟨c1, c⟩ := ba c
  obtain ⟨c2, c⟩ := ba c
  obtain ⟨c3, c⟩ := ba c
  obtain ⟨c4, c⟩ := ba c
  obtain ⟨c5, c⟩ := ba c
  obtain ⟨c6, c⟩ := ba c
  obtain ⟨c7, c⟩ := ba c
  obtain ⟨c8, c⟩ := ba c
  obtain ⟨c9, c⟩ := ba c
  obtain ⟨c10, c⟩ := ba c
  obtain ⟨c11, c⟩ := ba c
  obtain ⟨c12, c⟩ := ba c
  obtain ⟨c13, c⟩ := ba c
  obtain ⟨c14, c⟩ := ba c
  obtain ⟨c15, c⟩ := ba c
  obtain ⟨c16, c17⟩ := ba c
  refine ⟨⟨fo, PySem.W.mg_of X G (eqO_ok c1), PySem.W.mg_none_of X G (eqO_ok c2), top, clsB_ok c3, eqO_ok c4, eqO_ok c5, eqO_ok c6, of_decide_eq_true c7, c8, of_decide_eq_true c9, of_decide_eq_true c10, c11, of_decide_eq_true c12, eqO_ok c13, eqO_ok c14, ?_⟩, xfB_ok c16, of_decide_eq_true c17⟩
  unfold initB at c15
  unfold fnC at e
  cases q : K.lookup (fAd K d.at_) with
  | none =>
    rw [q] at c15
    cases c15
  | some o =>
    obtain ⟨oc, od, dt, osl⟩ := o
    rw [q] at c15 e
    cases dt with
    | func fd =>
      obtain ⟨n1, n2, n3, n4, n5, n6, n7, n8, n9, n10, n11, n12, n13, n14, n15⟩ := fd
      have e2 : (some (n1, n2, n3, n4, n5, n6, n7.map (·.1), n15, n8, n9) : FnC) = (some ("__init__", d.qual, PySem.Err1.iA d.fld d.ep.p1 d.ep.p2, .stmts (PySem.Err1.iB d.fld d.ep), PySem.Err1.iS d.fld, mainGlobals, ["__class__"], builtinsNs, .none, .none) : FnC) := e
      simp only [Option.some.injEq, Prod.mk.injEq] at e2
      obtain ⟨h1, h2, h3, h4, h5, h6, h7, h8, h9, h10⟩ := e2
      subst h1 h2 h3 h4 h5 h6 h8 h9 h10
      have c2 : codeB prog.main.file K (ga K d.name) ⟨"__init__", d.qual, PySem.Err1.iA d.fld d.ep.p1 d.ep.p2, .stmts (PySem.Err1.iB d.fld d.ep), PySem.Err1.iS d.fld, mainGlobals, n7, .none, .none, n10, n11, n12, n13, n14, builtinsNs⟩ d.qual = true := c15
      unfold codeB at c2
      cases n13 with
      | ref cda =>
        obtain ⟨k1, c2⟩ := ba c2
        obtain ⟨k2, k3⟩ := ba c2
        have hcl : ∃ cc, n7 = [(("__class__" : Str), cc)] := by
          match n7, h7 with
          | [(y, cc)], h7 =>
            have : y = ("__class__" : Str) := by
              have := List.cons.inj h7
              exact this.1
            exact ⟨cc, by rw [this]⟩
        obtain ⟨cc, rfl⟩ := hcl
        refine ⟨oc, od, n10, n11, n12, cda, n14, osl, cc, rfl, k1, ?_, ?_⟩
        · cases q2 : K.lookup cda with
          | none =>
            rw [q2] at k2
            cases k2
          | some o2 =>
            obtain ⟨oc2, od2, dt2, osl2⟩ := o2
            rw [q2] at k2
            cases dt2 with
            | fields vs =>
              have k4 : (match vs[2]? with
                | some (Value.str z _) => decide (z = prog.main.file)
                | _ => false) = true := k2
              cases q3 : vs[2]? with
              | none =>
                rw [q3] at k4
                cases k4
              | some v =>
                rw [q3] at k4
                cases v with
                | str z t => exact ⟨oc2, od2, vs, osl2, t, rfl, by rw [q3, of_decide_eq_true (show decide (z = prog.main.file) = true from k4)]⟩
                | _ => cases k4
            | _ => cases k2
        · have k5 : (match K.lookup cc with
            | some ⟨_, _, .cell (some (.ref C')), _⟩ => decide (C' = ga K d.name)
            | _ => false) = true := k3
          cases q2 : K.lookup cc with
          | none =>
            rw [q2] at k5
            cases k5
          | some o2 =>
            obtain ⟨oc2, od2, dt2, osl2⟩ := o2
            rw [q2] at k5
            cases dt2 with
            | cell v =>
              cases v with
              | none => cases k5
              | some v =>
                cases v with
                | ref C' => exact ⟨oc2, od2, osl2, by rw [of_decide_eq_true (show decide (C' = ga K d.name) = true from k5)]⟩
                | _ => cases k5
            | _ => cases k5
      | _ => cases c2
    | _ => cases c15
/-! ### the Hook -/
abbrev AlO : Type := AlD × Bool × List FnC
def obsO (file : Str) (n : Nat) (fa : List Fa) (fn : List DefD) (er : List ErrD) (g : Addr → Option Obj) : AlO := (obsD fa fn (frG g (asO g n)), er.all (fun d => errB file (frG g (asO g n)) d), er.map fun d => fnC (frG g (asO g n)) d.at_)
def valO (fn : List DefD) (er : List ErrD) : AlO := (valD fn, true, er.map ErrD.val)
structure SaysO (file : Str) (fa : List Fa) (fn : List DefD) (er : List ErrD) (K : PySem.W.Frag) : Prop where
  d : SaysD fa fn K
  b : er.all (fun d => errB file K d) = true
  e : (er.map fun d => fnC K d.at_) = er.map ErrD.val
def hookO (file : Str) (n : Nat) (fa : List Fa) (fn : List DefD) (er : List ErrD) : PySem.W.Hook where
  α := AlO
  obs := fun s => obsO file n fa fn er s.heap.get?
  val := fun _ => valO fn er
  says := fun _ h => ∃ K : PySem.W.Frag, K.In h ∧ SaysO file fa fn er K
  of := fun _ s e => ⟨_, frG_in, congrArg (fun z : AlO => z.1) e, congrArg (fun z : AlO => z.2.1) e, congrArg (fun z : AlO => z.2.2) e⟩
  keeps := fun _ _ _ ⟨K, hK, c⟩ k => ⟨K, PySem.W.Frag.In.keeps hK k, c⟩
theorem obsO_eq {file : Str} {n : Nat} {fa : List Fa} {fn : List DefD} {er : List ErrD} {g : Addr → Option Obj} {s : Shared} (h : ∀ a, g a = s.heap.get? a) : obsO file n fa fn er g = (hookO file n fa fn er).obs s := by
  have e : g = s.heap.get? := funext h
  rw [e] <;> rfl
theorem SaysO.err {file : Str} {fa : List Fa} {fn : List DefD} {er : List ErrD} {K : PySem.W.Frag} (c : SaysO file fa fn er K) (i : Nat) {d : ErrD} (h : er[i]? = some d := by rfl) : fnC K d.at_ = d.val ∧ errB file K d = true := by
  refine ⟨?_, List.all_eq_true.mp c.b d (List.mem_of_getElem? h)⟩
  have e2 : (er.map fun d => fnC K d.at_)[i]? = (er.map ErrD.val)[i]? := by rw [c.e]
  rw [List.getElem?_map, List.getElem?_map, h] at e2
  exact Option.some.inj e2
end OwnH
end

section
set_option maxRecDepth 100000
set_option maxHeartbeats 0
namespace KK
open PySem PySem.Spec PyProof.Rows L2
def looseA : List Str := ["_wall", "__name__", "MOST_PLACES", "MOST_TIES", "LONGEST_NAME", "GREATEST_PRICE", "is_integer", "is_between", "is_name", "is_among", "has_just", "has_values", "in_order", "names_fault", "price_fault", "HalfError", "BadPlaces", "BadTie", "BadPrice", "NoPlace"]
def looseB : List Str := ["CommonPlace", "TooMany", "NoAnswer", "is_answer", "cost", "Web", "_web_of", "_is_tie", "_tie_fault", "_law_stream", "_law_draw", "_law_name", "_law_amount", "_law_pair", "_law_parts", "_law_web", "_law_is_integer", "_law_beside", "_law_up", "_law_web_is"]
def looseC : List Str := ["_law_odd", "_law_spent", "_law_answer_is", "_law_copy", "_law_some_answer", "_law_back", "_law_truth_is", "_law_changed", "_law_cost", "_law_asked"]
def fn : List He.DefD := [
  ⟨("is_integer", none), "is_integer", "is_integer", defArgs s_is_integer, defBody s_is_integer, defScope s_is_integer, [], []⟩,
  ⟨("is_between", none), "is_between", "is_between", defArgs s_is_between, defBody s_is_between, defScope s_is_between, [], []⟩,
  ⟨("is_name", none), "is_name", "is_name", defArgs s_is_name, defBody s_is_name, defScope s_is_name, [], []⟩,
  ⟨("is_among", none), "is_among", "is_among", defArgs s_is_among, defBody s_is_among, defScope s_is_among, [], []⟩,
  ⟨("has_just", none), "has_just", "has_just", defArgs s_has_just, defBody s_has_just, defScope s_has_just, [], []⟩,
  ⟨("has_values", none), "has_values", "has_values", defArgs s_has_values, defBody s_has_values, defScope s_has_values, [], []⟩,
  ⟨("in_order", none), "in_order", "in_order", defArgs s_in_order, defBody s_in_order, defScope s_in_order, [], []⟩,
  ⟨("names_fault", none), "names_fault", "names_fault", defArgs s_names_fault, defBody s_names_fault, defScope s_names_fault, [], []⟩,
  ⟨("price_fault", none), "price_fault", "price_fault", defArgs s_price_fault, defBody s_price_fault, defScope s_price_fault, [], []⟩,
  ⟨("_is_tie", none), "_is_tie", "_is_tie", defArgs s_is_tie, defBody s_is_tie, defScope s_is_tie, [], []⟩,
  ⟨("_tie_fault", none), "_tie_fault", "_tie_fault", defArgs s_tie_fault, defBody s_tie_fault, defScope s_tie_fault, [], []⟩,
  ⟨("is_answer", none), "is_answer", "is_answer", defArgs s_is_answer, defBody s_is_answer, defScope s_is_answer, [], []⟩,
  ⟨("cost", none), "cost", "cost", defArgs s_cost, defBody s_cost, defScope s_cost, [], []⟩,
  ⟨("_law_stream", none), "_law_stream", "_law_stream", defArgs s_law_stream, defBody s_law_stream, defScope s_law_stream, [], []⟩,
  ⟨("_law_draw", none), "_law_draw", "_law_draw", defArgs s_law_draw, defBody s_law_draw, defScope s_law_draw, [], []⟩,
  ⟨("_law_name", none), "_law_name", "_law_name", defArgs s_law_name, defBody s_law_name, defScope s_law_name, [], []⟩,
  ⟨("_law_amount", none), "_law_amount", "_law_amount", defArgs s_law_amount, defBody s_law_amount, defScope s_law_amount, [], []⟩,
  ⟨("_law_pair", none), "_law_pair", "_law_pair", defArgs s_law_pair, defBody s_law_pair, defScope s_law_pair, [], []⟩,
  ⟨("_law_parts", none), "_law_parts", "_law_parts", defArgs s_law_parts, defBody s_law_parts, defScope s_law_parts, [], []⟩,
  ⟨("_law_web", none), "_law_web", "_law_web", defArgs s_law_web, defBody s_law_web, defScope s_law_web, [], []⟩,
  ⟨("_law_is_integer", none), "_law_is_integer", "_law_is_integer", defArgs s_law_is_integer, defBody s_law_is_integer, defScope s_law_is_integer, [], []⟩,
  ⟨("_law_beside", none), "_law_beside", "_law_beside", defArgs s_law_beside, defBody s_law_beside, defScope s_law_beside, [], []⟩,
  ⟨("_law_up", none), "_law_up", "_law_up", defArgs s_law_up, defBody s_law_up, defScope s_law_up, [], []⟩,
  ⟨("_law_web_is", none), "_law_web_is", "_law_web_is", defArgs s_law_web_is, defBody s_law_web_is, defScope s_law_web_is, [], []⟩,
  ⟨("_law_odd", none), "_law_odd", "_law_odd", defArgs s_law_odd, defBody s_law_odd, defScope s_law_odd, [], []⟩,
  ⟨("_law_spent", none), "_law_spent", "_law_spent", defArgs s_law_spent, defBody s_law_spent, defScope s_law_spent, [], []⟩,
  ⟨("_law_answer_is", none), "_law_answer_is", "_law_answer_is", defArgs s_law_answer_is, defBody s_law_answer_is, defScope s_law_answer_is, [], []⟩,
  ⟨("_law_copy", none), "_law_copy", "_law_copy", defArgs s_law_copy, defBody s_law_copy, defScope s_law_copy, [], []⟩,
  ⟨("_law_some_answer", none), "_law_some_answer", "_law_some_answer", defArgs s_law_some_answer, defBody s_law_some_answer, defScope s_law_some_answer, [], []⟩,
  ⟨("_law_back", none), "_law_back", "_law_back", defArgs s_law_back, defBody s_law_back, defScope s_law_back, [], []⟩,
  ⟨("_law_truth_is", none), "_law_truth_is", "_law_truth_is", defArgs s_law_truth_is, defBody s_law_truth_is, defScope s_law_truth_is, [], []⟩,
  ⟨("_law_changed", none), "_law_changed", "_law_changed", defArgs s_law_changed, defBody s_law_changed, defScope s_law_changed, [], []⟩,
  ⟨("_law_cost", none), "_law_cost", "_law_cost", defArgs s_law_cost, defBody s_law_cost, defScope s_law_cost, [], []⟩,
  ⟨("_law_asked", none), "_law_asked", "_law_asked", defArgs s_law_asked, defBody s_law_asked, defScope s_law_asked, [], []⟩,
  ⟨("law", none), "law", "law", defArgs s_law, defBody s_law, defScope s_law, [], []⟩,
  ⟨("Web", some "__init__"), "__init__", "Web.__init__", defArgs s_Web_init, defBody s_Web_init, defScope s_Web_init, [], []⟩,
  ⟨("Web", some "places"), "places", "Web.places", defArgs s_Web_places, defBody s_Web_places, defScope s_Web_places, [], []⟩,
  ⟨("Web", some "ties"), "ties", "Web.ties", defArgs s_Web_ties, defBody s_Web_ties, defScope s_Web_ties, [], []⟩,
  ⟨("Web", some "price"), "price", "Web.price", defArgs s_Web_price, defBody s_Web_price, defScope s_Web_price, [], []⟩,
  ⟨("Web", some "near"), "near", "Web.near", defArgs s_Web_near, defBody s_Web_near, defScope s_Web_near, [], []⟩,
  ⟨("Web", some "degree"), "degree", "Web.degree", defArgs s_Web_degree, defBody s_Web_degree, defScope s_Web_degree, [], []⟩,
  ⟨("Web", some "__len__"), "__len__", "Web.__len__", defArgs s_Web_len, defBody s_Web_len, defScope s_Web_len, [], []⟩,
  ⟨("Web", some "__contains__"), "__contains__", "Web.__contains__", defArgs s_Web_contains, defBody s_Web_contains, defScope s_Web_contains, [], []⟩,
  ⟨("Web", some "_need"), "_need", "Web._need", defArgs s_Web_need, defBody s_Web_need, defScope s_Web_need, [], []⟩]
def fa : List He.Fa := [.int "MOST_PLACES" 40, .int "MOST_TIES" 400, .int "LONGEST_NAME" 8, .int "GREATEST_PRICE" (10 ^ 30), .free "len", .free "isinstance", .free "int", .free "str", .free "bool", .free "list", .free "tuple", .free "dict", .free "sorted", .free "all", .free "range", .free "enumerate", .free "sum", .glo "Web", .cls "Web", .noat "Web" "_prices", .noat "Web" "_ties", .mkr "Web", .meth "Web" "places", .meth "Web" "ties", .meth "Web" "price", .meth "Web" "near", .meth "Web" "degree", .meth "Web" "__len__", .meth "Web" "__contains__", .meth "Web" "_need", .exc "NoAnswer", .exm "NoAnswer" "NoAnswer" true, .glo "NoAnswer", .glo "is_integer", .glo "is_between", .glo "is_name", .glo "is_among", .glo "has_just", .glo "has_values", .glo "in_order", .glo "names_fault", .glo "price_fault", .glo "_is_tie", .glo "_tie_fault", .glo "is_answer", .glo "cost", .glo "_law_stream", .glo "_law_draw", .glo "_law_name", .glo "_law_amount", .glo "_law_pair", .glo "_law_parts", .glo "_law_web", .glo "_law_is_integer", .glo "_law_beside", .glo "_law_up", .glo "_law_web_is", .glo "_law_odd", .glo "_law_spent", .glo "_law_answer_is", .glo "_law_copy", .glo "_law_some_answer", .glo "_law_back", .glo "_law_truth_is", .glo "_law_changed", .glo "_law_cost", .glo "_law_asked", .glo "law"]
def er : List OwnH.ErrD := []
abbrev R : PySem.W.OpenRow := PySem.W.OpenLaw.row PySem.Challenge.rw_halfpicked_k08_answers_judged
abbrev hk : PySem.W.Hook := OwnH.hookO "/claim/cut.py" 5 fa fn er
def ob (s : PySem.W.SharedT) : OwnH.AlO := OwnH.obsO "/claim/cut.py" 5 fa fn er (HandSHeadRun.getT s)
theorem ob_eq (s : PySem.W.SharedT) : ob s = hk.obs s.abs := OwnH.obsO_eq (HandSHeadRun.getT_eq s)
theorem run (w : World) : HandSHeadRun.RunEq R (PySem.W.view R.prog [54]) hk ob 12000 (looseA ++ looseB ++ looseC) w := by
  intro os
  kernel_rfl
end KK
end

section
set_option maxRecDepth 100000
set_option maxHeartbeats 4000000
namespace KK
open PySem PySem.Spec PyProof.Rows L2
theorem fun_of {K : PySem.W.Frag} {x qual : Str} {st : Stmt} {f : Addr} {fd : FuncData} (F : FunD K x qual (defArgs st) (defBody st) (defScope st) [] [] f fd) : Fun K x qual st f fd := by
  obtain ⟨⟨oc, od, dV, kV, doc, pm, an, cdv, ct, osl, e, lk, hcd, hD, _⟩, kp⟩ := F
  rcases hD with ⟨_, rfl⟩ | ⟨z, _⟩
  · exact ⟨⟨oc, od, kV, doc, pm, an, cdv, ct, osl, e, lk, hcd⟩, kp⟩
  · exact absurd rfl z
theorem has_of {K : PySem.W.Frag} {h : Heap} {mg : Str → Option Value} {x : Str} {st : Stmt} (X : K.In h) (G : h.Ns mainGlobals mg) (g : (He.Fa.glo x).ok K = true) (F : ∃ fd, FunD K x x (defArgs st) (defBody st) (defScope st) [] [] (He.ga K x) fd) : Has K mg x st := by
  obtain ⟨fd, F⟩ := F
  exact ⟨_, fd, fun_of F, He.glo_ok X G g⟩
theorem hasM_of {K : PySem.W.Frag} {m qual : Str} {st : Stmt} (g : (He.Fa.meth "Web" m).ok K = true) (F : ∃ fd, FunD K m qual (defArgs st) (defBody st) (defScope st) [] [] (He.ma K (He.ga K "Web") m) fd) : HasM K (He.ga K "Web") m qual st := by
  obtain ⟨fd, F⟩ := F
  exact ⟨_, fd, fun_of F, He.meth_ok g⟩
theorem facts {w : World} {K : PySem.W.Frag} {h : Heap} {mg : Str → Option Value} {f : Addr} (X : K.In h) (G : h.Ns mainGlobals mg) (hfa : mg ("law" : Str) = some (.ref f)) (c : OwnH.SaysO "/claim/cut.py" fa fn er K) :
    ∃ fd : FuncData, (∀ (s : Shared) (v : Value), BindsTo s fd ⟨[v], []⟩ [("_law_script", v)]) ∧ ∀ base : Heap, K.In base → base.Ns mainGlobals mg → FnOk PySem.Challenge.rw_halfpicked_k08_answers_judged.prog w K mg base CX0 8 f fd ["_law_script"] (spLaw K) := by
  have fr : ∀ (i : Nat) (x : Str), fa[i]? = some (.free x) → mg x = none := fun i x e => He.free_ok X G (c.d.fact i (f := .free x) e)
  have T : Blt mg := ⟨fr 4 _ rfl, fr 5 _ rfl, fr 6 _ rfl, fr 7 _ rfl, fr 8 _ rfl, fr 9 _ rfl, fr 10 _ rfl, fr 11 _ rfl, fr 12 _ rfl, fr 13 _ rfl, fr 14 _ rfl, fr 15 _ rfl⟩
  have BS : mg "sum" = none := fr 16 _ rfl
  have g1 := He.int_ok X G (c.d.fact 0 (f := .int "MOST_PLACES" 40) rfl)
  have g2 := He.int_ok X G (c.d.fact 1 (f := .int "MOST_TIES" 400) rfl)
  have g3 := He.int_ok X G (c.d.fact 2 (f := .int "LONGEST_NAME" 8) rfl)
  have g4 := He.int_ok X G (c.d.fact 3 (f := .int "GREATEST_PRICE" (10 ^ 30)) rfl)
  have W : WebC K mg (He.ga K "Web") := ⟨He.cls_ok (c.d.fact 18 (f := .cls "Web") rfl), He.noat_ok (c.d.fact 19 (f := .noat "Web" "_prices") rfl), He.noat_ok (c.d.fact 20 (f := .noat "Web" "_ties") rfl), He.glo_ok X G (c.d.fact 17 (f := .glo "Web") rfl)⟩
  have FI : ∃ f fd, Fun K "__init__" "Web.__init__" s_Web_init f fd ∧ Mk K (He.ga K "Web") f := by
    obtain ⟨fd, F⟩ := c.d.def_ 35 rfl
    exact ⟨_, fd, fun_of F, He.mkr_ok (c.d.fact 21 (f := .mkr "Web") rfl)⟩
  obtain ⟨x1, x2, x3, x4⟩ := He.exc_ok (c.d.fact 30 (f := .exc "NoAnswer") rfl)
  have EX : ExC K mg "NoAnswer" (He.ga K "NoAnswer") := ⟨He.glo_ok X G (c.d.fact 32 (f := .glo "NoAnswer") rfl), x1, x2, x3, x4⟩
  have TE := He.exm_ok (c.d.fact 31 (f := .exm "NoAnswer" "NoAnswer" true) rfl)
  obtain ⟨fd, FL⟩ := c.d.def_ 34 rfl
  have F_is_integer : Has K mg "is_integer" s_is_integer := has_of X G (c.d.fact 33 (f := .glo "is_integer") rfl) (c.d.def_ 0 rfl)
  have F_is_between : Has K mg "is_between" s_is_between := has_of X G (c.d.fact 34 (f := .glo "is_between") rfl) (c.d.def_ 1 rfl)
  have F_is_name : Has K mg "is_name" s_is_name := has_of X G (c.d.fact 35 (f := .glo "is_name") rfl) (c.d.def_ 2 rfl)
  have F_is_among : Has K mg "is_among" s_is_among := has_of X G (c.d.fact 36 (f := .glo "is_among") rfl) (c.d.def_ 3 rfl)
  have F_has_just : Has K mg "has_just" s_has_just := has_of X G (c.d.fact 37 (f := .glo "has_just") rfl) (c.d.def_ 4 rfl)
  have F_has_values : Has K mg "has_values" s_has_values := has_of X G (c.d.fact 38 (f := .glo "has_values") rfl) (c.d.def_ 5 rfl)
  have F_in_order : Has K mg "in_order" s_in_order := has_of X G (c.d.fact 39 (f := .glo "in_order") rfl) (c.d.def_ 6 rfl)
  have F_names_fault : Has K mg "names_fault" s_names_fault := has_of X G (c.d.fact 40 (f := .glo "names_fault") rfl) (c.d.def_ 7 rfl)
  have F_price_fault : Has K mg "price_fault" s_price_fault := has_of X G (c.d.fact 41 (f := .glo "price_fault") rfl) (c.d.def_ 8 rfl)
  have F__is_tie : Has K mg "_is_tie" s_is_tie := has_of X G (c.d.fact 42 (f := .glo "_is_tie") rfl) (c.d.def_ 9 rfl)
  have F__tie_fault : Has K mg "_tie_fault" s_tie_fault := has_of X G (c.d.fact 43 (f := .glo "_tie_fault") rfl) (c.d.def_ 10 rfl)
  have F_is_answer : Has K mg "is_answer" s_is_answer := has_of X G (c.d.fact 44 (f := .glo "is_answer") rfl) (c.d.def_ 11 rfl)
  have F_cost : Has K mg "cost" s_cost := has_of X G (c.d.fact 45 (f := .glo "cost") rfl) (c.d.def_ 12 rfl)
  have F__law_stream : Has K mg "_law_stream" s_law_stream := has_of X G (c.d.fact 46 (f := .glo "_law_stream") rfl) (c.d.def_ 13 rfl)
  have F__law_draw : Has K mg "_law_draw" s_law_draw := has_of X G (c.d.fact 47 (f := .glo "_law_draw") rfl) (c.d.def_ 14 rfl)
  have F__law_name : Has K mg "_law_name" s_law_name := has_of X G (c.d.fact 48 (f := .glo "_law_name") rfl) (c.d.def_ 15 rfl)
  have F__law_amount : Has K mg "_law_amount" s_law_amount := has_of X G (c.d.fact 49 (f := .glo "_law_amount") rfl) (c.d.def_ 16 rfl)
  have F__law_pair : Has K mg "_law_pair" s_law_pair := has_of X G (c.d.fact 50 (f := .glo "_law_pair") rfl) (c.d.def_ 17 rfl)
  have F__law_parts : Has K mg "_law_parts" s_law_parts := has_of X G (c.d.fact 51 (f := .glo "_law_parts") rfl) (c.d.def_ 18 rfl)
  have F__law_web : Has K mg "_law_web" s_law_web := has_of X G (c.d.fact 52 (f := .glo "_law_web") rfl) (c.d.def_ 19 rfl)
  have F__law_is_integer : Has K mg "_law_is_integer" s_law_is_integer := has_of X G (c.d.fact 53 (f := .glo "_law_is_integer") rfl) (c.d.def_ 20 rfl)
  have F__law_beside : Has K mg "_law_beside" s_law_beside := has_of X G (c.d.fact 54 (f := .glo "_law_beside") rfl) (c.d.def_ 21 rfl)
  have F__law_up : Has K mg "_law_up" s_law_up := has_of X G (c.d.fact 55 (f := .glo "_law_up") rfl) (c.d.def_ 22 rfl)
  have F__law_web_is : Has K mg "_law_web_is" s_law_web_is := has_of X G (c.d.fact 56 (f := .glo "_law_web_is") rfl) (c.d.def_ 23 rfl)
  have F__law_odd : Has K mg "_law_odd" s_law_odd := has_of X G (c.d.fact 57 (f := .glo "_law_odd") rfl) (c.d.def_ 24 rfl)
  have F__law_spent : Has K mg "_law_spent" s_law_spent := has_of X G (c.d.fact 58 (f := .glo "_law_spent") rfl) (c.d.def_ 25 rfl)
  have F__law_answer_is : Has K mg "_law_answer_is" s_law_answer_is := has_of X G (c.d.fact 59 (f := .glo "_law_answer_is") rfl) (c.d.def_ 26 rfl)
  have F__law_copy : Has K mg "_law_copy" s_law_copy := has_of X G (c.d.fact 60 (f := .glo "_law_copy") rfl) (c.d.def_ 27 rfl)
  have F__law_some_answer : Has K mg "_law_some_answer" s_law_some_answer := has_of X G (c.d.fact 61 (f := .glo "_law_some_answer") rfl) (c.d.def_ 28 rfl)
  have F__law_back : Has K mg "_law_back" s_law_back := has_of X G (c.d.fact 62 (f := .glo "_law_back") rfl) (c.d.def_ 29 rfl)
  have F__law_truth_is : Has K mg "_law_truth_is" s_law_truth_is := has_of X G (c.d.fact 63 (f := .glo "_law_truth_is") rfl) (c.d.def_ 30 rfl)
  have F__law_changed : Has K mg "_law_changed" s_law_changed := has_of X G (c.d.fact 64 (f := .glo "_law_changed") rfl) (c.d.def_ 31 rfl)
  have F__law_cost : Has K mg "_law_cost" s_law_cost := has_of X G (c.d.fact 65 (f := .glo "_law_cost") rfl) (c.d.def_ 32 rfl)
  have F__law_asked : Has K mg "_law_asked" s_law_asked := has_of X G (c.d.fact 66 (f := .glo "_law_asked") rfl) (c.d.def_ 33 rfl)
  have F_law : Has K mg "law" s_law := has_of X G (c.d.fact 67 (f := .glo "law") rfl) (c.d.def_ 34 rfl)
  have M_places : HasM K (He.ga K "Web") "places" "Web.places" s_Web_places := hasM_of (c.d.fact 22 (f := .meth "Web" "places") rfl) (c.d.def_ 36 rfl)
  have M_ties : HasM K (He.ga K "Web") "ties" "Web.ties" s_Web_ties := hasM_of (c.d.fact 23 (f := .meth "Web" "ties") rfl) (c.d.def_ 37 rfl)
  have M_price : HasM K (He.ga K "Web") "price" "Web.price" s_Web_price := hasM_of (c.d.fact 24 (f := .meth "Web" "price") rfl) (c.d.def_ 38 rfl)
  have M_near : HasM K (He.ga K "Web") "near" "Web.near" s_Web_near := hasM_of (c.d.fact 25 (f := .meth "Web" "near") rfl) (c.d.def_ 39 rfl)
  have M_degree : HasM K (He.ga K "Web") "degree" "Web.degree" s_Web_degree := hasM_of (c.d.fact 26 (f := .meth "Web" "degree") rfl) (c.d.def_ 40 rfl)
  have M___len__ : HasM K (He.ga K "Web") "__len__" "Web.__len__" s_Web_len := hasM_of (c.d.fact 27 (f := .meth "Web" "__len__") rfl) (c.d.def_ 41 rfl)
  have M___contains__ : HasM K (He.ga K "Web") "__contains__" "Web.__contains__" s_Web_contains := hasM_of (c.d.fact 28 (f := .meth "Web" "__contains__") rfl) (c.d.def_ 42 rfl)
  have M__need : HasM K (He.ga K "Web") "_need" "Web._need" s_Web_need := hasM_of (c.d.fact 29 (f := .meth "Web" "_need") rfl) (c.d.def_ 43 rfl)
  have hlaw : f = He.ga K "law" := by
    have := hfa.symm.trans (He.glo_ok X G (c.d.fact 67 (f := .glo "law") rfl))
    cases this
    rfl
  subst hlaw
  refine ⟨fd, fun s v => FunD.bindsA (ps := ["_law_script"]) FL (fun _ _ _ _ _ _ us hl => match us, hl with | [_], _ => rfl) s [v] rfl, fun base _ _ => ?_⟩
  have CISINT := c_isint (P := PySem.Challenge.rw_halfpicked_k08_answers_judged.prog) (w := w) (base := base) T F_is_integer
  have CISBET := c_between (P := PySem.Challenge.rw_halfpicked_k08_answers_judged.prog) (w := w) (base := base) T F_is_between CISINT
  have CISNAME := c_isname (P := PySem.Challenge.rw_halfpicked_k08_answers_judged.prog) (w := w) (base := base) T g3 F_is_name
  have CAMONG := c_among (P := PySem.Challenge.rw_halfpicked_k08_answers_judged.prog) (w := w) (base := base) T F_is_among
  have CHASJUST := c_just (P := PySem.Challenge.rw_halfpicked_k08_answers_judged.prog) (w := w) (base := base) T F_has_just
  have CJUSTG := c_justG (P := PySem.Challenge.rw_halfpicked_k08_answers_judged.prog) (w := w) (base := base) T F_has_just
  have CINORDER := c_order (P := PySem.Challenge.rw_halfpicked_k08_answers_judged.prog) (w := w) (base := base) T F_in_order
  have CNAMESF := c_namesf T g1 F_names_fault CISNAME
  have CPRICEF := c_pricef T g4 F_price_fault CHASJUST CISBET
  have CISTIE := c_istie T F__is_tie CAMONG
  have CTIEF := c_tief T g2 F__tie_fault CISTIE CINORDER
  have CDRAW := c_draw (P := PySem.Challenge.rw_halfpicked_k08_answers_judged.prog) (w := w) (base := base) T F__law_draw
  have CNAME := c_name T F__law_name CDRAW
  have CAMOUNT := c_amount T F__law_amount CDRAW
  have CPAIR := c_pair T F__law_pair CDRAW
  have CPARTS := c_parts T F__law_parts CDRAW CNAME CAMOUNT CPAIR
  have CLISINT := c_lisint (P := PySem.Challenge.rw_halfpicked_k08_answers_judged.prog) (w := w) (base := base) T F__law_is_integer
  have CBESIDE := c_beside (P := PySem.Challenge.rw_halfpicked_k08_answers_judged.prog) (w := w) (base := base) T F__law_beside
  have CUP := c_up (P := PySem.Challenge.rw_halfpicked_k08_answers_judged.prog) (w := w) (base := base) T F__law_up
  have CODD := c_odd (P := PySem.Challenge.rw_halfpicked_k08_answers_judged.prog) (w := w) (base := base) T F__law_odd
  have CCOPY := c_copy (P := PySem.Challenge.rw_halfpicked_k08_answers_judged.prog) (w := w) (base := base) T F__law_copy
  have CMAKE := c_init T W FI CNAMESF CTIEF CPRICEF CINORDER
  have CPLACES := c_places (P := PySem.Challenge.rw_halfpicked_k08_answers_judged.prog) (w := w) (base := base) T W M_places
  have CTIES := c_ties (P := PySem.Challenge.rw_halfpicked_k08_answers_judged.prog) (w := w) (base := base) T W M_ties
  have CNEED := c_need T W M__need CAMONG
  have CPRICE := c_price T W M_price CNEED
  have CNEAR := c_near T W M_near CNEED
  have CDEGREE := c_degree T W M_degree CNEAR
  have CLEN := c_len (P := PySem.Challenge.rw_halfpicked_k08_answers_judged.prog) (w := w) (base := base) T W M___len__
  have CHAS := c_has T W M___contains__ CAMONG
  have CWEBIS := c_webis T F__law_web_is CPLACES CTIES CLEN CHAS CPRICE CNEAR CDEGREE CLISINT CUP CBESIDE
  have CVALS := c_vals T F_has_values CJUSTG CISBET
  have CISANS := c_isans T F_is_answer CVALS CPLACES CTIES
  have CCOST := c_cost T BS F_cost EX CISANS CPRICE
  have CLCOST := c_lcost T F__law_cost EX TE CCOST
  have CANSIS := c_ansis T F__law_answer_is CLISINT
  have CTRUTH := c_truth (P := PySem.Challenge.rw_halfpicked_k08_answers_judged.prog) (w := w) (base := base) T F__law_truth_is
  have CSPENT := c_spent (P := PySem.Challenge.rw_halfpicked_k08_answers_judged.prog) (w := w) (base := base) T F__law_spent
  have CASKED := c_asked T F__law_asked CANSIS CTRUTH CISANS CLCOST CLISINT CSPENT
  have CWEB := c_lweb T F__law_web CMAKE
  have CBACK := c_back (P := PySem.Challenge.rw_halfpicked_k08_answers_judged.prog) (w := w) (base := base) T F__law_back
  have CSOME := c_some T F__law_some_answer CDRAW
  have CCHANGED := c_changed T F__law_changed CDRAW CNAME CODD
  obtain ⟨f', fd', F', hm, ok⟩ := c_law T F_law F__law_stream CPARTS CWEB CSOME CASKED CCHANGED CCOPY CBACK CWEBIS
  have ef : f' = He.ga K "law" := by
    have := hm.symm.trans hfa
    cases this
    rfl
  subst ef
  have efd : fd' = fd := by
    obtain ⟨oc, od, kV, doc, pm, an, cdv, ct, osl, _, lk, _⟩ := F'.ex
    obtain ⟨oc2, od2, dV2, kV2, doc2, pm2, an2, cdv2, ct2, osl2, _, lk2, _⟩ := FL.ex
    have e := lk.symm.trans lk2
    injection e with e
    injection e with _ _ e _
    injection e
  subst efd
  exact ok
end KK
open PySem PySem.W PySem.Calls PyProof.Rows
theorem PySem.Challenge.cw_halfpicked_k08_answers_judged_holds : PySem.Challenge.rw_halfpicked_k08_answers_judged.Holds := by
  w_on; o_law
  refine HandSHeadRun.head_any (r := OpenLaw.row PySem.Challenge.rw_halfpicked_k08_answers_judged) (q := view (OpenLaw.row PySem.Challenge.rw_halfpicked_k08_answers_judged).prog [54]) (H := KK.hk) (ob := KK.ob) (M := 12000) (loose := KK.looseA ++ KK.looseB ++ KK.looseC) (d := HandSHeadRun.topDef (OpenLaw.row PySem.Challenge.rw_halfpicked_k08_answers_judged).prog 54) (kwd := []) KK.ob_eq
    (by kernel_rfl) (fun s => by kernel_rfl) KK.run (by kernel_rfl) (by kernel_rfl) (by kernel_rfl) (by rfl) (by first | assumption | decide +kernel) (by decide +kernel) ⟨rfl, rfl, rfl, rfl, rfl, by decide +kernel⟩ ?hw ?hc
  case hw => w_witness2
  case hc =>
    refine L2.walk_ofE (l := PySem.Challenge.rw_halfpicked_k08_answers_judged) (n := 63) (k := 8) (x := "_law_script") (CX := L2.CX0) rfl (by decide) (by kernel_rfl) ⟨rfl, by decide, by decide⟩ ?F (fun _ _ _ _ z => z)
    intro w mg fa h Y G hmg0
    obtain ⟨K, KX, c⟩ := Y
    have hmg : mg ("law" : PySem.Str) = some (.ref fa) := by
      have e : (HandSHeadRun.topDef (OpenLaw.row PySem.Challenge.rw_halfpicked_k08_answers_judged).prog 54).name = ("law" : PySem.Str) := by kernel_rfl
      rw [← e]
      exact hmg0
    obtain ⟨fd, hb, hF⟩ := KK.facts (w := w) KX G hmg c
    exact ⟨K, fd, KK.spLaw K, KX, hb, fun H a ns hl _ hS => ⟨a, ns, rfl, hS, Nat.le_trans hl (by decide), fun _ => rfl⟩, hF⟩
end
