import PyProof.Rows.All
import Wide.All
import OpenK.AllK
import Wide.FinOn
import HandS.ForMost
import HandS.SortInts
import HandS.Wide
import HandS.IsInst
import HandS.Codes
import HandS.DictComp
import HandS.Conv
import HandS.DictTup
import HandS.Walk
import PySem.Challenge.RW_halfpicked_k52_follows_and_chain
import KE.KExcSuper
import HandS.ForExc
import HandS.ExcField
import HandS.ExcSuper
import HandS.HeadHook1
import HandS.HeadHook2
import HandS.Defaults
import HandS.SlotsOwn
import PyProof.InstNe
import HandS.Head0
import HandS.Head1
import HandS.Head2
import HandS.HeadEnd
import HandS.Deep
import HandS.DictEq
import KE.KEqDict
import HandS.WordsDict
import HandS.Evl
import HandS.TupAny
import HandS.Style
import HandS.More
import HandS.WideBits
import KE.GoesMore
import HandS.Finally
import HandS.Text
import PyProof.TupleOfGen
import KE.KDictList
import PyProof.DictUpdate
import PyProof.DictDisplay
import HandS.Dict
import HandS.Star
import HandS.TryMany
import HandS.ExcOwn
import KE.KDictZip
import KE.KDictKeyed
import KE.KTurns
import HandS.Iter
import HandS.Call
import HandS.TupLen
import PyProof.Rows.InDataRows
import HandS.Flow
import HandS.Property
import HandS.NoneIn
import HandS.Zip
import KE.KRevSl
import KE.KEqNest
import PyProof.NeKinds
import HandS.ExcIs
import HandS.Flt
import KE.DataMinMax
import KE.SortData
import KE.DatumOrd
import HandS.CallSlots
import HandS.GenYield
import KE.KDictDisplayH
import KE.KDictCopyH
import KE.GoesComp2
import KE.KOpsOwn
import KE.DatumIndex
set_option Elab.async false
set_option linter.all false
section
set_option maxRecDepth 100000
set_option maxHeartbeats 4000000
namespace Own
open PySem PySem.Spec PyProof.Rows L2 SrtO
/-! ### the order of texts and of pairs of texts -/
def ltS (x y : Str) : Bool := decide (x.cps.toList < y.cps.toList)
def ltP (p q : Str × Str) : Bool := if p.1 = q.1 then ltS p.2 q.2 else ltS p.1 q.1
theorem ltS_asym {x y : Str} (h : ltS x y = true) : ltS y x = false := by
  have h1 := of_decide_eq_true h
  exact decide_eq_false fun h2 => List.lt_irrefl _ (List.lt_trans h1 h2)
theorem cps_ext {x y : Str} (h : x.cps.toList = y.cps.toList) : x = y := by
  obtain ⟨x⟩ := x
  obtain ⟨y⟩ := y
  have h' : x.toList = y.toList := h
  rw [Array.toList_inj.mp h']
theorem ltS_tri {x y : Str} (h1 : ltS x y = false) (h2 : ltS y x = false) : x = y := by
  have a := of_decide_eq_false h1
  have b := of_decide_eq_false h2
  exact cps_ext (List.le_antisymm (List.not_lt.mp b) (List.not_lt.mp a))
theorem ltS_trans {x y z : Str} (h1 : ltS x y = true) (h2 : ltS y z = true) : ltS x z = true :=
  decide_eq_true (List.lt_trans (of_decide_eq_true h1) (of_decide_eq_true h2))
theorem ltS_tot {x y : Str} (h : x ≠ y) : ltS x y = true ∨ ltS y x = true := by
  cases h1 : ltS x y with
  | true => exact .inl rfl
  | false =>
    cases h2 : ltS y x with
    | true => exact .inr rfl
    | false => exact absurd (ltS_tri h1 h2) h
theorem swoS : Swo ltS := by
  refine ⟨fun x y h => ltS_asym h, fun x y z h1 h2 => ?_⟩
  cases h3 : ltS z x with
  | false => rfl
  | true =>
    by_cases e : x = y
    · subst e
      rw [h3] at h2
      cases h2
    · rcases ltS_tot e with q | q
      · have := ltS_trans h3 q
        rw [h2] at this
        cases this
      · rw [h1] at q
        cases q
/-- in ascending order -/
def AscS (l : List Str) : Prop := l.Pairwise fun x y => ltS y x = false
def AscP (l : List (Str × Str)) : Prop := l.Pairwise fun x y => ltP y x = false
/-! ### sorted of a list or a tuple, by an order -/
section
variable {prog : Program} {w : World} {A : Around} {E : Value → Shared → Prop} {s : Shared}
theorem sorted_seq_ord {it : Addr} {T : String} {o : Obj} {vs : List Value} {n : Nat} {ltv : Value → Value → Bool} {Q : Value → Shared → Prop} (O : Swo ltv) (hT : T = "list" ∨ T = "tuple") (ho : s.heap.get? it = some o) (hc : o.cls = .type T)
    (hd : o.data = .seq vs.toArray n) (hz : vs.length ≤ sizeLine)
    (hS : 2 ≤ vs.length → ∀ (h₁ : Heap) (a : Addr), h₁.get? a = some (seqObj "list" vs.toArray 0) → (∀ b o, s.heap.get? b = some o → b ≠ a ∧ h₁.get? b = some o) → SortableO prog w A.in1.in1 { s with heap := h₁ } a vs ltv)
    (h : ∀ (h' : Heap) (out : List Value), Srtd ltv out → Stb ltv out vs → (∀ b o, s.heap.get? b = some o → h'.get? b = some o) → Q (.ref h'.objs.size) { s with heap := sortedHeap (h'.push (seqObj "list" vs.toArray 0)) h'.objs.size vs out.toArray }) :
    wpAny (model prog w) A (call (.builtin "sorted") [.ref it]) Q E s := by
  refine Calls.call_function_entry kind_sorted plain_sorted entry_sorted (args_sorted1 _) ?_
  unfold Builtin.«sorted»
  refine wpAny_bind (m := checkCount "sorted" 1 1 _) (wpAny_pure ?_)
  refine wpAny_bind (wpAny_collect_seq (items := vs.toArray) it hT ho hc hd (fun h' hk => ?_) (by simpa using hz))
  rw [show vs.toArray.toList = vs by simp]
  refine wpAny_bind (wpAny_newList ?_ hz)
  have hoL : (h'.push (seqObj "list" vs.toArray 0)).get? h'.objs.size = some (seqObj "list" vs.toArray 0) := Heap.get?_push_size _ rfl
  have keep : ∀ b o, s.heap.get? b = some o → b ≠ h'.objs.size ∧ (h'.push (seqObj "list" vs.toArray 0)).get? b = some o := fun b o q => ⟨Nat.ne_of_lt (Heap.lt_size (hk b o q)), Heap.get?_push_of_some _ (hk b o q)⟩
  show wpAny _ _ _ _ _ { s with heap := h'.push (seqObj "list" vs.toArray 0) }
  refine wpAny_bind (wpAny_holding (wpAny_call_entry slot_list_sort ⟨_, hoL, rfl⟩ entry_list_sort (list_sort_ord (s := { s with heap := h'.push (seqObj "list" vs.toArray 0) }) O hoL hz (fun h2 => hS h2 _ _ hoL keep) fun out hs hb => ⟨_, rfl, ?_⟩) (args_list_sort _)))
  exact wpAny_pure ⟨_, rfl, h h' out hs hb hk⟩
/-! ### texts -/
def sv : Value → Str
  | .str x _ => x
  | _ => ⟨#[]⟩
theorem swo_sv : Swo fun v u => ltS (sv v) (sv u) := ⟨fun x y => swoS.asym _ _, fun x y z => swoS.tr _ _ _⟩
theorem strs_sortable {a : Addr} {vs : List Value} {ss : List Str} (hS : StrsAre vs ss) (h2 : 2 ≤ vs.length) : SortableO prog w A s a vs fun v u => ltS (sv v) (sv u) := by
  intro h' _
  refine ⟨oneType', fun Q E hq => ?_, fun p q hm hm' => ?_⟩
  · match vs, hS, h2 with
    | v1 :: v2 :: rest, hS, _ =>
      rw [keyKind_strs hS]
      exact wpAny_pure hq
    | [], _, h => exact absurd h (by decide)
    | [v], _, h => exact absurd h (by simp)
  · obtain ⟨x, t, e⟩ := hS.all _ hm
    obtain ⟨y, u, e'⟩ := hS.all _ hm'
    show wpAny (model prog w) A (keyLt' oneType' p.1 q.1) (fun r s' => s' = _ ∧ r = ltS (sv p.1) (sv q.1)) (fun _ _ => False) _
    rw [e, e', keyLt'_oneType]
    exact oneLt_str ⟨rfl, rfl⟩
/-! ### pairs of texts -/
def IsTS (h : Heap) (v : Value) (x y : Str) : Prop := ∃ a o t u n, v = .ref a ∧ h.get? a = some o ∧ o.cls = .type "tuple" ∧ o.data = .seq #[.str x t, .str y u] n
end

/-! ### the rules -/
def tieV (H : Hp) : V → Str × Str
  | .ref a => match H a with
    | some (.tup [.str x, .str y]) => (x, y)
    | _ => (⟨#[]⟩, ⟨#[]⟩)
  | _ => (⟨#[]⟩, ⟨#[]⟩)
def rSortS (K : PySem.W.Frag) : List V → Hp → VK → Prop := fun vs H Q => ∃ (a : Addr) (ss : List Str), vs = [V.ref a] ∧ (SqL K H a (ss.map V.str) ∨ SqT K H a (ss.map V.str)) ∧
  ∀ (ys : List Str) (p : Addr), ys.Perm ss → AscS ys → H p = none → Q (.ref p) (upd H p (.lst (ys.map V.str)))
def rSortT (K : PySem.W.Frag) : List V → Hp → VK → Prop := fun vs H Q => ∃ (a : Addr) (xs : List V), vs = [V.ref a] ∧ (SqL K H a xs ∨ SqT K H a xs) ∧ (∀ x ∈ xs, ∃ t a b, x = V.ref t ∧ H t = some (.tup [.str a, .str b])) ∧
  ∀ (ys : List V) (p : Addr), ys.Perm xs → AscP (ys.map (tieV H)) → H p = none → Q (.ref p) (upd H p (.lst ys))
section
variable {X : Cx}
theorem seq_at {pins : List (Addr × Obj)} {σ : L2.St} {H : Hp} {s : Shared} {a : Addr} {xs : List V} (I : Inv X pins σ H s) (h : SqL X.K H a xs ∨ SqT X.K H a xs) :
    ∃ (T : String) (o : Obj) (its : List Value) (n : Nat), (T = "list" ∨ T = "tuple") ∧ s.heap.get? a = some o ∧ o.cls = .type T ∧ o.data = .seq its.toArray n ∧ Vals xs its ∧ xs.length ≤ sizeLine := by
  rcases h with h | h
  · obtain ⟨its, rv, hl, hz⟩ := I.list h
    obtain ⟨o, ho, hc, n, hd⟩ := hl.isList
    exact ⟨"list", o, its, n, .inl rfl, ho, hc, hd, rv, hz⟩
  · obtain ⟨its, rv, ⟨o, ho, hc, n, hd⟩, hz⟩ := I.tuple h
    exact ⟨"tuple", o, its, n, .inr rfl, ho, hc, hd, rv, hz⟩
theorem vals_strs : ∀ {us : List Value}, (∀ v ∈ us, ∃ x t, v = Value.str x t) → Vals ((us.map sv).map V.str) us
  | [], _ => .nil
  | u :: us, h => by
    obtain ⟨x, t, e⟩ := h u List.mem_cons_self
    subst e
    exact .cons ⟨t, rfl⟩ (vals_strs fun v hv => h v (List.mem_cons_of_mem _ hv))
theorem sv_strs : ∀ {vs : List Value} {ss : List Str}, StrsAre vs ss → vs.map sv = ss
  | _, _, .nil => rfl
  | _, _, .cons x t h => by
    rw [List.map_cons, sv_strs h]
    rfl
theorem cr_sortS : CallR X (.builtin "sorted") (rSortS X.K) := by
  intro pins s σ H vs us Q I r h
  obtain ⟨a, ss, rfl, hs, q⟩ := h
  obtain ⟨T, o, its, n, hT, ho, hc, hd, rv, hz⟩ := seq_at I hs
  rw [Vals.ref1 r]
  have hS := rv.strs
  refine sorted_seq_ord swo_sv hT ho hc hd (by rw [← rv.length]; exact hz) (fun h2 h₁ a' _ _ => strs_sortable hS h2) fun h' out h1 h2 hk => ?_
  have I1 : Inv X pins σ H { s with heap := h' } := I.kept (t' := s.toks) hk
  have hoL : (h'.push (seqObj "list" its.toArray 0)).get? h'.objs.size = some (seqObj "list" its.toArray 0) := Heap.get?_push_size _ rfl
  obtain ⟨ep, he'⟩ := PyProof.Rows.sortedHeap_at (vs := its) (out := out.toArray) hoL
  have hall : ∀ v ∈ out, ∃ x t, v = Value.str x t := fun v hv => hS.all v (h2.perm.mem_iff.mp hv)
  have hp : (out.map sv).Perm ss := by
    have := h2.perm.map sv
    rwa [sv_strs hS] at this
  have hlen : ((out.map sv).map V.str).length ≤ sizeLine := by
    rw [List.length_map, hp.length_eq]
    rw [List.length_map] at hz
    exact hz
  refine ⟨.ref h'.objs.size, upd H h'.objs.size (.lst ((out.map sv).map V.str)), I1.laid (t' := s.toks) (fun b u e => ?_) (Nat.le_refl _) ⟨hlen, out, ep, vals_strs hall, he'⟩, rfl, q _ _ hp (List.pairwise_map.mpr h1) (I1.hok.fresh (Nat.le_refl _))⟩
  have hb : b < h'.objs.size := Heap.lt_size e
  rw [PyProof.Rows.sortedHeap_old (Nat.ne_of_lt hb) (by rw [size_push']; exact Nat.lt_succ_of_lt hb)]
  exact Heap.get?_push_of_some _ e
end
end Own
end

section
set_option maxRecDepth 100000
set_option maxHeartbeats 4000000
namespace KK
open PySem PySem.Spec PyProof.Rows L2
def top (i : Nat) : Stmt := PySem.Challenge.pw_halfpicked_k52_follows_and_chain.main.body.getD i (.Pass ⟨0, 0, 0, 0⟩)
abbrev s_is_integer : Stmt := top 6
abbrev s_is_between : Stmt := top 7
abbrev s_is_name : Stmt := top 8
abbrev s_is_among : Stmt := top 9
abbrev s_is_literal : Stmt := top 10
abbrev s_has_just : Stmt := top 11
abbrev s_names_fault : Stmt := top 12
abbrev s_price_fault : Stmt := top 13
abbrev s_opposite : Stmt := top 22
abbrev s_follows : Stmt := top 26
abbrev s_chain : Stmt := top 27
abbrev s_need_literal : Stmt := top 28
abbrev s_is_row : Stmt := top 29
abbrev s_row_fault : Stmt := top 30
abbrev s_law_stream : Stmt := top 32
abbrev s_law_draw : Stmt := top 33
abbrev s_law_name : Stmt := top 34
abbrev s_law_places : Stmt := top 35
abbrev s_law_prices : Stmt := top 36
abbrev s_law_drawn_row : Stmt := top 37
abbrev s_law_table : Stmt := top 38
abbrev s_law_closure : Stmt := top 39
abbrev s_law_is_chain : Stmt := top 40
abbrev s_law_refused : Stmt := top 41
abbrev s_law : Stmt := top 42
abbrev s_NoName_init : Stmt := inClass (top 16) 0
abbrev s_BadNames_init : Stmt := inClass (top 17) 0
abbrev s_BadRow_init : Stmt := inClass (top 18) 0
abbrev s_BadCost_init : Stmt := inClass (top 19) 0
abbrev s_Steps_init : Stmt := inClass (top 23) 0
abbrev s_Steps_literals : Stmt := inClass (top 23) 1
abbrev s_Steps_reach : Stmt := inClass (top 23) 2
abbrev s_Steps_chain : Stmt := inClass (top 23) 3
abbrev s_Clauses_init : Stmt := inClass (top 25) 0
abbrev s_Clauses_names : Stmt := inClass (top 25) 1
abbrev s_Clauses_rows : Stmt := inClass (top 25) 2
abbrev s_Clauses_price : Stmt := inClass (top 25) 3
abbrev s_Clauses_len : Stmt := inClass (top 25) 4
abbrev s_Clauses_contains : Stmt := inClass (top 25) 5
abbrev s_Clauses_eq : Stmt := inClass (top 25) 6
abbrev s_Clauses_need : Stmt := inClass (top 25) 9
/-! ### what the text has written -/
/-- a def of the top -/
def Has (K : PySem.W.Frag) (mg : Str → Option Value) (x : Str) (st : Stmt) : Prop := ∃ f fd, Fun K x x st f fd ∧ mg x = some (.ref f)
/-- a method -/
def HasM (K : PySem.W.Frag) (C : Addr) (m qual : Str) (st : Stmt) : Prop := ∃ f fd, Fun K m qual st f fd ∧ Meth K C m f
/-- an int of the top -/
structure GInt (mg : Str → Option Value) (x : Str) (i : Int) : Prop where
  ex : ∃ t, mg x = some (.int i t)
/-- the built-in names that nobody has bound -/
structure Blt (mg : Str → Option Value) : Prop where
  b_len : mg "len" = none
  b_isinstance : mg "isinstance" = none
  b_int : mg "int" = none
  b_str : mg "str" = none
  b_bool : mg "bool" = none
  b_list : mg "list" = none
  b_tuple : mg "tuple" = none
  b_dict : mg "dict" = none
  b_sorted : mg "sorted" = none
  b_all : mg "all" = none
  b_range : mg "range" = none
  b_enumerate : mg "enumerate" = none
section
variable {P : Program} {w : World} {K : PySem.W.Frag} {mg : Str → Option Value} {base : Heap}
theorem calF {x : Str} {st : Stmt} {N ps : List Str} {k : Nat} {sp : Sp} (F : Has K mg x st) (b : ∀ f fd, Fun K x x st f fd → Binds K fd ps []) (S : FnScope N ps (defScope st)) (len : ∀ vs H Q E, sp vs H Q E → vs.length = ps.length)
    (hbody : ∀ (f : Addr) (cdv : Value) (A : Around) (outer : List Env) (s : Shared) (H : Hp) (vs : List V) (Q : VK) (E : XK), Room k (A.deeper (envOfC x (defScope st) s.heap.objs.size f cdv)) → sp vs H Q E →
      ∃ t, PSs (cxOf CX0 P w K mg base N x (defScope st) f cdv A outer s H E).nox (defBody st) t ∧ t { nx := fun _ H' => Q .non H', rt := Q } (start N vs) H) : C8.Cal P w K mg base (k + 1) x sp [] := by
  obtain ⟨f, fd, F, hm⟩ := F
  exact ⟨f, fd, ps, [], F.ok S len (hbody f), hm, F.kp, b f fd F, .nil⟩
theorem metF {m qual : Str} {C : Addr} {st : Stmt} {N ps : List Str} {k : Nat} {sp : Sp} (c : Cls K C) (F : HasM K C m qual st) (b : ∀ f fd, Fun K m qual st f fd → Binds K fd ps []) (S : FnScope N ps (defScope st)) (len : ∀ vs H Q E, sp vs H Q E → vs.length = ps.length)
    (hbody : ∀ (f : Addr) (cdv : Value) (A : Around) (outer : List Env) (s : Shared) (H : Hp) (vs : List V) (Q : VK) (E : XK), Room k (A.deeper (envOfC qual (defScope st) s.heap.objs.size f cdv)) → sp vs H Q E →
      ∃ t, PSs (cxOf CX0 P w K mg base N qual (defScope st) f cdv A outer s H E).nox (defBody st) t ∧ t { nx := fun _ H' => Q .non H', rt := Q } (start N vs) H) : C8.Met P w K mg base (k + 1) C m sp [] := by
  obtain ⟨f, fd, F, hm⟩ := F
  exact ⟨f, fd, ps, [], c, hm, F.ok S len (hbody f), b f fd F, .nil⟩
end
/-! ### heaps -/
/-- all that stood stands, but what is at a -/
def But (a : Addr) (H H' : Hp) : Prop := ∀ b o, H b = some o → b ≠ a → H' b = some o
theorem Same.new {H : Hp} {p : Addr} {o : HO} (h : H p = none) : Same H (upd H p o) := fun a u e => by
  rw [upd_ne (ne_of_none e h)]
  exact e
theorem Same.seqT {K : PySem.W.Frag} {H H' : Hp} {a : Addr} {xs : List V} (e : Same H H') (h : SqT K H a xs) : SqT K H' a xs := by
  rcases h with (h | ⟨o, h⟩) | h
  · exact .inl (.inl (e _ _ h))
  · exact .inl (.inr ⟨o, e _ _ h⟩)
  · exact .inr h
theorem fits {n : Nat} (h : n ≤ 100000) : n ≤ sizeLine := Nat.le_trans h (by decide)
theorem fitsL {n : Nat} (h : n ≤ 100000) : n < sizeLine := Nat.lt_of_le_of_lt h (by decide)
/-! ### streams -/
def StrAt (H : Hp) (a : Addr) (m : Int) : Prop := ∃ c k : Int, H a = some (.lst [.int c, .int k]) ∧ 0 ≤ k ∧ k ≤ m
end KK
end

section
set_option maxRecDepth 100000
set_option maxHeartbeats 4000000
/-! an own error class whose __init__ says super().__init__(text) and stores its one argument -/
namespace PySem
namespace Err1
open PySem.W PySem.Calls PyProof.Rows PySem.HandSPX
def iA (fld : Str) (p1 p2 : Pos) : Arguments := { posonlyargs := [], args := [{ arg := "self", annotation := none, pos := p1 }, { arg := fld, annotation := none, pos := p2 }], vararg := none, kwonlyargs := [], kw_defaults := [], kwarg := none, defaults := [] }
/-- the text of such an __init__: its message, its places -/
structure EP where
  txt : Str
  k : Nat
  p1 : Pos
  p2 : Pos
  q0 : Pos
  q1 : Pos
  q2 : Pos
  q3 : Pos
  q4 : Pos
  q5 : Pos
  q6 : Pos
  q7 : Pos
  q8 : Pos
  q9 : Pos
abbrev sC (e : EP) : Expr := .Call (.Name "super" e.q0) [] [] e.q1
abbrev cC (e : EP) : Expr := .Call (.Attribute (sC e) "__init__" e.q2) [.Constant (.str e.txt) e.k e.q3] [] e.q4
def iB (fld : Str) (e : EP) : List Stmt := [.Expr (cC e) e.q5, .Assign [.Attribute (.Name "self" e.q6) fld e.q7] (.Name fld e.q8) e.q9]
def iS (fld : Str) : Scope := { kind := .function, names := [(PySem.Str.ofString "self", .local), (fld, .local), (PySem.Str.ofString "__class__", .free), (PySem.Str.ofString "super", .globalImplicit)], isGenerator := false, isCoroutine := false, more := [] }
/-- a name that may be such a field -/
structure FldOk (fld : Str) (e : EP) : Prop where
  bd : ∀ (qual : Str) (body : List Stmt) (doc pm : Value) (an : Option Addr) (cda ct : Value) (cc : Addr) (x v : Value), bindArgs (ksFn "__init__" qual (iA fld e.p1 e.p2) body (iS fld) .none .none doc pm an cda ct cc) ⟨[x, v], []⟩ = pure [(("self" : Str), x), (fld, v)]
  hx : ∀ env : Env, interactive env = false → swapsWith (cC e) none e.q5.line env = pure false
  he : ∀ env : Env, ∃ pl, eval (cC e) env = (do
      let ov ← attributeBase (sC e) "__init__" env (eval (sC e) env)
      standAt e.q2.atName
      let (f, first) ← holding [ov] (getMethod ov "__init__" pl)
      callWith e.q4 f first (backTo e.q4 (starEach [.Constant (.str e.txt) e.k e.q3] env)) [])
  s : ¬ fld = "self"
  c : ¬ fld = "__class__"
  u : ¬ fld = "super"
  d : (fld == ("__debug__" : Str)) = false
/-- what the written part says of the class at C, and of its __init__, at fI -/
structure ErrTxt (prog : Program) (K : Frag) (mg : Str → Option Value) (nm qual fld : Str) (e : EP) (C fI : Addr) : Prop where
  fo : FldOk fld e
  gC : mg nm = some (.ref C)
  gS : mg "super" = none
  top : (prog.main.scope.names.lookup ("super" : Str)).isSome = false
  cls : ∃ nm' q N bs bm sn sub ab col dd k0 k1 k2 k3 k5, K.lookup C = some (excClassObj nm' q C N bs bm true sn sub ab col dd k0 k1 k2 k3 k5 "ValueError.__new__") ∧ refsVE bm = true
  sa : findIn K (.ref C) "__setattr__" = some (some (.builtin "object.__setattr__"))
  noN : findIn K (.ref C) fld = some none
  iC : findIn K (.ref C) "__init__" = some (some (.ref fI))
  tC : typeIn K (.ref fI) = some (.type "function")
  kC : keepIn K (.ref C) = true
  exC : subIn K (.ref C) (.type "BaseException") = some true
  tyC : typeIn K (.ref C) = some (.type "type")
  hdC : hasDictIn K C = true
  veC : subIn K (.ref C) (.type "ValueError") = some true
  opq : nsIn K cStatics "thirdparty.any" = some none
  sup : ks_superIn K C C "__init__" = some (some (.builtin "ValueError.__init__"))
  fn : ∃ (oc : Value) (od : Option Addr) (doc pm : Value) (an : Option Addr) (cda : Addr) (ct : Value) (osl : Array (Option Value)) (cc : Addr),
    K.lookup fI = some ⟨oc, od, .func (ksFn "__init__" qual (iA fld e.p1 e.p2) (iB fld e) (iS fld) .none .none doc pm an (.ref cda) ct cc), osl⟩ ∧ codeIn K (.ref cda) qual = true ∧
    (∃ ccl cdd vs ccs tf, K.lookup cda = some ⟨ccl, cdd, .fields vs, ccs⟩ ∧ vs[2]? = some (.str prog.main.file tf)) ∧ ∃ cl cld csl, K.lookup cc = some ⟨cl, cld, .cell (some (.ref C)), csl⟩
section
variable {prog : Program} {w : World} {A : Around} {E : Value → Shared → Prop} {h : Heap} {g : Array GenState} {d : Drawn} {t : Nat} {os : OsState}
variable {nm q : Str} {C N : Addr} {bs bm : List Value} {hdct : Bool} {sn : List Str} {sub : List Value} {ab : Bool} {col : Option Bool} {dd : Option Addr} {k0 k1 k2 k3 k5 : Option Value}
end
/-- what __init__ leaves of a fresh exception at x -/
structure InitEnd (h h' : Heap) (x C dx t1 : Addr) (fld : Str) (v : Value) : Prop where
  keep : ∀ b o, b ≠ x → h.get? b = some o → h'.get? b = some o
  obj : h'.get? x = some { cls := .ref C, dict := some dx, data := .fields #[.ref t1, .none, .none, .none, .bool false, .none] }
  dbig : h.objs.size ≤ dx
  dne : dx ≠ x
  ns : h'.Ns1 dx (fun y => if y = fld then some v else none)
/-- a made one -/
structure OwnMade (h h' : Heap) (e C d : Addr) (fld : Str) (v : Value) : Prop where
  keep : ∀ b o, h.get? b = some o → h'.get? b = some o
  new : h.objs.size ≤ e
  obj : ∃ oe vs, h'.get? e = some oe ∧ oe.cls = .ref C ∧ oe.dict = some d ∧ oe.data = .fields vs ∧ vs[1]? = some .none
  dbig : h.objs.size ≤ d
  dne : d ≠ e
  ns : h'.Ns1 d (fun y => if y = fld then some v else none)
section
variable {prog : Program} {w : World} {A : Around} {E : Value → Shared → Prop} {R : Result → Shared → Prop} {s : Shared} {K : Frag} {mg : Str → Option Value} {nm qual fld : Str} {e : EP} {C fI : Addr}
end
end Err1
end PySem
namespace L2
open PySem PySem.Spec PyProof.Rows
section
variable {X : Cx} {C fI : Addr} {nm qual fld : Str} {ep : PySem.Err1.EP}
/-- Name(e) -/
def tMkErr (C : Addr) (fld : Str) (ta : TA) : St → Hp → XK → Prop := fun σ H Q => ta σ H fun vs H1 => ∃ v, vs = [v] ∧ ∀ d, H1 d = none → Q (.ref C) (some d) (upd H1 d (.xd [(fld, v)]))
/-- raise Name(e) -/
def tRaiseErr (C : Addr) (fld : Str) (W : WX) (ta : TA) : TS := fun _ σ H => tMkErr C fld ta σ H fun cls d H' => W cls d σ H'
end
end L2
end

section
set_option maxRecDepth 100000
set_option maxHeartbeats 4000000
/-! the head's facts: the kit's, and an own error class with a closed __init__ -/
namespace OwnH
open PySem PySem.Spec PyProof.Rows L2 He
def asO (g : Addr → Option Obj) (n : Nat) : List Addr := cStatics :: asD g n
/-- an own error class: its name, its __init__ -/
structure ErrD where
  name : Str
  qual : Str
  fld : Str
  ep : PySem.Err1.EP
abbrev FnC : Type := Option (Str × Str × Arguments × FuncBody × Scope × Addr × List Str × Addr × Value × Value)
def fnC (K : PySem.W.Frag) (p : Str × Option Str) : FnC := match K.lookup (fAd K p) with
  | some ⟨_, _, .func fd, _⟩ => some (fd.name, fd.qualname, fd.params, fd.body, fd.scope, fd.globals, fd.closure.map (·.1), fd.builtins, fd.defaults, fd.kwdefaults)
  | _ => none
def ErrD.at_ (d : ErrD) : Str × Option Str := (d.name, some "__init__")
def ErrD.val (d : ErrD) : FnC := some ("__init__", d.qual, PySem.Err1.iA d.fld d.ep.p1 d.ep.p2, .stmts (PySem.Err1.iB d.fld d.ep), PySem.Err1.iS d.fld, mainGlobals, ["__class__"], builtinsNs, .none, .none)
def clsB (K : PySem.W.Frag) (C : Addr) : Bool := match K.lookup C with
  | some ⟨.type "type", _, .cls cd, sl⟩ => (match cd.mro, sl.toList with
    | .ref C' :: bm, [_, _, _, _, some (.builtin n), _] => C' == C && (n == "ValueError.__new__" && (!cd.hasDel && (cd.hasDict && PySem.HandSPX.refsVE bm)))
    | _, _ => false)
  | _ => false
def codeB (file : Str) (K : PySem.W.Frag) (C : Addr) (fd : FuncData) (qual : Str) : Bool := match fd.code with
  | .ref cda => PySem.W.codeIn K (.ref cda) qual && ((match K.lookup cda with
    | some ⟨_, _, .fields vs, _⟩ => (match vs[2]? with
      | some (Value.str z _) => decide (z = file)
      | _ => false)
    | _ => false) && (match fd.closure with
    | [(_, cc)] => (match K.lookup cc with
      | some ⟨_, _, .cell (some (.ref C')), _⟩ => decide (C' = C)
      | _ => false)
    | _ => false))
  | _ => false
def initB (file : Str) (K : PySem.W.Frag) (C : Addr) (f : Addr) (qual : Str) : Bool := match K.lookup f with
  | some ⟨_, _, .func fd, _⟩ => codeB file K C fd qual
  | _ => false
def errB (file : Str) (K : PySem.W.Frag) (d : ErrD) : Bool :=
  eqO (PySem.W.nsIn K mainGlobals d.name) (some (some (.ref (ga K d.name)))) && (eqO (PySem.W.nsIn K mainGlobals "super") (some none) && (clsB K (ga K d.name) && (eqO (PySem.W.findIn K (.ref (ga K d.name)) "__setattr__") (some (some (.builtin "object.__setattr__"))) && (eqO (PySem.W.findIn K (.ref (ga K d.name)) d.fld) (some none) &&
  (eqO (PySem.W.findIn K (.ref (ga K d.name)) "__init__") (some (some (.ref (fAd K d.at_)))) && (decide (PySem.W.typeIn K (.ref (fAd K d.at_)) = some (.type "function")) && (PySem.W.keepIn K (.ref (ga K d.name)) && (decide (PySem.W.subIn K (.ref (ga K d.name)) (.type "BaseException") = some true) &&
  (decide (PySem.W.typeIn K (.ref (ga K d.name)) = some (.type "type")) && (PySem.W.hasDictIn K (ga K d.name) && (decide (PySem.W.subIn K (.ref (ga K d.name)) (.type "ValueError") = some true) && (eqO (PySem.W.nsIn K cStatics "thirdparty.any") (some none) &&
  (eqO (PySem.W.ks_superIn K (ga K d.name) (ga K d.name) "__init__") (some (some (.builtin "ValueError.__init__"))) && (initB file K (ga K d.name) (fAd K d.at_) d.qual && (xfB K (ga K d.name) && decide (PySem.W.exmOne K (.ref (ga K d.name)) (.ref (ga K d.name)) = some true))))))))))))))))
/-! ### the Hook -/
abbrev AlO : Type := AlD × Bool × List FnC
def obsO (file : Str) (n : Nat) (fa : List Fa) (fn : List DefD) (er : List ErrD) (g : Addr → Option Obj) : AlO := (obsD fa fn (frG g (asO g n)), er.all (fun d => errB file (frG g (asO g n)) d), er.map fun d => fnC (frG g (asO g n)) d.at_)
def valO (fn : List DefD) (er : List ErrD) : AlO := (valD fn, true, er.map ErrD.val)
structure SaysO (file : Str) (fa : List Fa) (fn : List DefD) (er : List ErrD) (K : PySem.W.Frag) : Prop where
  d : SaysD fa fn K
  b : er.all (fun d => errB file K d) = true
  e : (er.map fun d => fnC K d.at_) = er.map ErrD.val
def hookO (file : Str) (n : Nat) (fa : List Fa) (fn : List DefD) (er : List ErrD) : PySem.W.Hook where
  α := AlO
  obs := fun s => obsO file n fa fn er s.heap.get?
  val := fun _ => valO fn er
  says := fun _ h => ∃ K : PySem.W.Frag, K.In h ∧ SaysO file fa fn er K
  of := fun _ s e => ⟨_, frG_in, congrArg (fun z : AlO => z.1) e, congrArg (fun z : AlO => z.2.1) e, congrArg (fun z : AlO => z.2.2) e⟩
  keeps := fun _ _ _ ⟨K, hK, c⟩ k => ⟨K, PySem.W.Frag.In.keeps hK k, c⟩
end OwnH
end

section
set_option maxRecDepth 100000
set_option maxHeartbeats 4000000
/-! x in o, len(o) where the class of o has its own __contains__, __len__ -/
namespace Own
open PySem PySem.Spec PyProof.Rows L2
section
variable {X : Cx} {k : Nat} {f C : Addr} {fd : FuncData} {ps : List Str} {sp : Sp}
/-- what is asked: the promise of the method, a truth value handed back -/
def rInO (C : Addr) (sp : Sp) (neg : Bool) : R2 := fun x y H Q => ∃ a dx fs, y = .ref a ∧ H a = some (.ins C dx fs) ∧ sp [.ref a, x] H (fun r H' => ∃ b, r = .bl b ∧ Q (.bl (if neg then !b else b)) H') E0
def rLenO (C : Addr) (sp : Sp) : List V → Hp → VK → Prop := fun xs H Q => ∃ a dx fs, xs = [.ref a] ∧ H a = some (.ins C dx fs) ∧ sp [.ref a] H (fun r H' => ∃ n : Int, r = .int n ∧ 0 ≤ n ∧ n < 2 ^ 63 ∧ Q (.int n) H') E0
end
end Own
namespace Own
open PySem PySem.Spec PyProof.Rows L2
section
variable {X : Cx}
def rInAny (K : PySem.W.Frag) : R2 := fun x y H Q => rIn K false x y H Q ∨ ∃ a o, y = .ref a ∧ DGet H a x o ∧ Q (.bl o.isSome) H
end
end Own
end

section
set_option maxRecDepth 100000
set_option maxHeartbeats 4000000
/-! x + y, x == y where the class of both has its own __add__, __eq__ -/
namespace Own
open PySem PySem.Spec PyProof.Rows L2
section
variable {X : Cx} {CX : CXT} {k : Nat} {f C : Addr} {fd : FuncData} {ps : List Str} {sp : Sp} {E : XK}
def rOpO (C : Addr) (sp : Sp) (E : XK) : R2 := fun x y H Q => ∃ a dx fs b dy gs, x = .ref a ∧ y = .ref b ∧ H a = some (.ins C dx fs) ∧ H b = some (.ins C dy gs) ∧ sp [x, y] H Q E
end
end Own
end

section
set_option maxRecDepth 100000
set_option maxHeartbeats 4000000
/-! x != y where the class of both has its own __eq__ and no __ne__ -/
namespace Own
open PySem PySem.Spec PyProof.Rows L2
def eqClsB (K : PySem.W.Frag) (C : Addr) (f : Addr) : Bool := match K.lookup C with
  | some ⟨.type "type", _, .cls cd, sl⟩ => (match cd.mro, sl.toList with
    | [.ref C', .type o], [_, _, _, _, some (.builtin _), _] => C' == C && (o == "object" && (!cd.hasDel && (PySem.W.nsOkIn K cd.ns && (decide (PySem.W.nsIn K cd.ns "__eq__" = some (some (.ref f))) && decide (PySem.W.nsIn K cd.ns "__ne__" = some none)))))
    | _, _ => false)
  | _ => false
section
variable {X : Cx} {k : Nat} {f C : Addr} {fd : FuncData} {ps : List Str} {sp : Sp} {E : XK}
/-- what is asked: the promise of __eq__, a truth value handed back -/
def rNeO (C : Addr) (sp : Sp) (E : XK) : R2 := fun x y H Q => ∃ a dx fs b dy gs, x = .ref a ∧ y = .ref b ∧ H a = some (.ins C dx fs) ∧ H b = some (.ins C dy gs) ∧ sp [x, y] H (fun r H' => ∃ c, r = .bl c ∧ Q (.bl (!c)) H') E
end
end Own
end

section
set_option maxRecDepth 100000
set_option maxHeartbeats 4000000
/-! the head's facts, with a look of one's own at the written part -/
namespace OwnQ
open PySem PySem.Spec PyProof.Rows L2 He OwnH
abbrev AlQ : Type := AlO × Bool
def obsQ (file : Str) (n : Nat) (fa : List Fa) (fn : List DefD) (er : List ErrD) (ck : PySem.W.Frag → Bool) (g : Addr → Option Obj) : AlQ := (obsO file n fa fn er g, ck (frG g (asO g n)))
def hookQ (file : Str) (n : Nat) (fa : List Fa) (fn : List DefD) (er : List ErrD) (ck : PySem.W.Frag → Bool) : PySem.W.Hook where
  α := AlQ
  obs := fun s => obsQ file n fa fn er ck s.heap.get?
  val := fun _ => (valO fn er, true)
  says := fun _ h => ∃ K : PySem.W.Frag, K.In h ∧ SaysO file fa fn er K ∧ ck K = true
  of := fun _ s e => ⟨_, frG_in, ⟨congrArg (fun z : AlQ => z.1.1) e, congrArg (fun z : AlQ => z.1.2.1) e, congrArg (fun z : AlQ => z.1.2.2) e⟩, congrArg (fun z : AlQ => z.2) e⟩
  keeps := fun _ _ _ ⟨K, hK, c⟩ k => ⟨K, PySem.W.Frag.In.keeps hK k, c⟩
def insB (K : PySem.W.Frag) (C : Addr) : Bool := decide (PySem.W.findIn K (.ref C) "__class__" = some (some (.builtin "object.__class__"))) && (decide (PySem.W.specialIn K (.builtin "object.__class__") "__get__" = some (some (.builtin "getset_descriptor.__get__"))) &&
  (decide (PySem.W.takesIn K (.builtin "object.__class__") = some true) && (decide (PySem.W.mroIn K C (.type "object") = some true) && decide (PySem.W.kitOne K (.ref C) (.ref C) = some true))))
/-- what the class has that is compared by its own __eq__ -/
def webB (K : PySem.W.Frag) : Bool := Own.eqClsB K (ga K "Web") (ma K (ga K "Web") "__eq__") && (PySem.W.notFirst K (ga K "Web") (.ref (ga K "Web")) && insB K (ga K "Web"))
end OwnQ
end

section
set_option maxRecDepth 100000
set_option maxHeartbeats 4000000
/-! the head's facts, looked at through a literal list of addresses (no search of the heap) -/
namespace OwnL
open PySem PySem.Spec PyProof.Rows L2 He OwnH OwnQ
def obsW (file : Str) (fa : List Fa) (fn : List DefD) (er : List ErrD) (ck : PySem.W.Frag → Bool) (K : PySem.W.Frag) : AlQ := ((obsD fa fn K, er.all (fun d => errB file K d), er.map fun d => fnC K d.at_), ck K)
def obsL (file : Str) (as : List Addr) (fa : List Fa) (fn : List DefD) (er : List ErrD) (ck : PySem.W.Frag → Bool) (g : Addr → Option Obj) : AlQ := obsW file fa fn er ck (frG g as)
def hookL (file : Str) (as : List Addr) (fa : List Fa) (fn : List DefD) (er : List ErrD) (ck : PySem.W.Frag → Bool) : PySem.W.Hook where
  α := AlQ
  obs := fun s => obsL file as fa fn er ck s.heap.get?
  val := fun _ => (valO fn er, true)
  says := fun _ h => ∃ K : PySem.W.Frag, K.In h ∧ SaysO file fa fn er K ∧ ck K = true
  of := fun _ s e => ⟨_, frG_in, ⟨congrArg (fun z : AlQ => z.1.1) e, congrArg (fun z : AlQ => z.1.2.1) e, congrArg (fun z : AlQ => z.1.2.2) e⟩, congrArg (fun z : AlQ => z.2) e⟩
  keeps := fun _ _ _ ⟨K, hK, c⟩ k => ⟨K, PySem.W.Frag.In.keeps hK k, c⟩
theorem obsL_eq {file : Str} {as : List Addr} {fa : List Fa} {fn : List DefD} {er : List ErrD} {ck : PySem.W.Frag → Bool} {g : Addr → Option Obj} {s : Shared} (h : ∀ a, g a = s.heap.get? a) : obsL file as fa fn er ck g = (hookL file as fa fn er ck).obs s := by
  have e : g = s.heap.get? := funext h
  rw [e] <;> rfl
end OwnL
end

section
set_option maxRecDepth 100000
set_option maxHeartbeats 0
namespace KK
open PySem PySem.Spec PyProof.Rows L2
def looseA : List Str := ["_wall", "__name__", "MOST_PLACES", "MOST_ROWS", "LONGEST_NAME", "GREATEST_PRICE", "is_integer", "is_between", "is_name", "is_among", "is_literal", "has_just", "names_fault"]
def looseB : List Str := ["price_fault", "HalfError", "NoName", "BadNames", "BadRow", "BadCost", "BadLiteral", "opposite", "Steps", "Clauses", "follows", "chain", "_need_literal"]
def looseC : List Str := ["_is_row", "_row_fault", "_law_stream", "_law_draw", "_law_name", "_law_places", "_law_prices", "_law_drawn_row", "_law_table", "_law_closure", "_law_is_chain", "_law_refused"]
def fn : List He.DefD := [
  ⟨("is_integer", none), "is_integer", "is_integer", defArgs s_is_integer, defBody s_is_integer, defScope s_is_integer, [], []⟩,
  ⟨("is_between", none), "is_between", "is_between", defArgs s_is_between, defBody s_is_between, defScope s_is_between, [], []⟩,
  ⟨("is_name", none), "is_name", "is_name", defArgs s_is_name, defBody s_is_name, defScope s_is_name, [], []⟩,
  ⟨("is_among", none), "is_among", "is_among", defArgs s_is_among, defBody s_is_among, defScope s_is_among, [], []⟩,
  ⟨("is_literal", none), "is_literal", "is_literal", defArgs s_is_literal, defBody s_is_literal, defScope s_is_literal, [], []⟩,
  ⟨("has_just", none), "has_just", "has_just", defArgs s_has_just, defBody s_has_just, defScope s_has_just, [], []⟩,
  ⟨("names_fault", none), "names_fault", "names_fault", defArgs s_names_fault, defBody s_names_fault, defScope s_names_fault, [], []⟩,
  ⟨("price_fault", none), "price_fault", "price_fault", defArgs s_price_fault, defBody s_price_fault, defScope s_price_fault, [], []⟩,
  ⟨("opposite", none), "opposite", "opposite", defArgs s_opposite, defBody s_opposite, defScope s_opposite, [], []⟩,
  ⟨("follows", none), "follows", "follows", defArgs s_follows, defBody s_follows, defScope s_follows, [], []⟩,
  ⟨("chain", none), "chain", "chain", defArgs s_chain, defBody s_chain, defScope s_chain, [], []⟩,
  ⟨("_need_literal", none), "_need_literal", "_need_literal", defArgs s_need_literal, defBody s_need_literal, defScope s_need_literal, [], []⟩,
  ⟨("_is_row", none), "_is_row", "_is_row", defArgs s_is_row, defBody s_is_row, defScope s_is_row, [], []⟩,
  ⟨("_row_fault", none), "_row_fault", "_row_fault", defArgs s_row_fault, defBody s_row_fault, defScope s_row_fault, [], []⟩,
  ⟨("_law_stream", none), "_law_stream", "_law_stream", defArgs s_law_stream, defBody s_law_stream, defScope s_law_stream, [], []⟩,
  ⟨("_law_draw", none), "_law_draw", "_law_draw", defArgs s_law_draw, defBody s_law_draw, defScope s_law_draw, [], []⟩,
  ⟨("_law_name", none), "_law_name", "_law_name", defArgs s_law_name, defBody s_law_name, defScope s_law_name, [], []⟩,
  ⟨("_law_places", none), "_law_places", "_law_places", defArgs s_law_places, defBody s_law_places, defScope s_law_places, [], []⟩,
  ⟨("_law_prices", none), "_law_prices", "_law_prices", defArgs s_law_prices, defBody s_law_prices, defScope s_law_prices, [], []⟩,
  ⟨("_law_drawn_row", none), "_law_drawn_row", "_law_drawn_row", defArgs s_law_drawn_row, defBody s_law_drawn_row, defScope s_law_drawn_row, [], []⟩,
  ⟨("_law_table", none), "_law_table", "_law_table", defArgs s_law_table, defBody s_law_table, defScope s_law_table, [], []⟩,
  ⟨("_law_closure", none), "_law_closure", "_law_closure", defArgs s_law_closure, defBody s_law_closure, defScope s_law_closure, [], []⟩,
  ⟨("_law_is_chain", none), "_law_is_chain", "_law_is_chain", defArgs s_law_is_chain, defBody s_law_is_chain, defScope s_law_is_chain, [], []⟩,
  ⟨("_law_refused", none), "_law_refused", "_law_refused", defArgs s_law_refused, defBody s_law_refused, defScope s_law_refused, [], []⟩,
  ⟨("law", none), "law", "law", defArgs s_law, defBody s_law, defScope s_law, [], []⟩,
  ⟨("Clauses", some "__init__"), "__init__", "Clauses.__init__", defArgs s_Clauses_init, defBody s_Clauses_init, defScope s_Clauses_init, [], []⟩,
  ⟨("Clauses", some "names"), "names", "Clauses.names", defArgs s_Clauses_names, defBody s_Clauses_names, defScope s_Clauses_names, [], []⟩,
  ⟨("Clauses", some "rows"), "rows", "Clauses.rows", defArgs s_Clauses_rows, defBody s_Clauses_rows, defScope s_Clauses_rows, [], []⟩,
  ⟨("Steps", some "__init__"), "__init__", "Steps.__init__", defArgs s_Steps_init, defBody s_Steps_init, defScope s_Steps_init, [], []⟩,
  ⟨("Steps", some "reach"), "reach", "Steps.reach", defArgs s_Steps_reach, defBody s_Steps_reach, defScope s_Steps_reach, [], []⟩,
  ⟨("Steps", some "chain"), "chain", "Steps.chain", defArgs s_Steps_chain, defBody s_Steps_chain, defScope s_Steps_chain, [], []⟩]
def fa : List He.Fa := [.int "MOST_PLACES" 40, .int "LONGEST_NAME" 8, .int "GREATEST_PRICE" (10 ^ 30), .int "MOST_ROWS" 400, .free "len", .free "isinstance", .free "int", .free "str", .free "bool", .free "list", .free "tuple", .free "dict", .free "sorted", .free "all", .free "range", .free "enumerate", .glo "Clauses", .cls "Clauses", .noat "Clauses" "_prices", .noat "Clauses" "_rows", .mkr "Clauses", .meth "Clauses" "names", .meth "Clauses" "rows", .glo "Steps", .cls "Steps", .noat "Steps" "_heads", .mkr "Steps", .meth "Steps" "reach", .meth "Steps" "chain", .exc "BadLiteral", .exm "BadLiteral" "BadLiteral" true, .glo "BadLiteral", .glo "is_integer", .glo "is_between", .glo "is_name", .glo "is_among", .glo "is_literal", .glo "has_just", .glo "names_fault", .glo "price_fault", .glo "opposite", .glo "follows", .glo "chain", .glo "_need_literal", .glo "_is_row", .glo "_row_fault", .glo "_law_stream", .glo "_law_draw", .glo "_law_name", .glo "_law_places", .glo "_law_prices", .glo "_law_drawn_row", .glo "_law_table", .glo "_law_closure", .glo "_law_is_chain", .glo "_law_refused", .glo "law"]

def er : List OwnH.ErrD := []
abbrev ck : PySem.W.Frag → Bool := (fun _ => true)
abbrev R : PySem.W.OpenRow := PySem.W.OpenLaw.row PySem.Challenge.rw_halfpicked_k52_follows_and_chain
def asL : List Addr := [2, 3, 6, 4, 21, 28, 35, 40, 47, 54, 59, 66, 73, 83, 105, 126, 147, 168, 180, 189, 232, 314, 325, 332, 339, 344, 351, 358, 365, 372, 379, 386, 393, 400, 407, 414, 421, 426, 0, 20, 27, 34, 39, 46, 53, 58, 65, 72, 82, 104, 125, 146, 167, 179, 188, 231, 313, 324, 331, 338, 343, 350, 357, 364, 371, 378, 385, 392, 399, 406, 413, 420, 425, 15, 16, 17, 18, 19, 22, 23, 24, 25, 26, 29, 30, 31, 32, 33, 36, 37, 38, 41, 42, 43, 44, 45, 48, 49, 50, 51, 52, 55, 56, 57, 60, 61, 62, 63, 64, 67, 68, 69, 70, 71, 81, 84, 102, 103, 123, 124, 144, 145, 165, 166, 178, 183, 184, 185, 186, 187, 201, 208, 215, 222, 229, 230, 233, 234, 248, 255, 262, 269, 276, 283, 290, 297, 304, 311, 312, 315, 316, 319, 320, 321, 322, 323, 326, 327, 328, 329, 330, 333, 334, 335, 336, 337, 340, 341, 342, 345, 346, 347, 348, 349, 352, 353, 354, 355, 356, 359, 360, 361, 362, 363, 366, 367, 368, 369, 370, 373, 374, 375, 376, 377, 380, 381, 382, 383, 384, 387, 388, 389, 390, 391, 394, 395, 396, 397, 398, 401, 402, 403, 404, 405, 408, 409, 410, 411, 412, 415, 416, 417, 418, 419, 422, 423, 424, 101, 90, 122, 111, 143, 132, 164, 153, 200, 207, 214, 221, 228, 247, 254, 261, 268, 275, 282, 289, 296, 303, 310, 96, 97, 98, 99, 100, 117, 118, 119, 120, 121, 138, 139, 140, 141, 142, 159, 160, 161, 162, 163, 197, 198, 199, 202, 203, 204, 205, 206, 209, 210, 211, 212, 213, 216, 217, 218, 219, 220, 223, 224, 225, 226, 227, 244, 245, 246, 249, 250, 251, 252, 253, 256, 257, 258, 259, 260, 263, 264, 265, 266, 267, 270, 271, 272, 273, 274, 277, 278, 279, 280, 281, 284, 285, 286, 287, 288, 291, 292, 293, 294, 295, 298, 299, 300, 301, 302, 305, 306, 307, 308, 309]
abbrev hk : PySem.W.Hook := OwnL.hookL "/claim/cut.py" asL fa fn er ck
def ob (s : PySem.W.SharedT) : OwnQ.AlQ := OwnL.obsL "/claim/cut.py" asL fa fn er ck (HandSHeadRun.getT s)
theorem ob_eq (s : PySem.W.SharedT) : ob s = hk.obs s.abs := OwnL.obsL_eq (HandSHeadRun.getT_eq s)
theorem opt3 {σ α β γ : Type _} {m : Option σ} {A : σ → α} {B : σ → β} {C : σ → γ} {a : α} {b : β} {c : γ} (h1 : m.map A = some a) (h2 : m.map B = some b) (h3 : m.map C = some c) : m.map (fun s => (A s, B s, C s)) = some (a, b, c) := by
  cases m with
  | none => cases h1
  | some s =>
    have e1 : A s = a := Option.some.inj h1
    have e2 : B s = b := Option.some.inj h2
    have e3 : C s = c := Option.some.inj h3
    rw [← e1, ← e2, ← e3]
    rfl
section
open HandSHeadRun PySem.W
abbrev vw : Program := PySem.W.view R.prog [42]
theorem run1 (w : World) (os : OsState) : (endF (stepQ (denQ tabQ) R.prog w) 12000 R.prog w os).map (fun s => looksF R.prog (boot_heap w.params) s.abs) = some true := by
  kernel_rfl
theorem run2 (w : World) (os : OsState) : (endF (stepQ (denQ tabQ) R.prog w) 12000 R.prog w os).map (fun s => seenQ vw (looseA ++ looseB ++ looseC) (importedModules R.prog.main.body) (fun s => xlAt vw [] s && recOk R.toRowW.records s) s.abs) = some (openGood vw (looseA ++ looseB ++ looseC)) := by
  kernel_rfl
theorem run3 (w : World) (os : OsState) : (endF (stepQ (denQ tabQ) R.prog w) 12000 R.prog w os).map (fun s => ob s) = some (hk.val w) := by
  kernel_rfl
end
theorem run (w : World) : HandSHeadRun.RunEq R vw hk ob 12000 (looseA ++ looseB ++ looseC) w := fun os => opt3 (run1 w os) (run2 w os) (run3 w os)
end KK
end

section
set_option maxRecDepth 100000
set_option maxHeartbeats 4000000
/-! Typed readings: what may be shared, what is owned (by a path: a slot, then fields, items). -/
namespace Y
open PySem PySem.Spec PyProof.Rows L2
/-- what may become of an address: shared (never written), a dict that is walked, another's, a thing that keeps a law, one's own by its path -/
inductive Md where
  | sh | lk | fo
  | st (φ : HO → Prop)
  | ow (p : List Nat)
abbrev Wd := Addr → Md
/-- where what is new hangs until it gets its place -/
def tmp : Nat := 1000000
/-- to be read -/
def RdW (W : Wd) (H : Hp) (b : Addr) (o : HO) : Prop := (W b = .sh ∧ H b = some o) ∨ ((W b = .lk ∨ W b = .fo) ∧ ∃ od, H b = some (.frz od o))
theorem RdW.rd {W : Wd} {H : Hp} {b : Addr} {o : HO} (h : RdW W H b o) : Rd H b o := by
  rcases h with ⟨_, h⟩ | ⟨_, od, h⟩
  · exact .inl h
  · exact .inr ⟨od, h⟩
theorem RdW.no {W : Wd} {H : Hp} {b : Addr} {o : HO} (h : RdW W H b o) {p : List Nat} : W b ≠ .ow p := fun e => by
  rcases h with ⟨w, _⟩ | ⟨w | w, _⟩ <;> rw [w] at e <;> cases e
/-- what was to be read is to be read, lists stand, what keeps a law keeps it -/
structure Mv (W : Wd) (H : Hp) (W' : Wd) (H' : Hp) : Prop where
  rd : ∀ b o, RdW W H b o → RdW W' H' b o
  ls : ∀ b vs, W b = .sh → H b = some (.lst vs) → W' b = .sh ∧ H' b = some (.lst vs)
  st : ∀ b φ, W b = .st φ → W' b = .st φ
theorem Mv.trans {W W1 W2 : Wd} {H H1 H2 : Hp} (a : Mv W H W1 H1) (b : Mv W1 H1 W2 H2) : Mv W H W2 H2 := ⟨fun c o h => b.rd c o (a.rd c o h), fun c vs w h => b.ls c vs (a.ls c vs w h).1 (a.ls c vs w h).2, fun c φ h => b.st c φ (a.st c φ h)⟩
structure Ty (α : Type) where
  R : Wd → Hp → V → α → Prop
  go : ∀ {W W' : Wd} {H H' : Hp} {v : V} {x : α}, R W H v x → Mv W H W' H' → R W' H' v x
/-- a thing of one's own, at a path -/
structure OT (α : Type) where
  R : List Nat → Wd → Hp → V → α → Prop
  sv : Ty α
  mv : ∀ {p p' : List Nat} {W W' : Wd} {H H' : Hp} {v : V} {x : α}, R p W H v x → (∀ b o q, W b = .ow (p ++ q) → H b = some o → W' b = .ow (p' ++ q) ∧ H' b = some o) → Mv W H W' H' → R p' W' H' v x
  fz : ∀ {p : List Nat} {W W' : Wd} {H H' : Hp} {v : V} {x : α}, R p W H v x → (∀ b o q, W b = .ow (p ++ q) → H b = some o → W' b = .sh ∧ H' b = some o) → Mv W H W' H' → sv.R W' H' v x
/-- all but one's own stands -/
structure Go (W : Wd) (H : Hp) (W' : Wd) (H' : Hp) : Prop where
  k : ∀ b o, H b = some o → (W b = .sh ∨ W b = .lk ∨ W b = .fo) → H' b = some o ∧ W' b = W b
  s : ∀ b φ, W b = .st φ → W' b = .st φ
  l : ∀ b, W' b = .lk → W b = .lk
/-- all stands -/
structure GoE (W : Wd) (H : Hp) (W' : Wd) (H' : Hp) : Prop where
  k : ∀ b o, H b = some o → (∀ φ, W b ≠ .st φ) → (∀ r, W b ≠ .ow (tmp :: r)) → H' b = some o ∧ W' b = W b
  s : ∀ b φ, W b = .st φ → W' b = .st φ
  l : ∀ b, W' b = .lk → W b = .lk
def NoFrz : HO → Prop
  | .frz _ _ => False
  | _ => True
structure OKW (W : Wd) (H : Hp) : Prop where
  st : ∀ b φ, W b = .st φ → ∃ o, H b = some o ∧ φ o ∧ NoFrz o
  al : ∀ b, W b ≠ .sh → ∃ o, H b = some o
  nf : ∀ b p od u, W b = .ow p → H b ≠ some (.frz od u)
  lk : ∀ b, W b = .lk → ∃ od, (∃ ws, H b = some (.frz od (.dK ws))) ∨ ∃ ws, H b = some (.frz od (.dT ws))
  fo : ∀ b od u, W b = .fo → H b = some (.frz od u) → ∃ vs, u = .lst vs
  tp : ∀ b vs, H b = some (.tup vs) → W b = .sh
section
variable {W W1 W2 : Wd} {H H1 H2 : Hp}
theorem Go.refl : Go W H W H := ⟨fun _ _ h _ => ⟨h, rfl⟩, fun _ _ h => h, fun _ h => h⟩
theorem GoE.refl : GoE W H W H := ⟨fun _ _ h _ _ => ⟨h, rfl⟩, fun _ _ h => h, fun _ h => h⟩
theorem Go.trans (a : Go W H W1 H1) (b : Go W1 H1 W2 H2) : Go W H W2 H2 := ⟨fun c o h w => by
  obtain ⟨h1, e1⟩ := a.k c o h w
  obtain ⟨h2, e2⟩ := b.k c o h1 (by rw [e1]; exact w)
  exact ⟨h2, e2.trans e1⟩, fun c φ h => b.s c φ (a.s c φ h), fun c h => a.l c (b.l c h)⟩
theorem GoE.trans (a : GoE W H W1 H1) (b : GoE W1 H1 W2 H2) : GoE W H W2 H2 := ⟨fun c o h w z => by
  obtain ⟨h1, e1⟩ := a.k c o h w z
  obtain ⟨h2, e2⟩ := b.k c o h1 (by rw [e1]; exact w) (by rw [e1]; exact z)
  exact ⟨h2, e2.trans e1⟩, fun c φ h => b.s c φ (a.s c φ h), fun c h => a.l c (b.l c h)⟩
theorem GoE.go (a : GoE W H W1 H1) : Go W H W1 H1 := ⟨fun c o h w => a.k c o h (fun φ e => by rcases w with w | w | w <;> (rw [w] at e; cases e)) (fun r e => by rcases w with w | w | w <;> (rw [w] at e; cases e)), a.s, a.l⟩
theorem Go.mv (a : Go W H W1 H1) : Mv W H W1 H1 := ⟨fun b o h => by
  rcases h with ⟨w, h⟩ | ⟨w, od, h⟩
  · obtain ⟨h1, e1⟩ := a.k b _ h (.inl w)
    exact .inl ⟨e1.trans w, h1⟩
  · obtain ⟨h1, e1⟩ := a.k b _ h (.inr w)
    exact .inr ⟨by rw [e1]; exact w, od, h1⟩, fun b vs w h => by
    obtain ⟨h1, e1⟩ := a.k b _ h (.inl w)
    exact ⟨e1.trans w, h1⟩, a.s⟩
theorem Ty.mv {α : Type} (t : Ty α) {v : V} {x : α} (h : t.R W H v x) (g : Go W H W1 H1) : t.R W1 H1 v x := t.go h g.mv
theorem Ty.mvE {α : Type} (t : Ty α) {v : V} {x : α} (h : t.R W H v x) (g : GoE W H W1 H1) : t.R W1 H1 v x := t.mv h g.go
theorem GoE.own {b : Addr} {o : HO} {i : Nat} {p : List Nat} (g : GoE W H W1 H1) (h : H b = some o) (w : W b = .ow (i :: p)) (n : i ≠ tmp) : H1 b = some o ∧ W1 b = .ow (i :: p) := by
  obtain ⟨e1, w1⟩ := g.k b o h (fun φ z => by rw [w] at z; cases z) fun r z => by rw [w] at z; exact n (List.cons.inj (Md.ow.inj z)).1
  exact ⟨e1, w1.trans w⟩
/-- a new object -/
theorem OKW.fresh (ok : OKW W H) {p : Addr} (hp : H p = none) : W p = .sh := by
  cases e : W p with
  | sh => rfl
  | _ => obtain ⟨o, h⟩ := ok.al p (by rw [e]; exact fun z => nomatch z); rw [hp] at h; cases h
theorem GoE.new {p : Addr} {o : HO} (hp : H p = none) : GoE W H W (upd H p o) := ⟨fun b u h _ _ => ⟨by rw [upd_ne (ne_of_none h hp)]; exact h, rfl⟩, fun _ _ h => h, fun _ h => h⟩
def NoTup : HO → Prop
  | .frz _ _ => False
  | .tup _ => False
  | _ => True
theorem NoTup.nf {o : HO} (h : NoTup o) : NoFrz o := by cases o <;> first | trivial | exact h.elim
theorem OKW.new (ok : OKW W H) {p : Addr} {o : HO} (hp : H p = none) (nf : NoFrz o) : OKW W (upd H p o) := by
  refine ⟨fun b φ h => ?_, fun b h => ?_, fun b q od u w h => ?_, fun b h => ?_, fun b od u w h => ?_, fun b vs h => ?_⟩
  · obtain ⟨c, e, z⟩ := ok.st b φ h
    exact ⟨c, by rw [upd_ne (ne_of_none e hp)]; exact e, z⟩
  · obtain ⟨u, e⟩ := ok.al b h
    exact ⟨u, by rw [upd_ne (ne_of_none e hp)]; exact e⟩
  · by_cases n : b = p
    · subst n; rw [upd_same] at h; cases h; exact nf.elim
    · rw [upd_ne n] at h; exact ok.nf b q od u w h
  · obtain ⟨od, ⟨ws, e⟩ | ⟨ws, e⟩⟩ := ok.lk b h
    · exact ⟨od, .inl ⟨ws, by rw [upd_ne (ne_of_none e hp)]; exact e⟩⟩
    · exact ⟨od, .inr ⟨ws, by rw [upd_ne (ne_of_none e hp)]; exact e⟩⟩
  · by_cases n : b = p
    · subst n; rw [upd_same] at h; cases h; exact nf.elim
    · rw [upd_ne n] at h; exact ok.fo b od u w h
  · by_cases n : b = p
    · rw [n]; exact ok.fresh hp
    · rw [upd_ne n] at h; exact ok.tp b vs h
/-- neither a list nor a dict: it stands there itself -/
theorem OKW.exact (ok : OKW W H) {a : Addr} {o : HO} (h : RdW W H a o) (nl : ∀ vs, o ≠ .lst vs) (nd : ∀ ws, o ≠ .dK ws) (nt : ∀ ws, o ≠ .dT ws) : H a = some o := by
  rcases h with ⟨w, h⟩ | ⟨w | w, od, h⟩
  · exact h
  · obtain ⟨od2, ⟨ws, e⟩ | ⟨ws, e⟩⟩ := ok.lk a w
    · rw [h] at e; cases e; exact absurd rfl (nd ws)
    · rw [h] at e; cases e; exact absurd rfl (nt ws)
  · obtain ⟨vs, e⟩ := ok.fo a od o w h
    exact absurd e (nl vs)
/-- a dict that is not locked -/
theorem OKW.exactD (ok : OKW W H) {a : Addr} {o : HO} (h : RdW W H a o) (n : W a ≠ .lk) (nl : ∀ vs, o ≠ .lst vs) : H a = some o ∧ W a = .sh := by
  rcases h with ⟨w, h⟩ | ⟨w | w, od, h⟩
  · exact ⟨h, w⟩
  · exact absurd w n
  · obtain ⟨vs, e⟩ := ok.fo a od o w h
    exact absurd e (nl vs)
theorem rdNew (ok : OKW W H) {p : Addr} {o : HO} (hp : H p = none) : RdW W (upd H p o) p o := .inl ⟨ok.fresh hp, upd_same⟩
end
def setW (W : Wd) (a : Addr) (m : Md) : Wd := fun b => if b = a then m else W b
theorem setW_same {W : Wd} {a : Addr} {m : Md} : setW W a m a = m := if_pos rfl
theorem setW_ne {W : Wd} {a b : Addr} {m : Md} (h : b ≠ a) : setW W a m b = W b := if_neg h
/-! ### types -/
def tInt : Ty Int := ⟨fun _ _ v i => v = .int i, fun h _ => h⟩
def tStr : Ty Str := ⟨fun _ _ v i => v = .str i, fun h _ => h⟩
def tBl : Ty Bool := ⟨fun _ _ v i => v = .bl i, fun h _ => h⟩
def tNon : Ty Unit := ⟨fun _ _ v _ => v = .non, fun h _ => h⟩
/-- what a stream is -/
def IsStm (o : HO) : Prop := ∃ c k : Int, o = .lst [.int c, .int k] ∧ 0 ≤ k
def tStm : Ty Unit := ⟨fun W _ v _ => ∃ a, v = .ref a ∧ W a = .st IsStm, fun ⟨a, e, h⟩ m => ⟨a, e, m.st a _ h⟩⟩
def tVal : Ty V := ⟨fun _ _ v x => v = x, fun h _ => h⟩
def tOpt {α : Type} (t : Ty α) : Ty (Option α) := ⟨fun W H v x => match x with
  | none => v = .non
  | some y => t.R W H v y, fun {W W' H H' v x} h m => by
  cases x with
  | none => exact h
  | some y => exact t.go h m⟩
def tSum {α β : Type} (t : Ty α) (u : Ty β) : Ty (α ⊕ β) := ⟨fun W H v x => match x with
  | .inl y => t.R W H v y
  | .inr y => u.R W H v y, fun {W W' H H' v x} h m => by
  cases x with
  | inl y => exact t.go h m
  | inr y => exact u.go h m⟩
/-- a list of one's own making -/
def SqW (_ : PySem.W.Frag) (W : Wd) (H : Hp) (a : Addr) (vs : List V) : Prop := W a = .sh ∧ H a = some (.lst vs)
/-- any list that may be read -/
def SqR (K : PySem.W.Frag) (W : Wd) (H : Hp) (a : Addr) (vs : List V) : Prop := RdW W H a (.lst vs) ∨
    ∃ (o : Obj) (its : Array Value) (n : Nat), K.lookup a = some o ∧ o.cls = .type "list" ∧ o.dict = none ∧ o.data = .seq its n ∧ its.size ≤ sizeLine ∧ Vals vs its.toList
def SqTW (_ : PySem.W.Frag) (W : Wd) (H : Hp) (a : Addr) (vs : List V) : Prop := RdW W H a (.tup vs)
section
variable {K : PySem.W.Frag} {W W' : Wd} {H H' : Hp} {a : Addr} {vs : List V}
theorem SqW.l (h : SqW K W H a vs) : SqL K H a vs := .inl (.inl h.2)
theorem SqTW.t (h : SqTW K W H a vs) : SqT K H a vs := .inl (RdW.rd h)
theorem SqW.mv (h : SqW K W H a vs) (m : Mv W H W' H') : SqW K W' H' a vs := m.ls a vs h.1 h.2
theorem SqR.mv (h : SqR K W H a vs) (m : Mv W H W' H') : SqR K W' H' a vs := by
  rcases h with h | h
  · exact .inl (m.rd a _ h)
  · exact .inr h
theorem SqTW.mv (h : SqTW K W H a vs) (m : Mv W H W' H') : SqTW K W' H' a vs := m.rd a _ h
theorem SqTW.at (h : SqTW K W H a vs) (ok : OKW W H) : H a = some (.tup vs) := ok.exact h (fun _ e => by cases e) (fun _ e => by cases e) (fun _ e => by cases e)
end
section
variable (K : PySem.W.Frag)
def tLs {α : Type} (t : Ty α) : Ty (List α) := ⟨fun W H v xs => ∃ a vs, v = .ref a ∧ SqW K W H a vs ∧ Paired (t.R W H) vs xs, by
  rintro W W' H H' v xs ⟨a, vs, e, h, p⟩ m
  exact ⟨a, vs, e, h.mv m, L2.Paired.mapP p fun u x r => t.go r m⟩⟩
/-- the script: ints that are read -/
def tScr : Ty (List Int) := ⟨fun W H v xs => ∃ a, v = .ref a ∧ SqR K W H a (xs.map V.int), by
  rintro W W' H H' v xs ⟨a, e, h⟩ m
  exact ⟨a, e, h.mv m⟩⟩
/-- a tuple of things of one kind -/
def tTu {α : Type} (t : Ty α) : Ty (List α) := ⟨fun W H v xs => ∃ a vs, v = .ref a ∧ SqTW K W H a vs ∧ Paired (t.R W H) vs xs, by
  rintro W W' H H' v xs ⟨a, vs, e, h, p⟩ m
  exact ⟨a, vs, e, h.mv m, L2.Paired.mapP p fun u x r => t.go r m⟩⟩
def tT2 {α β : Type} (t : Ty α) (u : Ty β) : Ty (α × β) := ⟨fun W H v x => ∃ a p q, v = .ref a ∧ SqTW K W H a [p, q] ∧ t.R W H p x.1 ∧ u.R W H q x.2, by
  rintro W W' H H' v xs ⟨a, p, q, e, h, r1, r2⟩ m
  exact ⟨a, p, q, e, h.mv m, t.go r1 m, u.go r2 m⟩⟩
def tT3 {α β γ : Type} (t : Ty α) (u : Ty β) (z : Ty γ) : Ty (α × β × γ) := ⟨fun W H v x => ∃ a p q r, v = .ref a ∧ SqTW K W H a [p, q, r] ∧ t.R W H p x.1 ∧ u.R W H q x.2.1 ∧ z.R W H r x.2.2, by
  rintro W W' H H' v xs ⟨a, p, q, r, e, h, r1, r2, r3⟩ m
  exact ⟨a, p, q, r, e, h.mv m, t.go r1 m, u.go r2 m, z.go r3 m⟩⟩
def tT4 {α β γ δ : Type} (t : Ty α) (u : Ty β) (z : Ty γ) (y : Ty δ) : Ty (α × β × γ × δ) := ⟨fun W H v x => ∃ a p q r s, v = .ref a ∧ SqTW K W H a [p, q, r, s] ∧ t.R W H p x.1 ∧ u.R W H q x.2.1 ∧ z.R W H r x.2.2.1 ∧ y.R W H s x.2.2.2, by
  rintro W W' H H' v xs ⟨a, p, q, r, s, e, h, r1, r2, r3, r4⟩ m
  exact ⟨a, p, q, r, s, e, h.mv m, t.go r1 m, u.go r2 m, z.go r3 m, y.go r4 m⟩⟩
def tL2 {α β : Type} (t : Ty α) (u : Ty β) : Ty (α × β) := ⟨fun W H v x => ∃ a p q, v = .ref a ∧ SqW K W H a [p, q] ∧ t.R W H p x.1 ∧ u.R W H q x.2, by
  rintro W W' H H' v xs ⟨a, p, q, e, h, r1, r2⟩ m
  exact ⟨a, p, q, e, h.mv m, t.go r1 m, u.go r2 m⟩⟩
def tL3 {α β γ : Type} (t : Ty α) (u : Ty β) (z : Ty γ) : Ty (α × β × γ) := ⟨fun W H v x => ∃ a p q r, v = .ref a ∧ SqW K W H a [p, q, r] ∧ t.R W H p x.1 ∧ u.R W H q x.2.1 ∧ z.R W H r x.2.2, by
  rintro W W' H H' v xs ⟨a, p, q, r, e, h, r1, r2, r3⟩ m
  exact ⟨a, p, q, r, e, h.mv m, t.go r1 m, u.go r2 m, z.go r3 m⟩⟩
def tL4 {α β γ δ : Type} (t : Ty α) (u : Ty β) (z : Ty γ) (y : Ty δ) : Ty (α × β × γ × δ) := ⟨fun W H v x => ∃ a p q r s, v = .ref a ∧ SqW K W H a [p, q, r, s] ∧ t.R W H p x.1 ∧ u.R W H q x.2.1 ∧ z.R W H r x.2.2.1 ∧ y.R W H s x.2.2.2, by
  rintro W W' H H' v xs ⟨a, p, q, r, s, e, h, r1, r2, r3, r4⟩ m
  exact ⟨a, p, q, r, s, e, h.mv m, t.go r1 m, u.go r2 m, z.go r3 m, y.go r4 m⟩⟩
end
/-- a kind of keys -/
structure Ky (κ : Type) where
  k : κ → Key
  inj : ∀ a b, k a = k b → a = b
def kS : Ky Str := ⟨Sum.inr, fun _ _ h => Sum.inr.inj h⟩
def kI : Ky Int := ⟨Sum.inl, fun _ _ h => Sum.inl.inj h⟩
/-- a dict, its pairs in order -/
def tDk {κ α : Type} (ke : Ky κ) (t : Ty α) : Ty (List (κ × α)) := ⟨fun W H v kvs => ∃ a ws, v = .ref a ∧ RdW W H a (.dK ws) ∧ Paired (fun (p : Key × V) (q : κ × α) => p.1 = ke.k q.1 ∧ t.R W H p.2 q.2) ws kvs, by
  rintro W W' H H' v xs ⟨a, vs, e, h, p⟩ m
  exact ⟨a, vs, e, m.rd _ _ h, L2.Paired.mapP p fun u x r => ⟨r.1, t.go r.2 m⟩⟩⟩
/-! ### one's own things -/
def oL (K : PySem.W.Frag) {α : Type} (t : Ty α) : OT (List α) where
  R p W H v xs := ∃ a vs, v = .ref a ∧ W a = .ow p ∧ H a = some (.lst vs) ∧ Paired (t.R W H) vs xs
  sv := tLs K t
  mv := by
    rintro p p' W W' H H' v xs ⟨a, vs, e, w, h, r⟩ k m
    obtain ⟨w1, h1⟩ := k a _ [] (by rw [List.append_nil]; exact w) h
    exact ⟨a, vs, e, by rw [List.append_nil] at w1; exact w1, h1, L2.Paired.mapP r fun u x r => t.go r m⟩
  fz := by
    rintro p W W' H H' v xs ⟨a, vs, e, w, h, r⟩ k m
    obtain ⟨w1, h1⟩ := k a _ [] (by rw [List.append_nil]; exact w) h
    exact ⟨a, vs, e, ⟨w1, h1⟩, L2.Paired.mapP r fun u x r => t.go r m⟩
def oD {κ α : Type} (ke : Ky κ) (t : Ty α) : OT (List (κ × α)) where
  R p W H v xs := ∃ a ws, v = .ref a ∧ W a = .ow p ∧ H a = some (.dK ws) ∧ Paired (fun (p : Key × V) (q : κ × α) => p.1 = ke.k q.1 ∧ t.R W H p.2 q.2) ws xs
  sv := tDk ke t
  mv := by
    rintro p p' W W' H H' v xs ⟨a, vs, e, w, h, r⟩ k m
    obtain ⟨w1, h1⟩ := k a _ [] (by rw [List.append_nil]; exact w) h
    exact ⟨a, vs, e, by rw [List.append_nil] at w1; exact w1, h1, L2.Paired.mapP r fun u x r => ⟨r.1, t.go r.2 m⟩⟩
  fz := by
    rintro p W W' H H' v xs ⟨a, vs, e, w, h, r⟩ k m
    obtain ⟨w1, h1⟩ := k a _ [] (by rw [List.append_nil]; exact w) h
    exact ⟨a, vs, e, .inl ⟨w1, h1⟩, L2.Paired.mapP r fun u x r => ⟨r.1, t.go r.2 m⟩⟩
/-! ### contexts -/
inductive Sl : Type 1 where
  | un
  | sh {α : Type} (t : Ty α) (x : α)
  | ow {α : Type} (O : OT α) (x : α)
def Sl.at (s : Sl) (p : List Nat) (W : Wd) (H : Hp) (v : V) : Prop := match s with
  | .un => True
  | .sh t x => t.R W H v x
  | .ow O x => O.R p W H v x
def SlOk (i : Nat) (W : Wd) (H : Hp) (s : Sl) (e : Option V) : Prop := match s with
  | .un => True
  | .sh t x => ∃ v, e = some v ∧ t.R W H v x
  | .ow O x => ∃ v, e = some v ∧ O.R [i] W H v x
theorem SlOk.of {i : Nat} {W : Wd} {H : Hp} {s : Sl} {v : V} (h : s.at [i] W H v) : SlOk i W H s (some v) := by
  cases s with
  | un => trivial
  | sh t x => exact ⟨v, rfl, h⟩
  | ow O x => exact ⟨v, rfl, h⟩
theorem SlOk.at {i : Nat} {W : Wd} {H : Hp} {s : Sl} {v : V} (h : SlOk i W H s (some v)) : s.at [i] W H v := by
  cases s with
  | un => trivial
  | sh t x => obtain ⟨v, e, h⟩ := h; cases e; exact h
  | ow O x => obtain ⟨v, e, h⟩ := h; cases e; exact h
theorem SlOk.mv {i : Nat} {W W' : Wd} {H H' : Hp} {s : Sl} {e : Option V} (h : SlOk i W H s e) (k : ∀ b o q, W b = .ow (i :: q) → H b = some o → W' b = .ow (i :: q) ∧ H' b = some o) (m : Mv W H W' H') : SlOk i W' H' s e := by
  cases s with
  | un => trivial
  | sh t x => obtain ⟨v, e, r⟩ := h; exact ⟨v, e, t.go r m⟩
  | ow O x => obtain ⟨v, e, r⟩ := h; exact ⟨v, e, O.mv r (p' := [i]) k m⟩
/-- n: no dict is locked; p: slots that stay as they are -/
structure Ct where
  n : Bool
  s : List Sl
  p : List (Option V) := []
def Ct.set (G : Ct) (i : Nat) (s : Sl) : Ct := ⟨G.n, G.s.set i s, G.p⟩
def Ct.free (G : Ct) (i : Nat) : Prop := ∀ v, G.p[i]? ≠ some (some v)
structure Holds (G : Ct) (W : Wd) (H : Hp) (σ : L2.St) : Prop where
  len : σ.length = G.s.length
  ok : OKW W H
  sl : ∀ (i : Nat) s e, G.s[i]? = some s → σ[i]? = some e → SlOk i W H s e
  nl : G.n = true → ∀ b, W b ≠ .lk
  pn : ∀ (i : Nat) v, G.p[i]? = some (some v) → σ[i]? = some (some v)
  sm : G.s.length ≤ tmp
section
variable {W W1 : Wd} {H H1 : Hp} {G : Ct} {σ : L2.St}
theorem SlOk.goE {i : Nat} {s : Sl} {e : Option V} (h : SlOk i W H s e) (g : GoE W H W1 H1) (n : i ≠ tmp) : SlOk i W1 H1 s e := h.mv (fun b o q w e => by
  obtain ⟨e1, w1⟩ := g.own e w n
  exact ⟨w1, e1⟩) g.go.mv
theorem Holds.lt {i : Nat} {s : Sl} (h : Holds G W H σ) (e : G.s[i]? = some s) : i ≠ tmp := fun z => by
  have := (List.getElem?_eq_some_iff.mp e).1
  have := h.sm
  omega
theorem Holds.goE (h : Holds G W H σ) (g : GoE W H W1 H1) (ok : OKW W1 H1) : Holds G W1 H1 σ := ⟨h.len, ok, fun i s e a b => (h.sl i s e a b).goE g (h.lt a), fun n b w => h.nl n b (g.l b w), h.pn, h.sm⟩
theorem Holds.get {i : Nat} {s : Sl} (h : Holds G W H σ) (e : G.s[i]? = some s) : ∃ z, σ[i]? = some z ∧ SlOk i W H s z := by
  have hi : i < σ.length := by rw [h.len]; exact (List.getElem?_eq_some_iff.mp e).1
  exact ⟨σ[i], List.getElem?_eq_getElem hi, h.sl i s _ e (List.getElem?_eq_getElem hi)⟩
theorem Holds.var {α : Type} {t : Ty α} {x : α} {i : Nat} (h : Holds G W H σ) (e : G.s[i]? = some (.sh t x)) : ∃ v, σ[i]? = some (some v) ∧ t.R W H v x := by
  obtain ⟨z, e1, v, rfl, r⟩ := h.get e
  exact ⟨v, e1, r⟩
theorem Holds.own {α : Type} {O : OT α} {x : α} {i : Nat} (h : Holds G W H σ) (e : G.s[i]? = some (.ow O x)) : ∃ v, σ[i]? = some (some v) ∧ O.R [i] W H v x := by
  obtain ⟨z, e1, v, rfl, r⟩ := h.get e
  exact ⟨v, e1, r⟩
theorem set_key {α : Type _} {l : List α} {i m : Nat} {s z : α} (h : (l.set i s)[m]? = some z) : (m = i ∧ z = s) ∨ (m ≠ i ∧ l[m]? = some z) := by
  by_cases hm : i = m
  · subst hm
    rw [List.getElem?_set, if_pos rfl] at h
    split at h
    · cases h; exact .inl ⟨rfl, rfl⟩
    · cases h
  · rw [List.getElem?_set_ne hm] at h
    exact .inr ⟨fun z => hm z.symm, h⟩
/-- a slot is told anew, its value stands -/
theorem Holds.tell (h : Holds G W H σ) (i : Nat) {s : Sl} (ok : ∀ e, σ[i]? = some e → SlOk i W H s e) : Holds (G.set i s) W H σ := by
  refine ⟨by show σ.length = (G.s.set i s).length; rw [List.length_set]; exact h.len, h.ok, fun j s' e' (h1 : (G.s.set i s)[j]? = some s') h2 => ?_, h.nl, h.pn, by show (G.s.set i s).length ≤ tmp; rw [List.length_set]; exact h.sm⟩
  rcases set_key h1 with ⟨rfl, rfl⟩ | ⟨n1, g1⟩
  · exact ok e' h2
  · exact h.sl j s' e' g1 h2
/-- a slot is stored -/
theorem Holds.set (h : Holds G W H σ) (i : Nat) {s : Sl} {e : Option V} (ok : SlOk i W H s e) (fr : G.free i) : Holds (G.set i s) W H (σ.set i e) := by
  refine ⟨by show (σ.set i e).length = (G.s.set i s).length; rw [List.length_set, List.length_set]; exact h.len, h.ok, fun j s' e' (h1 : (G.s.set i s)[j]? = some s') h2 => ?_, h.nl, fun j v hv => ?_, by show (G.s.set i s).length ≤ tmp; rw [List.length_set]; exact h.sm⟩
  · rcases set_key h1 with ⟨rfl, rfl⟩ | ⟨n1, g1⟩
    · rcases set_key h2 with ⟨_, rfl⟩ | ⟨n, _⟩
      · exact ok
      · exact absurd rfl n
    · rcases set_key h2 with ⟨e1, _⟩ | ⟨_, g2⟩
      · exact absurd e1 n1
      · exact h.sl j s' e' g1 g2
  · have n : i ≠ j := fun z => fr v (by rw [z]; exact hv)
    rw [List.getElem?_set_ne n]
    exact h.pn j v hv
theorem Holds.setSh (h : Holds G W H σ) (i : Nat) {α : Type} {t : Ty α} {x : α} {v : V} (r : t.R W H v x) (fr : G.free i) : Holds (G.set i (.sh t x)) W H (σ.set i (some v)) := h.set i ⟨v, rfl, r⟩ fr
theorem Holds.setUn (h : Holds G W H σ) (i : Nat) (e : Option V) (fr : G.free i) : Holds (G.set i .un) W H (σ.set i e) := h.set i trivial fr
/-- forgetting a slot -/
theorem Holds.forget (h : Holds G W H σ) (i : Nat) : Holds (G.set i .un) W H σ := h.tell i fun _ _ => trivial
end
/-! ### errors -/
/-- an error: its class, its fields -/
structure Er where
  C : Addr
  fs : Option (List (Str × Sl))
inductive FldsOk (W : Wd) (H : Hp) : List (Str × V) → List (Str × Sl) → Prop where
  | nil : FldsOk W H [] []
  | cons {f : Str} {v : V} {α : Type} {t : Ty α} {x : α} {vs : List (Str × V)} {ss : List (Str × Sl)} : t.R W H v x → FldsOk W H vs ss → FldsOk W H ((f, v) :: vs) ((f, .sh t x) :: ss)
def ErAt (W : Wd) (H : Hp) (e : Er) (d : Option Addr) : Prop := match e.fs, d with
  | none, none => True
  | some fs, some d => ∃ ws, H d = some (.xd ws) ∧ W d = .sh ∧ FldsOk W H ws fs
  | _, _ => False
theorem FldsOk.go {W W1 : Wd} {H H1 : Hp} {vs : List (Str × V)} {as : List (Str × Sl)} (h : FldsOk W H vs as) (m : Mv W H W1 H1) : FldsOk W1 H1 vs as := by
  induction h with
  | nil => exact .nil
  | cons r _ ih => exact .cons (Ty.go _ r m) ih
theorem ErAt.go {W W' : Wd} {H : Hp} {e : Er} {d : Option Addr} (h : ErAt W H e d) (m : Mv W H W' H) : ErAt W' H e d := by
  unfold ErAt at h ⊢
  cases e1 : e.fs with
  | none =>
    rw [e1] at h
    cases d with
    | none => trivial
    | some d => exact h.elim
  | some fs =>
    rw [e1] at h
    cases d with
    | none => exact h.elim
    | some d =>
      obtain ⟨ws, h1, h2, h3⟩ := h
      refine ⟨ws, h1, ?_, h3.go m⟩
      rcases m.rd d _ (.inl ⟨h2, h1⟩) with ⟨w, _⟩ | ⟨_, od, q⟩
      · exact w
      · rw [h1] at q; cases q
/-- what is wanted of an exception; which may come, where -/
structure Xw where
  E : WX
  xp : Ct → Er → Prop
def Xw.ok (X : Xw) (W : Wd) (H : Hp) (σ : L2.St) : Prop := ∀ e d W' H' G', X.xp G' e → Go W H W' H' → Holds G' W' H' σ → ErAt W' H' e d → X.E (.ref e.C) d σ H'
theorem Xw.ok.mv {X : Xw} {W W1 : Wd} {H H1 : Hp} {σ : L2.St} (h : X.ok W H σ) (g : Go W H W1 H1) : X.ok W1 H1 σ := fun e d W' H' G' p g' => h e d W' H' G' p (g.trans g')
/-- what an expression hands back: shared, or one's own, new -/
inductive Rt (α : Type) where
  | sh (t : Ty α)
  | ow (O : OT α)
def Rt.R {α : Type} : Rt α → Wd → Hp → V → α → Prop
  | .sh t => t.R
  | .ow O => O.R [tmp]
/-- how one moved: k: nothing of one's own was written -/
structure Mo (k : Bool) (σ : L2.St) (G : Ct) (W : Wd) (H : Hp) (G' : Ct) (W' : Wd) (H' : Hp) : Prop where
  go : Go W H W' H'
  hs : Holds G' W' H' σ
  kp : k = true → GoE W H W' H' ∧ G' = G
section
variable {k : Bool} {σ : L2.St} {G G1 G2 : Ct} {W W1 W2 : Wd} {H H1 H2 : Hp}
theorem Mo.refl (hs : Holds G W H σ) : Mo k σ G W H G W H := ⟨.refl, hs, fun _ => ⟨.refl, rfl⟩⟩
theorem Mo.trans (a : Mo k σ G W H G1 W1 H1) (b : Mo k σ G1 W1 H1 G2 W2 H2) : Mo k σ G W H G2 W2 H2 := ⟨a.go.trans b.go, b.hs, fun e => ⟨(a.kp e).1.trans (b.kp e).1, (b.kp e).2.trans (a.kp e).2⟩⟩
theorem Mo.goE (hs : Holds G W H σ) (g : GoE W H W1 H1) (ok : OKW W1 H1) : Mo k σ G W H G W1 H1 := ⟨g.go, hs.goE g ok, fun _ => ⟨g, rfl⟩⟩
theorem Mo.thenE (a : Mo k σ G W H G1 W1 H1) (g : GoE W1 H1 W2 H2) (ok : OKW W2 H2) : Mo k σ G W H G1 W2 H2 := a.trans (.goE a.hs g ok)
end
/-! ### expressions -/
def EvR (X : Xw) (k : Bool) (te : TE) (G : Ct) {α : Type} (r : Rt α) (P : Ct → α → Prop) : Prop :=
  ∀ W H σ (Q : VK), Holds G W H σ → X.ok W H σ → (∀ v W' H' G' x, P G' x → Mo k σ G W H G' W' H' → r.R W' H' v x → Q v H') → te σ H Q
abbrev Ev (X : Xw) (k : Bool) (te : TE) (G : Ct) {α : Type} (t : Ty α) (P : Ct → α → Prop) : Prop := EvR X k te G (.sh t) P
def Et (X : Xw) (k : Bool) (tt : TT) (G : Ct) (P : Ct → Bool → Prop) : Prop :=
  ∀ W H σ (Q : Bool → Hp → Prop), Holds G W H σ → X.ok W H σ → (∀ b W' H' G', P G' b → Mo k σ G W H G' W' H' → Q b H') → tt σ H Q
/-- an argument: shared, one's own (to be written), one's own (to be read) -/
inductive Ar : Type 1 where
  | sh {α : Type} (t : Ty α) (x : α)
  | ow {α : Type} (q : List Nat) (O : OT α) (x : α)
  | vw {α : Type} (q : List Nat) (O : OT α) (x : α)
/-- where a thing of one's own hangs: in a slot, in an attribute of what hangs in a slot -/
def Hang (q : List Nat) (σ : L2.St) (W : Wd) (H : Hp) (v : V) : Prop := match q with
  | [i] => σ[i]? = some (some v)
  | [i, f] => ∃ a C dx vs nm, σ[i]? = some (some (.ref a)) ∧ W a = .ow [i] ∧ H a = some (.ins C dx vs) ∧ vs[f]? = some (nm, v)
  | _ => True
def Real (q : List Nat) : Prop := ∃ i r, q = i :: r ∧ i ≠ tmp
def Ar.at (a : Ar) (σ : L2.St) (W : Wd) (H : Hp) (v : V) : Prop := match a with
  | .sh t x => t.R W H v x
  | .ow q O x => O.R q W H v x ∧ Hang q σ W H v ∧ Real q
  | .vw q O x => O.R q W H v x ∧ Hang q σ W H v ∧ Real q
/-- as the callee sees it -/
def Ar.sl : Ar → Sl
  | .sh t x => .sh t x
  | .ow _ O x => .ow O x
  | .vw _ O x => .sh O.sv x
inductive ArgsOk (σ : L2.St) (W : Wd) (H : Hp) : List V → List Ar → Prop where
  | nil : ArgsOk σ W H [] []
  | cons {v : V} {a : Ar} {vs : List V} {as : List Ar} : a.at σ W H v → ArgsOk σ W H vs as → ArgsOk σ W H (v :: vs) (a :: as)
theorem ArgsOk.len {σ : L2.St} {W : Wd} {H : Hp} {vs : List V} {as : List Ar} (h : ArgsOk σ W H vs as) : vs.length = as.length := by
  induction h with
  | nil => rfl
  | cons _ _ ih => simp [ih]
theorem ArgsOk.get {σ : L2.St} {W : Wd} {H : Hp} {vs : List V} {as : List Ar} (h : ArgsOk σ W H vs as) : ∀ {k : Nat} {a : Ar} {v : V}, as[k]? = some a → vs[k]? = some v → a.at σ W H v := by
  induction h with
  | nil => intro k a v h; simp at h
  | cons r _ ih =>
    intro k a v h1 h2
    cases k with
    | zero => cases h1; cases h2; exact r
    | succ k => exact ih (k := k) h1 h2
def Ar.plain : Ar → Prop
  | .sh _ _ => True
  | _ => False
theorem ArgsOk.go {σ : L2.St} {W W1 : Wd} {H H1 : Hp} {vs : List V} {as : List Ar} (h : ArgsOk σ W H vs as) (p : ∀ a ∈ as, a.plain) (m : Mv W H W1 H1) : ArgsOk σ W1 H1 vs as := by
  induction h with
  | nil => exact .nil
  | @cons v a vs as r _ ih =>
    refine .cons ?_ (ih fun b hb => p b (List.mem_cons_of_mem _ hb))
    have := p a List.mem_cons_self
    cases a with
    | sh t x => exact t.go r m
    | _ => exact this.elim
/-- arguments; p: all of them are shared things -/
def Ea (X : Xw) (k : Bool) (ta : TA) (G : Ct) (P : Ct → List Ar → Prop) : Prop :=
  ∀ W H σ (Q : List V → Hp → Prop), Holds G W H σ → X.ok W H σ → (∀ vs W' H' G' as, P G' as → Mo k σ G W H G' W' H' → ArgsOk σ W' H' vs as → Q vs H') → ta σ H Q
end Y
end

section
set_option maxRecDepth 100000
set_option maxHeartbeats 4000000
/-! Into a callee's eyes, and back; promises by typed arguments. -/
namespace Y
open PySem PySem.Spec PyProof.Rows L2
inductive Am where
  | to (p : List Nat)
  | vw
  | hd
/-- what becomes of one's own at each path: told under another path, only to be read, hidden -/
structure Mp where
  f : List Nat → Am
  g : List Nat → Option (List Nat)
  fg : ∀ p p', f p = .to p' → g p' = some p
  gf : ∀ p p', g p' = some p → f p = .to p'
  nt : ∀ r, g (tmp :: r) = none
def enter (m : Mp) (W : Wd) : Wd := fun b => match W b with
  | .ow p => match m.f p with
    | .to p' => .ow p'
    | .vw => .sh
    | .hd => .fo
  | w => w
def back1 (m : Mp) (w : Md) : Md := match w with
  | .ow p' => match m.g p' with
    | some p => .ow p
    | none => if p'.head? = some tmp then .ow p' else .sh
  | w => w
def leave (m : Mp) (W Wc : Wd) : Wd := fun b => match W b with
  | .ow p => match m.f p with
    | .to _ => back1 m (Wc b)
    | _ => .ow p
  | _ => back1 m (Wc b)
section
variable {m : Mp} {W Wc : Wd} {H H' : Hp}
theorem enter_ne {b : Addr} (h : ∀ p, W b ≠ .ow p) : enter m W b = W b := by
  unfold enter
  cases e : W b with
  | ow p => exact absurd e (h p)
  | _ => rfl
theorem enter_to {b : Addr} {p p' : List Nat} (h : W b = .ow p) (e : m.f p = .to p') : enter m W b = .ow p' := by unfold enter; rw [h]; simp only [e]
theorem enter_vw {b : Addr} {p : List Nat} (h : W b = .ow p) (e : m.f p = .vw) : enter m W b = .sh := by unfold enter; rw [h]; simp only [e]
theorem enter_hd {b : Addr} {p : List Nat} (h : W b = .ow p) (e : m.f p = .hd) : enter m W b = .fo := by unfold enter; rw [h]; simp only [e]
theorem enter_lk {b : Addr} (h : enter m W b = .lk) : W b = .lk := by
  cases e : W b with
  | ow p =>
    cases e1 : m.f p with
    | to p' => rw [enter_to e e1] at h; cases h
    | vw => rw [enter_vw e e1] at h; cases h
    | hd => rw [enter_hd e e1] at h; cases h
  | lk => rfl
  | _ => rw [enter_ne (by rw [e]; exact fun _ z => nomatch z), e] at h; cases h
theorem enter_st {b : Addr} {φ : HO → Prop} : W b = .st φ ↔ enter m W b = .st φ := by
  constructor
  · intro h; rw [enter_ne (by rw [h]; exact fun _ z => nomatch z)]; exact h
  · intro h
    cases e : W b with
    | ow p =>
      cases e1 : m.f p with
      | to p' => rw [enter_to e e1] at h; cases h
      | vw => rw [enter_vw e e1] at h; cases h
      | hd => rw [enter_hd e e1] at h; cases h
    | _ => rw [enter_ne (by rw [e]; exact fun _ z => nomatch z), e] at h; exact h
theorem enter_mv : Mv W H (enter m W) H := by
  refine ⟨fun b o h => ?_, fun b vs w h => ⟨by rw [enter_ne (by rw [w]; exact fun _ z => nomatch z)]; exact w, h⟩, fun b φ h => enter_st.mp h⟩
  unfold RdW
  rw [enter_ne (fun p => h.no)]
  exact h
theorem enter_ok (ok : OKW W H) : OKW (enter m W) H := by
  refine ⟨fun b φ h => ok.st b φ (enter_st.mpr h), fun b h => ok.al b fun e => h ?_, fun b p od u w e => ?_, fun b h => ok.lk b (enter_lk h), fun b od u w h => ?_, fun b vs h => ?_⟩
  · rw [enter_ne (by rw [e]; exact fun _ z => nomatch z)]; exact e
  · cases e2 : W b with
    | ow p => exact ok.nf b p od u e2 e
    | _ => rw [enter_ne (by rw [e2]; exact fun _ z => nomatch z), e2] at w; cases w
  · cases e2 : W b with
    | ow p => exact absurd h (ok.nf b p od u e2)
    | _ => rw [enter_ne (by rw [e2]; exact fun _ z => nomatch z)] at w; exact ok.fo b od u w h
  · rw [enter_ne (by rw [ok.tp b vs h]; exact fun _ z => nomatch z)]; exact ok.tp b vs h
theorem leave_own {b : Addr} {p : List Nat} (h : W b = .ow p) (n : ∀ p', m.f p ≠ .to p') : leave m W Wc b = .ow p := by
  unfold leave
  rw [h]
  cases e : m.f p with
  | to p' => exact absurd e (n p')
  | _ => simp only [e]
theorem leave_else {b : Addr} (h : ∀ p, W b = .ow p → ∃ p', m.f p = .to p') : leave m W Wc b = back1 m (Wc b) := by
  unfold leave
  cases e : W b with
  | ow p =>
    obtain ⟨p', e1⟩ := h p e
    simp only [e1]
  | _ => rfl
theorem back1_own {w : Md} {p : List Nat} (h : back1 m w = .ow p) : ∃ p', w = .ow p' := by
  cases w with
  | ow p' => exact ⟨p', rfl⟩
  | _ => cases h
theorem back1_ne {w : Md} (h : ∀ p, w ≠ .ow p) : back1 m w = w := by
  cases w with
  | ow p => exact absurd rfl (h p)
  | _ => rfl
theorem back1_inv {w u : Md} (h : back1 m w = u) (n : ∀ p, u ≠ .ow p) (s : u ≠ .sh) : w = u := by
  cases w with
  | ow p =>
    unfold back1 at h
    simp only at h
    split at h
    · exact absurd h.symm (n _)
    · split at h
      · exact absurd h.symm (n _)
      · exact absurd h.symm s
  | _ => exact h
theorem back1_to {p p' : List Nat} (h : m.g p' = some p) : back1 m (.ow p') = .ow p := by unfold back1; simp only [h]
theorem back1_tmp {r : List Nat} : back1 m (.ow (tmp :: r)) = .ow (tmp :: r) := by unfold back1; simp only [m.nt r, List.head?_cons, if_true]
structure Left (m : Mp) (W : Wd) (H : Hp) (Wc : Wd) (H' : Hp) : Prop where
  go : Go W H (leave m W Wc) H'
  ok : OKW (leave m W Wc) H'
  own : ∀ b p o, W b = .ow p → (∀ p', m.f p ≠ .to p') → H b = some o → leave m W Wc b = .ow p ∧ H' b = some o
  new : ∀ b p p', Wc b = .ow p' → m.g p' = some p → leave m W Wc b = .ow p
  tmp : ∀ b r, Wc b = .ow (tmp :: r) → leave m W Wc b = .ow (tmp :: r)
  mv : (∀ p, m.f p ≠ .vw) → Mv Wc H' (leave m W Wc) H'
theorem left (ok : OKW W H) (g : Go (enter m W) H Wc H') (okc : OKW Wc H') : Left m W H Wc H' := by
  have own : ∀ b p, W b = .ow p → (∀ p', m.f p ≠ .to p') → ∃ o, H b = some o ∧ H' b = some o ∧ (∀ q, Wc b ≠ .ow q) ∧ (Wc b = .sh → m.f p = .vw) ∧ (Wc b = .sh ∨ Wc b = .fo) := fun b p h n => by
    obtain ⟨o, e⟩ := ok.al b (by rw [h]; exact fun z => nomatch z)
    cases e1 : m.f p with
    | to p' => exact absurd e1 (n p')
    | vw =>
      have w := enter_vw h e1
      obtain ⟨h1, w1⟩ := g.k b o e (.inl w)
      have w1 := w1.trans w
      exact ⟨o, e, h1, (fun q z => by rw [w1] at z; cases z), (fun _ => rfl), .inl w1⟩
    | hd =>
      have w := enter_hd h e1
      obtain ⟨h1, w1⟩ := g.k b o e (.inr (.inr w))
      have w1 := w1.trans w
      exact ⟨o, e, h1, (fun q z => by rw [w1] at z; cases z), (fun z => by rw [w1] at z; cases z), .inr w1⟩
  have spl : ∀ b, (∃ p, W b = .ow p ∧ ∀ p', m.f p ≠ .to p') ∨ (∀ p, W b = .ow p → ∃ p', m.f p = .to p') := fun b => by
    by_cases h : ∃ p, W b = .ow p ∧ ∀ p', m.f p ≠ .to p'
    · exact .inl h
    · exact .inr fun p e => Classical.byContradiction fun z => h ⟨p, e, fun p' q => z ⟨p', q⟩⟩
  refine ⟨⟨fun b o h w => ?_, fun b φ h => ?_, fun b h => ?_⟩, ⟨fun b φ h => ?_, fun b h => ?_, fun b p od u w e => ?_, fun b h => ?_, fun b od u w h => ?_, fun b vs h => ?_⟩, fun b p o h n e => ?_, fun b p p' h e => ?_, fun b r h => ?_, fun nv => ⟨fun b o h => ?_, fun b vs w h => ?_, fun b φ h => ?_⟩⟩
  · have n : ∀ p, W b ≠ .ow p := fun p z => by rcases w with w | w | w <;> (rw [w] at z; cases z)
    have e := enter_ne (m := m) n
    obtain ⟨h1, w1⟩ := g.k b o h (by rw [e]; exact w)
    refine ⟨h1, ?_⟩
    rw [leave_else fun p z => absurd z (n p), w1, e, back1_ne n]
  · have n : ∀ p, W b ≠ .ow p := fun p z => by rw [h] at z; cases z
    rw [leave_else fun p z => absurd z (n p), g.s b φ (enter_st.mp h)]
    rfl
  · rcases spl b with ⟨p, e, n⟩ | n
    · rw [leave_own e n] at h; cases h
    · rw [leave_else n] at h
      exact enter_lk (g.l b (back1_inv h (fun p z => nomatch z) fun z => nomatch z))
  · rcases spl b with ⟨p, e, n⟩ | n
    · rw [leave_own e n] at h; cases h
    · rw [leave_else n] at h
      exact okc.st b φ (back1_inv h (fun p z => nomatch z) fun z => nomatch z)
  · rcases spl b with ⟨p, e, n⟩ | n
    · obtain ⟨o, _, h1, _⟩ := own b p e n
      exact ⟨o, h1⟩
    · rw [leave_else n] at h
      exact okc.al b fun z => h (by rw [z]; rfl)
  · rcases spl b with ⟨p2, e2, n⟩ | n
    · obtain ⟨o, h0, h1, _⟩ := own b p2 e2 n
      rw [e] at h1
      exact ok.nf b p2 od u e2 (h0.trans h1.symm)
    · rw [leave_else n] at w
      obtain ⟨p', w⟩ := back1_own w
      exact okc.nf b p' od u w e
  · rcases spl b with ⟨p, e, n⟩ | n
    · rw [leave_own e n] at h; cases h
    · rw [leave_else n] at h
      exact okc.lk b (back1_inv h (fun p z => nomatch z) fun z => nomatch z)
  · rcases spl b with ⟨p, e, n⟩ | n
    · rw [leave_own e n] at w; cases w
    · rw [leave_else n] at w
      exact okc.fo b od u (back1_inv w (fun p z => nomatch z) fun z => nomatch z) h
  · rcases spl b with ⟨p, e, n⟩ | n
    · obtain ⟨o, h0, h1, _⟩ := own b p e n
      rw [h] at h1
      have := ok.tp b vs (h0.trans h1.symm)
      rw [e] at this; cases this
    · rw [leave_else n, okc.tp b vs h]; rfl
  · obtain ⟨o2, h0, h1, _⟩ := own b p h n
    rw [e] at h0; cases h0
    exact ⟨leave_own h n, h1⟩
  · rcases spl b with ⟨p2, e2, n⟩ | n
    · obtain ⟨o, _, _, z, _⟩ := own b p2 e2 n
      exact absurd h (z p')
    · rw [leave_else n, h]; exact back1_to e
  · rcases spl b with ⟨p2, e2, n⟩ | n
    · obtain ⟨o, _, _, z, _⟩ := own b p2 e2 n
      exact absurd h (z _)
    · rw [leave_else n, h]; exact back1_tmp
  · rcases spl b with ⟨p, e, n⟩ | n
    · obtain ⟨o2, h0, h1, _, hv, hw⟩ := own b p e n
      rcases h with ⟨w, _⟩ | ⟨w | w, od, h⟩
      · exact absurd (hv w) (nv p)
      · rcases hw with z | z <;> (rw [w] at z; cases z)
      · rw [h] at h1
        exact absurd (h0.trans h1.symm) (ok.nf b p od o e)
    · unfold RdW
      rw [leave_else n, back1_ne fun p => h.no]
      exact h
  · rcases spl b with ⟨p, e, n⟩ | n
    · obtain ⟨o2, h0, h1, _, hv, hw⟩ := own b p e n
      exact absurd (hv w) (nv p)
    · exact ⟨by rw [leave_else n, w]; rfl, h⟩
  · rcases spl b with ⟨p, e, n⟩ | n
    · obtain ⟨o2, h0, h1, _, hv, hw⟩ := own b p e n
      rcases hw with z | z <;> (rw [h] at z; cases z)
    · rw [leave_else n, h]; rfl
end
/-! ### promises -/
def SlsOk (W : Wd) (H : Hp) (vs : List V) (ss : List Sl) : Prop := vs.length = ss.length ∧ ∀ (k : Nat) v s, vs[k]? = some v → ss[k]? = some s → s.at [k] W H v
structure CT (ρ : Type) where
  n : Bool
  r : Rt ρ
  ct : List Sl → (List Sl → ρ → Prop) → (List Sl → Er → Prop) → Prop
/-- the promise of a def, by typed arguments -/
def spZ {ρ : Type} (c : CT ρ) : Sp := fun vs H Q E => ∃ W as P XP, OKW W H ∧ (c.n = true → ∀ b, W b ≠ .lk) ∧ SlsOk W H vs as ∧ c.ct as P XP ∧
  (∀ v W' H' os x, P os x → Go W H W' H' → OKW W' H' → SlsOk W' H' vs os → c.r.R W' H' v x → Q v H') ∧
  (∀ e d W' H' os, XP os e → Go W H W' H' → OKW W' H' → SlsOk W' H' vs os → ErAt W' H' e d → E (.ref e.C) d H')
/-- all of one's own is hidden -/
def mHide : Mp := ⟨fun _ => .hd, fun _ => none, fun _ _ h => (nomatch h), fun _ _ h => (nomatch h), fun _ => rfl⟩
theorem SlsOk.of_plain {σ : L2.St} {W : Wd} {H : Hp} : ∀ {vs : List V} {as : List Ar} (n : Nat), ArgsOk σ W H vs as → (∀ a ∈ as, a.plain) → vs.length = as.length ∧ ∀ (k : Nat) v s, vs[k]? = some v → (as.map Ar.sl)[k]? = some s → s.at [n + k] W H v
  | _, _, _, .nil, _ => ⟨rfl, fun k v s h => by simp at h⟩
  | _, _, n, .cons (a := a) r h, p => by
    obtain ⟨l, q⟩ := SlsOk.of_plain (n + 1) h fun b hb => p b (List.mem_cons_of_mem _ hb)
    refine ⟨by simp [l], fun k v s h1 h2 => ?_⟩
    cases k with
    | zero =>
      cases h1
      cases h2
      have := p a List.mem_cons_self
      cases a with
      | sh t x => exact r
      | _ => exact this.elim
    | succ k =>
      have := q k v s h1 h2
      rwa [Nat.add_right_comm, Nat.add_assoc] at this
theorem sls_plain {σ : L2.St} {W : Wd} {H : Hp} {vs : List V} {as : List Ar} (h : ArgsOk σ W H vs as) (p : ∀ a ∈ as, a.plain) : SlsOk W H vs (as.map Ar.sl) := by
  obtain ⟨l, q⟩ := SlsOk.of_plain 0 h p
  exact ⟨by rw [List.length_map]; exact l, fun k v s h1 h2 => by have := q k v s h1 h2; rwa [Nat.zero_add] at this⟩
section
variable {ρ : Type} {c : CT ρ} {W : Wd} {H : Hp} {G : Ct} {σ : L2.St}
theorem Rt.leave {m : Mp} {r : Rt ρ} {Wc : Wd} {H' : Hp} {v : V} {x : ρ} (l : Left m W H Wc H') (nv : ∀ p, m.f p ≠ .vw) (h : r.R Wc H' v x) : r.R (leave m W Wc) H' v x := by
  cases r with
  | sh t => exact t.go h (l.mv nv)
  | ow O => exact O.mv (p' := [tmp]) h (fun b o q w e => ⟨l.tmp b q w, e⟩) (l.mv nv)
/-- the callee's promise, as the caller reads it: nothing of one's own is handed over -/
theorem sp_plain {vs : List V} {as : List Ar} {Q : VK} {E : XK} {P : List Sl → ρ → Prop} {XP : List Sl → Er → Prop} (hs : Holds G W H σ) (nl : c.n = true → G.n = true) (ha : ArgsOk σ W H vs as) (pl : ∀ a ∈ as, a.plain) (hc : c.ct (as.map Ar.sl) P XP)
    (q : ∀ v W' H' os x, P os x → GoE W H W' H' → OKW W' H' → c.r.R W' H' v x → Q v H')
    (ex : ∀ e d W' H' os, XP os e → GoE W H W' H' → OKW W' H' → ErAt W' H' e d → E (.ref e.C) d H') : spZ c vs H Q E := by
  have nt : ∀ p p', mHide.f p ≠ .to p' := fun _ _ z => nomatch z
  have gE : ∀ {Wc H'}, Left mHide W H Wc H' → GoE W H (leave mHide W Wc) H' := fun {Wc H'} l => ⟨fun b o e n _ => by
    cases w : W b with
    | ow p =>
      obtain ⟨h1, h2⟩ := l.own b p o w (nt p) e
      exact ⟨h2, h1⟩
    | st φ => exact absurd w (n φ)
    | sh => rw [← w]; exact l.go.k b o e (.inl w)
    | lk => rw [← w]; exact l.go.k b o e (.inr (.inl w))
    | fo => rw [← w]; exact l.go.k b o e (.inr (.inr w)), l.go.s, l.go.l⟩
  refine ⟨enter mHide W, as.map Ar.sl, P, XP, enter_ok hs.ok, fun n b w => hs.nl (nl n) b (enter_lk w), sls_plain (ha.go pl enter_mv) pl, hc, fun v Wc H' os x p g okc so r => ?_, fun e d Wc H' os p g okc so r => ?_⟩
  · have l := left hs.ok g okc
    exact q v _ H' os x p (gE l) l.ok (Rt.leave l (fun p z => nomatch z) r)
  · have l := left hs.ok g okc
    exact ex e d _ H' os p (gE l) l.ok (r.go (l.mv fun p z => nomatch z))
end
/-! ### one's own handed over, from slots -/
def Ar.owS : Ar → Option Nat
  | .ow [i] _ _ => some i
  | _ => none
def Ar.vwS : Ar → Option Nat
  | .vw [i] _ _ => some i
  | _ => none
def Ar.simple : Ar → Prop
  | .sh _ _ => True
  | .ow [_] _ _ => True
  | .vw [_] _ _ => True
  | _ => False
def posO (as : List Ar) (i : Nat) : Option Nat := as.findIdx? fun a => decide (a.owS = some i)
def mSlots (as : List Ar) (hl : as.length ≤ tmp) : Mp where
  f p := match p with
    | [] => .hd
    | i :: r => match posO as i with
      | some k => .to (k :: r)
      | none => if as.any (fun a => decide (a.vwS = some i)) then .vw else .hd
  g p' := match p' with
    | [] => none
    | k :: r => match as[k]?.bind Ar.owS with
      | some i => if posO as i = some k then some (i :: r) else none
      | none => none
  fg p p' h := by
    cases p with
    | nil => cases h
    | cons i r =>
      simp only at h
      cases e : posO as i with
      | none => rw [e] at h; simp only at h; split at h <;> cases h
      | some k =>
        rw [e] at h
        cases h
        obtain ⟨hk, h1, _⟩ := List.findIdx?_eq_some_iff_getElem.mp e
        have h1 := of_decide_eq_true h1
        simp only [List.getElem?_eq_getElem hk, Option.bind_some, h1, e, if_true]
  gf p p' h := by
    cases p' with
    | nil => cases h
    | cons k r =>
      simp only at h
      cases e : as[k]?.bind Ar.owS with
      | none => rw [e] at h; cases h
      | some i =>
        rw [e] at h
        simp only at h
        split at h
        · rename_i q
          cases h
          simp only [q]
        · cases h
  nt r := by
    simp only
    rw [List.getElem?_eq_none hl]
    rfl
def putA (G : Ct) : List Ar → List Sl → Ct
  | .ow [i] _ _ :: as, o :: os => (putA G as os).set i o
  | _ :: as, _ :: os => putA G as os
  | _, _ => G
/-- nothing shared is asked -/
def FlatT {α : Type} (t : Ty α) : Prop := ∀ W H W' H' v x, t.R W H v x → t.R W' H' v x
def FlatO {α : Type} (O : OT α) : Prop := ∀ p p' W W' H H' v x, O.R p W H v x → (∀ b o q, W b = .ow (p ++ q) → H b = some o → W' b = .ow (p' ++ q) ∧ H' b = some o) → O.R p' W' H' v x
def FlatR {α : Type} : Rt α → Prop
  | .sh t => FlatT t
  | .ow O => FlatO O
def Sl.flat : Sl → Prop
  | .un => True
  | .sh t _ => FlatT t
  | .ow O _ => FlatO O
section
variable {ρ : Type} {c : CT ρ} {W : Wd} {H : Hp} {G : Ct} {σ : L2.St}
end
end Y
end

section
set_option maxRecDepth 100000
set_option maxHeartbeats 4000000
/-! Expressions, tests, arguments, calls, statements. -/
namespace Y
open PySem PySem.Spec PyProof.Rows L2
section
variable {X : Xw} {k : Bool} {G : Ct} {α β γ : Type} {t : Ty α} {u : Ty β} {z : Ty γ} {P : Ct → α → Prop}
theorem EvR.mono {te : TE} {r : Rt α} {P' : Ct → α → Prop} (h : EvR X k te G r P) (hp : ∀ G x, P G x → P' G x) : EvR X k te G r P' := fun W H σ Q hs ex q => h W H σ Q hs ex fun v W' H' G' x p => q v W' H' G' x (hp G' x p)
theorem Ev.as {te : TE} {P : Ct → β → Prop} (f : α → β) (h : Ev X k te G t fun G x => P G (f x)) (c : ∀ W H v x, t.R W H v x → u.R W H v (f x)) : Ev X k te G u P := fun W H σ Q hs ex q => h W H σ Q hs ex fun v W' H' G' x p m r => q v W' H' G' (f x) p m (c _ _ _ _ r)
theorem ev_var {i : Nat} {x : α} (e : G.s[i]? = some (.sh t x)) (p : P G x) : Ev X k (tVar i) G t P := fun W H σ Q hs ex q => by
  obtain ⟨v, e1, r⟩ := hs.var e
  exact ⟨v, e1, q v W H G x p (.refl hs) r⟩
theorem ev_c {v : V} {x : α} (r : ∀ W H, t.R W H v x) (p : P G x) : Ev X k (tC v) G t P := fun W H σ Q hs ex q => q v W H G x p (.refl hs) (r W H)
/-- an operation of two typed values -/
def RO (r : R2) (t : Ty α) (u : Ty β) (z : Rt γ) (C : α → β → (γ → Prop) → Prop) : Prop :=
  ∀ W H v w x y (Q : VK) (P : γ → Prop), OKW W H → t.R W H v x → u.R W H w y → C x y P → (∀ a W' H' c, P c → GoE W H W' H' → OKW W' H' → z.R W' H' a c → Q a H') → r v w H Q
theorem ev_op {r : R2} {ta tb : TE} {z : Rt γ} {C : α → β → (γ → Prop) → Prop} {P : Ct → γ → Prop} (ro : RO r t u z C) (h : Ev X k ta G t fun G x => Ev X k tb G u fun G y => C x y (P G)) : EvR X k (tOp r ta tb) G z P := fun W H σ Q hs ex q =>
  h W H σ _ hs ex fun v W1 H1 G1 x p m rv => p W1 H1 σ _ m.hs (ex.mv m.go) fun w W2 H2 G2 y c m2 rw => ro W2 H2 v w x y Q (P G2) m2.hs.ok (t.mv rv m2.go) rw c fun a W3 H3 d pd g3 ok3 r3 => q a W3 H3 G2 d pd ((m.trans m2).thenE g3 ok3) r3
/-! tests -/
theorem et_b {te : TE} {P : Ct → Bool → Prop} (h : Ev X k te G tBl P) : Et X k (tB te) G P := fun W H σ Q hs ex q => h W H σ _ hs ex fun v W' H' G' x p m r => ⟨x, r, q x W' H' G' p m⟩
theorem et_yes {P : Ct → Bool → Prop} (h : P G true) : Et X k tYes G P := fun W H σ Q hs ex q => q true W H G h (.refl hs)
theorem et_and {a b : TT} {P : Ct → Bool → Prop} (h : Et X k a G fun G x => (x = true → Et X k b G P) ∧ (x = false → P G false)) : Et X k (tAnd a b) G P := fun W H σ Q hs ex q => h W H σ _ hs ex fun x W1 H1 G1 p m => by
  cases x with
  | true => exact p.1 rfl W1 H1 σ _ m.hs (ex.mv m.go) fun y W2 H2 G2 p2 m2 => q y W2 H2 G2 p2 (m.trans m2)
  | false => exact q false W1 H1 G1 (p.2 rfl) m
theorem et_or {a b : TT} {P : Ct → Bool → Prop} (h : Et X k a G fun G x => (x = true → P G true) ∧ (x = false → Et X k b G P)) : Et X k (L2.tOr a b) G P := fun W H σ Q hs ex q => h W H σ _ hs ex fun x W1 H1 G1 p m => by
  cases x with
  | false => exact p.2 rfl W1 H1 σ _ m.hs (ex.mv m.go) fun y W2 H2 G2 p2 m2 => q y W2 H2 G2 p2 (m.trans m2)
  | true => exact q true W1 H1 G1 (p.1 rfl) m
theorem et_not {a : TT} {P : Ct → Bool → Prop} (h : Et X k a G fun G x => P G (!x)) : Et X k (tNot a) G P := fun W H σ Q hs ex q => h W H σ _ hs ex fun x W1 H1 G1 p m => q _ W1 H1 G1 p m
theorem ev_and {a b : TE} {P : Ct → Bool → Prop} (h : Ev X k a G tBl fun G x => (x = true → Ev X k b G tBl P) ∧ (x = false → P G false)) : Ev X k (tAndV a b) G tBl P := fun W H σ Q hs ex q => h W H σ _ hs ex fun v W1 H1 G1 x p m r => by
  refine ⟨x, r, ?_⟩
  cases x with
  | true => exact p.1 rfl W1 H1 σ _ m.hs (ex.mv m.go) fun y W2 H2 G2 x2 p2 m2 => q y W2 H2 G2 x2 p2 (m.trans m2)
  | false => exact q _ W1 H1 G1 false (p.2 rfl) m rfl
theorem ev_not {a : TE} {P : Ct → Bool → Prop} (h : Ev X k a G tBl fun G x => P G (!x)) : Ev X k (tNotV a) G tBl P := fun W H σ Q hs ex q => h W H σ _ hs ex fun v W1 H1 G1 x p m r => ⟨x, r, q _ W1 H1 G1 _ p m rfl⟩
/-- a op b op c -/
theorem ev_chain {r r' : R2} {ta tb tc : TE} {P : Ct → Bool → Prop} {C : α → β → (Bool → Prop) → Prop} {C' : β → γ → (Bool → Prop) → Prop} (ro : RO r t u (.sh tBl) C) (ro' : RO r' u z (.sh tBl) C')
    (h : Ev X k ta G t fun G x => Ev X k tb G u fun G y => C x y fun b => (b = true → Ev X k tc G z fun G w => C' y w (P G)) ∧ (b = false → P G false)) : Ev X k (tChain r r' ta tb tc) G tBl P := fun W H σ Q hs ex q =>
  h W H σ _ hs ex fun v W1 H1 G1 x p m rv => p W1 H1 σ _ m.hs (ex.mv m.go) fun w W2 H2 G2 y c m2 rw => ro W2 H2 v w x y _ _ m2.hs.ok (t.mv rv m2.go) rw c fun a W3 H3 d pd g3 ok3 r3 => by
    refine ⟨d, r3, ?_⟩
    have mm := (m.trans m2).thenE g3 ok3
    cases d with
    | false => exact q _ W3 H3 G2 false (pd.2 rfl) mm rfl
    | true =>
      refine pd.1 rfl W3 H3 σ _ mm.hs (ex.mv mm.go) fun e W4 H4 G4 w4 c4 m4 r4 => ?_
      exact ro' W4 H4 w e y w4 _ (P G4) m4.hs.ok (u.mv (u.mvE rw g3) m4.go) r4 c4 fun a5 W5 H5 d5 pd5 g5 ok5 r5 => q a5 W5 H5 G4 d5 pd5 ((mm.trans m4).thenE g5 ok5) r5
/-! arguments -/
theorem ea_nil {P : Ct → List Ar → Prop} (p : P G []) : Ea X k tNil G P := fun W H σ Q hs ex q => q [] W H G [] p (.refl hs) .nil
theorem ea_cons {te : TE} {ta : TA} {P : Ct → List Ar → Prop} (h : Ev X k te G t fun G x => Ea X k ta G fun G as => P G (.sh t x :: as)) : Ea X k (tCons te ta) G P := fun W H σ Q hs ex q =>
  h W H σ _ hs ex fun v W1 H1 G1 x p m r => p W1 H1 σ _ m.hs (ex.mv m.go) fun vs W2 H2 G2 as p2 m2 r2 => q (v :: vs) W2 H2 G2 _ p2 (m.trans m2) (.cons (t.mv r m2.go) r2)
/-- a place: a thing of one's own by a path -/
def Pl (te : TE) (G : Ct) (q : List Nat) (O : OT α) (x : α) : Prop := ∀ W H σ, Holds G W H σ → ∃ v, O.R q W H v x ∧ (Hang q σ W H v ∧ Real q) ∧ ∀ (Q : VK), Q v H → te σ H Q
/-! ### calls -/
variable {ρ : Type} {c : CT ρ}
/-- what a call with shared things asks -/
def Cp (X : Xw) (c : CT ρ) (G : Ct) (P : Ct → ρ → Prop) (as : List Ar) : Prop := (c.n = true → G.n = true) ∧ (∀ a ∈ as, a.plain) ∧ ∃ P' XP, c.ct (as.map Ar.sl) P' XP ∧ (∀ os x, P' os x → P G x) ∧ ∀ os e, XP os e → X.xp G e
/-- .. with things of one's own, from slots -/
def Co (X : Xw) (c : CT ρ) (G : Ct) (P : Ct → ρ → Prop) (as : List Ar) : Prop := (c.n = true → G.n = true) ∧ as.length ≤ tmp ∧ (∀ a ∈ as, a.simple) ∧ (as.filterMap Ar.owS).Nodup ∧ (∀ a ∈ as, ∀ i, a.vwS = some i → i ∉ as.filterMap Ar.owS) ∧
  ∃ P' XP, ((∀ a ∈ as, a.vwS = none) ∨ (FlatR c.r ∧ (∀ os x, P' os x → ∀ s ∈ os, s.flat) ∧ ∀ os e, XP os e → (∀ s ∈ os, s.flat) ∧ e.fs = none)) ∧ c.ct (as.map Ar.sl) P' XP ∧ (∀ os x, P' os x → os.length = as.length → P (putA G as os) x) ∧ ∀ os e, XP os e → os.length = as.length → X.xp (putA G as os) e
theorem Cp.sp {P : Ct → ρ → Prop} {as : List Ar} {vs : List V} {W : Wd} {H : Hp} {σ : L2.St} {Q : VK} (h : Cp X c G P as) (hs : Holds G W H σ) (ex : X.ok W H σ) (ha : ArgsOk σ W H vs as) (q : ∀ v W' H' x, P G x → Mo k σ G W H G W' H' → c.r.R W' H' v x → Q v H') : spZ c vs H Q (WE X.E σ) := by
  obtain ⟨hn, pl, P', XP, hc, hp, hx⟩ := h
  exact sp_plain hs hn ha pl hc (fun v W' H' os x p g ok r => q v W' H' x (hp os x p) (.goE hs g ok) r) fun e d W' H' os p g ok r => ex e d W' H' G (hx os e p) g.go (hs.goE g ok) r
theorem ev_call {ta : TA} {P : Ct → ρ → Prop} (h : Ea X k ta G fun G as => Cp X c G P as) : EvR X k (tCallS (spZ c) (WE X.E) ta) G c.r P := fun W H σ Q hs ex q =>
  h W H σ _ hs ex fun vs W1 H1 G1 as hc m ha => hc.sp (k := k) m.hs (ex.mv m.go) ha fun v W' H' x p m2 r => q v W' H' G1 x p (m.trans m2) r
/-- o.m(..) of an instance of the class at C, what is raised wished for at the slots -/
def tMethS (C : Addr) (m : Str) (sp : Sp) (E : L2.St → XK) (ta : TE) (t : TA) : TE := fun σ H Q => ta σ H fun x H1 => ∃ a dx fs, x = .ref a ∧ H1 a = some (.ins C dx fs) ∧ fs.lookup m = none ∧
  t σ H1 fun vs H2 => sp (x :: vs) H2 Q (E σ)
/-- an instance of the class at C, its attribute m not its own -/
def Inst (C : Addr) (m : Str) (t : Ty α) : Prop := ∀ W H v x, OKW W H → t.R W H v x → ∃ a dx fs, v = .ref a ∧ H a = some (.ins C dx fs) ∧ fs.lookup m = none
def InstO (C : Addr) (m : Str) (O : OT α) : Prop := ∀ q W H v x, OKW W H → O.R q W H v x → ∃ a dx fs, v = .ref a ∧ H a = some (.ins C dx fs) ∧ fs.lookup m = none
end
/-! ### statements -/
/-- a def's wishes: what is wanted of what it hands back -/
structure Fx (ρ : Type) where
  r : Rt ρ
  rt : Ct → ρ → Prop
  X : Xw
def Blk {ρ : Type} (F : Fx ρ) (ts : TS) (G : Ct) (N B C : Ct → Prop) : Prop :=
  ∀ W0 H0 W H σ (D : Ends), Go W0 H0 W H → Holds G W H σ →
    (∀ G' W' H' σ', N G' → Go W0 H0 W' H' → Holds G' W' H' σ' → D.nx σ' H') →
    (∀ G' W' H' σ', B G' → Go W0 H0 W' H' → Holds G' W' H' σ' → D.bk σ' H') →
    (∀ G' W' H' σ', C G' → Go W0 H0 W' H' → Holds G' W' H' σ' → D.ct σ' H') →
    (∀ v G' W' H' σ' x, F.rt G' x → Go W0 H0 W' H' → Holds G' W' H' σ' → F.r.R W' H' v x → D.rt v H') →
    (∀ e d G' W' H' σ', F.X.xp G' e → Go W0 H0 W' H' → Holds G' W' H' σ' → ErAt W' H' e d → F.X.E (.ref e.C) d σ' H') → ts D σ H
theorem exo {X : Xw} {W0 W : Wd} {H0 H : Hp} {σ : L2.St} (ex : ∀ e d G' W' H' σ', X.xp G' e → Go W0 H0 W' H' → Holds G' W' H' σ' → ErAt W' H' e d → X.E (.ref e.C) d σ' H') (g : Go W0 H0 W H) : X.ok W H σ := fun e d W' H' G' p g' hs => ex e d G' W' H' σ p (g.trans g') hs
section
variable {ρ : Type} {F : Fx ρ} {G : Ct} {N B C : Ct → Prop} {α β γ : Type} {t : Ty α} {u : Ty β}
theorem blk_next (h : N G) : Blk F tNext G N B C := fun W0 H0 W H σ D g hs n _ _ _ _ => n G W H σ h g hs
theorem blk_break (h : B G) : Blk F tBreak G N B C := fun W0 H0 W H σ D g hs _ n _ _ _ => n G W H σ h g hs
theorem blk_seq {a b : TS} (h : Blk F a G (fun G' => Blk F b G' N B C) B C) : Blk F (tSeq a b) G N B C := fun W0 H0 W H σ D g hs n bk ct rt ex =>
  h W0 H0 W H σ { D with nx := b D } g hs (fun G' W' H' σ' hb g' hs' => hb W0 H0 W' H' σ' D g' hs' n bk ct rt ex) bk ct rt ex
theorem Blk.mono {a : TS} {N' B' C' : Ct → Prop} (h : Blk F a G N B C) (hn : ∀ G', N G' → N' G') (hb : ∀ G', B G' → B' G') (hc : ∀ G', C G' → C' G') : Blk F a G N' B' C' := fun W0 H0 W H σ D g hs n bk ct rt ex =>
  h W0 H0 W H σ D g hs (fun G' W' H' σ' q => n G' W' H' σ' (hn G' q)) (fun G' W' H' σ' q => bk G' W' H' σ' (hb G' q)) (fun G' W' H' σ' q => ct G' W' H' σ' (hc G' q)) rt ex
/-- what follows is shown once -/
theorem blk_cut {a b : TS} (M : Ct → Prop) (h : Blk F a G M B C) (h2 : ∀ G', M G' → Blk F b G' N B C) : Blk F (tSeq a b) G N B C := blk_seq (h.mono h2 (fun _ q => q) fun _ q => q)
theorem blk_ret {te : TE} (h : EvR F.X false te G F.r F.rt) : Blk F (tRet te) G N B C := fun W0 H0 W H σ D g hs _ _ _ rt ex => h W H σ _ hs (exo ex g) fun v W' H' G' x p m r => rt v G' W' H' σ x p (g.trans m.go) m.hs r
theorem blk_if {c : TT} {a b : TS} (h : Et F.X false c G fun G x => (x = true → Blk F a G N B C) ∧ (x = false → Blk F b G N B C)) : Blk F (tIfS c a b) G N B C := fun W0 H0 W H σ D g hs n bk ct rt ex => h W H σ _ hs (exo ex g) fun x W1 H1 G1 p m => by
  cases x with
  | true => exact p.1 rfl W0 H0 W1 H1 σ D (g.trans m.go) m.hs n bk ct rt ex
  | false => exact p.2 rfl W0 H0 W1 H1 σ D (g.trans m.go) m.hs n bk ct rt ex
theorem blk_drop {te : TE} {r : Rt α} (h : EvR F.X false te G r fun G _ => N G) : Blk F (tDrop te) G N B C := fun W0 H0 W H σ D g hs n _ _ _ ex => h W H σ _ hs (exo ex g) fun v W' H' G' x p m r => n G' W' H' σ p (g.trans m.go) m.hs
/-! ### targets -/
def Tg (g : TG) (G : Ct) (t : Ty α) (x : α) (vs : List Nat) (N : Ct → Prop) : Prop :=
  ∀ W H σ v (Q : L2.St → Hp → Prop), Holds G W H σ → t.R W H v x → (∀ G' σ', N G' → Holds G' W H σ' → σ'.length = σ.length → (∀ i, i ∉ vs → σ'[i]? = σ[i]?) → Q σ' H) → g v σ H Q
theorem tg_name {i : Nat} {x : α} {vs : List Nat} (hi : i ∈ vs) (fr : G.free i) (h : N (G.set i (.sh t x))) : Tg (gName i) G t x vs N := fun W H σ v Q hs r q => q _ _ h (hs.setSh i r fr) (by rw [List.length_set]) fun j hj => List.getElem?_set_ne (fun e => hj (by rw [← e]; exact hi))
theorem tg_tup2 {K : PySem.W.Frag} {g1 g2 : TG} {x : α × β} {vs : List Nat} (h : Tg g1 G t x.1 vs fun G1 => Tg g2 G1 u x.2 vs N) : Tg (gTup K 2 (gCons g1 (gCons g2 gNil))) G (tT2 K t u) x vs N := fun W H σ v Q hs r q => by
  obtain ⟨a, p, w, rfl, sq, r1, r2⟩ := r
  refine ⟨a, [p, w], rfl, sq.t, rfl, p, [w], rfl, h W H σ p _ hs r1 fun G1 σ1 h1 hs1 l1 k1 => ⟨w, [], rfl, h1 W H σ1 w _ hs1 r2 fun G2 σ2 h2 hs2 l2 k2 => ⟨rfl, q G2 σ2 h2 hs2 (l2.trans l1) fun i hi => (k2 i hi).trans (k1 i hi)⟩⟩⟩
theorem blk_asg {te : TE} {g : TG} {vs : List Nat} (h : Ev F.X false te G t fun G x => Tg g G t x vs N) : Blk F (tAsg te g) G N B C := fun W0 H0 W H σ D g0 hs n _ _ _ ex => h W H σ _ hs (exo ex g0) fun v W1 H1 G1 x p m r => p W1 H1 σ v _ m.hs r fun G' σ' q hs' _ _ => n G' W1 H1 σ' q (g0.trans m.go) hs'
theorem free_of {G : Ct} {i : Nat} (h : (G.p[i]?).join = none) : G.free i := fun v e => by rw [e] at h; cases h
theorem blk_set {te : TE} {i : Nat} (h : Ev F.X false te G t fun G1 x => (G1.p[i]?).join = none ∧ N (G1.set i (.sh t x))) : Blk F (tAsg te (gName i)) G N B C := blk_asg (vs := [i]) (EvR.mono h fun _ _ q => tg_name List.mem_cons_self (free_of q.1) q.2)
/-! ### one's own -/
/-- what is new gets its place -/
def seat (W : Wd) (i : Nat) : Wd := fun b => match W b with
  | .ow (j :: r) => if j = tmp then .ow (i :: r) else .ow (j :: r)
  | w => w
theorem seat_tmp {W : Wd} {i : Nat} {b : Addr} {r : List Nat} (h : W b = .ow (tmp :: r)) : seat W i b = .ow (i :: r) := by unfold seat; rw [h]; simp
theorem seat_ne {W : Wd} {i : Nat} {b : Addr} (h : ∀ r, W b ≠ .ow (tmp :: r)) : seat W i b = W b := by
  unfold seat
  cases e : W b with
  | ow p =>
    cases p with
    | nil => rfl
    | cons j r =>
      by_cases n : j = tmp
      · subst n; exact absurd e (h r)
      · simp [n]
  | _ => rfl
section
variable {W : Wd} {H : Hp} {i : Nat}
theorem seat_own {b : Addr} {p : List Nat} (h : seat W i b = .ow p) : ∃ p', W b = .ow p' := by
  by_cases n : ∃ r, W b = .ow (tmp :: r)
  · obtain ⟨r, e⟩ := n; exact ⟨_, e⟩
  · rw [seat_ne fun r e => n ⟨r, e⟩] at h; exact ⟨_, h⟩
theorem seat_non {b : Addr} {w : Md} (nw : ∀ p, w ≠ .ow p) : seat W i b = w ↔ W b = w := by
  by_cases n : ∃ r, W b = .ow (tmp :: r)
  · obtain ⟨r, e⟩ := n
    rw [seat_tmp e, e]
    exact ⟨fun z => absurd z.symm (nw _), fun z => absurd z.symm (nw _)⟩
  · rw [seat_ne fun r e => n ⟨r, e⟩]
theorem seat_lk {b : Addr} : seat W i b = .lk ↔ W b = .lk := seat_non fun _ => (fun z => by cases z)
theorem seat_sh {b : Addr} : seat W i b = .sh ↔ W b = .sh := seat_non fun _ => (fun z => by cases z)
theorem seat_fo {b : Addr} : seat W i b = .fo ↔ W b = .fo := seat_non fun _ => (fun z => by cases z)
theorem seat_st {b : Addr} {φ : HO → Prop} : seat W i b = .st φ ↔ W b = .st φ := seat_non fun _ => (fun z => by cases z)
theorem seat_ok (ok : OKW W H) : OKW (seat W i) H := by
  refine ⟨fun b φ h => ok.st b φ (seat_st.mp h), fun b h => ok.al b fun e => h (seat_sh.mpr e), fun b p od u w e => ?_, fun b h => ok.lk b (seat_lk.mp h), fun b od u w h => ok.fo b od u (seat_fo.mp w) h, fun b vs h => seat_sh.mpr (ok.tp b vs h)⟩
  obtain ⟨p', w⟩ := seat_own w
  exact ok.nf b p' od u w e
theorem seat_mv : Mv W H (seat W i) H := by
  refine ⟨fun b o h => ?_, fun b vs w h => ⟨seat_sh.mpr w, h⟩, fun b φ h => seat_st.mpr h⟩
  unfold RdW
  rw [seat_ne fun r => h.no]
  exact h
theorem seat_go : Go W H (seat W i) H := ⟨fun b o h w => ⟨h, seat_ne fun r e => by rcases w with w | w | w <;> (rw [w] at e; cases e)⟩, fun b φ h => seat_st.mpr h, fun b h => seat_lk.mp h⟩
end
theorem Holds.seat {W : Wd} {H : Hp} {σ : L2.St} {i : Nat} {O : OT α} {x : α} {v : V} (h : Holds G W H σ) (r : O.R [tmp] W H v x) (fr : G.free i) : Holds (G.set i (.ow O x)) (seat W i) H (σ.set i (some v)) := by
  have h1 : Holds G (Y.seat W i) H σ := ⟨h.len, seat_ok h.ok, fun j s e a b => (h.sl j s e a b).mv (fun c o q w eo => ⟨by
    rw [seat_ne fun r z => by
      rw [w] at z
      exact h.lt a (List.cons.inj (Md.ow.inj z)).1]
    exact w, eo⟩) seat_mv, fun n b w => h.nl n b (seat_lk.mp w), h.pn, h.sm⟩
  exact h1.set i ⟨v, rfl, O.mv (p' := [i]) r (fun b o q w e => ⟨seat_tmp w, e⟩) seat_mv⟩ fr
/-- name = something new, one's own -/
theorem blk_setO {te : TE} {i : Nat} {O : OT α} (h : EvR F.X false te G (.ow O) fun G1 x => (G1.p[i]?).join = none ∧ N (G1.set i (.ow O x))) : Blk F (tAsg te (gName i)) G N B C := fun W0 H0 W H σ D g0 hs n _ _ _ ex => h W H σ _ hs (exo ex g0) fun v W1 H1 G1 x ⟨hf, hn⟩ m r => n _ _ H1 _ hn ((g0.trans m.go).trans seat_go) (m.hs.seat r (free_of hf))
/-- freezing: what hangs in a slot is shared from here -/
def thaw (W : Wd) (i : Nat) : Wd := fun b => match W b with
  | .ow (j :: r) => if j = i then .sh else .ow (j :: r)
  | w => w
theorem thaw_at {W : Wd} {i : Nat} {b : Addr} {r : List Nat} (h : W b = .ow (i :: r)) : thaw W i b = .sh := by unfold thaw; rw [h]; simp
theorem thaw_ne {W : Wd} {i : Nat} {b : Addr} (h : ∀ r, W b ≠ .ow (i :: r)) : thaw W i b = W b := by
  unfold thaw
  cases e : W b with
  | ow p =>
    cases p with
    | nil => rfl
    | cons j r =>
      by_cases n : j = i
      · subst n; exact absurd e (h r)
      · simp [n]
  | _ => rfl
section
variable {W : Wd} {H : Hp} {i : Nat}
theorem thaw_own {b : Addr} {p : List Nat} (h : thaw W i b = .ow p) : W b = .ow p := by
  by_cases n : ∃ r, W b = .ow (i :: r)
  · obtain ⟨r, e⟩ := n; rw [thaw_at e] at h; cases h
  · rw [thaw_ne fun r e => n ⟨r, e⟩] at h; exact h
theorem thaw_non {b : Addr} {w : Md} (nw : ∀ p, w ≠ .ow p) (ns : w ≠ .sh) : thaw W i b = w ↔ W b = w := by
  by_cases n : ∃ r, W b = .ow (i :: r)
  · obtain ⟨r, e⟩ := n
    rw [thaw_at e, e]
    exact ⟨fun z => absurd z.symm ns, fun z => absurd z.symm (nw _)⟩
  · rw [thaw_ne fun r e => n ⟨r, e⟩]
theorem thaw_sh {b : Addr} (h : W b = .sh) : thaw W i b = .sh := by rw [thaw_ne fun r e => by rw [h] at e; cases e]; exact h
theorem thaw_lk {b : Addr} : thaw W i b = .lk ↔ W b = .lk := thaw_non (fun _ => fun z => by cases z) fun z => by cases z
theorem thaw_fo {b : Addr} : thaw W i b = .fo ↔ W b = .fo := thaw_non (fun _ => fun z => by cases z) fun z => by cases z
theorem thaw_st {b : Addr} {φ : HO → Prop} : thaw W i b = .st φ ↔ W b = .st φ := thaw_non (fun _ => fun z => by cases z) fun z => by cases z
theorem thaw_ok (ok : OKW W H) : OKW (thaw W i) H := by
  refine ⟨fun b φ h => ok.st b φ (thaw_st.mp h), fun b h => ok.al b fun e => h (thaw_sh e), fun b p od u w e => ok.nf b p od u (thaw_own w) e, fun b h => ok.lk b (thaw_lk.mp h), fun b od u w h => ok.fo b od u (thaw_fo.mp w) h, fun b vs h => thaw_sh (ok.tp b vs h)⟩
theorem thaw_mv : Mv W H (thaw W i) H := by
  refine ⟨fun b o h => ?_, fun b vs w h => ⟨thaw_sh w, h⟩, fun b φ h => thaw_st.mpr h⟩
  unfold RdW
  rw [thaw_ne fun r => h.no]
  exact h
theorem thaw_go : Go W H (thaw W i) H := ⟨fun b o h w => ⟨h, thaw_ne fun r e => by rcases w with w | w | w <;> (rw [w] at e; cases e)⟩, fun b φ h => thaw_st.mpr h, fun b h => thaw_lk.mp h⟩
theorem thaw_goE : GoE W H (thaw W tmp) H := ⟨fun b o h _ n => ⟨h, thaw_ne n⟩, fun b φ h => thaw_st.mpr h, fun b h => thaw_lk.mp h⟩
end
theorem Holds.thaw {W : Wd} {H : Hp} {σ : L2.St} {i : Nat} {O : OT α} {x : α} (h : Holds G W H σ) (hi : G.s[i]? = some (.ow O x)) : Holds (G.set i (.sh O.sv x)) (thaw W i) H σ := by
  obtain ⟨v, ev, r⟩ := h.own hi
  refine ⟨by show σ.length = (G.s.set i _).length; rw [List.length_set]; exact h.len, thaw_ok h.ok, fun j s e (h1 : (G.s.set i (.sh O.sv x))[j]? = some s) h2 => ?_, fun n b w => h.nl n b (thaw_lk.mp w), h.pn, by show (G.s.set i _).length ≤ tmp; rw [List.length_set]; exact h.sm⟩
  rcases set_key h1 with ⟨rfl, rfl⟩ | ⟨n1, g1⟩
  · rw [ev] at h2
    cases h2
    exact ⟨v, rfl, O.fz r (fun b o q w e => ⟨thaw_at w, e⟩) thaw_mv⟩
  · exact (h.sl j s e g1 h2).mv (fun b o q w eo => ⟨by
      rw [thaw_ne fun r z => by rw [w] at z; exact n1 (List.cons.inj (Md.ow.inj z)).1]
      exact w, eo⟩) thaw_mv
theorem blk_frz {ts : TS} (i : Nat) {O : OT α} {x : α} (hi : G.s[i]? = some (.ow O x)) (h : Blk F ts (G.set i (.sh O.sv x)) N B C) : Blk F ts G N B C := fun W0 H0 W H σ D g hs n bk ct rt ex => h W0 H0 _ H σ D (g.trans thaw_go) (hs.thaw hi) n bk ct rt ex
/-- .. of something new that hangs nowhere -/
theorem EvR.share {X : Xw} {k : Bool} {te : TE} {O : OT α} {P : Ct → α → Prop} (h : EvR X k te G (.ow O) P) : Ev X k te G O.sv P := fun W H σ Q hs ex q => h W H σ Q hs ex fun v W1 H1 G1 x p m r =>
  q v (Y.thaw W1 tmp) H1 G1 x p (m.thenE thaw_goE (thaw_ok m.hs.ok)) (O.fz r (fun b o q w e => ⟨thaw_at w, e⟩) thaw_mv)
end
end Y
end

section
set_option maxRecDepth 100000
set_option maxHeartbeats 4000000
/-! a text is no dict; any value looked for among texts -/
namespace Own
open PySem PySem.Spec PyProof.Rows L2 SeqAt AutoSeq1 MeetsSeq
section
variable {A : Around} {s : Shared}
end
/-- a list, a tuple or a dict is none of some texts -/
def RefK (K : PySem.W.Frag) (H : Hp) (b : Addr) : Prop := (∃ xs, SqL K H b xs) ∨ (∃ xs, SqT K H b xs) ∨ ∃ kvs, Rd H b (.dK kvs)
def rInRef (K : PySem.W.Frag) (neg : Bool) : R2 := fun x y H Q => ∃ (b p : Addr) (ns : List Str), x = .ref b ∧ y = .ref p ∧ RefK K H b ∧ (SqL K H p (ns.map V.str) ∨ SqT K H p (ns.map V.str)) ∧ Q (.bl neg) H
section
variable {X : Cx} {pins : List (Addr × Obj)} {σ : L2.St} {H : Hp} {s : Shared}
end
end Own
end

section
set_option maxRecDepth 100000
set_option maxHeartbeats 4000000
/-! What values do: displays, items, built-in calls, slices, texts, order. -/
namespace Y
open PySem PySem.Spec PyProof.Rows L2
section
variable {α β γ : Type} {R : α → β → Prop}
theorem paired_get {xs : List α} {ys : List β} (p : Paired R xs ys) : ∀ {i : Nat} {y : β}, ys[i]? = some y → ∃ x, xs[i]? = some x ∧ R x y := by
  induction p with
  | nil => intro i y h; simp at h
  | cons r _ ih =>
    intro i y h
    cases i with
    | zero => cases h; exact ⟨_, rfl, r⟩
    | succ i => exact ih (i := i) h
theorem paired_getL {xs : List α} {ys : List β} (p : Paired R xs ys) : ∀ {i : Nat} {x : α}, xs[i]? = some x → ∃ y, ys[i]? = some y ∧ R x y := by
  induction p with
  | nil => intro i y h; simp at h
  | cons r _ ih =>
    intro i y h
    cases i with
    | zero => cases h; exact ⟨_, rfl, r⟩
    | succ i => exact ih (i := i) h
theorem paired_at {xs : List α} {ys : List β} (p : Paired R xs ys) {i : Int} {y : β} (h : atI ys i = some y) : ∃ x, atI xs i = some x ∧ R x y := by
  unfold atI at h ⊢
  rw [p.length]
  cases e : ixN ys.length i with
  | none => rw [e] at h; cases h
  | some j =>
    rw [e] at h
    exact paired_get p h
theorem paired_snoc' {α β : Type} {R : α → β → Prop} : ∀ {xs : List α} {ys : List β} {x : α} {y : β}, Paired R xs ys → R x y → Paired R (xs ++ [x]) (ys ++ [y])
  | _, _, _, _, .nil, r => .cons r .nil
  | _, _, _, _, .cons a p, r => .cons a (paired_snoc' p r)
theorem paired_map {f : β → α} : ∀ {ys : List β}, (∀ y, R (f y) y) → Paired R (ys.map f) ys
  | [], _ => .nil
  | y :: ys, h => .cons (h y) (paired_map h)
theorem paired_eq {f : β → α} : ∀ {xs : List α} {ys : List β}, Paired (fun x y => x = f y) xs ys → xs = ys.map f
  | _, _, .nil => rfl
  | _, _, .cons r p => by rw [List.map_cons, ← paired_eq p, r]
end
section
variable {K : PySem.W.Frag} {X : Xw} {k : Bool} {G : Ct} {α β γ δ : Type} {t : Ty α} {u : Ty β} {z : Ty γ} {y : Ty δ}
/-- something new hangs nowhere yet -/
theorem newT {W : Wd} {H : Hp} (ok : OKW W H) {p : Addr} {o : HO} (hp : H p = none) (nt : NoTup o) : GoE W H (setW W p (.ow [tmp])) (upd H p o) ∧ OKW (setW W p (.ow [tmp])) (upd H p o) := by
  have nf := nt.nf
  have fr := ok.fresh hp
  have o1 := ok.new (o := o) hp nf
  refine ⟨⟨fun b u h _ _ => ?_, fun b φ h => ?_, fun b h => ?_⟩, ⟨fun b φ h => ?_, fun b h => ?_, fun b q od v w h => ?_, fun b h => ?_, fun b od v w h => ?_, fun b vs h => ?_⟩⟩
  · have n := ne_of_none h hp
    exact ⟨by rw [upd_ne n]; exact h, setW_ne n⟩
  · rw [setW_ne (fun e => by rw [e, fr] at h; cases h)]; exact h
  · by_cases n : b = p
    · rw [n, setW_same] at h; cases h
    · rw [setW_ne n] at h; exact h
  · by_cases n : b = p
    · rw [n, setW_same] at h; cases h
    · rw [setW_ne n] at h; exact o1.st b φ h
  · by_cases n : b = p
    · exact ⟨o, by rw [n, upd_same]⟩
    · rw [setW_ne n] at h; exact o1.al b h
  · by_cases n : b = p
    · rw [n, upd_same] at h; cases h; exact nf
    · rw [setW_ne n] at w; exact o1.nf b q od v w h
  · by_cases n : b = p
    · rw [n, setW_same] at h; cases h
    · rw [setW_ne n] at h; exact o1.lk b h
  · by_cases n : b = p
    · rw [n, upd_same] at h; cases h; exact nf.elim
    · rw [setW_ne n] at w; exact o1.fo b od v w h
  · by_cases n : b = p
    · rw [n, upd_same] at h; cases h; exact nt.elim
    · rw [setW_ne n]; exact o1.tp b vs h
theorem ArgsOk.goP {σ : L2.St} {W W1 : Wd} {H H1 : Hp} {vs : List V} {as : List Ar} (h : ArgsOk σ W H vs as) (p : ∀ a ∈ as, a.plain) (g : GoE W H W1 H1) : ArgsOk σ W1 H1 vs as := h.go p g.go.mv
/-! ### displays -/
theorem ev_tup {T : Ty γ} {ta : TA} {P : Ct → γ → Prop} (h : Ea X k ta G fun G as => as.length ≤ sizeLine ∧ (∀ a ∈ as, a.plain) ∧ ∃ x, P G x ∧ ∀ σ W H vs a, ArgsOk σ W H vs as → RdW W H a (.tup vs) → T.R W H (.ref a) x) : Ev X k (tTup ta) G T P := fun W H σ Q hs ex q =>
  h W H σ _ hs ex fun vs W1 H1 G1 as ⟨hl, pl, x, p, r⟩ m ha => ⟨by rw [ha.len]; exact hl, fun a hp => by
    have g2 := GoE.new (W := W1) (o := .tup vs) hp
    exact q _ W1 _ G1 x p (m.thenE g2 (m.hs.ok.new hp trivial)) (r σ W1 _ vs a (ha.goP pl g2) (rdNew m.hs.ok hp))⟩
/-- a list that is shared -/
theorem ev_lst {T : Ty γ} {ta : TA} {P : Ct → γ → Prop} (h : Ea X k ta G fun G as => as.length ≤ sizeLine ∧ (∀ a ∈ as, a.plain) ∧ ∃ x, P G x ∧ ∀ σ W H vs a, ArgsOk σ W H vs as → W a = .sh ∧ H a = some (.lst vs) → T.R W H (.ref a) x) : Ev X k (L2.tLst ta) G T P := fun W H σ Q hs ex q =>
  h W H σ _ hs ex fun vs W1 H1 G1 as ⟨hl, pl, x, p, r⟩ m ha => ⟨by rw [ha.len]; exact hl, fun a hp => by
    have g2 := GoE.new (W := W1) (o := .lst vs) hp
    exact q _ W1 _ G1 x p (m.thenE g2 (m.hs.ok.new hp trivial)) (r σ W1 _ vs a (ha.goP pl g2) ⟨m.hs.ok.fresh hp, upd_same⟩)⟩
theorem small {n : Nat} (h : n ≤ 1000) : n ≤ sizeLine := Nat.le_trans h (by decide)
theorem plain_cons {t : Ty α} {x : α} {as : List Ar} (h : ∀ a ∈ as, a.plain) : ∀ a ∈ Ar.sh t x :: as, a.plain := fun a ha => by
  rcases List.mem_cons.mp ha with rfl | ha
  · trivial
  · exact h a ha
theorem plain_nil : ∀ a ∈ ([] : List Ar), a.plain := fun a ha => by simp at ha
theorem ev_t2 {ta tb : TE} {P : Ct → α × β → Prop} (h : Ev X k ta G t fun G x => Ev X k tb G u fun G y => P G (x, y)) : Ev X k (tTup (tCons ta (tCons tb tNil))) G (tT2 K t u) P :=
  ev_tup (ea_cons (EvR.mono h fun G x hx => ea_cons (EvR.mono hx fun G y p => ea_nil ⟨small (show 2 ≤ 1000 by decide), plain_cons (plain_cons plain_nil), (x, y), p, fun σ W H vs a ha rd => by
    cases ha with
    | cons r1 ha => cases ha with
      | cons r2 ha => cases ha; exact ⟨a, _, _, rfl, rd, r1, r2⟩⟩)))
theorem ev_l3 {ta tb tc : TE} {P : Ct → α × β × γ → Prop} (h : Ev X k ta G t fun G x => Ev X k tb G u fun G y => Ev X k tc G z fun G w => P G (x, y, w)) : Ev X k (L2.tLst (tCons ta (tCons tb (tCons tc tNil)))) G (tL3 K t u z) P :=
  ev_lst (ea_cons (EvR.mono h fun G x hx => ea_cons (EvR.mono hx fun G y hy => ea_cons (EvR.mono hy fun G w p => ea_nil ⟨small (show 3 ≤ 1000 by decide), plain_cons (plain_cons (plain_cons plain_nil)), (x, y, w), p, fun σ W H vs a ha rd => by
    cases ha with
    | cons r1 ha => cases ha with
      | cons r2 ha => cases ha with
        | cons r3 ha => cases ha; exact ⟨a, _, _, _, rfl, rd, r1, r2, r3⟩⟩))))
/-- items of one kind -/
def Es (X : Xw) (k : Bool) (ta : TA) (G : Ct) (t : Ty α) (P : Ct → List α → Prop) : Prop :=
  ∀ W H σ (Q : List V → Hp → Prop), Holds G W H σ → X.ok W H σ → (∀ vs W' H' G' xs, P G' xs → Mo k σ G W H G' W' H' → Paired (t.R W' H') vs xs → Q vs H') → ta σ H Q
theorem es_nil {P : Ct → List α → Prop} (p : P G []) : Es X k tNil G t P := fun W H σ Q hs ex q => q [] W H G [] p (.refl hs) .nil
theorem es_cons {te : TE} {ta : TA} {P : Ct → List α → Prop} (h : Ev X k te G t fun G x => Es X k ta G t fun G xs => P G (x :: xs)) : Es X k (tCons te ta) G t P := fun W H σ Q hs ex q =>
  h W H σ _ hs ex fun v W1 H1 G1 x p m r => p W1 H1 σ _ m.hs (ex.mv m.go) fun vs W2 H2 G2 xs p2 m2 r2 => q (v :: vs) W2 H2 G2 _ p2 (m.trans m2) (.cons (t.mv r m2.go) r2)
/-- [a, b, ..] -/
theorem ev_list {ta : TA} {P : Ct → List α → Prop} (h : Es X k ta G t fun G xs => xs.length ≤ sizeLine ∧ P G xs) : EvR X k (L2.tLst ta) G (.ow (oL K t)) P := fun W H σ Q hs ex q =>
  h W H σ _ hs ex fun vs W1 H1 G1 xs ⟨hl, p⟩ m pp => ⟨by rw [pp.length]; exact hl, fun a hp => by
    obtain ⟨g, ok⟩ := newT m.hs.ok hp (o := .lst vs) trivial
    exact q _ _ _ G1 xs p (m.thenE g ok) ⟨a, vs, rfl, setW_same, upd_same, L2.Paired.mapP pp fun _ _ r => t.mvE r g⟩⟩
/-- (a, b, ..) -/
theorem ev_tuple {ta : TA} {P : Ct → List α → Prop} (h : Es X k ta G t fun G xs => xs.length ≤ sizeLine ∧ P G xs) : Ev X k (tTup ta) G (tTu K t) P := fun W H σ Q hs ex q =>
  h W H σ _ hs ex fun vs W1 H1 G1 xs ⟨hl, p⟩ m pp => ⟨by rw [pp.length]; exact hl, fun a hp => by
    have g := GoE.new (W := W1) (o := .tup vs) hp
    exact q _ W1 _ G1 xs p (m.thenE g (m.hs.ok.new hp trivial)) ⟨a, vs, rfl, rdNew m.hs.ok hp, L2.Paired.mapP pp fun _ _ r => t.mvE r g⟩⟩
/-- {} -/
theorem ev_dnew {κ : Type} (ke : Ky κ) (t : Ty α) {P : Ct → List (κ × α) → Prop} (h : P G []) : EvR X k tDNewK G (.ow (oD ke t)) P := fun W H σ Q hs ex q => fun p hp => by
  obtain ⟨g, ok⟩ := newT hs.ok hp (o := .dK []) trivial
  exact q _ _ _ G [] h (.goE hs g ok) ⟨p, [], rfl, setW_same, upd_same, .nil⟩
/-! ### items -/
theorem ro_ixL : RO (rIxL K) (tLs K t) tInt (.sh t) (fun xs i P => ∃ x, atI xs i = some x ∧ P x) := by
  rintro W H v w xs i Q P ok ⟨a, vs, rfl, sq, p⟩ rfl ⟨x, hx, px⟩ q
  obtain ⟨y, hy, r⟩ := paired_at p hx
  exact ⟨a, vs, i, y, rfl, rfl, sq.l, hy, q y W H x px .refl ok r⟩
theorem ro_ixT : RO (rIxT K) (tTu K t) tInt (.sh t) (fun xs i P => ∃ x, atI xs i = some x ∧ P x) := by
  rintro W H v w xs i Q P ok ⟨a, vs, rfl, sq, p⟩ rfl ⟨x, hx, px⟩ q
  obtain ⟨y, hy, r⟩ := paired_at p hx
  exact ⟨a, vs, i, y, rfl, rfl, sq.t, hy, q y W H x px .refl ok r⟩
theorem ro_ixS : RO rIxS tStr tInt (.sh tStr) (fun s i P => s.length ≤ sizeLine ∧ ∃ c, atI s.cps.toList i = some c ∧ P ⟨#[c]⟩) := by
  rintro W H v w s i Q P ok rfl rfl ⟨hl, c, hc, p⟩ q
  exact ⟨s, i, c, rfl, rfl, hl, hc, q _ W H _ p .refl ok rfl⟩
/-- the item at a written place of a tuple (a list) of things of different kinds -/
theorem ro_t20 : RO (rIxT K) (tT2 K t u) tInt (.sh t) (fun x i P => i = 0 ∧ P x.1) := by
  rintro W H v w xs i Q P ok ⟨a, p, p2, rfl, sq, r1, r2⟩ rfl ⟨rfl, px⟩ q
  exact ⟨a, _, 0, p, rfl, rfl, sq.t, rfl, q p W H _ px .refl ok r1⟩
theorem ro_t21 : RO (rIxT K) (tT2 K t u) tInt (.sh u) (fun x i P => i = 1 ∧ P x.2) := by
  rintro W H v w xs i Q P ok ⟨a, p, p2, rfl, sq, r1, r2⟩ rfl ⟨rfl, px⟩ q
  exact ⟨a, _, 1, p2, rfl, rfl, sq.t, rfl, q p2 W H _ px .refl ok r2⟩
/-! ### ints, texts, truths -/
theorem ro_I {C : Int → Int → Prop} {g : Int → Int → Int} : RO (rI C fun i j => .int (g i j)) tInt tInt (.sh tInt) (fun i j P => C i j ∧ P (g i j)) := by
  rintro W H v w x y Q P ok rfl rfl ⟨c, p⟩ q
  exact ⟨_, _, rfl, rfl, c, q _ W H _ p .refl ok rfl⟩
theorem ro_I0 {g : Int → Int → Int} : RO (rI0 fun i j => .int (g i j)) tInt tInt (.sh tInt) (fun i j P => P (g i j)) := by
  rintro W H v w x y Q P ok rfl rfl p q
  exact ⟨_, _, rfl, rfl, q _ W H _ p .refl ok rfl⟩
theorem ro_B0 {g : Int → Int → Bool} : RO (rI0 fun i j => .bl (g i j)) tInt tInt (.sh tBl) (fun i j P => P (g i j)) := by
  rintro W H v w x y Q P ok rfl rfl p q
  exact ⟨_, _, rfl, rfl, q _ W H _ p .refl ok rfl⟩
/-- values of scalars -/
structure Sc (t : Ty α) where
  f : α → V
  ok : ∀ W H v x, t.R W H v x ↔ v = f x
  eq : ∀ x y, f x = f y ↔ x = y
  fl : ∀ x, flatV (f x) = true
  sc : ∀ x y, scal (f x) (f y) = true
def scI : Sc tInt := ⟨V.int, fun _ _ _ _ => Iff.rfl, fun _ _ => ⟨fun h => V.int.inj h, fun h => by rw [h]⟩, fun _ => rfl, fun _ _ => rfl⟩
def scS : Sc tStr := ⟨V.str, fun _ _ _ _ => Iff.rfl, fun _ _ => ⟨fun h => V.str.inj h, fun h => by rw [h]⟩, fun _ => rfl, fun _ _ => rfl⟩
def scB : Sc tBl := ⟨V.bl, fun _ _ _ _ => Iff.rfl, fun _ _ => ⟨fun h => V.bl.inj h, fun h => by rw [h]⟩, fun _ => rfl, fun _ _ => rfl⟩
theorem paired_f {W : Wd} {H : Hp} (s : Sc t) {vs : List V} {xs : List α} (p : Paired (t.R W H) vs xs) : vs = xs.map s.f := paired_eq (L2.Paired.mapP p fun u x r => (s.ok W H u x).mp r)
theorem f_paired {W : Wd} {H : Hp} (s : Sc t) {xs : List α} : Paired (t.R W H) (xs.map s.f) xs := paired_map fun y => (s.ok W H _ y).mpr rfl
end
end Y
end

section
set_option maxRecDepth 100000
set_option maxHeartbeats 4000000
/-! Comparisons, membership, built-in calls, slices, texts, order, dicts. -/
namespace Y
open PySem PySem.Spec PyProof.Rows L2
section
variable {K : PySem.W.Frag} {X : Xw} {k : Bool} {G : Ct} {α β γ δ : Type} {t : Ty α} {u : Ty β} {z : Ty γ}
/-! ### == of scalars -/
theorem ro_eqS' (s : Sc t) [DecidableEq α] : RO rEq t t (.sh tBl) (fun i j P => P (decide (i = j))) := by
  rintro W H v w x y Q P ok rv rw p q
  obtain rfl := (s.ok _ _ _ _).mp rv
  obtain rfl := (s.ok _ _ _ _).mp rw
  refine ⟨s.sc x y, ?_⟩
  rw [show decide (s.f x = s.f y) = decide (x = y) from decide_eq_decide.mpr (s.eq x y)]
  exact q _ W H _ p .refl ok rfl
theorem ro_neS' (s : Sc t) [DecidableEq α] : RO rNe t t (.sh tBl) (fun i j P => P (!decide (i = j))) := by
  rintro W H v w x y Q P ok rv rw p q
  obtain rfl := (s.ok _ _ _ _).mp rv
  obtain rfl := (s.ok _ _ _ _).mp rw
  refine ⟨s.sc x y, ?_⟩
  rw [show decide (s.f x = s.f y) = decide (x = y) from decide_eq_decide.mpr (s.eq x y)]
  exact q _ W H _ p .refl ok rfl
theorem ro_eqI : RO rEq tInt tInt (.sh tBl) (fun i j P => P (decide (i = j))) := ro_eqS' scI
theorem ro_neI : RO rNe tInt tInt (.sh tBl) (fun i j P => P (!decide (i = j))) := ro_neS' scI
theorem ro_neB : RO rNe tBl tBl (.sh tBl) (fun i j P => P (!decide (i = j))) := ro_neS' scB
/-! ### built-in calls of one thing -/
def RC1 (r : List V → Hp → VK → Prop) (t : Ty α) (u : Rt β) (n : Bool) (C : α → (β → Prop) → Prop) : Prop :=
  ∀ W H v x (Q : VK) (P : β → Prop), OKW W H → (n = true → ∀ b, W b ≠ .lk) → t.R W H v x → C x P → (∀ a W' H' c, P c → GoE W H W' H' → OKW W' H' → u.R W' H' a c → Q a H') → r [v] H Q
theorem ev_cb {r : List V → Hp → VK → Prop} {u : Rt β} {n : Bool} {C : α → (β → Prop) → Prop} {te : TE} {P : Ct → β → Prop} (rc : RC1 r t u n C) (h : Ev X k te G t fun G x => (n = true → G.n = true) ∧ C x (P G)) : EvR X k (tCB r (tCons te tNil)) G u P := fun W H σ Q hs ex q =>
  h W H σ _ hs ex fun v W1 H1 G1 x ⟨hn, c⟩ m rv => rc W1 H1 v x Q (P G1) m.hs.ok (fun e => m.hs.nl (hn e)) rv c fun a W2 H2 d pd g2 ok2 r2 => q a W2 H2 G1 d pd (m.thenE g2 ok2) r2
abbrev rLenA (K : PySem.W.Frag) : List V → Hp → VK → Prop := fun xs H Q => ∃ x n, xs = [x] ∧ LenV K x H n ∧ Q (.int n) H
theorem rc_lenL : RC1 (rLenA K) (tLs K t) (.sh tInt) false (fun xs P => P xs.length) := by
  rintro W H v x Q P ok _ ⟨a, vs, rfl, sq, p⟩ c q
  exact ⟨_, x.length, rfl, .inl ⟨vs, sq.l, p.length.symm⟩, q _ W H _ c .refl ok rfl⟩
theorem rc_lenT : RC1 (rLenA K) (tTu K t) (.sh tInt) false (fun xs P => P xs.length) := by
  rintro W H v x Q P ok _ ⟨a, vs, rfl, sq, p⟩ c q
  exact ⟨_, x.length, rfl, .inr ⟨vs, sq.t, p.length.symm⟩, q _ W H _ c .refl ok rfl⟩
theorem rc_lenD {κ : Type} {ke : Ky κ} : RC1 (fun xs H Q => ∃ a kvs, xs = [V.ref a] ∧ H a = some (.dK kvs) ∧ Q (.int kvs.length) H) (tDk ke t) (.sh tInt) true (fun xs P => P xs.length) := by
  rintro W H v x Q P ok nl ⟨a, ws, rfl, rd, p⟩ c q
  refine ⟨a, ws, rfl, (ok.exactD rd (nl rfl a) (fun _ e => by cases e)).1, ?_⟩
  rw [p.length]
  exact q _ W H _ c .refl ok rfl
theorem rc_all : RC1 (rAll K) (tLs K tBl) (.sh tBl) false (fun xs P => P (xs.all id)) := by
  rintro W H v x Q P ok _ ⟨a, vs, rfl, sq, p⟩ c q
  have e := paired_f scB p
  subst e
  exact ⟨a, x, rfl, sq.l, q _ W H _ c .refl ok rfl⟩
/-- a new list -/
theorem new_list {W : Wd} {H : Hp} {Q : VK} {P : List α → Prop} {vs : List V} {xs : List α} (ok : OKW W H) (c : P xs) (p : Paired (t.R W H) vs xs) (q : ∀ a W' H' c, P c → GoE W H W' H' → OKW W' H' → (oL K t).R [tmp] W' H' a c → Q a H') (l : Addr) (hl : H l = none) : Q (.ref l) (upd H l (.lst vs)) := by
  obtain ⟨g, ok2⟩ := newT ok hl (o := .lst vs) trivial
  exact q _ _ _ xs c g ok2 ⟨l, vs, rfl, setW_same, upd_same, L2.Paired.mapP p fun _ _ r => t.mvE r g⟩
theorem new_tup {W : Wd} {H : Hp} {Q : VK} {P : List α → Prop} {vs : List V} {xs : List α} (ok : OKW W H) (c : P xs) (p : Paired (t.R W H) vs xs) (q : ∀ a W' H' c, P c → GoE W H W' H' → OKW W' H' → (tTu K t).R W' H' a c → Q a H') (l : Addr) (hl : H l = none) : Q (.ref l) (upd H l (.tup vs)) :=
  q _ W _ xs c (.new hl) (ok.new hl trivial) ⟨l, vs, rfl, rdNew ok hl, L2.Paired.mapP p fun _ _ r => t.mvE r (.new hl)⟩
abbrev rListA (K : PySem.W.Frag) : List V → Hp → VK → Prop := fun xs H Q => ∃ p ys, xs = [.ref p] ∧ (SqL K H p ys ∨ SqT K H p ys) ∧ ∀ l, H l = none → Q (.ref l) (upd H l (.lst ys))
theorem rc_listL : RC1 (rListA K) (tLs K t) (.ow (oL K t)) false (fun xs P => P xs) := by
  rintro W H v x Q P ok _ ⟨a, vs, rfl, sq, p⟩ c q
  exact ⟨a, vs, rfl, .inl sq.l, new_list ok c p q⟩
theorem rc_listT : RC1 (rListA K) (tTu K t) (.ow (oL K t)) false (fun xs P => P xs) := by
  rintro W H v x Q P ok _ ⟨a, vs, rfl, sq, p⟩ c q
  exact ⟨a, vs, rfl, .inr sq.t, new_list ok c p q⟩
/-- the type of a dict's keys, as values -/
structure KyT {κ : Type} (ke : Ky κ) (tk : Ty κ) : Prop where
  ok : ∀ W H v k, tk.R W H v k ↔ v = kV (ke.k k)
theorem kyS : KyT kS tStr := ⟨fun _ _ _ _ => Iff.rfl⟩
theorem keys_paired {κ : Type} {ke : Ky κ} {tk : Ty κ} (ky : KyT ke tk) {W : Wd} {H : Hp} {W' : Wd} {H' : Hp} : ∀ {ws : List (Key × V)} {kvs : List (κ × α)}, Paired (fun (p : Key × V) q => p.1 = ke.k q.1 ∧ t.R W H p.2 q.2) ws kvs → Paired (tk.R W' H') (ws.map fun kv => kV kv.1) (kvs.map (·.1))
  | _, _, .nil => .nil
  | _, _, .cons r p => .cons ((ky.ok _ _ _ _).mpr (congrArg kV r.1)) (keys_paired ky p)
theorem rc_listD {κ : Type} {ke : Ky κ} {tk : Ty κ} (ky : KyT ke tk) : RC1 rListD (tDk ke t) (.ow (oL K tk)) true (fun xs P => P (xs.map (·.1))) := by
  rintro W H v x Q P ok nl ⟨a, ws, rfl, rd, p⟩ c q
  exact ⟨a, ws, rfl, (ok.exactD rd (nl rfl a) (fun _ e => by cases e)).1, new_list ok c (keys_paired ky p) q⟩
abbrev rTupA (K : PySem.W.Frag) : List V → Hp → VK → Prop := fun xs H Q => ∃ p ys, xs = [.ref p] ∧ ((SqL K H p ys ∧ ∀ l, H l = none → Q (.ref l) (upd H l (.tup ys))) ∨ (SqT K H p ys ∧ Q (.ref p) H))
theorem rc_tupL : RC1 (rTupA K) (tLs K t) (.sh (tTu K t)) false (fun xs P => P xs) := by
  rintro W H v x Q P ok _ ⟨a, vs, rfl, sq, p⟩ c q
  exact ⟨a, vs, rfl, .inl ⟨sq.l, new_tup ok c p q⟩⟩
/-! ### in, not in -/
theorem inV_map (s : Sc t) [DecidableEq α] (x : α) (xs : List α) (he : ∀ x y, eqV (s.f y) (s.f x) = decide (x = y)) : inV (s.f x) (xs.map s.f) = decide (x ∈ xs) := by
  unfold inV
  rw [List.any_map]
  induction xs with
  | nil => simp
  | cons y ys ih =>
    rw [List.any_cons, ih]
    show (eqV (s.f y) (s.f x) || _) = _
    rw [he]
    by_cases h : x = y <;> simp [h]
theorem eqV_str (x y : Str) : eqV (.str y) (.str x) = decide (x = y) := by
  show (y == x) = _
  by_cases h : x = y
  · subst h; simp
  · rw [decide_eq_false h]
    simpa using fun e => h e.symm
theorem flat_map (s : Sc t) (xs : List α) : (xs.map s.f).all flatV = true := by
  rw [List.all_map, List.all_eq_true]
  exact fun x _ => s.fl x
theorem ro_inL (s : Sc t) [DecidableEq α] (he : ∀ x y, eqV (s.f y) (s.f x) = decide (x = y)) (neg : Bool) : RO (rIn K neg) t (tLs K t) (.sh tBl) (fun x xs P => P (if neg then !decide (x ∈ xs) else decide (x ∈ xs))) := by
  rintro W H v w x xs Q P ok rv ⟨a, vs, rfl, sq, p⟩ c q
  obtain rfl := (s.ok _ _ _ _).mp rv
  have e := paired_f s p
  subst e
  refine ⟨a, _, rfl, .inl sq.l, s.fl x, flat_map s xs, ?_⟩
  rw [inV_map s x xs he]
  exact q _ W H _ c .refl ok rfl
theorem ro_inT (s : Sc t) [DecidableEq α] (he : ∀ x y, eqV (s.f y) (s.f x) = decide (x = y)) (neg : Bool) : RO (rIn K neg) t (tTu K t) (.sh tBl) (fun x xs P => P (if neg then !decide (x ∈ xs) else decide (x ∈ xs))) := by
  rintro W H v w x xs Q P ok rv ⟨a, vs, rfl, sq, p⟩ c q
  obtain rfl := (s.ok _ _ _ _).mp rv
  have e := paired_f s p
  subst e
  refine ⟨a, _, rfl, .inr sq.t, s.fl x, flat_map s xs, ?_⟩
  rw [inV_map s x xs he]
  exact q _ W H _ c .refl ok rfl
theorem ro_inSL (neg : Bool) : RO (rIn K neg) tStr (tLs K tStr) (.sh tBl) (fun x xs P => P (if neg then !decide (x ∈ xs) else decide (x ∈ xs))) := ro_inL scS eqV_str neg
theorem ro_inST (neg : Bool) : RO (rIn K neg) tStr (tTu K tStr) (.sh tBl) (fun x xs P => P (if neg then !decide (x ∈ xs) else decide (x ∈ xs))) := ro_inT scS eqV_str neg
end
/-! ### dicts -/
section
variable {K : PySem.W.Frag} {X : Xw} {k : Bool} {G : Ct} {κ α β : Type} [DecidableEq κ] {ke : Ky κ} {tk : Ty κ} {t : Ty α}
def lookK (kvs : List (κ × α)) (k : κ) : Option α := (kvs.find? fun p => decide (p.1 = k)).map (·.2)
def hasK (kvs : List (κ × α)) (k : κ) : Bool := (lookK kvs k).isSome
def putZ (kvs : List (κ × α)) (k : κ) (x : α) : List (κ × α) := if hasK kvs k then kvs.map fun p => if p.1 = k then (p.1, x) else p else kvs ++ [(k, x)]
theorem val_paired {W : Wd} {H : Hp} {ws : List (Key × V)} {kvs : List (κ × α)} (p : Paired (fun (p : Key × V) q => p.1 = ke.k q.1 ∧ t.R W H p.2 q.2) ws kvs) (k : κ) : (lookK kvs k = none ∧ valV ws (ke.k k) = none) ∨ ∃ x v, lookK kvs k = some x ∧ valV ws (ke.k k) = some v ∧ t.R W H v x := by
  induction p with
  | nil => exact .inl ⟨rfl, rfl⟩
  | @cons a b as bs r _ ih =>
    by_cases h : b.1 = k
    · refine .inr ⟨b.2, a.2, ?_, valV_pos (by rw [r.1, h]), r.2⟩
      unfold lookK
      rw [List.find?_cons_of_pos (by exact decide_eq_true h)]
      rfl
    · have h2 : ¬ a.1 = ke.k k := fun e => h (ke.inj _ _ (r.1.symm.trans e))
      have e1 : lookK (b :: bs) k = lookK bs k := by
        unfold lookK
        rw [List.find?_cons_of_neg (by simpa using h)]
      rw [e1, valV_neg h2]
      exact ih
theorem has_paired {W : Wd} {H : Hp} {ws : List (Key × V)} {kvs : List (κ × α)} (p : Paired (fun (p : Key × V) q => p.1 = ke.k q.1 ∧ t.R W H p.2 q.2) ws kvs) (k : κ) : (valV ws (ke.k k)).isSome = hasK kvs k := by
  unfold hasK
  rcases val_paired p k with ⟨e1, e2⟩ | ⟨x', v', e1, e2, r'⟩ <;> rw [e1, e2] <;> rfl
theorem ev_dget {td ty : TE} {P : Ct → α → Prop} (ky : KyT ke tk) (h : Ev X k td G (tDk ke t) fun G kvs => Ev X k ty G tk fun G k => ∃ x, lookK kvs k = some x ∧ P G x) : Ev X k (tDGet td ty) G t P := fun W H σ Q hs ex q =>
  h W H σ _ hs ex fun v W1 H1 G1 kvs p m r => p W1 H1 σ _ m.hs (ex.mv m.go) fun y W2 H2 G2 k ⟨x, hx, px⟩ m2 rk => by
    obtain ⟨a, ws, rfl, rd, pp⟩ := (tDk ke t).mv r m2.go
    have rk := (ky.ok _ _ _ _).mp rk
    subst rk
    rcases val_paired pp k with ⟨e, _⟩ | ⟨x', v', e1, e2, r'⟩
    · rw [e] at hx; cases hx
    · rw [e1] at hx
      cases hx
      exact ⟨a, v', rfl, .inl ⟨ws, ke.k k, rd.rd, rfl, e2.symm⟩, q v' W2 H2 G2 _ px (m.trans m2) r'⟩
theorem ev_din {td ty : TE} {P : Ct → Bool → Prop} (ky : KyT ke tk) (h : Ev X k ty G tk fun G y => Ev X k td G (tDk ke t) fun G kvs => P G (hasK kvs y)) : Ev X k (tDIn ty td) G tBl P := fun W H σ Q hs ex q =>
  h W H σ _ hs ex fun y W1 H1 G1 k p m rk => p W1 H1 σ _ m.hs (ex.mv m.go) fun v W2 H2 G2 kvs px m2 r => by
    obtain ⟨a, ws, rfl, rd, pp⟩ := r
    have rk := (ky.ok _ _ _ _).mp rk
    subst rk
    refine ⟨a, valV ws (ke.k k), rfl, .inl ⟨ws, ke.k k, rd.rd, rfl, rfl⟩, ?_⟩
    rw [has_paired pp k]
    exact q _ W2 H2 G2 _ px (m.trans m2) rfl
theorem put_paired {R : V → α → Prop} {ws : List (Key × V)} {kvs : List (κ × α)} {v : V} {x : α} (k : κ) (r : R v x) (p : Paired (fun (p : Key × V) (q : κ × α) => p.1 = ke.k q.1 ∧ R p.2 q.2) ws kvs) :
    Paired (fun (p : Key × V) (q : κ × α) => p.1 = ke.k q.1 ∧ R p.2 q.2) (putK ws (ke.k k) v) (putZ kvs k x) := by
  have e : (ws.any fun kv => decide (kv.1 = ke.k k)) = hasK kvs k := by
    induction p with
    | nil => rfl
    | @cons a b as bs r _ ih =>
      unfold hasK lookK at ih ⊢
      rw [List.any_cons, ih]
      by_cases h : b.1 = k
      · rw [List.find?_cons_of_pos (by exact decide_eq_true h), decide_eq_true (show a.1 = ke.k k by rw [r.1, h])]
        rfl
      · rw [List.find?_cons_of_neg (by simpa using h), decide_eq_false (fun e => h (ke.inj _ _ (r.1.symm.trans e)))]
        rfl
  unfold putK putZ
  rw [e]
  cases hasK kvs k with
  | false =>
    rw [if_neg Bool.false_ne_true, if_neg Bool.false_ne_true]
    exact paired_snoc' p ⟨rfl, r⟩
  | true =>
    rw [if_pos rfl, if_pos rfl]
    clear e
    induction p with
    | nil => exact .nil
    | @cons a b as bs r2 _ ih =>
      refine .cons ?_ ih
      show (if a.1 = ke.k k then (a.1, v) else a).1 = ke.k (if b.1 = k then (b.1, x) else b).1 ∧ R (if a.1 = ke.k k then (a.1, v) else a).2 (if b.1 = k then (b.1, x) else b).2
      by_cases h : b.1 = k
      · rw [if_pos (show a.1 = ke.k k by rw [r2.1, h]), if_pos h]
        exact ⟨r2.1, r⟩
      · rw [if_neg (fun e => h (ke.inj _ _ (r2.1.symm.trans e))), if_neg h]
        exact r2
end
/-! ### slices, texts, order -/
section
variable {K : PySem.W.Frag} {X : Xw} {k : Bool} {G : Ct} {α β γ δ : Type} {t : Ty α} {u : Ty β} {z : Ty γ}
def Eo (X : Xw) (k : Bool) (to : TO) (G : Ct) (P : Ct → Option Int → Prop) : Prop := ∀ W H σ (Q : Option Int → Hp → Prop), Holds G W H σ → X.ok W H σ → (∀ i W' H' G', P G' i → Mo k σ G W H G' W' H' → Q i H') → to σ H Q
theorem eo_none {P : Ct → Option Int → Prop} (p : P G none) : Eo X k tNoPart G P := fun W H σ Q hs ex q => q none W H G p (.refl hs)
theorem eo_some {te : TE} {P : Ct → Option Int → Prop} (h : Ev X k te G tInt fun G i => P G (some i)) : Eo X k (tPart te) G P := fun W H σ Q hs ex q => h W H σ _ hs ex fun v W' H' G' x p m r => ⟨x, r, q (some x) W' H' G' p m⟩
def SLI (r : V → Option Int → Option Int → Hp → VK → Prop) (t : Ty α) (u : Rt β) (C : α → Option Int → Option Int → (β → Prop) → Prop) : Prop :=
  ∀ W H v x lo hi (Q : VK) (P : β → Prop), OKW W H → t.R W H v x → C x lo hi P → (∀ a W' H' c, P c → GoE W H W' H' → OKW W' H' → u.R W' H' a c → Q a H') → r v lo hi H Q
theorem ev_sl {r : V → Option Int → Option Int → Hp → VK → Prop} {te : TE} {tl th : TO} {u : Rt β} {C : α → Option Int → Option Int → (β → Prop) → Prop} {P : Ct → β → Prop} (sl : SLI r t u C) (h : Ev X k te G t fun G x => Eo X k tl G fun G lo => Eo X k th G fun G hi => C x lo hi (P G)) : EvR X k (tSl r te tl th) G u P := fun W H σ Q hs ex q =>
  h W H σ _ hs ex fun v W1 H1 G1 x p m rv => p W1 H1 σ _ m.hs (ex.mv m.go) fun lo W2 H2 G2 p2 m2 => p2 W2 H2 σ _ m2.hs ((ex.mv m.go).mv m2.go) fun hi W3 H3 G3 c m3 =>
    sl W3 H3 v x lo hi Q (P G3) m3.hs.ok (t.mv (t.mv rv m2.go) m3.go) c fun a W4 H4 d pd g4 ok4 r4 => q a W4 H4 G3 d pd (((m.trans m2).trans m3).thenE g4 ok4) r4
def cutZ (xs : List α) (lo hi : Option Int) : List α := (xs.drop (HT.sIx xs.length 0 lo)).take (HT.sIx xs.length xs.length hi - HT.sIx xs.length 0 lo)
theorem paired_drop {R : α → β → Prop} : ∀ {xs : List α} {ys : List β} (n : Nat), Paired R xs ys → Paired R (xs.drop n) (ys.drop n)
  | _, _, 0, p => p
  | _, _, _ + 1, .nil => .nil
  | _, _, n + 1, .cons _ p => paired_drop n p
theorem paired_take {R : α → β → Prop} : ∀ {xs : List α} {ys : List β} (n : Nat), Paired R xs ys → Paired R (xs.take n) (ys.take n)
  | _, _, 0, _ => .nil
  | _, _, _ + 1, .nil => .nil
  | _, _, n + 1, .cons r p => .cons r (paired_take n p)
theorem paired_cut {W : Wd} {H : Hp} {vs : List V} {xs : List α} (p : Paired (t.R W H) vs xs) (lo hi : Option Int) : Paired (t.R W H) (cutV vs lo hi) (cutZ xs lo hi) := by
  unfold cutV cutZ
  rw [p.length]
  exact paired_take _ (paired_drop _ p)
theorem sl_lst : SLI (rSlL K) (tLs K t) (.ow (oL K t)) (fun xs lo hi P => P (cutZ xs lo hi)) := by
  rintro W H v xs lo hi Q P ok ⟨a, vs, rfl, sq, p⟩ c q
  exact ⟨a, vs, rfl, sq.l, new_list ok c (paired_cut p lo hi) q⟩
theorem paired_appZ {R : α → β → Prop} : ∀ {xs : List α} {ys : List β} {xs' : List α} {ys' : List β}, Paired R xs ys → Paired R xs' ys' → Paired R (xs ++ xs') (ys ++ ys')
  | _, _, _, _, .nil, h => h
  | _, _, _, _, .cons r t, h => .cons r (paired_appZ t h)
theorem ro_cat : RO rCat (tLs K t) (tLs K t) (.ow (oL K t)) (fun xs ys P => xs.length + ys.length ≤ sizeLine ∧ P (xs ++ ys)) := by
  rintro W H v w xs ys Q P ok ⟨a, vs, rfl, sq, p⟩ ⟨b, ws, rfl, sq2, p2⟩ ⟨hl, c⟩ q
  exact ⟨a, b, vs, ws, rfl, rfl, sq.2, sq2.2, by rw [p.length, p2.length]; exact hl, new_list ok c (paired_appZ p p2) q⟩
theorem paired_rev {R : α → β → Prop} : ∀ {xs : List α} {ys : List β}, Paired R xs ys → Paired R xs.reverse ys.reverse
  | _, _, .nil => .nil
  | _, _, .cons r p => by rw [List.reverse_cons, List.reverse_cons]; exact paired_appZ (paired_rev p) (.cons r .nil)
theorem ev_rev {te : TE} {P : Ct → List α → Prop} (h : Ev X k te G (tLs K t) fun G xs => P G xs.reverse) : EvR X k (tRevL K te) G (.ow (oL K t)) P := fun W H σ Q hs ex q => h W H σ _ hs ex fun v W1 H1 G1 xs p m r => by
  obtain ⟨a, vs, rfl, sq, pp⟩ := r
  exact ⟨a, vs, rfl, sq.l, new_list m.hs.ok p (paired_rev pp) fun a W' H' c pc g ok r => q a W' H' G1 c pc (m.thenE g ok) r⟩
theorem ro_addS : RO (fun x y H Q => ∃ i j, x = .str i ∧ y = .str j ∧ i.length + j.length ≤ sizeLine ∧ Q (.str (i ++ j)) H) tStr tStr (.sh tStr) (fun a b P => a.length + b.length ≤ sizeLine ∧ P (a ++ b)) := by
  rintro W H v w x y Q P ok rfl rfl ⟨hl, c⟩ q
  exact ⟨x, y, rfl, rfl, hl, q _ W H _ c .refl ok rfl⟩
/-! ### sorted -/
theorem rc_sortST : RC1 (Own.rSortS K) (tTu K tStr) (.ow (oL K tStr)) false (fun xs P => ∀ ys, ys.Perm xs → Own.AscS ys → P ys) := by
  rintro W H v x Q P ok _ ⟨a, vs, rfl, sq, p⟩ c q
  have e := paired_f scS p
  subst e
  exact ⟨a, x, rfl, .inr sq.t, fun ys l hp ha => new_list ok (c ys hp ha) (f_paired scS) q l⟩
end
end Y
end

section
set_option maxRecDepth 100000
set_option maxHeartbeats 4000000
/-! enumerate of a tuple -/
namespace PySem
open Sem (wp)
open AutoSeq1 (wpAny_loadPart')
theorem meets_enumerate_newT (l : Addr) (items : Array Value) :
    Meets (Builtin.«enumerate.__new__» ⟨[.type "enumerate", .ref l], []⟩) (fun _ R s => s.heap.IsTuple l items ∧
      R (.ok (.ret (.ref (s.heap.push { cls := .type "tuple_iterator", data := .fields #[.ref l, .int 0 0] }).objs.size)))
        { s with heap := (s.heap.push { cls := .type "tuple_iterator", data := .fields #[.ref l, .int 0 0] }).push { cls := .type "enumerate", data := .fields #[.none, .bool false, .ref s.heap.objs.size, rawInt 0, .none, .none] } }) :=
  .of_wp fun prog w A R s h => by
    obtain ⟨hp, g, d, tk, os⟩ := s; obtain ⟨hL, h⟩ := h
    have hsub := sub_enumerate
    obtain ⟨ol, hl, hc, n, hd⟩ := id hL
    wp_walk using wpAny_loadPart' hl
    refine wpAny_stack_any fun st => wpAny_pure ?_
    split
    · rename_i c _ _ _ _ _
      cases (c == Value.type "enumerate")
      · wp_walk using wpAny_loadPart' hl, wpAny_pyIter_tuple hL
        exact ⟨_, rfl, h⟩
      · wp_walk using wpAny_loadPart' hl, wpAny_pyIter_tuple hL
        exact ⟨_, rfl, h⟩
    · wp_walk using wpAny_loadPart' hl, wpAny_pyIter_tuple hL
      exact ⟨_, rfl, h⟩
section
variable {prog : Program} {w : World} {A : Around} {E : Value → Shared → Prop} {s : Shared}
theorem call_enumerate_tuple {l : Addr} {items : Array Value} {Q : Value → Shared → Prop} (hL : s.heap.IsTuple l items)
    (h : ∀ h', IsEnum h' (s.heap.objs.size + 1) s.heap.objs.size 0 .none → h'.IsTupleIter s.heap.objs.size l 0 → h'.objs.size = s.heap.objs.size + 2 →
      (∀ b o, s.heap.get? b = some o → h'.get? b = some o) → Q (.ref (s.heap.objs.size + 1)) { s with heap := h' }) :
    wpAny (model prog w) A (call (.type "enumerate") [.ref l]) Q E s := by
  refine callType_new F.called_enumerate (by decide) (F.typeCall_enumerate_1 _) (F.newCall_enumerate_1 _) (fun obj => F.args_object_init_2 obj _) F.entry_enumerate_new
    (meets_enumerate_newT l items) ⟨hL, ?_⟩
  have hz : (s.heap.push { cls := .type "tuple_iterator", data := .fields #[.ref l, .int 0 0] }).objs.size = s.heap.objs.size + 1 := Heap.size_push ..
  show _ ∧ _
  rw [hz]
  have he : IsEnum ((s.heap.push { cls := .type "tuple_iterator", data := .fields #[.ref l, .int 0 0] }).push
      { cls := .type "enumerate", data := .fields #[.none, .bool false, .ref s.heap.objs.size, rawInt 0, .none, .none] }) (s.heap.objs.size + 1) s.heap.objs.size 0 .none := by
    have := Heap.get?_push_size (s.heap.push { cls := .type "tuple_iterator", data := .fields #[.ref l, .int 0 0] })
      (o := { cls := .type "enumerate", data := .fields #[.none, .bool false, .ref s.heap.objs.size, rawInt 0, .none, .none] }) rfl
    rw [hz] at this; exact this
  refine ⟨⟨_, he, rfl⟩, h _ he ⟨_, Heap.get?_push_of_some _ (Heap.get?_push_size _ rfl), rfl, rfl⟩ (by rw [Heap.size_push, hz]) fun b o x => Heap.get?_push_of_some _ (Heap.get?_push_of_some _ x)⟩
end
end PySem
namespace Own
open PySem PySem.Spec PyProof.Rows L2
/-- the tuple at a, each item in a new pair -/
def IteT (K : PySem.W.Frag) (a : Addr) : It :=
  ⟨fun i H => ∃ (xs : List V) (x : V), SqT K H a xs ∧ xs[i]? = some x, fun i H v H' => ∃ T x, v = .ref T ∧ H T = none ∧ H' = upd H T (.tup [.int (i : Nat), x]) ∧ ∀ xs, SqT K H a xs → xs[i]? = some x, fun i H => ∃ xs : List V, SqT K H a xs ∧ i = xs.length⟩
theorem turn_enumT {P : Program} {w : World} {K : PySem.W.Frag} {elts : List Expr} {kk : Nat} {tpos : Pos} (a e it : Addr) (its : Array Value) (hei : e ≠ it) (hea : e ≠ a) (hai : a ≠ it) :
    Turn P w K (.Tuple elts kk tpos) (IteT K a) [e, it] e (fun i h => (∃ old, IsEnum h e it ((i : Nat) : Int) old) ∧ h.IsTupleIter it a i) where
  mem := by simp
  obj := fun i h st b hb => by
    obtain ⟨⟨old, he⟩, ⟨o, ho, hc, hd⟩⟩ := st
    have e' : b = e ∨ b = it := by simpa using hb
    rcases e' with z | z
    · rw [z]; exact ⟨_, he, fun v q => nomatch q⟩
    · rw [z]; exact ⟨o, ho, fun v q => by rw [hd] at q; cases q⟩
  keep := fun i h h' st k => let ⟨⟨old, he⟩, hi⟩ := st; ⟨⟨old, k e (by simp) _ he⟩, hi.at fun o q => k it (by simp) o q⟩
  item := by
    intro X hP hw hK hc i pins s σ H E I hf st hg
    subst hP hw hK
    obtain ⟨⟨old, he⟩, hit⟩ := st
    obtain ⟨xs, x, hq, hx⟩ := hg
    obtain ⟨its, rv, p, hz⟩ := I.tuple hq
    obtain ⟨u, hu, ru⟩ := rv.get hx
    have hel : e < s.heap.objs.size := Heap.lt_size he
    have hil : it < s.heap.objs.size := by obtain ⟨_, q, _⟩ := hit; exact Heap.lt_size q
    have hlt : i < its.toArray.size := by
      rw [List.size_toArray]
      exact (List.getElem?_eq_some_iff.mp hu).1
    refine wpAny_pyNext_enum_itemD (Draws.tuple (A := X.A.in1) (I.ok.hd hc) it a hai its.toArray) he ⟨hit, p⟩ hlt hei (by simp [hei, hea]) fun v h' tk hv ho hit' hT hsz hk => ?_
    have ev : v = u := by
      have e1 : its[i]? = some v := by simpa using hv
      rw [hu] at e1
      exact (Option.some.inj e1).symm
    subst ev
    refine ⟨_, rfl, wpAny_letOwnedTupleGo_enum (s := { s with heap := h', toks := tk + 1 }) ho fun h'' he' sb => ?_⟩
    have hT2 : h''.get? s.heap.objs.size = some { cls := .type "tuple", data := .seq #[.int i tk, v] } := (sb.2 _ (Nat.ne_of_gt hel)).trans hT
    have new : ObjOk X.prog X.w (upd H s.heap.objs.size (.tup [.int (i : Nat), x])) h'' s.heap.objs.size (.tup [.int (i : Nat), x]) :=
      ⟨by show 2 ≤ sizeLine; decide, [.int i tk, v], .cons ⟨_, rfl⟩ (.cons ru .nil), ⟨_, hT2, rfl, _, rfl⟩⟩
    have I1 : Inv X pins σ (upd H s.heap.objs.size (.tup [.int (i : Nat), x])) { s with heap := h'', toks := tk + 1 } :=
      I.turnedNew (ch := [e, it]) (fun b ob hb q => (sb.2 b (fun z => hb (by simp [z]))).trans (hk b ob (fun z => hb (by simp [z])) (fun z => hb (by simp [z])) q)) hf (Nat.le_refl _) new
    refine ⟨.ref s.heap.objs.size, _, I1, rfl, ⟨_, x, rfl, I.hok.fresh (Nat.le_refl _), rfl, fun ys hy => by rw [I.tuple_inj hy hq]; exact hx⟩, ⟨⟨v, ?_⟩, hit'.1.at fun o q => (sb.2 it (Ne.symm hei)).trans q⟩, fun b hb => ?_⟩
    · have e1 : ((i + 1 : Nat) : Int) = (i : Int) + 1 := by omega
      rw [e1]; exact he'
    · have hb' : b < s.heap.objs.size := by
        have e' : b = e ∨ b = it := by simpa using hb
        rcases e' with z | z
        · rw [z]; exact hel
        · rw [z]; exact hil
      rw [upd_ne (Nat.ne_of_lt hb')]
      exact (hf b hb).1
  done := by
    intro X hP hw hK hc i pins s σ H E I hf st hg
    subst hP hw hK
    obtain ⟨⟨old, he⟩, hit⟩ := st
    obtain ⟨xs, hq, hx⟩ := hg
    obtain ⟨its, rv, p, hz⟩ := I.tuple hq
    obtain ⟨f0, f1, f2, f3, f4, f5⟩ := hf it (by simp)
    have hl : i = its.toArray.size := by rw [hx, rv.length]; simp
    subst hl
    exact wpAny_pyNext_enum_endD (Draws.tuple (A := X.A.in1) (I.ok.hd hc) it a hai its.toArray) he ⟨hit, p⟩ fun h' eb => ⟨rfl, I.turned (t' := s.toks) (fun b o hb q => eb b o hb q) f0 f1 f3 f4 f5⟩
  self := fun A i s Q E st h => let ⟨⟨_, he⟩, _⟩ := st; wpAny_pyIter_enum he h
def iEnumT (K : PySem.W.Frag) (ta : TA) : TI := fun σ H R => ta σ H fun vs H1 => ∃ a xs, vs = [.ref a] ∧ SqT K H1 a xs ∧ R (IteT K a) H1
theorem pi_enumT {X : Cx} {e : Expr} {ta : TA} {p pos tpos : Pos} {elts : List Expr} {kk : Nat} (hg : Gl X "enumerate") (hm : X.mg "enumerate" = none) (ha : PA X [e] ta) (hs : starEach [e] X.env = [(false, eval e X.env)] := by rfl) :
    PI X (.Tuple elts kk tpos) (.Call (.Name "enumerate" p) [e] [] pos) (iEnumT X.K ta) := by
  refine ⟨fun pins s σ H R I h => ?_⟩
  refine Call_ (ld_blt I hg hm boot_enumerate (PyProof.Rows.callWith_type1 (thn (ha.run pos pins s σ H _ I h) fun us s1 ⟨vs, H1, I1, r1, q1⟩ => ?_) hs rfl))
  obtain ⟨a, xs, ex, hq, q⟩ := q1
  subst ex
  cases r1 with
  | cons r rr =>
    cases rr
    cases r
    obtain ⟨its, rv, p', hz⟩ := I1.tuple hq
    have hal : a < s1.heap.objs.size := by obtain ⟨o, ho, _⟩ := p'; exact Heap.lt_size ho
    refine call_enumerate_tuple p' fun h' he hit hsz hk => wpAny_pyIter_enum he ?_
    have I2 : Inv X pins σ H1 { s1 with heap := h' } := I1.kept (t' := s1.toks) hk
    refine ⟨s1.heap.objs.size + 1, [s1.heap.objs.size + 1, s1.heap.objs.size], _, _, H1, rfl, I2, turn_enumT a (s1.heap.objs.size + 1) s1.heap.objs.size its.toArray (Nat.succ_ne_self _) (Nat.ne_of_gt (Nat.lt_succ_of_lt hal)) (Nat.ne_of_lt hal), ⟨⟨.none, he⟩, hit⟩, fun b hb => ?_, q⟩
    have e' : b = s1.heap.objs.size + 1 ∨ b = s1.heap.objs.size := by simpa using hb
    have hle : s1.heap.objs.size ≤ b := by
      rcases e' with z | z
      · rw [z]; exact Nat.le_add_right _ _
      · rw [z]; exact Nat.le_refl _
    exact I1.fpOk hle (I1.hok.fresh hle)
theorem walk_enumT {K : PySem.W.Frag} {a : Addr} {xs : List V} : Walk (IteT K a) xs.length (fun H => SqT K H a xs) (YPair (fun i => some (.int (i : Nat))) fun i => xs[i]?) :=
  ⟨fun i _ hi q => ⟨xs, xs[i], q, by simp [hi]⟩, fun _ q => ⟨xs, q, rfl⟩, fun i H v H' _ q y => by
    obtain ⟨T, x, e1, e2, e3, e4⟩ := y
    exact ⟨T, _, x, e1, e2, e3, rfl, e4 xs q⟩⟩
end Own
end

section
set_option maxRecDepth 100000
set_option maxHeartbeats 4000000
/-! What is walked; loops; comprehensions. -/
namespace Y
open PySem PySem.Spec PyProof.Rows L2
/-- within a comprehension nothing may be raised -/
def x0 : Xw := ⟨fun _ _ _ _ => False, fun _ _ => False⟩
theorem x0_ok {W : Wd} {H : Hp} {σ : L2.St} : x0.ok W H σ := fun _ _ _ _ _ z => z.elim
/-! ### writing what is one's own -/
section
variable {W : Wd} {H : Hp} {a : Addr} {p : List Nat} {o : HO}
theorem upd_mv (w : W a = .ow p) : Mv W H W (upd H a o) := by
  refine ⟨fun b u h => ?_, fun b vs v h => ?_, fun _ _ h => h⟩
  · have n : b ≠ a := fun e => h.no (by rw [e]; exact w)
    unfold RdW
    rw [upd_ne n]
    exact h
  · have n : b ≠ a := fun e => by rw [e, w] at v; cases v
    exact ⟨v, by rw [upd_ne n]; exact h⟩
theorem upd_go (w : W a = .ow p) : Go W H W (upd H a o) := ⟨fun b u h v => by
  have n : b ≠ a := fun e => by rw [e, w] at v; rcases v with v | v | v <;> cases v
  exact ⟨by rw [upd_ne n]; exact h, rfl⟩, fun _ _ h => h, fun _ h => h⟩
theorem upd_ok (ok : OKW W H) (w : W a = .ow p) (nt : NoTup o) : OKW W (upd H a o) := by
  have nf := nt.nf
  refine ⟨fun b φ h => ?_, fun b h => ?_, fun b q od v w h => ?_, fun b h => ?_, fun b od v w2 h => ?_, fun b vs h => ?_⟩
  · have n : b ≠ a := fun e => by rw [e, w] at h; cases h
    rw [upd_ne n]; exact ok.st b φ h
  · by_cases n : b = a
    · exact ⟨o, by rw [n, upd_same]⟩
    · rw [upd_ne n]; exact ok.al b h
  · by_cases n : b = a
    · rw [n, upd_same] at h; cases h; exact nf
    · rw [upd_ne n] at h; exact ok.nf b q od v w h
  · have n : b ≠ a := fun e => by rw [e, w] at h; cases h
    rw [upd_ne n]; exact ok.lk b h
  · have n : b ≠ a := fun e => by rw [e, w] at w2; cases w2
    rw [upd_ne n] at h; exact ok.fo b od v w2 h
  · by_cases n : b = a
    · rw [n, upd_same] at h; cases h; exact nt.elim
    · rw [upd_ne n] at h; exact ok.tp b vs h
/-- one's own is told under another path -/
theorem re_mv {p' : List Nat} (w : W a = .ow p) : Mv W H (setW W a (.ow p')) H := by
  refine ⟨fun b u h => ?_, fun b vs v h => ?_, fun b φ h => ?_⟩
  · have n : b ≠ a := fun e => h.no (by rw [e]; exact w)
    unfold RdW
    rw [setW_ne n]
    exact h
  · have n : b ≠ a := fun e => by rw [e, w] at v; cases v
    exact ⟨by rw [setW_ne n]; exact v, h⟩
  · have n : b ≠ a := fun e => by rw [e, w] at h; cases h
    rw [setW_ne n]; exact h
theorem re_ok {p' : List Nat} (ok : OKW W H) (w : W a = .ow p) : OKW (setW W a (.ow p')) H := by
  have ne : ∀ {b : Addr} {m : Md}, setW W a (.ow p') b = m → (∀ q, m ≠ .ow q) → W b = m := fun {b m} h nm => by
    by_cases n : b = a
    · rw [n, setW_same] at h; exact absurd h.symm (nm _)
    · rw [setW_ne n] at h; exact h
  refine ⟨fun b φ h => ok.st b φ (ne h fun _ z => by cases z), fun b h => ?_, fun b q od v h e => ?_, fun b h => ok.lk b (ne h fun _ z => by cases z), fun b od v h e => ok.fo b od v (ne h fun _ z => by cases z) e, fun b vs h => ?_⟩
  · by_cases n : b = a
    · rw [n]; exact ok.al a (by rw [w]; exact fun z => by cases z)
    · rw [setW_ne n] at h; exact ok.al b h
  · by_cases n : b = a
    · rw [n] at e; exact ok.nf a p od v w e
    · rw [setW_ne n] at h; exact ok.nf b q od v h e
  · have := ok.tp b vs h
    have n : b ≠ a := fun e => by rw [e, w] at this; cases this
    rw [setW_ne n]; exact this
end
variable {K : PySem.W.Frag}
section
variable {α β γ ρ : Type} {t : Ty α} {u : Ty β} {X : Xw} {k : Bool} {G : Ct}
/-- what is walked, from here -/
def EiAt (k : Bool) (wi : TI) (G : Ct) (W : Wd) (H : Hp) (σ : L2.St) (t : Ty α) (P : Ct → List α → Prop) : Prop :=
  ∀ (R : It → Hp → Prop), (∀ J W1 H1 G1 xs (Gh : Hp → Prop) (Y : Nat → Hp → V → Hp → Prop), P G1 xs → Mo k σ G W H G1 W1 H1 → Walk J xs.length Gh Y → (∀ W2 H2, Go W1 H1 W2 H2 → OKW W2 H2 → Gh H2) →
    (∀ W2 H2 i v H3, Go W1 H1 W2 H2 → OKW W2 H2 → i < xs.length → Y i H2 v H3 → ∃ x W3, xs[i]? = some x ∧ GoE W2 H2 W3 H3 ∧ OKW W3 H3 ∧ t.R W3 H3 v x) → R J H1) → wi σ H R
def Ei (X : Xw) (k : Bool) (wi : TI) (G : Ct) (t : Ty α) (P : Ct → List α → Prop) : Prop := ∀ W H σ, Holds G W H σ → X.ok W H σ → EiAt k wi G W H σ t P
theorem ei_list {te : TE} {P : Ct → List α → Prop} (h : Ev X k te G (tLs K t) P) : Ei X k (iList K te) G t P := fun W H σ hs ex R q => h W H σ _ hs ex fun v W1 H1 G1 xs p m r => by
  obtain ⟨a, vs, rfl, sq, pp⟩ := r
  refine ⟨a, rfl, ⟨vs, sq.l⟩, q _ W1 H1 G1 xs _ _ p m (by rw [← pp.length]; exact walk_list) (fun W2 H2 g2 ok2 => ?_) fun W2 H2 i v H3 g2 ok2 hi hy => ?_⟩
  · exact (sq.mv g2.mv).l
  · obtain ⟨rfl, hv⟩ := hy
    obtain ⟨x, hx, r⟩ := paired_getL pp hv
    exact ⟨x, W2, hx, .refl, ok2, t.mv r g2⟩
theorem ei_tup {te : TE} {P : Ct → List α → Prop} (h : Ev X k te G (tTu K t) P) : Ei X k (iTup K te) G t P := fun W H σ hs ex R q => h W H σ _ hs ex fun v W1 H1 G1 xs p m r => by
  obtain ⟨a, vs, rfl, sq, pp⟩ := r
  refine ⟨a, rfl, ⟨vs, sq.t⟩, q _ W1 H1 G1 xs _ _ p m (by rw [← pp.length]; exact walk_tup) (fun W2 H2 g2 ok2 => ?_) fun W2 H2 i v H3 g2 ok2 hi hy => ?_⟩
  · exact (sq.mv g2.mv).t
  · obtain ⟨rfl, hv⟩ := hy
    obtain ⟨x, hx, r⟩ := paired_getL pp hv
    exact ⟨x, W2, hx, .refl, ok2, t.mv r g2⟩
def chars (z : Str) : List Str := z.cps.toList.map fun c => ⟨#[c]⟩
def rangeZ (i j : Int) : List Int := (List.range (j - i).toNat).map fun (k : Nat) => i + (k : Int)
theorem rangeZ_len (i j : Int) : (rangeZ i j).length = (j - i).toNat := by unfold rangeZ; rw [List.length_map, List.length_range]
theorem rangeZ_get {i j : Int} {k : Nat} {x : Int} (h : (rangeZ i j)[k]? = some x) : x = i + k ∧ k < (j - i).toNat := by
  unfold rangeZ at h
  rw [List.getElem?_map] at h
  by_cases hk : k < (j - i).toNat
  · rw [List.getElem?_range hk] at h
    exact ⟨(Option.some.inj h).symm, hk⟩
  · rw [List.getElem?_eq_none (by rw [List.length_range]; omega)] at h
    cases h
theorem ei_range1 {te : TE} {P : Ct → List Int → Prop} (h : Ev X k te G tInt fun G n => (-(2 ^ 62) ≤ n ∧ n < 2 ^ 62) ∧ P G (rangeZ 0 n)) : Ei X k (iRng1 (tCons te tNil)) G tInt P := fun W H σ hs ex R q => h W H σ _ hs ex fun v W1 H1 G1 n ⟨⟨h1, h2⟩, p⟩ m r => by
  obtain rfl : v = .int n := r
  refine ⟨n, rfl, h1, h2, q _ W1 H1 G1 _ _ _ p m (by rw [rangeZ_len, Int.sub_zero]; exact walk_range) (fun _ _ _ _ => trivial) fun W2 H2 i v H3 g2 ok2 hi hy => ?_⟩
  obtain ⟨rfl, rfl⟩ := hy
  refine ⟨0 + i, W2, ?_, .refl, ok2, rfl⟩
  rw [rangeZ_len] at hi
  unfold rangeZ
  rw [List.getElem?_map, List.getElem?_range hi]
  rfl
def enumZ (xs : List α) : List (Int × α) := xs.zipIdx.map fun p => ((p.2 : Int), p.1)
theorem enumZ_len (xs : List α) : (enumZ xs).length = xs.length := by unfold enumZ; rw [List.length_map, List.length_zipIdx]
theorem enumZ_get (xs : List α) (i : Nat) : (enumZ xs)[i]? = xs[i]?.map fun x => ((i : Int), x) := by
  unfold enumZ
  rw [List.getElem?_map, List.getElem?_zipIdx, Option.map_map]
  simp
  rfl
theorem ei_enum {te : TE} {P : Ct → List (Int × α) → Prop} (h : Ev X k te G (tLs K t) fun G xs => P G (enumZ xs)) : Ei X k (iEnum K (tCons te tNil)) G (tT2 K tInt t) P := fun W H σ hs ex R q => h W H σ _ hs ex fun v W1 H1 G1 xs p m r => by
  obtain ⟨a, vs, rfl, sq, pp⟩ := r
  refine ⟨a, vs, rfl, sq.l, q _ W1 H1 G1 _ _ _ p m (by rw [enumZ_len, ← pp.length]; exact walk_enum) (fun W2 H2 g2 ok2 => ?_) fun W2 H2 i v H3 g2 ok2 hi hy => ?_⟩
  · exact (sq.mv g2.mv).l
  · obtain ⟨T, x, y, rfl, hT, rfl, hx, hy⟩ := hy
    cases hx
    obtain ⟨z, hz, r⟩ := paired_getL pp hy
    have gn := GoE.new (W := W2) (o := .tup [.int (i : Nat), y]) hT
    refine ⟨((i : Int), z), W2, by rw [enumZ_get, hz]; rfl, gn, ok2.new hT trivial, T, _, _, rfl, rdNew ok2 hT, rfl, t.mv r (g2.trans gn.go)⟩
/-! ### a path to a thing: it may be read again where all stands -/
def Ap (te : TE) (G : Ct) (t : Ty α) (P : α → Prop) : Prop := ∀ W H σ, Holds G W H σ → ∃ v x, P x ∧ t.R W H v x ∧ ∀ W' H' (Q : VK), Mv W H W' H' → OKW W' H' → Q v H' → te σ H' Q
/-- an item at a written place -/
def ApIx (r : R2) (n : Int) (T : Ty α) (u : Ty β) (get : α → β) : Prop := ∀ W H v x, T.R W H v x → ∃ w, u.R W H w (get x) ∧ ∀ W' H' (Q : VK), Mv W H W' H' → OKW W' H' → Q w H' → r v (.int n) H' Q
/-! ### an attribute of an instance -/
def FldOf (K : PySem.W.Frag) (f : Str) (T : Ty α) (u : Ty β) (get : α → β) : Prop := ∀ W H v x, T.R W H v x → ∃ a C dx fs w, v = .ref a ∧ RdW W H a (.ins C dx fs) ∧ Cls K C ∧ NoAttr K C f ∧ fs.lookup f = some w ∧ u.R W H w (get x)
theorem ev_fld {f : Str} {get : α → β} {te : TE} {P : Ct → β → Prop} (fo : FldOf K f t u get) (h : Ev X k te G t fun G x => P G (get x)) : Ev X k (tFld K te f) G u P := fun W H σ Q hs ex q => h W H σ _ hs ex fun v W1 H1 G1 x p m r => by
  obtain ⟨a, C, dx, fs, w, rfl, ha, c, n, l, r2⟩ := fo W1 H1 v x r
  exact ⟨a, C, dx, fs, w, rfl, m.hs.ok.exact ha (fun _ e => by cases e) (fun _ e => by cases e) (fun _ e => by cases e), c, n, l, q w W1 H1 G1 _ p m r2⟩
/-! ### a dict is locked, and opened again -/
/-- the context while a dict is locked, and behind it -/
def Ct.lk (G : Ct) : Ct := ⟨false, G.s, G.p⟩
def Ct.op (G : Ct) (n : Bool) : Ct := ⟨n, G.s, G.p⟩
end
/-! ### loops -/
section
variable {ρ α β : Type} {F : Fx ρ} {G : Ct} {N B C : Ct → Prop} {t : Ty α} {u : Ty β}
theorem for_core {wi : TI} {g : TG} {tb : TS} {vs : List Nat} {W0 : Wd} {H0 : Hp} {W : Wd} {H : Hp} {σ : L2.St} {D : Ends} (g0 : Go W0 H0 W H)
    (h : EiAt false wi G W H σ t fun G1 xs => ∃ V : Nat → Ct → Prop, V 0 G1 ∧ (∀ i x G', xs[i]? = some x → V i G' → Tg g G' t x vs fun G2 => Blk F tb G2 (V (i + 1)) N (V (i + 1))) ∧ ∀ G', V xs.length G' → N G')
    (n : ∀ G' W' H' σ', N G' → Go W0 H0 W' H' → Holds G' W' H' σ' → D.nx σ' H')
    (rt : ∀ v G' W' H' σ' x, F.rt G' x → Go W0 H0 W' H' → Holds G' W' H' σ' → F.r.R W' H' v x → D.rt v H')
    (ex : ∀ e d G' W' H' σ', F.X.xp G' e → Go W0 H0 W' H' → Holds G' W' H' σ' → ErAt W' H' e d → F.X.E (.ref e.C) d σ' H') : tFor wi g tb D σ H :=
  h _ fun J W1 H1 G1 xs Gh Y ⟨V, h0, ht, he⟩ m wk st yd => by
    refine for_it wk (fun i σ2 H2 => ∃ G2 W2, V i G2 ∧ Go W1 H1 W2 H2 ∧ Go W0 H0 W2 H2 ∧ Holds G2 W2 H2 σ2) ⟨G1, W1, h0, .refl, g0.trans m.go, m.hs⟩ (fun i σ2 H2 _ ⟨G2, W2, _, ga, _, hs2⟩ => st W2 H2 ga hs2.ok) ?_ ?_
    · rintro i v σ2 H2 H3 hi ⟨G2, W2, hv, ga, gb, hs2⟩ hy
      obtain ⟨x, W3, hx, g3, ok3, r⟩ := yd W2 H2 i v H3 ga hs2.ok hi hy
      refine ht i x G2 hx hv W3 H3 σ2 v _ (hs2.goE g3 ok3) r fun G4 σ4 hb hs4 _ _ => ?_
      refine hb W3 H3 W3 H3 σ4 _ .refl hs4 (fun G5 W5 H5 σ5 hv5 g5 hs5 => ⟨G5, W5, hv5, (ga.trans g3.go).trans g5, (gb.trans g3.go).trans g5, hs5⟩) (fun G5 W5 H5 σ5 hv5 g5 hs5 => n G5 W5 H5 σ5 hv5 ((gb.trans g3.go).trans g5) hs5)
        (fun G5 W5 H5 σ5 hv5 g5 hs5 => ⟨G5, W5, hv5, (ga.trans g3.go).trans g5, (gb.trans g3.go).trans g5, hs5⟩) (fun v5 G5 W5 H5 σ5 x5 hx5 g5 hs5 r5 => rt v5 G5 W5 H5 σ5 x5 hx5 ((gb.trans g3.go).trans g5) hs5 r5)
        (fun e d G5 W5 H5 σ5 hx5 g5 hs5 r5 => ex e d G5 W5 H5 σ5 hx5 ((gb.trans g3.go).trans g5) hs5 r5)
    · rintro σ2 H2 ⟨G2, W2, hv, ga, gb, hs2⟩
      exact n G2 W2 H2 σ2 (he G2 hv) gb hs2
theorem blk_for {wi : TI} {g : TG} {tb : TS} {vs : List Nat} (h : Ei F.X false wi G t fun G1 xs => ∃ V : Nat → Ct → Prop, V 0 G1 ∧
      (∀ i x G', xs[i]? = some x → V i G' → Tg g G' t x vs fun G2 => Blk F tb G2 (V (i + 1)) N (V (i + 1))) ∧ ∀ G', V xs.length G' → N G') : Blk F (tFor wi g tb) G N B C := fun W0 H0 W H σ D g0 hs n bk ct rt ex =>
  for_core g0 (h W H σ hs (exo ex g0)) n rt ex
/-- one reading or another -/
def tEither (a b : TS) : TS := fun D σ H => a D σ H ∨ b D σ H
def tEitherE (a b : TE) : TE := fun σ H Q => a σ H Q ∨ b σ H Q
/-- while: V tells the contexts, by a number that falls -/
theorem blk_while {c : TT} {tb : TS} (V : Nat → Ct → Prop) (m0 : Nat) (h0 : V m0 G) (ht : ∀ m G', V m G' → Et F.X false c G' fun G'' x => (x = true → Blk F tb G'' (fun G2 => ∃ m', m' < m ∧ V m' G2) N (fun G2 => ∃ m', m' < m ∧ V m' G2)) ∧ (x = false → N G'')) : Blk F (tWhile c tb) G N B C := fun W0 H0 W H σ D g0 hs n bk ct rt ex => by
  refine ⟨fun m σ2 H2 => ∃ G2 W2, V m G2 ∧ Go W0 H0 W2 H2 ∧ Holds G2 W2 H2 σ2, ⟨m0, G, W, h0, g0, hs⟩, ?_⟩
  rintro m σ2 H2 ⟨G2, W2, hv, gb, hs2⟩
  refine ht m G2 hv W2 H2 σ2 _ hs2 (exo ex gb) fun b W3 H3 G3 p m3 => ?_
  cases b with
  | false =>
    rw [if_neg Bool.false_ne_true]
    exact n G3 W3 H3 σ2 (p.2 rfl) (gb.trans m3.go) m3.hs
  | true =>
    rw [if_pos rfl]
    refine ⟨fun σ5 H5 => ∃ m', m' < m ∧ ∃ G5 W5, V m' G5 ∧ Go W0 H0 W5 H5 ∧ Holds G5 W5 H5 σ5, fun σ5 H5 ⟨m', hm, q⟩ => ⟨m', hm, q⟩, ?_⟩
    exact p.1 rfl W0 H0 W3 H3 σ2 _ (gb.trans m3.go) m3.hs (fun G5 W5 H5 σ5 ⟨m', hm, hv5⟩ g5 hs5 => ⟨m', hm, G5, W5, hv5, g5, hs5⟩) n (fun G5 W5 H5 σ5 ⟨m', hm, hv5⟩ g5 hs5 => ⟨m', hm, G5, W5, hv5, g5, hs5⟩) rt ex
end
end Y
end

section
set_option maxRecDepth 100000
set_option maxHeartbeats 4000000
/-! Comprehensions; one's own things looked at. -/
namespace Y
open PySem PySem.Spec PyProof.Rows L2
def Ct.wipe (G : Ct) : List Nat → Ct
  | [] => G
  | i :: is => (Ct.wipe G is).set i .un
theorem wipe_p (G : Ct) : ∀ is, (G.wipe is).p = G.p
  | [] => rfl
  | i :: is => wipe_p G is
def Ct.frees (G : Ct) (is : List Nat) : Prop := ∀ i ∈ is, G.free i
theorem Holds.wipe {G : Ct} {W : Wd} {H : Hp} {σ : L2.St} (h : Holds G W H σ) : ∀ is, G.frees is → Holds (G.wipe is) W H (L2.wipe σ is)
  | [], _ => h
  | i :: is, fr => (Holds.wipe h is fun j hj => fr j (List.mem_cons_of_mem _ hj)).setUn i none (by
      have := fr i List.mem_cons_self
      unfold Ct.free at this ⊢
      rw [wipe_p]
      exact this)
theorem wipe_get {σ : L2.St} {j : Nat} : ∀ {vs : List Nat}, j ∈ vs → j < σ.length → (L2.wipe σ vs)[j]? = some none
  | v :: vs, h, hl => by
    unfold L2.wipe
    by_cases e : v = j
    · subst e
      rw [List.getElem?_set_self (by rw [wipe_length]; exact hl)]
    · rw [List.getElem?_set_ne e]
      exact wipe_get ((List.mem_cons.mp h).resolve_left fun z => e z.symm) hl
theorem wipe_keep {σ : L2.St} {j : Nat} : ∀ {vs : List Nat}, j ∉ vs → (L2.wipe σ vs)[j]? = σ[j]?
  | [], _ => rfl
  | v :: vs, h => by
    unfold L2.wipe
    rw [List.getElem?_set_ne (fun e => h (by rw [e]; exact List.mem_cons_self))]
    exact wipe_keep fun z => h (List.mem_cons_of_mem _ z)
theorem wipe_same {σ σ2 : L2.St} {vs : List Nat} (hl : σ2.length = (L2.wipe σ vs).length) (h : ∀ i, i ∉ vs → σ2[i]? = (L2.wipe σ vs)[i]?) : L2.wipe σ2 vs = L2.wipe σ vs := by
  rw [wipe_length] at hl
  apply List.ext_getElem?
  intro i
  by_cases hi : i ∈ vs
  · by_cases q : i < σ.length
    · rw [wipe_get hi q, wipe_get hi (by omega)]
    · rw [List.getElem?_eq_none (by rw [wipe_length]; omega), List.getElem?_eq_none (by rw [wipe_length]; omega)]
  · rw [wipe_keep hi, wipe_keep hi, h i hi, wipe_keep hi]
/-- where a comprehension's list grows -/
def tmq : Nat := tmp + 1
theorem tmq_ne : tmq ≠ tmp := by decide
section
variable {K : PySem.W.Frag} {α β γ δ ρ : Type} {t : Ty α} {u : Ty β} {X : Xw} {k : Bool} {G : Ct}
theorem setW_go {W W1 : Wd} {H H1 : Hp} {D : Addr} {m : Md} (g : GoE W H W1 H1) (hD : H D = none) (st : ∀ φ, W1 D ≠ .st φ) (lk : m ≠ .lk) : GoE W H (setW W1 D m) H1 := ⟨fun b o e n r => by
    obtain ⟨e1, w1⟩ := g.k b o e n r
    exact ⟨e1, by rw [setW_ne (ne_of_none e hD)]; exact w1⟩, fun b φ h => by
    have := g.s b φ h
    have n : b ≠ D := fun z => by rw [z] at this; exact st φ this
    rw [setW_ne n]; exact this, fun b h => by
    by_cases n : b = D
    · rw [n, setW_same] at h; exact absurd h lk
    · rw [setW_ne n] at h; exact g.l b h⟩
theorem upd_goE {W W1 : Wd} {H H1 : Hp} {D : Addr} {o : HO} (g : GoE W H W1 H1) (hD : H D = none) : GoE W H W1 (upd H1 D o) := ⟨fun b u e n r => by
    obtain ⟨e1, w1⟩ := g.k b u e n r
    exact ⟨by rw [upd_ne (ne_of_none e hD)]; exact e1, w1⟩, g.s, g.l⟩
/-- a thing of one's own that grows, and stays as it is where it stands -/
theorem grown {W W1 : Wd} {H H1 : Hp} {D : Addr} {o : HO} (g : GoE W H W1 H1) (w : W D = .ow [tmq]) (h : H D = some o) : W1 D = .ow [tmq] ∧ H1 D = some o := by
  obtain ⟨a, b⟩ := g.own h w tmq_ne
  exact ⟨b, a⟩
theorem lc_core {wi : TI} {g : TG} {tt : TT} {te : TE} {vs : List Nat} {W : Wd} {H : Hp} {σ : L2.St} {Q : VK} {P : Ct → List β → Prop}
    (h : EiAt k wi G W H σ t fun G1 xs => ∃ I : Nat → List β → Prop, xs.length < sizeLine ∧ G1.frees vs ∧ I 0 [] ∧ (∀ i x ys, xs[i]? = some x → I i ys → Tg g (G1.wipe vs) t x vs fun G2 => Et x0 true tt G2 fun G3 b => (b = true → Ev x0 true te G3 u fun _ y => I (i + 1) (ys ++ [y])) ∧ (b = false → I (i + 1) ys)) ∧ ∀ ys, I xs.length ys → P G1 ys)
    (q : ∀ v W' H' G' x, P G' x → Mo k σ G W H G' W' H' → (oL K u).R [tmp] W' H' v x → Q v H') : tLc wi g tt te vs σ H Q :=
  h _ fun J W1 H1 G1 xs Gh Y ⟨I, hz, fr, i0, ht, he⟩ m wk st yd => fun D hD => by
    refine lc_it wk (fun i H2 => ∃ W2 us ys, GoE W1 H1 W2 H2 ∧ OKW W2 H2 ∧ W2 D = .ow [tmq] ∧ H2 D = some (.lst us) ∧ Paired (u.R W2 H2) us ys ∧ I i ys ∧ ys.length ≤ i) ?_ (fun i H2 _ ⟨W2, us, ys, ga, ok2, _⟩ => st W2 H2 ga.go ok2) ?_ ?_
    · obtain ⟨ga, ok1⟩ := newT m.hs.ok hD (o := .lst []) trivial
      have w1 : setW W1 D (.ow [tmp]) D = .ow [tmp] := setW_same
      exact ⟨setW (setW W1 D (.ow [tmp])) D (.ow [tmq]), [], [], setW_go ga hD (fun φ e => by rw [w1] at e; cases e) (fun e => by cases e), re_ok ok1 w1, setW_same, upd_same, .nil, i0, Nat.le_refl _⟩
    · rintro i v H2 H3 hi ⟨W2, us, ys, ga, ok2, wD, hD2, pp, hc, hl⟩ hy
      obtain ⟨x, W3, hx, g3, ok3, r⟩ := yd W2 H2 i v H3 ga.go ok2 hi hy
      have g13 := ga.trans g3
      have hs3 := (m.hs.goE g13 ok3).wipe vs fr
      refine ht i x ys hx hc W3 H3 _ v _ hs3 r fun G2 σ2 hG2 hs4 hl2 hk2 => ⟨wipe_same hl2 hk2, ?_⟩
      refine hG2 W3 H3 σ2 _ hs4 x0_ok fun b W4 H4 G4 hb m4 => ?_
      have g4 := (m4.kp rfl).1
      obtain ⟨wD3, hD3⟩ := grown g3 wD hD2
      obtain ⟨wD4, hD4⟩ := grown g4 wD3 hD3
      have pp4 := L2.Paired.mapP pp fun a c (z : u.R W2 H2 a c) => u.mvE z (g3.trans g4)
      cases b with
      | false =>
        rw [if_neg Bool.false_ne_true]
        exact ⟨W4, us, ys, g13.trans g4, m4.hs.ok, wD4, hD4, pp4, hb.2 rfl, by omega⟩
      | true =>
        rw [if_pos rfl]
        refine hb.1 rfl W4 H4 σ2 _ m4.hs x0_ok fun y W5 H5 G5 yv hyv m5 r5 => ?_
        have g5 := (m5.kp rfl).1
        obtain ⟨wD5, hD5⟩ := grown g5 wD4 hD4
        have pp5 := L2.Paired.mapP pp4 fun a c z => u.mvE z g5
        refine ⟨us, hD5, by rw [pp.length]; omega, ?_⟩
        have mv := upd_mv (H := H5) (o := .lst (us ++ [y])) wD5
        exact ⟨W5, us ++ [y], ys ++ [yv], upd_goE ((g13.trans g4).trans g5) hD, upd_ok m5.hs.ok wD5 trivial, wD5, upd_same, paired_snoc' (L2.Paired.mapP pp5 fun a c z => u.go z mv) (u.go r5 mv), hyv, by rw [List.length_append]; simp; omega⟩
    · rintro H2 ⟨W2, us, ys, ga, ok2, wD, hD2, pp, hc, hl⟩
      have ok3 := re_ok (p' := [tmp]) ok2 wD
      refine q _ (setW W2 D (.ow [tmp])) H2 G1 ys (he ys hc) (m.thenE (setW_go ga hD (fun φ e => by rw [wD] at e; cases e) fun e => by cases e) ok3) ⟨D, us, rfl, setW_same, hD2, ?_⟩
      exact L2.Paired.mapP pp fun a c z => u.go z (re_mv wD)
/-- [e for x in xs if c] -/
theorem ev_lc {wi : TI} {g : TG} {tt : TT} {te : TE} {vs : List Nat} {P : Ct → List β → Prop}
    (h : Ei X k wi G t fun G1 xs => ∃ I : Nat → List β → Prop, xs.length < sizeLine ∧ G1.frees vs ∧ I 0 [] ∧ (∀ i x ys, xs[i]? = some x → I i ys → Tg g (G1.wipe vs) t x vs fun G2 => Et x0 true tt G2 fun G3 b => (b = true → Ev x0 true te G3 u fun _ y => I (i + 1) (ys ++ [y])) ∧ (b = false → I (i + 1) ys)) ∧ ∀ ys, I xs.length ys → P G1 ys) :
    EvR X k (tLc wi g tt te vs) G (.ow (oL K u)) P := fun W H σ Q hs ex q => lc_core (h W H σ hs ex) q
/-! ### dict comprehensions -/
variable {κ : Type} [DecidableEq δ]
def mkD (ys : List (δ × β)) : List (δ × β) := ys.foldl (fun d p => putZ d p.1 p.2) []
theorem mkD_snoc (ys : List (δ × β)) (p : δ × β) : mkD (ys ++ [p]) = putZ (mkD ys) p.1 p.2 := by unfold mkD; rw [List.foldl_append]; rfl
theorem putZ_len (d : List (δ × β)) (k : δ) (x : β) : (putZ d k x).length ≤ d.length + 1 := by
  unfold putZ
  split
  · rw [List.length_map]; omega
  · rw [List.length_append]; simp
theorem mkD_len (ys : List (δ × β)) : (mkD ys).length ≤ ys.length := by
  have : ∀ (zs : List (δ × β)) (d : List (δ × β)), (zs.foldl (fun d p => putZ d p.1 p.2) d).length ≤ d.length + zs.length := by
    intro zs
    induction zs with
    | nil => intro d; simp
    | cons z zs ih =>
      intro d
      have := ih (putZ d z.1 z.2)
      have := putZ_len d z.1 z.2
      rw [List.foldl_cons, List.length_cons]
      omega
  have := this ys []
  unfold mkD
  simpa using this
theorem hasK_mem {d : List (δ × β)} {k : δ} : hasK d k = decide (k ∈ d.map (·.1)) := by
  unfold hasK lookK
  induction d with
  | nil => rfl
  | cons p d ih =>
    by_cases h : p.1 = k
    · rw [List.find?_cons_of_pos (by exact decide_eq_true h)]
      simp [h]
    · rw [List.find?_cons_of_neg (by simpa using h), ih]
      have : k ≠ p.1 := fun e => h e.symm
      simp [this]
theorem putZ_new {d : List (δ × β)} {k : δ} {x : β} (h : k ∉ d.map (·.1)) : putZ d k x = d ++ [(k, x)] := by
  unfold putZ
  rw [hasK_mem, decide_eq_false h, if_neg Bool.false_ne_true]
theorem mkD_nodup : ∀ {ys : List (δ × β)}, (ys.map (·.1)).Nodup → mkD ys = ys := by
  have : ∀ (zs d : List (δ × β)), ((d ++ zs).map (·.1)).Nodup → zs.foldl (fun d p => putZ d p.1 p.2) d = d ++ zs := by
    intro zs
    induction zs with
    | nil => intro d _; simp
    | cons z zs ih =>
      intro d h
      have hn : z.1 ∉ d.map (·.1) := by
        rw [List.map_append, List.map_cons, List.nodup_append] at h
        exact fun hm => h.2.2 _ hm _ List.mem_cons_self rfl
      rw [List.foldl_cons, putZ_new hn, ih (d ++ [z]) (by rw [List.append_assoc]; exact h), List.append_assoc]
      rfl
  intro ys h
  exact this ys [] h
theorem dc_it {J : It} {n : Nat} {G : Hp → Prop} {Y : Nat → Hp → V → Hp → Prop} (w : Walk J n G Y) {g : TG} {tt : TT} {tk tv : TE} {vs : List Nat} {σ : L2.St} {H1 : Hp} {D : Addr} {Qd : Hp → Prop} (Pv : Nat → Hp → Prop) (h0 : Pv 0 (upd H1 D (.dK []))) (hG : ∀ i H, i ≤ n → Pv i H → G H)
    (hs : ∀ i x H H', i < n → Pv i H → Y i H x H' → g x (L2.wipe σ vs) H' fun σ2 H2 => L2.wipe σ2 vs = L2.wipe σ vs ∧ tt σ2 H2 fun b H3 =>
      if b = true then tk σ2 H3 fun y H4 => tv σ2 H4 fun z H5 => ∃ kvs k, y = kV k ∧ H5 D = some (.dK kvs) ∧ kvs.length < sizeLine ∧ Pv (i + 1) (upd H5 D (.dK (putK kvs k z))) else Pv (i + 1) H3) (hd : ∀ H, Pv n H → Qd H) :
    ∃ W : Nat → Nat → Hp → Prop, (∃ m, W 0 m (upd H1 D (.dK []))) ∧ ∀ i m H, W i m H →
      (J.stop i H ∧ Qd H) ∨ (J.go i H ∧ ∃ Nx : Hp → Prop, (∀ H', Nx H' → ∃ m', m' < m ∧ W (i + 1) m' H') ∧ ∀ x H', J.yld i H x H' → g x (L2.wipe σ vs) H' fun σ2 H2 => L2.wipe σ2 vs = L2.wipe σ vs ∧ tt σ2 H2 fun b H3 =>
        if b = true then tk σ2 H3 fun y H4 => tv σ2 H4 fun z H5 => ∃ kvs k, y = kV k ∧ H5 D = some (.dK kvs) ∧ kvs.length < sizeLine ∧ Nx (upd H5 D (.dK (putK kvs k z))) else Nx H3) := by
  refine ⟨fun i m H => m = n - i ∧ i ≤ n ∧ Pv i H, ⟨n, by simp, Nat.zero_le _, h0⟩, ?_⟩
  rintro i m H ⟨rfl, hi, p⟩
  have q := hG i H hi p
  by_cases hlt : i < n
  · refine .inr ⟨w.goes i H hlt q, Pv (i + 1), fun H' p' => ⟨n - (i + 1), by omega, rfl, hlt, p'⟩, fun x H' y => hs i x H H' hlt p (w.yields i H x H' hlt q y)⟩
  · have e : i = n := by omega
    subst e
    exact .inl ⟨w.stops H q, hd H p⟩
theorem dc_core {ke : Ky δ} {tk : Ty δ} (ky : KyT ke tk) {wi : TI} {g : TG} {tt : TT} {tek tev : TE} {vs : List Nat} {W : Wd} {H : Hp} {σ : L2.St} {Q : VK} {P : Ct → List (δ × β) → Prop}
    (h : EiAt k wi G W H σ t fun G1 xs => ∃ I : Nat → List (δ × β) → Prop, xs.length < sizeLine ∧ G1.frees vs ∧ I 0 [] ∧ (∀ i x ys, xs[i]? = some x → I i ys → Tg g (G1.wipe vs) t x vs fun G2 => Et x0 true tt G2 fun G3 b => (b = true → Ev x0 true tek G3 tk fun G4 kk => Ev x0 true tev G4 u fun _ y => I (i + 1) (ys ++ [(kk, y)])) ∧ (b = false → I (i + 1) ys)) ∧ ∀ ys, I xs.length ys → P G1 (mkD ys))
    (q : ∀ v W' H' G' x, P G' x → Mo k σ G W H G' W' H' → (oD ke u).R [tmp] W' H' v x → Q v H') : tDc wi g tt tek tev vs σ H Q :=
  h _ fun J W1 H1 G1 xs Gh Y ⟨I, hz, fr, i0, ht, he⟩ m wk st yd => fun D hD => by
    refine dc_it wk (fun i H2 => ∃ W2 us ys, GoE W1 H1 W2 H2 ∧ OKW W2 H2 ∧ W2 D = .ow [tmq] ∧ H2 D = some (.dK us) ∧ Paired (fun (p : Key × V) q => p.1 = ke.k q.1 ∧ u.R W2 H2 p.2 q.2) us (mkD ys) ∧ I i ys ∧ ys.length ≤ i) ?_ (fun i H2 _ ⟨W2, us, ys, ga, ok2, _⟩ => st W2 H2 ga.go ok2) ?_ ?_
    · obtain ⟨ga, ok1⟩ := newT m.hs.ok hD (o := .dK []) trivial
      have w1 : setW W1 D (.ow [tmp]) D = .ow [tmp] := setW_same
      exact ⟨setW (setW W1 D (.ow [tmp])) D (.ow [tmq]), [], [], setW_go ga hD (fun φ e => by rw [w1] at e; cases e) (fun e => by cases e), re_ok ok1 w1, setW_same, upd_same, .nil, i0, Nat.le_refl _⟩
    · rintro i v H2 H3 hi ⟨W2, us, ys, ga, ok2, wD, hD2, pp, hc, hl⟩ hy
      obtain ⟨x, W3, hx, g3, ok3, r⟩ := yd W2 H2 i v H3 ga.go ok2 hi hy
      have g13 := ga.trans g3
      have hs3 := (m.hs.goE g13 ok3).wipe vs fr
      refine ht i x ys hx hc W3 H3 _ v _ hs3 r fun G2 σ2 hG2 hs4 hl2 hk2 => ⟨wipe_same hl2 hk2, ?_⟩
      refine hG2 W3 H3 σ2 _ hs4 x0_ok fun b W4 H4 G4 hb m4 => ?_
      have g4 := (m4.kp rfl).1
      obtain ⟨wD3, hD3⟩ := grown g3 wD hD2
      obtain ⟨wD4, hD4⟩ := grown g4 wD3 hD3
      have pp4 := L2.Paired.mapP pp fun (a : Key × V) (c : δ × β) (z : a.1 = ke.k c.1 ∧ u.R W2 H2 a.2 c.2) => (⟨z.1, u.mvE z.2 (g3.trans g4)⟩ : a.1 = ke.k c.1 ∧ u.R W4 H4 a.2 c.2)
      cases b with
      | false =>
        rw [if_neg Bool.false_ne_true]
        exact ⟨W4, us, ys, g13.trans g4, m4.hs.ok, wD4, hD4, pp4, hb.2 rfl, by omega⟩
      | true =>
        rw [if_pos rfl]
        refine hb.1 rfl W4 H4 σ2 _ m4.hs x0_ok fun y W5 H5 G5 kv hk m5 r5 => ?_
        refine hk W5 H5 σ2 _ m5.hs x0_ok fun z W6 H6 G6 zv hzv m6 r6 => ?_
        have g5 := (m5.kp rfl).1
        have g6 := (m6.kp rfl).1
        have ry := (ky.ok _ _ _ _).mp r5
        subst ry
        obtain ⟨wD5, hD5⟩ := grown g5 wD4 hD4
        obtain ⟨wD6, hD6⟩ := grown g6 wD5 hD5
        have pp6 := L2.Paired.mapP pp4 fun (a : Key × V) (c : δ × β) (z : a.1 = ke.k c.1 ∧ u.R W4 H4 a.2 c.2) => (⟨z.1, u.mvE z.2 (g5.trans g6)⟩ : a.1 = ke.k c.1 ∧ u.R W6 H6 a.2 c.2)
        refine ⟨us, ke.k kv, rfl, hD6, by rw [pp.length]; have := mkD_len ys; omega, ?_⟩
        have mv := upd_mv (H := H6) (o := .dK (putK us (ke.k kv) z)) wD6
        refine ⟨W6, _, ys ++ [(kv, zv)], upd_goE (((g13.trans g4).trans g5).trans g6) hD, upd_ok m6.hs.ok wD6 trivial, wD6, upd_same, ?_, hzv, by rw [List.length_append]; simp; omega⟩
        rw [mkD_snoc]
        exact put_paired kv (u.go r6 mv) (L2.Paired.mapP pp6 fun a c z => ⟨z.1, u.go z.2 mv⟩)
    · rintro H2 ⟨W2, us, ys, ga, ok2, wD, hD2, pp, hc, hl⟩
      have ok3 := re_ok (p' := [tmp]) ok2 wD
      refine q _ (setW W2 D (.ow [tmp])) H2 G1 (mkD ys) (he ys hc) (m.thenE (setW_go ga hD (fun φ e => by rw [wD] at e; cases e) fun e => by cases e) ok3) ⟨D, us, rfl, setW_same, hD2, ?_⟩
      exact L2.Paired.mapP pp fun a c z => ⟨z.1, u.go z.2 (re_mv wD)⟩
theorem ev_dc {ke : Ky δ} {tk : Ty δ} (ky : KyT ke tk) {wi : TI} {g : TG} {tt : TT} {tek tev : TE} {vs : List Nat} {P : Ct → List (δ × β) → Prop}
    (h : Ei X k wi G t fun G1 xs => ∃ I : Nat → List (δ × β) → Prop, xs.length < sizeLine ∧ G1.frees vs ∧ I 0 [] ∧ (∀ i x ys, xs[i]? = some x → I i ys → Tg g (G1.wipe vs) t x vs fun G2 => Et x0 true tt G2 fun G3 b => (b = true → Ev x0 true tek G3 tk fun G4 kk => Ev x0 true tev G4 u fun _ y => I (i + 1) (ys ++ [(kk, y)])) ∧ (b = false → I (i + 1) ys)) ∧ ∀ ys, I xs.length ys → P G1 (mkD ys)) :
    EvR X k (tDc wi g tt tek tev vs) G (.ow (oD ke u)) P := fun W H σ Q hs ex q => dc_core ky (h W H σ hs ex) q
end
/-! ### one's own things, looked at -/
def Sl.view : Sl → Sl
  | .ow O x => .sh O.sv x
  | s => s
def Ct.view (G : Ct) : Ct := ⟨G.n, G.s.map Sl.view, G.p⟩
/-- all of one's own is only looked at -/
def mView : Mp := ⟨fun _ => .vw, fun _ => none, fun _ _ h => (nomatch h), fun _ _ h => (nomatch h), fun _ => rfl⟩
section
variable {α : Type} {t : Ty α} {X : Xw} {k : Bool} {G : Ct}
theorem view_holds {W : Wd} {H : Hp} {σ : L2.St} (h : Holds G W H σ) : Holds G.view (enter mView W) H σ := by
  refine ⟨by rw [h.len]; show _ = (G.s.map _).length; rw [List.length_map], enter_ok h.ok, fun i s e h1 h2 => ?_, fun n b w => h.nl n b (enter_lk w), h.pn, by show (G.s.map _).length ≤ tmp; rw [List.length_map]; exact h.sm⟩
  have h1 : (G.s.map Sl.view)[i]? = some s := h1
  rw [List.getElem?_map] at h1
  obtain ⟨s0, e0, rfl⟩ := Option.map_eq_some_iff.mp h1
  have kk := h.sl i s0 e e0 h2
  cases s0 with
  | un => trivial
  | sh t x => obtain ⟨v, e, r⟩ := kk; exact ⟨v, e, t.go r enter_mv⟩
  | ow O x => obtain ⟨v, e, r⟩ := kk; exact ⟨v, e, O.fz r (fun b o q w e => ⟨enter_vw w rfl, e⟩) enter_mv⟩
theorem view_back {W W2 : Wd} {H H2 : Hp} {σ : L2.St} {G2 : Ct} (hs : Holds G W H σ) (m : Mo true σ G.view (enter mView W) H G2 W2 H2) : Mo k σ G W H G (leave mView W W2) H2 := by
  have g := (m.kp rfl).1
  have l := left hs.ok g.go m.hs.ok
  have e : GoE W H (leave mView W W2) H2 := ⟨fun b o e n _ => by
    cases w : W b with
    | ow p =>
      obtain ⟨h1, h2⟩ := l.own b p o w (fun _ z => nomatch z) e
      exact ⟨h2, h1⟩
    | st φ => exact absurd w (n φ)
    | sh => rw [← w]; exact l.go.k b o e (.inl w)
    | lk => rw [← w]; exact l.go.k b o e (.inr (.inl w))
    | fo => rw [← w]; exact l.go.k b o e (.inr (.inr w)), l.go.s, l.go.l⟩
  exact .goE hs e l.ok
theorem flS : FlatT tStr := fun _ _ _ _ _ _ h => h
theorem FlatR.back {W W2 : Wd} {H H2 : Hp} {m : Mp} {r : Rt α} {v : V} {x : α} (fl : FlatR r) (l : Left m W H W2 H2) (h : r.R W2 H2 v x) : r.R (leave m W W2) H2 v x := by
  cases r with
  | sh t => exact fl _ _ _ _ _ _ h
  | ow O => exact fl _ _ _ _ _ _ _ _ h fun b o q w e => ⟨l.tmp b q w, e⟩
/-- something flat, read of one's own things -/
theorem ev_view {r : Rt α} (fl : FlatR r) {te : TE} {P : Ct → α → Prop} (h : EvR ⟨X.E, fun _ e => X.xp G e ∧ e.fs = none⟩ true te G.view r fun _ x => P G x) : EvR X k te G r P := fun W H σ Q hs ex q =>
  h (enter mView W) H σ Q (view_holds hs) (fun e d W' H' G' ⟨p, fs⟩ g hs' r => by
    have l := left hs.ok g hs'.ok
    refine ex e d (leave mView W W') H' G p l.go ?_ ?_
    · refine ⟨hs.len, l.ok, fun i s z a b => (hs.sl i s z a b).mv (fun c o q w eo => l.own c _ o w (fun _ y => nomatch y) eo) l.go.mv, fun n b w => hs.nl n b (l.go.l b w), hs.pn, hs.sm⟩
    · unfold ErAt at r ⊢
      rw [fs] at r ⊢
      cases d with
      | none => trivial
      | some d => exact r.elim) fun v W2 H2 G2 x p m rr =>
    q v _ H2 G x p (view_back hs m) (fl.back (left hs.ok (m.kp rfl).1.go m.hs.ok) rr)
theorem et_view {tt : TT} {P : Ct → Bool → Prop} (h : Et x0 true tt G.view fun _ b => P G b) : Et X k tt G P := fun W H σ Q hs ex q =>
  h (enter mView W) H σ Q (view_holds hs) x0_ok fun b W2 H2 G2 p m => q b _ H2 G p (view_back hs m)
end
end Y
end

section
set_option maxRecDepth 100000
set_option maxHeartbeats 4000000
/-! Places: things of one's own that are written. -/
namespace Y
open PySem PySem.Spec PyProof.Rows L2
variable {K : PySem.W.Frag}
/-- what is not below q stands -/
def Out (q : List Nat) (W : Wd) (H : Hp) (W' : Wd) (H' : Hp) : Prop := ∀ b p o, W b = .ow p → ¬ q <+: p → H b = some o → W' b = .ow p ∧ H' b = some o
/-- a place that may be written: its new state is told by up -/
def Pw {α : Type} (te : TE) (G : Ct) (q : List Nat) (O : OT α) (x : α) (up : Sl → Ct) : Prop := Real q ∧ ∀ W H σ, Holds G W H σ → ∃ v, O.R q W H v x ∧ (∀ (Q : VK), Q v H → te σ H Q) ∧
  ∀ W1 H1, GoE W H W1 H1 → OKW W1 H1 → ∀ W' H' (s : Sl), OKW W' H' → Go W1 H1 W' H' → Out q W1 H1 W' H' → s.at q W' H' v → Holds (up s) W' H' σ
theorem pw_var {α : Type} {G : Ct} {i : Nat} {O : OT α} {x : α} (e : G.s[i]? = some (.ow O x)) (hl : i < tmp) : Pw (tVar i) G [i] O x (fun s => G.set i s) := ⟨⟨i, [], rfl, Nat.ne_of_lt hl⟩, fun W H σ hs => by
  obtain ⟨v, e1, r⟩ := hs.own e
  refine ⟨v, r, fun Q q => ⟨v, e1, q⟩, fun W1 H1 g ok1 W' H' s ok' g' out sa => ?_⟩
  have hs1 := hs.goE g ok1
  refine ⟨by show σ.length = (G.s.set i s).length; rw [List.length_set]; exact hs.len, ok', fun j s' z (h1 : (G.s.set i s)[j]? = some s') h2 => ?_, fun n b w => hs1.nl n b (g'.l b w), hs.pn, by show (G.s.set i s).length ≤ tmp; rw [List.length_set]; exact hs.sm⟩
  rcases set_key h1 with ⟨rfl, rfl⟩ | ⟨n1, g1⟩
  · rw [e1] at h2
    cases h2
    exact .of sa
  · exact (hs1.sl j s' z g1 h2).mv (fun b o q w eo => out b _ o w (fun ⟨r, z⟩ => n1 (List.cons.inj z).1.symm) eo) g'.mv⟩
/-! ### attributes of an instance of one's own -/
inductive FdsR (p : List Nat) (W : Wd) (H : Hp) : Nat → List (Str × V) → List (Str × Sl) → Prop where
  | nil {n : Nat} : FdsR p W H n [] []
  | cons {n : Nat} {f : Str} {v : V} {s : Sl} {vs : List (Str × V)} {ss : List (Str × Sl)} : s.at (p ++ [n]) W H v → FdsR p W H (n + 1) vs ss → FdsR p W H n ((f, v) :: vs) ((f, s) :: ss)
theorem FdsR.imp {p p' : List Nat} {W W' : Wd} {H H' : Hp} {n : Nat} {vs : List (Str × V)} {ss : List (Str × Sl)} (h : FdsR p W H n vs ss) (f : ∀ j v s, n ≤ j → s.at (p ++ [j]) W H v → (∃ i nm, ss[i]? = some (nm, s) ∧ vs[i]? = some (nm, v) ∧ j = n + i) → s.at (p' ++ [j]) W' H' v) : FdsR p' W' H' n vs ss := by
  induction h with
  | nil => exact .nil
  | cons r _ ih => exact .cons (f _ _ _ (Nat.le_refl _) r ⟨0, _, rfl, rfl, rfl⟩) (ih fun j v s hj r ⟨i, nm, e1, e2, e3⟩ => f j v s (by omega) r ⟨i + 1, nm, e1, e2, by omega⟩)
theorem Sl.at_mv {s : Sl} {p p' : List Nat} {W W' : Wd} {H H' : Hp} {v : V} (h : s.at p W H v) (k : ∀ b o q, W b = .ow (p ++ q) → H b = some o → W' b = .ow (p' ++ q) ∧ H' b = some o) (m : Mv W H W' H') : s.at p' W' H' v := by
  cases s with
  | un => trivial
  | sh t x => exact t.go h m
  | ow O x => exact O.mv h k m
theorem Sl.at_fz {s : Sl} {p : List Nat} {W W' : Wd} {H H' : Hp} {v : V} (h : s.at p W H v) (k : ∀ b o q, W b = .ow (p ++ q) → H b = some o → W' b = .sh ∧ H' b = some o) (m : Mv W H W' H') : s.view.at p W' H' v := by
  cases s with
  | un => trivial
  | sh t x => exact t.go h m
  | ow O x => exact O.fz h k m
/-- an instance that is shared: its attributes by name -/
def tIns (C : Addr) (fl : List (Str × Sl)) : Ty Unit := ⟨fun W H v _ => ∃ a dx vs, v = .ref a ∧ RdW W H a (.ins C dx vs) ∧ FdsR [] W H 0 vs (fl.map fun p => (p.1, p.2.view)), by
  rintro W W' H H' v _ ⟨a, dx, vs, e, h, r⟩ m
  refine ⟨a, dx, vs, e, m.rd _ _ h, r.imp fun j v s _ r ⟨i, nm, e1, _⟩ => ?_⟩
  rw [List.getElem?_map] at e1
  obtain ⟨⟨z1, z2⟩, _, e2⟩ := Option.map_eq_some_iff.mp e1
  cases e2
  cases z2 with
  | un => trivial
  | sh t x => exact t.go r m
  | ow O x => exact O.sv.go r m⟩
theorem fds_view {p : List Nat} {W W' : Wd} {H H' : Hp} {n : Nat} {vs : List (Str × V)} {ss : List (Str × Sl)} (h : FdsR p W H n vs ss) (k : ∀ b o q, W b = .ow (p ++ q) → H b = some o → W' b = .sh ∧ H' b = some o) (m : Mv W H W' H') : FdsR [] W' H' n vs (ss.map fun p => (p.1, p.2.view)) := by
  induction h with
  | nil => exact .nil
  | @cons n f v s vs ss r _ ih =>
    refine .cons ?_ ih
    have := Sl.at_fz r (fun b o q w e => k b o (n :: q) (by rw [w, List.append_assoc]; rfl) e) m
    cases s with
    | un => trivial
    | sh t x => exact this
    | ow O x => exact this
def oIns (C : Addr) (fl : List (Str × Sl)) : OT Unit where
  R p W H v _ := ∃ a dx vs, v = .ref a ∧ W a = .ow p ∧ H a = some (.ins C dx vs) ∧ FdsR p W H 0 vs fl
  sv := tIns C fl
  mv := by
    rintro p p' W W' H H' v _ ⟨a, dx, vs, e, w, h, r⟩ k m
    obtain ⟨w1, h1⟩ := k a _ [] (by rw [List.append_nil]; exact w) h
    refine ⟨a, dx, vs, e, by rw [List.append_nil] at w1; exact w1, h1, r.imp fun j v s _ r _ => Sl.at_mv r (fun b o q w e => ?_) m⟩
    have := k b o ([j] ++ q) (by rw [← List.append_assoc]; exact w) e
    rwa [← List.append_assoc] at this
  fz := by
    rintro p W W' H H' v _ ⟨a, dx, vs, e, w, h, r⟩ k m
    obtain ⟨w1, h1⟩ := k a _ [] (by rw [List.append_nil]; exact w) h
    exact ⟨a, dx, vs, e, .inl ⟨w1, h1⟩, fds_view r k m⟩
theorem lookup_at {vs : List (Str × V)} {ss : List (Str × Sl)} {p : List Nat} {W : Wd} {H : Hp} {n : Nat} (h : FdsR p W H n vs ss) {f : Str} : ∀ {j : Nat} {s : Sl}, ss[j]? = some (f, s) → (ss.map (·.1)).idxOf f = j → ∃ v, vs.lookup f = some v ∧ s.at (p ++ [n + j]) W H v ∧ vs[j]? = some (f, v) := by
  induction h with
  | nil => intro j s h; simp at h
  | @cons n g v s0 vs ss r _ ih =>
    intro j s h1 h2
    rw [List.map_cons, List.idxOf_cons] at h2
    by_cases e : g = f
    · subst e
      rw [show (g == g) = true from beq_self_eq_true g] at h2
      simp only [cond_true] at h2
      subst h2
      cases h1
      exact ⟨v, by rw [List.lookup_cons, show (g == g) = true from beq_self_eq_true g], r, rfl⟩
    · have ne : (g == f) = false := beq_eq_false_iff_ne.mpr e
      rw [ne] at h2
      simp only [cond_false] at h2
      cases j with
      | zero => cases h1; exact absurd rfl e
      | succ j =>
        obtain ⟨w, l, r2, l2⟩ := ih (j := j) h1 (by omega)
        refine ⟨w, ?_, by rw [show n + (j + 1) = n + 1 + j from by omega]; exact r2, l2⟩
        rw [List.lookup_cons, show (f == g) = false from beq_eq_false_iff_ne.mpr fun z => e z.symm]
        exact l
theorem FdsR.set {p : List Nat} {W W' : Wd} {H H' : Hp} {n : Nat} {vs : List (Str × V)} {ss : List (Str × Sl)} {f : Str} {s' : Sl} {v : V} (h : FdsR p W H n vs ss) : ∀ {j : Nat} {s : Sl}, ss[j]? = some (f, s) → vs[j]? = some (f, v) → (∀ i u z, i ≠ n + j → z.at (p ++ [i]) W H u → Sl.at z (p ++ [i]) W' H' u) → s'.at (p ++ [n + j]) W' H' v → FdsR p W' H' n vs (ss.set j (f, s')) := by
  induction h with
  | nil => intro j s h; simp at h
  | @cons n g u z vs ss r t ih =>
    intro j s h1 h2 k sa
    cases j with
    | zero =>
      cases h1
      cases h2
      refine .cons sa (t.imp fun i u z hi r _ => k i u z (by omega) r)
    | succ j => exact .cons (k n _ _ (by omega) r) (ih (j := j) h1 h2 (fun i u z hi => k i u z (by omega)) (by rw [show n + 1 + j = n + (j + 1) from by omega]; exact sa))
/-- an attribute of what hangs at a place -/
theorem pw_fld {α : Type} {G : Ct} {te : TE} {q : List Nat} {C : Addr} {fl : List (Str × Sl)} {up : Sl → Ct} {j : Nat} {f : Str} {O : OT α} {x : α} (c : Cls K C) (na : NoAttr K C f) (hj : fl[j]? = some (f, .ow O x)) (hi : (fl.map (·.1)).idxOf f = j) (pw : Pw te G q (oIns C fl) () up) :
    Pw (tFld K te f) G (q ++ [j]) O x (fun s => up (.ow (oIns C (fl.set j (f, s))) ())) := by
  obtain ⟨⟨i, r, rfl, ni⟩, pw⟩ := pw
  refine ⟨⟨i, r ++ [j], rfl, ni⟩, fun W H σ hs => ?_⟩
  obtain ⟨v, ⟨a, dx, vs, rfl, wa, ha, fr⟩, ev, k⟩ := pw W H σ hs
  obtain ⟨u, lu, ru, gu⟩ := lookup_at fr hj hi
  rw [Nat.zero_add] at ru
  refine ⟨u, ru, fun Q h => ev _ ⟨a, C, dx, vs, u, rfl, ha, c, na, lu, h⟩, fun W1 H1 g ok1 W' H' s ok' g' out sa => ?_⟩
  have np : ¬ (i :: r) ++ [j] <+: i :: r := fun z => by have := z.length_le; rw [List.length_append] at this; simp only [List.length_cons, List.length_nil] at this; omega
  obtain ⟨h1, w1⟩ := g.own ha wa ni
  obtain ⟨w2, h2⟩ := out a _ _ w1 np h1
  refine k W1 H1 g ok1 W' H' _ ok' g' (fun b p o w n e => out b p o w (fun ⟨r2, z⟩ => n ⟨[j] ++ r2, by rw [← List.append_assoc]; exact z⟩) e) ?_
  have fr1 : FdsR (i :: r) W1 H1 0 vs fl := fr.imp fun m v s _ r2 _ => Sl.at_mv r2 (fun b o q w e => by
    obtain ⟨e1, e2⟩ := g.own e w ni
    exact ⟨e2, e1⟩) g.go.mv
  refine ⟨a, dx, vs, rfl, w2, h2, fr1.set hj gu (fun m u z hm r2 => Sl.at_mv r2 (fun b o q w e => out b _ o w (fun ⟨r3, z⟩ => hm ?_) e) g'.mv) (by rw [Nat.zero_add]; exact sa)⟩
  have z2 : (i :: r) ++ ([j] ++ r3) = (i :: r) ++ ([m] ++ q) := by rw [← List.append_assoc, ← List.append_assoc]; exact z
  have := List.append_cancel_left z2
  rw [Nat.zero_add]
  exact (List.cons.inj this).1.symm
/-! ### lists of lists of one's own -/
def oLO (K : PySem.W.Frag) {α : Type} (O : OT α) : OT (List α) where
  R p W H v xs := ∃ a vs, v = .ref a ∧ W a = .ow p ∧ H a = some (.lst vs) ∧ vs.length = xs.length ∧ ∀ (k : Nat) u x, vs[k]? = some u → xs[k]? = some x → O.R (p ++ [k]) W H u x
  sv := tLs K O.sv
  mv := by
    rintro p p' W W' H H' v xs ⟨a, vs, e, w, h, l, r⟩ kk m
    obtain ⟨w1, h1⟩ := kk a _ [] (by rw [List.append_nil]; exact w) h
    refine ⟨a, vs, e, by rw [List.append_nil] at w1; exact w1, h1, l, fun k u x hu hx => O.mv (r k u x hu hx) (fun b o q w e => ?_) m⟩
    have := kk b o ([k] ++ q) (by rw [← List.append_assoc]; exact w) e
    rwa [← List.append_assoc] at this
  fz := by
    rintro p W W' H H' v xs ⟨a, vs, e, w, h, l, r⟩ kk m
    obtain ⟨w1, h1⟩ := kk a _ [] (by rw [List.append_nil]; exact w) h
    refine ⟨a, vs, e, ⟨w1, h1⟩, ?_⟩
    have : ∀ (ys : List V) (zs : List α) (n : Nat), ys.length = zs.length → (∀ (k : Nat) u x, ys[k]? = some u → zs[k]? = some x → O.R (p ++ [n + k]) W H u x) → Paired (O.sv.R W' H') ys zs := by
      intro ys
      induction ys with
      | nil => intro zs n hl _; cases zs with
        | nil => exact .nil
        | cons _ _ => cases hl
      | cons y ys ih => intro zs n hl hr; cases zs with
        | nil => cases hl
        | cons z zs =>
          refine .cons (O.fz (hr 0 y z rfl rfl) (fun b o q w e => kk b o ([n + 0] ++ q) (by rw [← List.append_assoc]; exact w) e) m) (ih zs (n + 1) (Nat.succ.inj hl) fun k u x hu hx => ?_)
          have := hr (k + 1) u x hu hx
          rwa [show n + (k + 1) = n + 1 + k from by omega] at this
    exact this vs xs 0 l fun k u x hu hx => by rw [Nat.zero_add]; exact r k u x hu hx
/-! ### what is done to a place -/
section
variable {α ρ : Type} {F : Fx ρ} {G : Ct} {N B C : Ct → Prop} {t : Ty α} {X : Xw}
/-- a place whose kind stays -/
def Pt {α : Type} (te : TE) (G : Ct) (q : List Nat) (O : OT α) (x : α) (up : α → Ct) : Prop := Real q ∧ ∀ W H σ, Holds G W H σ → ∃ v, O.R q W H v x ∧ (∀ (Q : VK), Q v H → te σ H Q) ∧
  ∀ W1 H1, GoE W H W1 H1 → OKW W1 H1 → ∀ W' H' y, OKW W' H' → Go W1 H1 W' H' → Out q W1 H1 W' H' → O.R q W' H' v y → Holds (up y) W' H' σ
theorem Pw.pt {te : TE} {q : List Nat} {O : OT α} {x : α} {up : Sl → Ct} (h : Pw te G q O x up) : Pt te G q O x (fun y => up (.ow O y)) := ⟨h.1, fun W H σ hs => by
  obtain ⟨v, r, f, k⟩ := h.2 W H σ hs
  exact ⟨v, r, f, fun W1 H1 g ok1 W' H' y ok' g' out r => k W1 H1 g ok1 W' H' (.ow O y) ok' g' out r⟩⟩
theorem pt_var {i : Nat} {O : OT α} {x : α} (e : G.s[i]? = some (.ow O x)) (hl : i < tmp) : Pt (tVar i) G [i] O x (fun y => G.set i (.ow O y)) := (pw_var e hl).pt
theorem out_upd {W : Wd} {H : Hp} {a : Addr} {o : HO} {q : List Nat} (w : W a = .ow q) : Out q W H W (upd H a o) := fun b p u wb n e => by
  have m : b ≠ a := fun z => n (by rw [z, w] at wb; cases wb; exact List.prefix_rfl)
  exact ⟨wb, by rw [upd_ne m]; exact e⟩
/-- a list at a place, before it is written -/
theorem Pt.list {te : TE} {q : List Nat} {xs : List α} {up : List α → Ct} (h : Pt te G q (oL K t) xs up) {W : Wd} {H : Hp} {σ : L2.St} (hs : Holds G W H σ) : ∃ a vs, (∀ (Q : VK), Q (.ref a) H → te σ H Q) ∧ W a = .ow q ∧ H a = some (.lst vs) ∧
    ∀ W1 H1, GoE W H W1 H1 → OKW W1 H1 → W1 a = .ow q ∧ H1 a = some (.lst vs) ∧ Paired (t.R W1 H1) vs xs ∧ ∀ vs' ys, Paired (t.R W1 H1) vs' ys → Go W1 H1 W1 (upd H1 a (.lst vs')) ∧ Holds (up ys) W1 (upd H1 a (.lst vs')) σ := by
  obtain ⟨⟨i, r, rfl, ni⟩, h⟩ := h
  obtain ⟨v, ⟨a, vs, rfl, wa, ha, pp⟩, f, k⟩ := h W H σ hs
  refine ⟨a, vs, f, wa, ha, fun W1 H1 g ok1 => ?_⟩
  obtain ⟨h1, w1⟩ := g.own ha wa ni
  refine ⟨w1, h1, L2.Paired.mapP pp fun _ _ r => t.mvE r g, fun vs' ys p2 => ?_⟩
  have mv := upd_mv (H := H1) (o := .lst vs') w1
  exact ⟨upd_go w1, k W1 H1 g ok1 W1 _ ys (upd_ok ok1 w1 trivial) (upd_go w1) (out_upd w1) ⟨a, vs', rfl, w1, upd_same, L2.Paired.mapP p2 fun _ _ r => t.go r mv⟩⟩
/-- xs.append(e) -/
theorem blk_append {te ta : TE} {q : List Nat} {xs : List α} {up : List α → Ct} (pt : Pt te G q (oL K t) xs up) (h : Ev F.X true ta G t fun _ x => xs.length < sizeLine ∧ N (up (xs ++ [x]))) : Blk F (tDrop (tBM K "list" rAppend te (tCons ta tNil))) G N B C := fun W0 H0 W H σ D g hs n _ _ _ ex => by
  obtain ⟨a, vs, f, wa, ha, k⟩ := pt.list hs
  refine f _ ⟨.inl ⟨rfl, _, SqL.of ha⟩, h W H σ _ hs (exo ex g) fun v W1 H1 G1 x ⟨hl, hn⟩ m r => ?_⟩
  obtain ⟨w1, h1, pp, k2⟩ := k W1 H1 (m.kp rfl).1 m.hs.ok
  obtain ⟨g2, hs2⟩ := k2 (vs ++ [v]) (xs ++ [x]) (paired_snoc' pp r)
  exact ⟨a, vs, v, rfl, rfl, h1, by rw [pp.length]; exact hl, n _ _ _ _ hn ((g.trans m.go).trans g2) hs2⟩
/-- xs.clear(), xs.reverse() -/
theorem blk_clear {te : TE} {q : List Nat} {xs : List α} {up : List α → Ct} (pt : Pt te G q (oL K t) xs up) (h : N (up [])) : Blk F (tDrop (tBM0 K "list" rClear te)) G N B C := fun W0 H0 W H σ D g hs n _ _ _ ex => by
  obtain ⟨a, vs, f, wa, ha, k⟩ := pt.list hs
  obtain ⟨w1, h1, pp, k2⟩ := k W H .refl hs.ok
  obtain ⟨g2, hs2⟩ := k2 [] [] .nil
  exact f _ ⟨.inl ⟨rfl, _, SqL.of ha⟩, a, vs, rfl, rfl, ha, n _ _ _ _ h (g.trans g2) hs2⟩
end
section
variable {α κ ρ : Type} {F : Fx ρ} {G : Ct} {N B C : Ct → Prop} {t : Ty α} {X : Xw} {ke : Ky κ} {tk : Ty κ} [DecidableEq κ]
/-- a dict at a place, before it is written -/
theorem Pt.dict {te : TE} {q : List Nat} {xs : List (κ × α)} {up : List (κ × α) → Ct} (h : Pt te G q (oD ke t) xs up) {W : Wd} {H : Hp} {σ : L2.St} (hs : Holds G W H σ) : ∃ a ws, (∀ (Q : VK), Q (.ref a) H → te σ H Q) ∧ W a = .ow q ∧ H a = some (.dK ws) ∧
    ∀ W1 H1, GoE W H W1 H1 → OKW W1 H1 → W1 a = .ow q ∧ H1 a = some (.dK ws) ∧ Paired (fun (p : Key × V) (q : κ × α) => p.1 = ke.k q.1 ∧ t.R W1 H1 p.2 q.2) ws xs ∧ ∀ ws' ys, Paired (fun (p : Key × V) (q : κ × α) => p.1 = ke.k q.1 ∧ t.R W1 H1 p.2 q.2) ws' ys → Go W1 H1 W1 (upd H1 a (.dK ws')) ∧ Holds (up ys) W1 (upd H1 a (.dK ws')) σ := by
  obtain ⟨⟨i, r, rfl, ni⟩, h⟩ := h
  obtain ⟨v, ⟨a, ws, rfl, wa, ha, pp⟩, f, k⟩ := h W H σ hs
  refine ⟨a, ws, f, wa, ha, fun W1 H1 g ok1 => ?_⟩
  obtain ⟨h1, w1⟩ := g.own ha wa ni
  refine ⟨w1, h1, L2.Paired.mapP pp fun _ _ r => ⟨r.1, t.mvE r.2 g⟩, fun ws' ys p2 => ?_⟩
  have mv := upd_mv (H := H1) (o := .dK ws') w1
  exact ⟨upd_go w1, k W1 H1 g ok1 W1 _ ys (upd_ok ok1 w1 trivial) (upd_go w1) (out_upd w1) ⟨a, ws', rfl, w1, upd_same, L2.Paired.mapP p2 fun _ _ r => ⟨r.1, t.go r.2 mv⟩⟩⟩
/-- d[k] = v, a place that stands by itself -/
theorem blk_dput {td ty tv : TE} {q : List Nat} {xs : List (κ × α)} {up : List (κ × α) → Ct} (ky : KyT ke tk) (pt : Pt td G q (oD ke t) xs up) (h : Ev F.X true tv G t fun G x => Ev F.X true ty G tk fun _ k => xs.length < sizeLine ∧ N (up (putZ xs k x))) : Blk F (sDPut td ty tv) G N B C := fun W0 H0 W H σ D g hs n _ _ _ ex =>
  h W H σ _ hs (exo ex g) fun v W1 H1 G1 x p m r => by
    obtain rfl : G1 = G := (m.kp rfl).2
    obtain ⟨a, ws, f, wa, ha, k⟩ := pt.dict m.hs
    refine f _ (p W1 H1 σ _ m.hs ((exo ex g).mv m.go) fun y W2 H2 G2 kk ⟨hl, hn⟩ m2 rk => ?_)
    have rk := (ky.ok _ _ _ _).mp rk
    subst rk
    obtain ⟨w2, h2, pp, k2⟩ := k W2 H2 (m2.kp rfl).1 m2.hs.ok
    obtain ⟨g2, hs2⟩ := k2 (putK ws (ke.k kk) v) (putZ xs kk x) (put_paired kk (t.mv r m2.go) pp)
    exact ⟨a, _, rfl, .inl ⟨ws, ke.k kk, h2, rfl, by rw [pp.length]; exact hl, rfl⟩, n _ _ _ _ hn (((g.trans m.go).trans m2.go).trans g2) hs2⟩
def dropZ (xs : List (κ × α)) (k : κ) : List (κ × α) := xs.filter fun p => !decide (p.1 = k)
end
/-! ### a slot told anew -/
section
variable {α β ρ : Type} {F : Fx ρ} {G : Ct} {N B C : Ct → Prop} {t : Ty α} {u : Ty β}
theorem blk_reO {ts : TS} {i : Nat} {O : OT α} {O' : OT β} {x : α} {y : β} (hi : G.s[i]? = some (.ow O x)) (f : ∀ p W H v, O.R p W H v x → O'.R p W H v y) (h : Blk F ts (G.set i (.ow O' y)) N B C) : Blk F ts G N B C := fun W0 H0 W H σ D g hs n bk ct rt ex => by
  obtain ⟨v, e, r⟩ := hs.own hi
  exact h W0 H0 W H σ D g (hs.tell i fun e2 h2 => by rw [e] at h2; cases h2; exact ⟨v, rfl, f [i] W H v r⟩) n bk ct rt ex
theorem Holds.forgets {W : Wd} {H : Hp} {σ : L2.St} (h : Holds G W H σ) : ∀ is, Holds (G.wipe is) W H σ
  | [] => h
  | i :: is => (Holds.forgets h is).forget i
theorem blk_wipe {a : TS} (is : List Nat) (h : Blk F a G (fun G' => N (G'.wipe is)) (fun G' => B (G'.wipe is)) (fun G' => C (G'.wipe is))) : Blk F a G N B C := fun W0 H0 W H σ D g hs n bk ct rt ex =>
  h W0 H0 W H σ D g hs (fun G' W' H' σ' q g' hs' => n _ W' H' σ' q g' (hs'.forgets is)) (fun G' W' H' σ' q g' hs' => bk _ W' H' σ' q g' (hs'.forgets is)) (fun G' W' H' σ' q g' hs' => ct _ W' H' σ' q g' (hs'.forgets is)) rt ex
end
end Y
end

section
set_option maxRecDepth 100000
set_option maxHeartbeats 4000000
/-! A def's entry and end; calls that let nothing out; what is made; writes of items, of attributes. -/
namespace Y
open PySem PySem.Spec PyProof.Rows L2
section
variable {ρ : Type}
theorem entry {W : Wd} {H : Hp} {n : Bool} {vs : List V} {as : List Sl} (k : Nat) (ok : OKW W H) (nl : n = true → ∀ b, W b ≠ .lk) (ha : SlsOk W H vs as) (sm : as.length + k ≤ tmp) : Holds ⟨n, as ++ List.replicate k .un, vs.map some⟩ W H (vs.map some ++ List.replicate k none) := by
  have hl := ha.1
  refine ⟨by simp [hl], ok, fun i s e h1 h2 => ?_, nl, fun i v h => ?_, by simp; exact sm⟩
  · by_cases hi : i < as.length
    · have h1 : (as ++ List.replicate k Sl.un)[i]? = some s := h1
      rw [List.getElem?_append_left hi] at h1
      rw [List.getElem?_append_left (by rw [List.length_map, hl]; exact hi), List.getElem?_map] at h2
      obtain ⟨v, hv, rfl⟩ := Option.map_eq_some_iff.mp h2
      exact .of (ha.2 i v s hv h1)
    · have h1 : (as ++ List.replicate k Sl.un)[i]? = some s := h1
      rw [List.getElem?_append_right (by omega), List.getElem?_replicate] at h1
      split at h1
      · cases h1; trivial
      · cases h1
  · have h : (vs.map some)[i]? = some (some v) := h
    have hi := (List.getElem?_eq_some_iff.mp h).1
    rw [List.getElem?_append_left hi]
    exact h
/-- slots told by less -/
inductive Fgt : List Sl → List Sl → Prop where
  | nil : Fgt [] []
  | un {s : Sl} {os ss : List Sl} : Fgt os ss → Fgt (.un :: os) (s :: ss)
  | same {s : Sl} {os ss : List Sl} : Fgt os ss → Fgt (s :: os) (s :: ss)
theorem Fgt.refl : ∀ ss, Fgt ss ss
  | [] => .nil
  | _ :: ss => .same (Fgt.refl ss)
theorem Fgt.len {os ss : List Sl} (h : Fgt os ss) : os.length = ss.length := by
  induction h with
  | nil => rfl
  | un _ ih => simp [ih]
  | same _ ih => simp [ih]
theorem Fgt.get {os ss : List Sl} (h : Fgt os ss) : ∀ {k : Nat} {s : Sl}, os[k]? = some s → s = .un ∨ ss[k]? = some s := by
  induction h with
  | nil => intro k s h; simp at h
  | un _ ih => intro k s h; cases k with
    | zero => cases h; exact .inl rfl
    | succ k => exact ih (k := k) h
  | same _ ih => intro k s h; cases k with
    | zero => exact .inr h
    | succ k => exact ih (k := k) h
/-- how a def may end -/
def Fin {ρ : Type _} (vs : List V) (n : Nat) (P : List Sl → ρ → Prop) (G : Ct) (x : ρ) : Prop := G.p = vs.map some ∧ ∃ os ss rest, G.s = ss ++ rest ∧ ss.length = n ∧ Fgt os ss ∧ P os x
/-- a def's body; the parameters stay where they are -/
theorem zrun {c : CT ρ} {E : XK} {vs : List V} {H : Hp} {Q : VK} {t : TS} {N : List Str} (h : spZ c vs H Q E)
    (b : ∀ as P XP, c.ct as P XP → vs.length = as.length → ∃ k, N.length = as.length + k ∧ N.length ≤ tmp ∧ Blk ⟨c.r, Fin vs as.length P, ⟨fun e d _ H => E e d H, fun G e => Fin vs as.length XP G e⟩⟩ t ⟨c.n, as ++ List.replicate k .un, vs.map some⟩
      (fun G => ∃ x, Fin vs as.length P G x ∧ ∀ W H, c.r.R W H .non x) (fun _ => False) (fun _ => False)) :
    t { nx := fun _ H' => Q .non H', rt := Q } (L2.start N vs) H := by
  obtain ⟨W, as, P, XP, ok, nl, ha, hc, q, ex⟩ := h
  obtain ⟨k, hk, hs, hb⟩ := b as P XP hc ha.1
  have e : L2.start N vs = vs.map some ++ List.replicate k none := by
    unfold L2.start
    rw [hk, ha.1, Nat.add_sub_cancel_left]
  have back : ∀ {G' : Ct} {W' H' σ'} {os ss rest : List Sl}, G'.p = vs.map some → G'.s = ss ++ rest → ss.length = as.length → Fgt os ss → Holds G' W' H' σ' → SlsOk W' H' vs os := fun {G' W' H' σ' os ss rest} ep es hl fg hs => ⟨by rw [ha.1, fg.len, hl], fun i v s h1 h2 => by
    have hi : i < ss.length := by rw [hl, ← ha.1]; exact (List.getElem?_eq_some_iff.mp h1).1
    rcases fg.get h2 with rfl | h2
    · trivial
    · have hp := hs.pn i v (by rw [ep, List.getElem?_map, h1]; rfl)
      exact (hs.sl i s _ (by rw [es, List.getElem?_append_left hi]; exact h2) hp).at⟩
  rw [e]
  refine hb W H W H _ _ .refl (entry k ok nl ha (by rw [← hk]; exact hs)) (fun G' W' H' σ' ⟨x, ⟨ep, os, ss, rest, es, hl, fg, p⟩, r⟩ g hs => q .non W' H' _ x p g hs.ok (back ep es hl fg hs) (r W' H')) (fun _ _ _ _ z => z.elim) (fun _ _ _ _ z => z.elim)
    (fun v G' W' H' σ' x ⟨ep, os, ss, rest, es, hl, fg, p⟩ g hs r => q v W' H' _ x p g hs.ok (back ep es hl fg hs) r) fun e d G' W' H' σ' ⟨ep, os, ss, rest, es, hl, fg, p⟩ g hs r => ex e d W' H' _ p g hs.ok (back ep es hl fg hs) r
theorem fin0 {ρ : Type _} {vs : List V} {n : Nat} {G : Ct} {P : List Sl → ρ → Prop} {x : ρ} (ss rest : List Sl) (h : ∀ os, P os x) (e1 : G.p = vs.map some := by rfl) (e2 : G.s = ss ++ rest := by rfl) (e3 : ss.length = n := by rfl) : Fin vs n P G x := ⟨e1, ss, ss, rest, e2, e3, .refl _, h _⟩
theorem zlen {c : CT ρ} {vs : List V} {H : Hp} {Q : VK} {E : XK} {ps : List Str} (hl : ∀ as P XP, c.ct as P XP → as.length = ps.length) (h : spZ c vs H Q E) : vs.length = ps.length := by
  obtain ⟨W, as, P, XP, _, _, ha, hc, _, _⟩ := h
  rw [ha.1]
  exact hl as P XP hc
theorem len1 {α : Type} {vs : List α} (h : vs.length = 1) : ∃ a, vs = [a] := match vs, h with | [a], _ => ⟨a, rfl⟩
theorem len2 {α : Type} {vs : List α} (h : vs.length = 2) : ∃ a b, vs = [a, b] := match vs, h with | [a, b], _ => ⟨a, b, rfl⟩
theorem len3 {α : Type} {vs : List α} (h : vs.length = 3) : ∃ a b c, vs = [a, b, c] := match vs, h with | [a, b, c], _ => ⟨a, b, c, rfl⟩
theorem len4 {α : Type} {vs : List α} (h : vs.length = 4) : ∃ a b c d, vs = [a, b, c, d] := match vs, h with | [a, b, c, d], _ => ⟨a, b, c, d, rfl⟩
end
/-! ### calls that let nothing out -/
section
variable {ρ α β : Type} {c : CT ρ} {X : Xw} {k : Bool} {G : Ct} {t : Ty α} {u : Ty β}
def Cp0 (c : CT ρ) (G : Ct) (P : Ct → ρ → Prop) (as : List Ar) : Prop := (c.n = true → G.n = true) ∧ (∀ a ∈ as, a.plain) ∧ c.ct (as.map Ar.sl) (fun _ x => P G x) (fun _ _ => False)
def Co0 (c : CT ρ) (G : Ct) (P : Ct → ρ → Prop) (as : List Ar) : Prop := (c.n = true → G.n = true) ∧ as.length ≤ tmp ∧ (∀ a ∈ as, a.simple) ∧ (as.filterMap Ar.owS).Nodup ∧ (∀ a ∈ as, ∀ i, a.vwS = some i → i ∉ as.filterMap Ar.owS) ∧
  ∃ P', ((∀ a ∈ as, a.vwS = none) ∨ (FlatR c.r ∧ (∀ os x, P' os x → ∀ s ∈ os, s.flat))) ∧ c.ct (as.map Ar.sl) P' (fun _ _ => False) ∧ (∀ os x, P' os x → os.length = as.length → P (putA G as os) x)
theorem Cp0.sp {P : Ct → ρ → Prop} {as : List Ar} {vs : List V} {W : Wd} {H : Hp} {σ : L2.St} {Q : VK} {E : XK} (h : Cp0 c G P as) (hs : Holds G W H σ) (ha : ArgsOk σ W H vs as) (q : ∀ v W' H' x, P G x → Mo k σ G W H G W' H' → c.r.R W' H' v x → Q v H') : spZ c vs H Q E := by
  obtain ⟨hn, pl, hc⟩ := h
  exact sp_plain hs hn ha pl hc (fun v W' H' os x p g ok r => q v W' H' x p (.goE hs g ok) r) fun e d W' H' os p => p.elim
theorem ev_call0 {E : XK} {ta : TA} {P : Ct → ρ → Prop} (h : Ea X k ta G fun G as => Cp0 c G P as) : EvR X k (tCall (spZ c) [] E ta) G c.r P := fun W H σ Q hs ex q =>
  h W H σ _ hs ex fun vs W1 H1 G1 as hc m ha => by
    rw [List.append_nil]
    exact hc.sp (k := k) m.hs ha fun v W' H' x p m2 r => q v W' H' G1 x p (m.trans m2) r
theorem ev_meth0 {E : XK} {C : Addr} {m : Str} {to : TE} {ta : TA} {P : Ct → ρ → Prop} (hi : Inst C m t) (h : Ev X k to G t fun G x => Ea X k ta G fun G as => Cp0 c G P (.sh t x :: as)) : EvR X k (tMeth C m (spZ c) [] E to ta) G c.r P := fun W H σ Q hs ex q =>
  h W H σ _ hs ex fun v W1 H1 G1 x p m r => by
    obtain ⟨a, dx, fs, rfl, ha, hl⟩ := hi W1 H1 v x m.hs.ok r
    refine ⟨a, dx, fs, rfl, ha, hl, p W1 H1 σ _ m.hs (ex.mv m.go) fun vs W2 H2 G2 as hc m2 ha2 => ?_⟩
    rw [List.append_nil]
    exact hc.sp (k := k) m2.hs (.cons (t.mv r m2.go) ha2) fun v W' H' x p m3 r => q v W' H' G2 x p ((m.trans m2).trans m3) r
end
end Y
end

section
set_option maxRecDepth 100000
set_option maxHeartbeats 4000000
/-! Writes of items and of attributes; lists of new lists; what is made; a method of what hangs in an attribute. -/
namespace Y
open PySem PySem.Spec PyProof.Rows L2
section
variable {α ρ : Type} {F : Fx ρ} {G : Ct} {N B C : Ct → Prop} {t : Ty α} {X : Xw} {K : PySem.W.Frag}
end

/-! ### attributes -/
def putS (f : Str) (s : Sl) : List (Str × Sl) → List (Str × Sl)
  | [] => [(f, s)]
  | (g, x) :: r => if g = f then (g, s) :: r else (g, x) :: putS f s r
/-- where it stands, or will stand -/
def ixF (f : Str) : List (Str × Sl) → Nat
  | [] => 0
  | (g, _) :: r => if g = f then 0 else ixF f r + 1
theorem FdsR.put {p : List Nat} {W W' : Wd} {H H' : Hp} {n : Nat} {vs : List (Str × V)} {fl : List (Str × Sl)} {f : Str} {s : Sl} {v : V} (h : FdsR p W H n vs fl) : (∀ i u z, i ≠ n + ixF f fl → n ≤ i → z.at (p ++ [i]) W H u → Sl.at z (p ++ [i]) W' H' u) → s.at (p ++ [n + ixF f fl]) W' H' v → FdsR p W' H' n (putF f v vs) (putS f s fl) := by
  induction h with
  | nil => intro _ r; exact .cons r .nil
  | @cons n g u z vs ss r t ih =>
    intro k sa
    unfold putF putS
    by_cases e : g = f
    · rw [if_pos e, if_pos e]
      unfold ixF at k sa
      rw [if_pos e] at k sa
      exact .cons sa (t.imp fun j v s hj r _ => k j v s (by omega) (by omega) r)
    · rw [if_neg e, if_neg e]
      unfold ixF at k sa
      rw [if_neg e] at k sa
      refine .cons (k n u z (by omega) (Nat.le_refl _) r) (ih (fun i u z hi hn r => k i u z (by omega) (by omega) r) ?_)
      rw [show n + 1 + ixF f ss = n + (ixF f ss + 1) from by omega]
      exact sa
theorem FdsR.len {p : List Nat} {W : Wd} {H : Hp} {n : Nat} {vs : List (Str × V)} {ss : List (Str × Sl)} (h : FdsR p W H n vs ss) : vs.length = ss.length := by
  induction h with
  | nil => rfl
  | cons _ _ ih => rw [List.length_cons, List.length_cons, ih]
/-- what is new gets its place at a path -/
def seatP (W : Wd) (q : List Nat) : Wd := fun b => match W b with
  | .ow (j :: r) => if j = tmp then .ow (q ++ r) else .ow (j :: r)
  | w => w
theorem seatP_tmp {W : Wd} {q : List Nat} {b : Addr} {r : List Nat} (h : W b = .ow (tmp :: r)) : seatP W q b = .ow (q ++ r) := by unfold seatP; rw [h]; simp
theorem seatP_ne {W : Wd} {q : List Nat} {b : Addr} (h : ∀ r, W b ≠ .ow (tmp :: r)) : seatP W q b = W b := by
  unfold seatP
  cases e : W b with
  | ow p =>
    cases p with
    | nil => rfl
    | cons j r =>
      by_cases n : j = tmp
      · subst n; exact absurd e (h r)
      · simp [n]
  | _ => rfl
section
variable {W : Wd} {H : Hp} {q : List Nat}
theorem seatP_own {b : Addr} {p : List Nat} (h : seatP W q b = .ow p) : ∃ p', W b = .ow p' := by
  by_cases n : ∃ r, W b = .ow (tmp :: r)
  · obtain ⟨r, e⟩ := n; exact ⟨_, e⟩
  · rw [seatP_ne fun r e => n ⟨r, e⟩] at h; exact ⟨_, h⟩
theorem seatP_non {b : Addr} {w : Md} (nw : ∀ p, w ≠ .ow p) : seatP W q b = w ↔ W b = w := by
  by_cases n : ∃ r, W b = .ow (tmp :: r)
  · obtain ⟨r, e⟩ := n
    rw [seatP_tmp e, e]
    exact ⟨fun z => absurd z.symm (nw _), fun z => absurd z.symm (nw _)⟩
  · rw [seatP_ne fun r e => n ⟨r, e⟩]
theorem seatP_lk {b : Addr} : seatP W q b = .lk ↔ W b = .lk := seatP_non fun _ => (fun z => by cases z)
theorem seatP_sh {b : Addr} : seatP W q b = .sh ↔ W b = .sh := seatP_non fun _ => (fun z => by cases z)
theorem seatP_fo {b : Addr} : seatP W q b = .fo ↔ W b = .fo := seatP_non fun _ => (fun z => by cases z)
theorem seatP_st {b : Addr} {φ : HO → Prop} : seatP W q b = .st φ ↔ W b = .st φ := seatP_non fun _ => (fun z => by cases z)
theorem seatP_ok (ok : OKW W H) : OKW (seatP W q) H := by
  refine ⟨fun b φ h => ok.st b φ (seatP_st.mp h), fun b h => ok.al b fun e => h (seatP_sh.mpr e), fun b p od u w e => ?_, fun b h => ok.lk b (seatP_lk.mp h), fun b od u w h => ok.fo b od u (seatP_fo.mp w) h, fun b vs h => seatP_sh.mpr (ok.tp b vs h)⟩
  obtain ⟨p', w⟩ := seatP_own w
  exact ok.nf b p' od u w e
theorem seatP_mv : Mv W H (seatP W q) H := by
  refine ⟨fun b o h => ?_, fun b vs w h => ⟨seatP_sh.mpr w, h⟩, fun b φ h => seatP_st.mpr h⟩
  unfold RdW
  rw [seatP_ne fun r => h.no]
  exact h
theorem seatP_goE : GoE W H (seatP W q) H := ⟨fun b o h _ n => ⟨h, seatP_ne n⟩, fun b φ h => seatP_st.mpr h, fun b h => seatP_lk.mp h⟩
end
section
variable {α ρ : Type} {F : Fx ρ} {G : Ct} {N B C : Ct → Prop} {t : Ty α} {X : Xw} {K : PySem.W.Frag} {D : Addr} {fl : List (Str × Sl)}
/-- the write itself -/
theorem fld_core {to : TE} {q : List Nat} {up : Sl → Ct} {f : Str} {s : Sl} {v : V} {W W' : Wd} {H : Hp} {σ : L2.St} (c : Cls K D) (na : NoAttr K D f) (hl : fl.length < 1000) (pw : Pw to G q (oIns D fl) () up) (hs : Holds G W H σ) (g : GoE W H W' H) (ok : OKW W' H)
    (sa : ∀ a o, W a = .ow q → s.at (q ++ [ixF f fl]) W' (upd H a o) v) : ∀ (Q : V → Hp → Prop), (∀ a H', Go W' H W' H' → Holds (up (.ow (oIns D (putS f s fl)) ())) W' H' σ → (∃ C dx fs, H a = some (.ins C dx fs) ∧ Cls K C ∧ NoAttr K C f ∧ fs.length < 1000 ∧ H' = upd H a (.ins C dx (putF f v fs))) → Q (.ref a) H) → to σ H Q := by
  intro Q k
  obtain ⟨⟨i, r, rfl, ni⟩, pw⟩ := pw
  obtain ⟨u, ⟨a, dx, vs, rfl, wa, ha, fr⟩, ev, kk⟩ := pw W H σ hs
  refine ev _ (k a _ ?_ ?_ ⟨D, dx, vs, ha, c, na, by rw [fr.len]; exact hl, rfl⟩)
  · obtain ⟨h1, w1⟩ := g.own ha wa ni
    exact upd_go w1
  · obtain ⟨h1, w1⟩ := g.own ha wa ni
    have mv2 : Mv W' H W' (upd H a (.ins D dx (putF f v vs))) := upd_mv w1
    refine kk W' H g ok W' _ _ (upd_ok ok w1 trivial) (upd_go w1) (out_upd w1) ⟨a, dx, _, rfl, w1, upd_same, fr.put (fun j u z hj _ r2 => ?_) ?_⟩
    · refine Sl.at_mv r2 (fun b o q2 w e => ?_) (g.go.mv.trans mv2)
      obtain ⟨e1, w2⟩ := g.own e w ni
      have nb : b ≠ a := fun z => by
        rw [z, wa] at w
        have := congrArg List.length (Md.ow.inj w)
        simp at this
      exact ⟨w2, by rw [upd_ne nb]; exact e1⟩
    · rw [Nat.zero_add]
      exact sa a _ wa
/-- self.f = e, a thing that is shared -/
theorem blk_fld {to tv : TE} {q : List Nat} {up : Sl → Ct} {f : Str} (c : Cls K D) (na : NoAttr K D f) (hl : fl.length < 1000) (pw : Pw to G q (oIns D fl) () up) (h : Ev F.X true tv G t fun _ x => N (up (.ow (oIns D (putS f (.sh t x) fl)) ()))) : Blk F (sFld K to tv f) G N B C := fun W0 H0 W H σ E g hs n _ _ _ ex => by
  refine h W H σ _ hs (exo ex g) fun v W1 H1 G1 x hn m r => ?_
  obtain ⟨ge1, rfl⟩ := m.kp rfl
  obtain ⟨⟨i, r0, rfl, ni⟩, _⟩ := id pw
  refine fld_core (s := .sh t x) (v := v) c na hl pw m.hs .refl m.hs.ok (fun a o wa => t.go r (upd_mv wa)) _ fun a H' g2 hs2 ⟨C2, dx, fs, h1, h2, h3, h4, h5⟩ => ⟨a, C2, dx, fs, rfl, h1, h2, h3, h4, ?_⟩
  subst h5
  exact n _ W1 _ σ hn ((g.trans m.go).trans g2) hs2
/-- self.f = e, a new thing -/
theorem blk_fldO {to tv : TE} {q : List Nat} {up : Sl → Ct} {f : Str} {O : OT α} (c : Cls K D) (na : NoAttr K D f) (hl : fl.length < 1000) (pw : Pw to G q (oIns D fl) () up) (h : EvR F.X true tv G (.ow O) fun _ x => N (up (.ow (oIns D (putS f (.ow O x) fl)) ()))) : Blk F (sFld K to tv f) G N B C := fun W0 H0 W H σ E g hs n _ _ _ ex => by
  refine h W H σ _ hs (exo ex g) fun v W1 H1 G1 x hn m r => ?_
  obtain ⟨ge1, rfl⟩ := m.kp rfl
  obtain ⟨⟨i, r0, rfl, ni⟩, _⟩ := id pw
  refine fld_core (s := .ow O x) (v := v) c na hl pw m.hs (seatP_goE (q := (i :: r0) ++ [ixF f fl])) (seatP_ok m.hs.ok) (fun a o wa => ?_) _ fun a H' g2 hs2 ⟨C2, dx, fs, h1, h2, h3, h4, h5⟩ => ⟨a, C2, dx, fs, rfl, h1, h2, h3, h4, ?_⟩
  · have wa' : seatP W1 ((i :: r0) ++ [ixF f fl]) a = .ow (i :: r0) := by rw [seatP_ne fun r e => by rw [wa] at e; exact ni (List.cons.inj (Md.ow.inj e)).1]; exact wa
    refine O.mv (p' := (i :: r0) ++ [ixF f fl]) r (fun b o2 q2 w e => ⟨?_, ?_⟩) (seatP_mv.trans (upd_mv wa'))
    · exact seatP_tmp w
    · have nb : b ≠ a := fun z => by rw [z, wa] at w; exact ni (List.cons.inj (Md.ow.inj w)).1
      rw [upd_ne nb]; exact e
  · subst h5
    exact n _ _ _ σ hn (((g.trans m.go).trans seatP_goE.go).trans g2) hs2
end

/-! ### what is made -/
def mMake : Mp where
  f p := match p with
    | [] => .hd
    | i :: r => if i = tmp then .to (0 :: r) else .hd
  g p' := match p' with
    | [] => none
    | i :: r => if i = 0 then some (tmp :: r) else none
  fg p p' h := by
    cases p with
    | nil => cases h
    | cons i r =>
      simp only at h
      split at h
      · rename_i e
        cases h
        simp [e]
      · cases h
  gf p p' h := by
    cases p' with
    | nil => cases h
    | cons i r =>
      simp only at h
      split at h
      · rename_i e
        cases h
        simp [e]
      · cases h
  nt r := by show (if tmp = 0 then _ else none) = none; rw [if_neg (by decide)]
section
variable {α ρ : Type} {G : Ct} {t : Ty α} {X : Xw} {K : PySem.W.Frag}
theorem ev_make0 {C : Addr} {c : CT Unit} {O : OT α} {k : Bool} {ta : TA} {E : XK} {P : Ct → α → Prop} (hr : c.r = .sh tNon) (h : Ea X k ta G fun G as => (c.n = true → G.n = true) ∧ (∀ a ∈ as, a.plain) ∧ ∃ P', c.ct (.ow (oIns C []) () :: as.map Ar.sl) P' (fun _ _ => False) ∧ ∀ os y, P' os y → ∃ z r, os = .ow O z :: r ∧ P G z) :
    EvR X k (tMake C (spZ c) [] E ta) G (.ow O) P := fun W H σ Q hs ex q =>
  h W H σ _ hs ex fun vs W1 H1 G1 as ⟨hn, pl, P', hc, hp⟩ m ha x dx hx hdx hne => by
    rw [List.append_nil]
    have hx2 : upd H1 dx (HO.own x) x = none := by rw [upd_ne (fun z => hne z.symm)]; exact hx
    have g1 : GoE W1 H1 W1 (upd H1 dx (.own x)) := GoE.new hdx
    have ok1 : OKW W1 (upd H1 dx (.own x)) := m.hs.ok.new hdx trivial
    have wx : W1 x = .sh := m.hs.ok.fresh hx
    obtain ⟨g2, ok2⟩ := newT ok1 hx2 (o := .ins C dx []) trivial
    have g12 := g1.trans g2
    have fh : ∀ {p : List Nat}, (∀ r, p ≠ tmp :: r) → mMake.f p = .hd := fun {p} n => by
      cases p with
      | nil => rfl
      | cons i r =>
        show (if i = tmp then Am.to (0 :: r) else Am.hd) = _
        rw [if_neg fun (z : i = tmp) => n r (by rw [z])]
    refine ⟨enter mMake (setW W1 x (.ow [tmp])), .ow (oIns C []) () :: as.map Ar.sl, P', fun _ _ => False, enter_ok ok2, fun n b w => ?_, ⟨by simp [ha.len], fun k v s h1 h2 => ?_⟩, hc, fun v Wc H' os y p g okc so r => ?_, fun e d Wc H' os z => z.elim⟩
    · have w := enter_lk w
      by_cases nb : b = x
      · rw [nb, setW_same] at w; cases w
      · rw [setW_ne nb] at w; exact m.hs.nl (hn n) b w
    · cases k with
      | zero =>
        cases h1
        cases h2
        exact ⟨x, dx, [], rfl, enter_to (p := [tmp]) setW_same rfl, upd_same, .nil⟩
      | succ k =>
        have h1 : vs[k]? = some v := h1
        have h2 : (as.map Ar.sl)[k]? = some s := h2
        rw [List.getElem?_map] at h2
        obtain ⟨a, h3, rfl⟩ := Option.map_eq_some_iff.mp h2
        have r := ha.get h3 h1
        have sm := pl a (List.mem_of_getElem? h3)
        cases a with
        | sh t x => exact t.go r (g12.go.mv.trans enter_mv)
        | _ => exact sm.elim
    · rw [hr] at r
      have l := left ok2 g okc
      obtain ⟨z, os', rfl, pz⟩ := hp os y p
      refine ⟨r, q _ (leave mMake (setW W1 x (.ow [tmp])) Wc) H' G1 z pz (m.thenE ?_ l.ok) ?_⟩
      · refine g12.trans ⟨fun b o e n nt => ?_, l.go.s, l.go.l⟩
        cases w : setW W1 x (.ow [tmp]) b with
        | ow p =>
          have f1 := fh (p := p) fun r z => nt r (by rw [w, z])
          obtain ⟨h1, h2⟩ := l.own b p o w (by rw [f1]; exact fun _ z => nomatch z) e
          exact ⟨h2, h1⟩
        | st φ => exact absurd w (n φ)
        | sh => rw [← w]; exact l.go.k b o e (.inl w)
        | lk => rw [← w]; exact l.go.k b o e (.inr (.inl w))
        | fo => rw [← w]; exact l.go.k b o e (.inr (.inr w))
      · have r0 : O.R [0] Wc H' (.ref x) z := so.2 0 (.ref x) (.ow O z) rfl rfl
        exact O.mv r0 (fun b o q2 w e => ⟨l.new b ([tmp] ++ q2) _ w rfl, e⟩) (l.mv fun p z => by
          cases p with
          | nil => cases z
          | cons i r =>
            have z : (if i = tmp then Am.to (0 :: r) else Am.hd) = .vw := z
            split at z <;> cases z)
end
/-! ### a method of what hangs at a place -/
def mAt (q : List Nat) : Mp where
  f p := if q <+: p then .to (0 :: p.drop q.length) else .hd
  g p' := match p' with
    | [] => none
    | i :: r => if i = 0 then some (q ++ r) else none
  fg p p' h := by
    split at h
    · rename_i e
      cases h
      obtain ⟨r, rfl⟩ := e
      simp
    · cases h
  gf p p' h := by
    cases p' with
    | nil => cases h
    | cons i r =>
      simp only at h
      split at h
      · rename_i e
        cases h
        rw [if_pos ⟨r, rfl⟩, List.drop_left, e]
      · cases h
  nt r := by show (if tmp = 0 then _ else none) = none; rw [if_neg (by decide)]
section
variable {α ρ : Type} {G : Ct} {t : Ty α} {X : Xw} {K : PySem.W.Frag} {c : CT ρ}
end
end Y
end

section
set_option maxRecDepth 100000
set_option maxHeartbeats 4000000
/-! Attributes that are read; lists of new lists; a list times an int; calls of a min, a xor. -/
namespace Y
open PySem PySem.Spec PyProof.Rows L2
section
variable {α β ρ : Type} {F : Fx ρ} {G : Ct} {N B C : Ct → Prop} {t : Ty α} {X : Xw} {K : PySem.W.Frag} {k : Bool}
theorem fo_sh {D : Addr} {fl : List (Str × Sl)} {f : Str} (j : Nat) {t : Ty α} {x : α} (c : Cls K D) (na : NoAttr K D f) (hj : fl[j]? = some (f, .sh t x) := by rfl) (hi : (fl.map (·.1)).idxOf f = j := by rfl) : FldOf K f (tIns D fl) t (fun _ => x) := by
  rintro W H v _ ⟨a, dx, vs, rfl, rd, fr⟩
  obtain ⟨w, l, r, _⟩ := lookup_at fr (f := f) (j := j) (s := .sh t x) (by rw [List.getElem?_map, hj]; rfl) (by rw [List.map_map]; exact hi)
  exact ⟨a, D, dx, vs, w, rfl, rd, c, na, l, r⟩
theorem fo_ow {D : Addr} {fl : List (Str × Sl)} {f : Str} (j : Nat) {O : OT α} {x : α} (c : Cls K D) (na : NoAttr K D f) (hj : fl[j]? = some (f, .ow O x) := by rfl) (hi : (fl.map (·.1)).idxOf f = j := by rfl) : FldOf K f (tIns D fl) O.sv (fun _ => x) := by
  rintro W H v _ ⟨a, dx, vs, rfl, rd, fr⟩
  obtain ⟨w, l, r, _⟩ := lookup_at fr (f := f) (j := j) (s := .sh O.sv x) (by rw [List.getElem?_map, hj]; rfl) (by rw [List.map_map]; exact hi)
  exact ⟨a, D, dx, vs, w, rfl, rd, c, na, l, r⟩
theorem lookup_none {vs : List (Str × V)} {ss : List (Str × Sl)} {p : List Nat} {W : Wd} {H : Hp} {n : Nat} (h : FdsR p W H n vs ss) {f : Str} (nf : f ∉ ss.map (·.1)) : vs.lookup f = none := by
  induction h with
  | nil => rfl
  | @cons n g v s vs ss r _ ih =>
    rw [List.map_cons, List.mem_cons] at nf
    rw [List.lookup_cons, show (f == g) = false from beq_eq_false_iff_ne.mpr fun z => nf (.inl z)]
    exact ih fun z => nf (.inr z)
theorem inst_t {D : Addr} {fl : List (Str × Sl)} {m : Str} (nf : m ∉ fl.map (·.1)) : Inst D m (tIns D fl) := by
  rintro W H v _ ok ⟨a, dx, vs, rfl, rd, fr⟩
  refine ⟨a, dx, vs, rfl, ok.exact rd (fun _ e => by cases e) (fun _ e => by cases e) (fun _ e => by cases e), lookup_none fr ?_⟩
  rw [List.map_map]
  exact nf
/-- one's own told under other paths -/
theorem remap_ok {W W' : Wd} {H : Hp} (ok : OKW W H) (h : ∀ b, W' b = W b ∨ ∃ p p', W b = .ow p ∧ W' b = .ow p') : OKW W' H := by
  have ne : ∀ {b : Addr} {m : Md}, W' b = m → (∀ q, m ≠ .ow q) → W b = m := fun {b m} e n => by
    rcases h b with e1 | ⟨p, p', e1, e2⟩
    · rw [← e1]; exact e
    · rw [e2] at e; exact absurd e.symm (n _)
  refine ⟨fun b φ e => ok.st b φ (ne e fun _ z => by cases z), fun b e => ok.al b fun z => ?_, fun b p od u w e => ?_, fun b e => ok.lk b (ne e fun _ z => by cases z), fun b od u w e => ok.fo b od u (ne w fun _ z => by cases z) e, fun b vs e => ?_⟩
  · rcases h b with e1 | ⟨p, p', e1, e2⟩
    · exact e (e1.trans z)
    · rw [e1] at z; cases z
  · rcases h b with e1 | ⟨p1, p', e1, e2⟩
    · exact ok.nf b p od u (e1.symm.trans w) e
    · exact ok.nf b p1 od u e1 e
  · have := ok.tp b vs e
    rcases h b with e1 | ⟨p, p', e1, e2⟩
    · exact e1.trans this
    · rw [e1] at this; cases this
theorem remap_mv {W W' : Wd} {H : Hp} (h : ∀ b, W' b = W b ∨ ∃ p p', W b = .ow p ∧ W' b = .ow p') : Mv W H W' H := by
  refine ⟨fun b o r => ?_, fun b vs w e => ?_, fun b φ e => ?_⟩
  · rcases h b with e1 | ⟨p, p', e1, e2⟩
    · unfold RdW; rw [e1]; exact r
    · exact absurd e1 r.no
  · rcases h b with e1 | ⟨p, p', e1, e2⟩
    · exact ⟨e1.trans w, e⟩
    · rw [e1] at w; cases w
  · rcases h b with e1 | ⟨p, p', e1, e2⟩
    · exact e1.trans e
    · rw [e1] at e; cases e
open Classical in
/-- what grew gets its place -/
noncomputable def grownW (W : Wd) (S : Addr → Prop) : Wd := fun b => if S b then (match W b with
  | .ow (_ :: r) => .ow (tmp :: r)
  | w => w) else W b
end
end Y
end

section
set_option maxRecDepth 100000
set_option maxHeartbeats 4000000
namespace L2
open PySem PySem.Spec PyProof.Rows
end L2
end

section
set_option maxRecDepth 100000
set_option maxHeartbeats 4000000
namespace KK
open PySem PySem.Spec PyProof.Rows L2 Y
/-! ### flows: their types -/
structure FlowC (K : PySem.W.Frag) (C : Addr) : Prop where
  cl : Cls K C
  nh : NoAttr K C "_heads"
  nr : NoAttr K C "_rooms"
  nl : NoAttr K C "_leaving"
abbrev flF (K : PySem.W.Frag) (hs rs : List Int) (ls : List (List Int)) : List (Str × Sl) := [("_heads", .ow (oL K tInt) hs), ("_rooms", .ow (oL K tInt) rs), ("_leaving", .ow (oLO K (oL K tInt)) ls)]
abbrev oFlow (K : PySem.W.Frag) (C : Addr) (hs rs : List Int) (ls : List (List Int)) : OT Unit := oIns C (flF K hs rs ls)
abbrev tFlow (K : PySem.W.Frag) (C : Addr) (hs rs : List Int) (ls : List (List Int)) : Y.Ty Unit := tIns C (flF K hs rs ls)
def g0 (xs : List Int) (i : Int) : Int := xs.getD i.toNat 0
def gl (ls : List (List Int)) (i : Int) : List Int := ls.getD i.toNat []
theorem ixN_in {n : Nat} {i : Int} (h0 : 0 ≤ i) (h1 : i < n) : ixN n i = some i.toNat := by
  unfold ixN
  rw [if_pos h0, if_pos h1]
section
variable {P : Program} {w : World} {K : PySem.W.Frag} {mg : Str → Option Value} {base : Heap} {C : Addr}
theorem makY {x qual : Str} {C : Addr} {st : Stmt} {N ps : List Str} {k : Nat} {sp : Sp} (F : (∃ f fd, Fun K "__init__" qual st f fd ∧ Mk K C f) ∧ mg x = some (.ref C)) (b : ∀ f fd, Fun K "__init__" qual st f fd → Binds K fd ps []) (S : FnScope N ps (defScope st)) (len : ∀ vs H Q E, sp vs H Q E → vs.length = ps.length)
    (hbody : ∀ (f : Addr) (cdv : Value) (A : Around) (outer : List Env) (s : Shared) (H : Hp) (vs : List V) (Q : VK) (E : XK), Room k (A.deeper (envOfC qual (defScope st) s.heap.objs.size f cdv)) → sp vs H Q E →
      ∃ t, PSs (cxOf CX0 P w K mg base N qual (defScope st) f cdv A outer s H E).nox (defBody st) t ∧ t { nx := fun _ H' => Q .non H', rt := Q } (start N vs) H) : C8.Mak P w K mg base (k + 1) x C sp [] := by
  obtain ⟨⟨f, fd, F, M⟩, hm⟩ := F
  exact ⟨f, fd, ps, [], M, F.ok S len (hbody f), hm, b f fd F, .nil⟩
abbrev ctFInit (K : PySem.W.Frag) (C : Addr) : Y.CT Unit := ⟨false, .sh tNon, fun as P _ => ∃ n : Int, as = [.ow (oIns C []) (), .sh tInt n] ∧ (0 ≤ n ∧ n < 1000) ∧ ∀ s, P [.ow (oFlow K C [] [] (List.replicate n.toNat [])) (), s] ()⟩
abbrev ctLink (K : PySem.W.Frag) (C : Addr) : Y.CT Int := ⟨false, .sh tInt, fun as P _ => ∃ (hs rs : List Int) (ls : List (List Int)) (a b r : Int), as = [.ow (oFlow K C hs rs ls) (), .sh tInt a, .sh tInt b, .sh tInt r] ∧ ((0 ≤ a ∧ a < ls.length) ∧ (0 ≤ b ∧ b < ls.length) ∧ hs.length < 10000 ∧ rs.length < 10000 ∧ (∀ l ∈ ls, l.length < 10000)) ∧
  ∀ o1 o2 o3, P [.ow (oFlow K C (hs ++ [b] ++ [a]) (rs ++ [r] ++ [0]) ((ls.set a.toNat (gl ls a ++ [(hs.length : Int)])).set b.toNat (gl (ls.set a.toNat (gl ls a ++ [(hs.length : Int)])) b ++ [(hs.length : Int) + 1]))) (), o1, o2, o3] hs.length⟩
abbrev ctSent (K : PySem.W.Frag) (C : Addr) : Y.CT Int := ⟨false, .sh tInt, fun as P _ => ∃ (hs rs : List Int) (ls : List (List Int)) (a : Int), as = [.sh (tFlow K C hs rs ls) (), .sh tInt a] ∧ (0 ≤ a ∧ a + 1 < rs.length) ∧ ∀ os, P os (g0 rs (a + 1))⟩
end
end KK
end

section
set_option maxRecDepth 100000
set_option maxHeartbeats 4000000
namespace KK
open PySem PySem.Spec PyProof.Rows L2 Y
structure Net (n : Nat) (hs rs : List Int) (ls : List (List Int)) : Prop where
  ln : ls.length = n
  lr : rs.length = hs.length
  hb : ∀ a : Int, 0 ≤ a → a < hs.length → 0 ≤ g0 hs a ∧ g0 hs a < n
  ab : ∀ u : Int, 0 ≤ u → u < n → ∀ a ∈ gl ls u, 0 ≤ a ∧ a < hs.length
  sm : n ≤ 1000
  sh : hs.length ≤ 20000
  sl : ∀ u : Int, 0 ≤ u → u < n → (gl ls u).length ≤ 20000
/-- an arc with room that climbs one level -/
def Cl (hs rs lv : List Int) (u a : Int) : Prop := 0 < g0 rs a ∧ g0 lv (g0 hs a) = g0 lv u + 1
/-- what climbing tells -/
structure ClimbR (hs rs lv td : List Int) (ls : List (List Int)) (u : Int) (td' : List Int) (r : Option Int) (j : Int) : Prop where
  ge : g0 td u ≤ j
  tq : td' = td.set u.toNat j
  no : ∀ k, g0 td u ≤ k → k < j → k < (gl ls u).length ∧ ¬ Cl hs rs lv u (g0 (gl ls u) k)
  so : ∀ a, r = some a → j < (gl ls u).length ∧ a = g0 (gl ls u) j ∧ Cl hs rs lv u a
  nn : r = none → (gl ls u).length ≤ j
abbrev ctClimb (K : PySem.W.Frag) (C : Addr) : Y.CT (Option Int) := ⟨false, .sh (tOpt tInt), fun as P _ => ∃ (n : Nat) (hs rs lv td : List Int) (ls : List (List Int)) (u : Int), as = [.sh (tFlow K C hs rs ls) (), .sh (tLs K tInt) lv, .ow (oL K tInt) td, .sh tInt u] ∧
  (Net n hs rs ls ∧ lv.length = n ∧ td.length = n ∧ 0 ≤ u ∧ u < n ∧ 0 ≤ g0 td u) ∧ ∀ td' r j, ClimbR hs rs lv td ls u td' r j → P [.un, .un, .ow (oL K tInt) td', .un] r⟩
section
variable {P : Program} {w : World} {K : PySem.W.Frag} {mg : Str → Option Value} {base : Heap} {C : Addr}
end
end KK
end

section
set_option maxRecDepth 100000
set_option maxHeartbeats 4000000
/-! One's own handed back; a shared receiver with one's own as arguments; truth. -/
namespace Y
open PySem PySem.Spec PyProof.Rows L2
section
variable {α β ρ : Type} {F : Fx ρ} {G : Ct} {N B C : Ct → Prop} {t : Ty α} {X : Xw} {K : PySem.W.Frag} {k : Bool} {c : CT ρ}
/-- what hangs in a slot hangs nowhere -/
def unseat (W : Wd) (i : Nat) : Wd := fun b => match W b with
  | .ow (j :: r) => if j = i then .ow (tmp :: r) else .ow (j :: r)
  | w => w
theorem unseat_at {W : Wd} {i : Nat} {b : Addr} {r : List Nat} (h : W b = .ow (i :: r)) : unseat W i b = .ow (tmp :: r) := by unfold unseat; rw [h]; simp
theorem unseat_ne {W : Wd} {i : Nat} {b : Addr} (h : ∀ r, W b ≠ .ow (i :: r)) : unseat W i b = W b := by
  unfold unseat
  cases e : W b with
  | ow p =>
    cases p with
    | nil => rfl
    | cons j r =>
      by_cases n : j = i
      · subst n; exact absurd e (h r)
      · simp [n]
  | _ => rfl
theorem unseat_re (W : Wd) (i : Nat) (b : Addr) : unseat W i b = W b ∨ ∃ p p', W b = .ow p ∧ unseat W i b = .ow p' := by
  by_cases h : ∃ r, W b = .ow (i :: r)
  · obtain ⟨r, e⟩ := h
    exact .inr ⟨_, _, e, unseat_at e⟩
  · exact .inl (unseat_ne fun r e => h ⟨r, e⟩)
/-- a thing of one's own is handed back -/
theorem ev_give {i : Nat} {O : OT α} {x : α} {P : Ct → α → Prop} (hi : G.s[i]? = some (.ow O x)) (p : P (G.set i .un) x) : EvR X false (tVar i) G (.ow O) P := fun W H σ Q hs ex q => by
  obtain ⟨v, e1, r⟩ := hs.own hi
  have ni := hs.lt hi
  have mv : Mv W H (unseat W i) H := remap_mv (unseat_re W i)
  have go : Go W H (unseat W i) H := by
    refine ⟨fun b o h w => ⟨h, unseat_ne fun r e => ?_⟩, fun b φ h => ?_, fun b h => ?_⟩
    · rcases w with w | w | w <;> (rw [w] at e; cases e)
    · rw [unseat_ne fun r e => by rw [h] at e; cases e]; exact h
    · rcases unseat_re W i b with e | ⟨p, p', e, e2⟩
      · exact e.symm.trans h
      · rw [e2] at h; cases h
  refine ⟨v, e1, q v (unseat W i) H (G.set i .un) x p ⟨go, ?_, fun z => nomatch z⟩ (O.mv (p' := [tmp]) r (fun b o q w e => ⟨unseat_at w, e⟩) mv)⟩
  refine ⟨by show σ.length = (G.s.set i .un).length; rw [List.length_set]; exact hs.len, remap_ok hs.ok (unseat_re W i), fun j s e (h1 : (G.s.set i .un)[j]? = some s) h2 => ?_, fun n b w => hs.nl n b (go.l b w), hs.pn, by show (G.s.set i .un).length ≤ tmp; rw [List.length_set]; exact hs.sm⟩
  rcases set_key h1 with ⟨rfl, rfl⟩ | ⟨n1, g1⟩
  · trivial
  · refine (hs.sl j s e g1 h2).mv (fun b o q w e => ⟨?_, e⟩) mv
    rw [unseat_ne fun r z => by rw [w] at z; exact n1 (List.cons.inj (Md.ow.inj z)).1]
    exact w
/-- truth -/
def TrT (K : PySem.W.Frag) (t : Ty α) (f : α → Bool) : Prop := ∀ W H v x, OKW W H → t.R W H v x → TruV K v H (f x)
theorem et_truth {f : α → Bool} {te : TE} {P : Ct → Bool → Prop} (tr : TrT K t f) (h : Ev X k te G t fun G x => P G (f x)) : Et X k (fun σ H Q => te σ H fun x H' => ∃ k, TruV K x H' k ∧ Q k H') G P := fun W H σ Q hs ex q =>
  h W H σ _ hs ex fun v W' H' G' x p m r => ⟨f x, tr W' H' v x m.hs.ok r, q _ W' H' G' p m⟩
theorem all1 {A : Type _} {p : A → Prop} {a : A} (h : p a) : ∀ x ∈ [a], p x := fun x hx => by rw [List.mem_singleton] at hx; rw [hx]; exact h
theorem allc {A : Type _} {p : A → Prop} {a : A} {l : List A} (h : p a) (hl : ∀ x ∈ l, p x) : ∀ x ∈ a :: l, p x := fun x hx => by
  rcases List.mem_cons.mp hx with rfl | hx
  · exact h
  · exact hl x hx
end
end Y
namespace Y
open PySem PySem.Spec PyProof.Rows L2
section
variable {α : Type} {t : Ty α} {K : PySem.W.Frag}
theorem trL : TrT K (tLs K t) fun xs => !xs.isEmpty := by
  rintro W H v x ok ⟨a, vs, rfl, sq, p⟩
  have e : (!x.isEmpty) = (!vs.isEmpty) := by cases p <;> rfl
  show TruV K (.ref a) H (!x.isEmpty)
  rw [e]
  exact .inl ⟨vs, SqL.of sq.2, rfl⟩
end
end Y
namespace Y
open PySem PySem.Spec PyProof.Rows L2
section
variable {α : Type} {t : Ty α} {K : PySem.W.Frag}
theorem ro_notO (nn : ∀ W H v x, t.R W H v x → v ≠ .non) : RO (fun x y H Q => y = .non ∧ Q (.bl (!decide (x = .non))) H) (tOpt t) tNon (.sh tBl) (fun x _ P => P x.isSome) := by
  rintro W H v w x y Q P ok r rfl c q
  refine ⟨rfl, q _ W H _ c .refl ok ?_⟩
  cases x with
  | none =>
    have r : v = .non := r
    subst r
    rfl
  | some x =>
    have := nn W H v x r
    show V.bl (!decide (v = .non)) = .bl true
    rw [decide_eq_false this]
    rfl
theorem ro_isO (nn : ∀ W H v x, t.R W H v x → v ≠ .non) : RO (fun x y H Q => y = .non ∧ Q (.bl (decide (x = .non))) H) (tOpt t) tNon (.sh tBl) (fun x _ P => P (!x.isSome)) := by
  rintro W H v w x y Q P ok r rfl c q
  refine ⟨rfl, q _ W H _ c .refl ok ?_⟩
  cases x with
  | none =>
    have r : v = .non := r
    subst r
    rfl
  | some x =>
    have := nn W H v x r
    show V.bl (decide (v = .non)) = .bl false
    rw [decide_eq_false this]
theorem nnI : ∀ W H v x, tInt.R W H v x → v ≠ .non := fun _ _ _ _ r e => by
  have r : _ = V.int _ := r
  rw [r] at e
  cases e
end
end Y
namespace Y
open PySem PySem.Spec PyProof.Rows L2
section
variable {α ρ : Type} {F : Fx ρ} {G : Ct} {N B C : Ct → Prop} {t : Ty α} {K : PySem.W.Frag}
end
end Y
end

section
set_option maxRecDepth 100000
set_option maxHeartbeats 4000000
namespace KK
open PySem PySem.Spec PyProof.Rows L2 Y
/-- arcs stand in pairs -/
structure Prs (n : Nat) (hs : List Int) (ls : List (List Int)) : Prop where
  xb : ∀ a : Int, 0 ≤ a → a < hs.length → 0 ≤ Builtin.bitXor a 1 ∧ Builtin.bitXor a 1 < hs.length
  tl : ∀ u : Int, 0 ≤ u → u < n → ∀ a ∈ gl ls u, g0 hs (Builtin.bitXor a 1) = u
  mm : ∀ a : Int, 0 ≤ a → a < hs.length → a ∈ gl ls (g0 hs (Builtin.bitXor a 1))
  nd : ∀ u : Int, 0 ≤ u → u < n → (gl ls u).Nodup
def len (ls : List (List Int)) (u : Int) : Int := (gl ls u).length
def arc (ls : List (List Int)) (u k : Int) : Int := g0 (gl ls u) k
/-- what has been tried leads nowhere -/
structure Dead (n : Nat) (hs rs lv : List Int) (ls : List (List Int)) (t : Int) (td : List Int) : Prop where
  ge : ∀ u : Int, 0 ≤ u → u < n → 0 ≤ g0 td u
  no : ∀ u : Int, 0 ≤ u → u < n → ∀ k, 0 ≤ k → k < g0 td u → k < len ls u ∧ (Cl hs rs lv u (arc ls u k) → g0 hs (arc ls u k) ≠ t ∧ len ls (g0 hs (arc ls u k)) ≤ g0 td (g0 hs (arc ls u k)))
/-- the arcs from the source to a node, each the one that is tried -/
inductive PathTo (n : Nat) (hs rs lv : List Int) (ls : List (List Int)) (td : List Int) (s : Int) : List Int → Int → Prop where
  | nil : PathTo n hs rs lv ls td s [] s
  | snoc {p : List Int} {u : Int} : PathTo n hs rs lv ls td s p u → 0 ≤ u → u < n → 0 ≤ g0 td u → g0 td u < len ls u → Cl hs rs lv u (arc ls u (g0 td u)) → PathTo n hs rs lv ls td s (p ++ [arc ls u (g0 td u)]) (g0 hs (arc ls u (g0 td u)))
section
variable {n : Nat} {hs rs lv td td' : List Int} {ls : List (List Int)} {s t : Int}
end
/-! what is left to be tried -/
def rest (n : Nat) (ls : List (List Int)) (td : List Int) : Nat := ((List.range n).map fun (u : Nat) => (len ls (u : Int) - g0 td (u : Int)).toNat).sum
/-- a path, or that there is none -/
structure PathR (n : Nat) (hs rs lv : List Int) (ls : List (List Int)) (s t : Int) (td' r : List Int) : Prop where
  tl : td'.length = n
  dead : Dead n hs rs lv ls t td'
  alt : (r = [] ∧ len ls s ≤ g0 td' s) ∨ (r ≠ [] ∧ PathTo n hs rs lv ls td' s r t)
abbrev ctPath (K : PySem.W.Frag) (C : Addr) : Y.CT (List Int) := ⟨false, .ow (oL K tInt), fun as P _ => ∃ (n : Nat) (hs rs lv td : List Int) (ls : List (List Int)) (s t : Int), as = [.sh (tFlow K C hs rs ls) (), .sh (tLs K tInt) lv, .ow (oL K tInt) td, .sh tInt s, .sh tInt t] ∧
  (Net n hs rs ls ∧ Prs n hs ls ∧ lv.length = n ∧ td.length = n ∧ (0 ≤ s ∧ s < n) ∧ (0 ≤ t ∧ t < n) ∧ s ≠ t ∧ g0 lv s = 0 ∧ (∀ u : Int, 0 ≤ u → u < n → g0 lv u ≤ n) ∧ Dead n hs rs lv ls t td) ∧ ∀ td' r, PathR n hs rs lv ls s t td' r → P [.un, .un, .ow (oL K tInt) td', .un, .un] r⟩

section
variable {n : Nat} {hs rs lv td : List Int} {ls : List (List Int)} {t : Int}
end
section
variable {P : Program} {w : World} {K : PySem.W.Frag} {mg : Str → Option Value} {base : Heap} {C : Addr}
end
end KK
end

section
set_option maxRecDepth 100000
set_option maxHeartbeats 4000000
namespace KK
open PySem PySem.Spec PyProof.Rows L2 Y
/-- levels -/
structure Lev (n : Nat) (hs rs : List Int) (ls : List (List Int)) (ss lv : List Int) : Prop where
  ln : lv.length = n
  ge : ∀ u : Int, 0 ≤ u → u < n → -1 ≤ g0 lv u
  st : ∀ s ∈ ss, g0 lv s = 0
  z : ∀ u : Int, 0 ≤ u → u < n → g0 lv u = 0 → u ∈ ss
  cl : ∀ u : Int, 0 ≤ u → u < n → 0 ≤ g0 lv u → ∀ a ∈ gl ls u, 0 < g0 rs a → 0 ≤ g0 lv (g0 hs a)
  pr : ∀ v : Int, 0 ≤ v → v < n → 0 < g0 lv v → ∃ u : Int, 0 ≤ u ∧ u < n ∧ ∃ a ∈ gl ls u, 0 < g0 rs a ∧ g0 hs a = v ∧ g0 lv v = g0 lv u + 1
  le : ∀ u : Int, 0 ≤ u → u < n → g0 lv u ≤ n
abbrev ctLevels (K : PySem.W.Frag) (C : Addr) : Y.CT (List Int) := ⟨false, .ow (oL K tInt), fun as P _ => ∃ (n : Nat) (hs rs : List Int) (ls : List (List Int)) (st : List Int), as = [.sh (tFlow K C hs rs ls) (), .sh (tLs K tInt) st] ∧
  (Net n hs rs ls ∧ ∀ s ∈ st, 0 ≤ s ∧ s < n) ∧ ∀ lv, Lev n hs rs ls st lv → P [.un, .un] lv⟩
def unl (n : Nat) (lv : List Int) : Nat := ((List.range n).map fun (u : Nat) => if g0 lv (u : Int) < 0 then 1 else 0).sum
/-- between two levels -/
structure OutL (n : Nat) (hs rs : List Int) (ls : List (List Int)) (ss lv : List Int) (d : Int) (bo : List Int) : Prop where
  ln : lv.length = n
  ge : ∀ u : Int, 0 ≤ u → u < n → -1 ≤ g0 lv u
  d0 : 0 ≤ d
  sr : ∀ s ∈ ss, 0 ≤ s ∧ s < n
  st : ∀ s ∈ ss, g0 lv s = 0
  z : ∀ u : Int, 0 ≤ u → u < n → g0 lv u = 0 → u ∈ ss
  le : ∀ u : Int, 0 ≤ u → u < n → g0 lv u ≤ d
  bd : ∀ u : Int, 0 ≤ u → u < n → g0 lv u = d → u ∈ bo
  br : ∀ u ∈ bo, 0 ≤ u ∧ u < n ∧ g0 lv u = d
  cl : ∀ u : Int, 0 ≤ u → u < n → 0 ≤ g0 lv u → g0 lv u < d → ∀ a ∈ gl ls u, 0 < g0 rs a → 0 ≤ g0 lv (g0 hs a)
  pr : ∀ v : Int, 0 ≤ v → v < n → 0 < g0 lv v → ∃ u : Int, 0 ≤ u ∧ u < n ∧ ∃ a ∈ gl ls u, 0 < g0 rs a ∧ g0 hs a = v ∧ g0 lv v = g0 lv u + 1
  nn : bo ≠ [] → d + unl n lv ≤ n
  lm : ∀ u : Int, 0 ≤ u → u < n → g0 lv u ≤ n
/-- within a level: lv0 is what it was at its start -/
structure Bfs (n : Nat) (hs rs : List Int) (ls : List (List Int)) (d : Int) (bo lv0 lv fd : List Int) (done : Int → Int → Prop) : Prop where
  ln : lv.length = n
  old : ∀ v : Int, 0 ≤ v → v < n → 0 ≤ g0 lv0 v → g0 lv v = g0 lv0 v
  new : ∀ v : Int, 0 ≤ v → v < n → g0 lv0 v < 0 → (g0 lv v = -1 ∧ v ∉ fd) ∨ (g0 lv v = d + 1 ∧ v ∈ fd)
  fr : ∀ v ∈ fd, 0 ≤ v ∧ v < n ∧ g0 lv v = d + 1 ∧ g0 lv0 v < 0 ∧ ∃ u ∈ bo, ∃ a ∈ gl ls u, 0 < g0 rs a ∧ g0 hs a = v
  dn : ∀ u a, done u a → 0 < g0 rs a → 0 ≤ g0 lv (g0 hs a)
  un : unl n lv + fd.length ≤ unl n lv0
section
variable {n : Nat} {hs rs st lv lv0 fd bd : List Int} {ls : List (List Int)} {d : Int} {done done' : Int → Int → Prop}
end

theorem ev_neg {X : Xw} {k : Bool} {G : Ct} {te : TE} {P : Ct → Int → Prop} (h : Ev X k te G tInt fun G x => P G (-x)) : Ev X k (tUn (rU fun i => .int (-i)) te) G tInt P := fun W H σ Q hs ex q => h W H σ _ hs ex fun v W' H' G' x p m r => ⟨x, r, q _ W' H' G' _ p m rfl⟩
section
variable {P : Program} {w : World} {K : PySem.W.Frag} {mg : Str → Option Value} {base : Heap} {C : Addr}
end
end KK
end

section
set_option maxRecDepth 100000
set_option maxHeartbeats 4000000
namespace KK
open PySem PySem.Spec PyProof.Rows L2 Y
abbrev xo (a : Int) : Int := Builtin.bitXor a 1
/-- what leaves a node -/
def rsum (rs l : List Int) : Int := (l.map (g0 rs)).sum
def Rm (rs : List Int) (ls : List (List Int)) (v : Int) : Int := rsum rs (gl ls v)
def bump (rs : List Int) (a d : Int) : List Int := rs.set a.toNat (g0 rs a + d)
section
variable {n : Nat} {hs rs rs1 lv td r : List Int} {ls : List (List Int)} {s t : Int}
/-- the node behind the first i arcs -/
def nd (hs : List Int) (s : Int) (r : List Int) (i : Nat) : Int := match i with
  | 0 => s
  | i + 1 => g0 hs (g0 r (i : Int))
/-- the i-th arc of a path -/
structure ArcI (n : Nat) (hs rs lv : List Int) (s : Int) (r : List Int) (i : Nat) (x : Int) : Prop where
  x0 : 0 ≤ x
  x1 : x < hs.length
  tl : g0 hs (xo x) = nd hs s r i
  lt : g0 lv (g0 hs (xo x)) = i
  lh : g0 lv (g0 hs x) = i + 1
  rm : 0 < g0 rs x
/-- while a path is filled -/
structure AugI (n : Nat) (hs rs1 : List Int) (ls : List (List Int)) (s : Int) (r : List Int) (amt : Int) (i : Nat) (rs2 : List Int) : Prop where
  ln : rs2.length = rs1.length
  nn : ∀ a : Int, 0 ≤ a → a < hs.length → 0 ≤ g0 rs2 a
  ps : ∀ a : Int, 0 ≤ a → a < hs.length → g0 rs2 a + g0 rs2 (xo a) = g0 rs1 a + g0 rs1 (xo a)
  un : ∀ a : Int, 0 ≤ a → a < hs.length → a ∉ r.take i → xo a ∉ r.take i → g0 rs2 a = g0 rs1 a
  le : ∀ a : Int, 0 ≤ a → a < hs.length → (∀ x ∈ r.take i, a ≠ xo x) → g0 rs2 a ≤ g0 rs1 a
  rv : ∀ v : Int, 0 ≤ v → v < n → Rm rs2 ls v = Rm rs1 ls v - (if v = s then amt else 0) + (if v = nd hs s r i then amt else 0)
  lo : ∀ a : Int, 0 ≤ a → a < hs.length → g0 rs1 a - amt ≤ g0 rs2 a
end
end KK
end

section
set_option maxRecDepth 100000
set_option maxHeartbeats 4000000
namespace KK
open PySem PySem.Spec PyProof.Rows L2 Y
section
variable {n : Nat} {hs rs rs1 lv td r : List Int} {ls : List (List Int)} {s t : Int}
inductive Alive (n : Nat) (hs rs lv : List Int) (ls : List (List Int)) (t : Int) : Int → Prop where
  | t : Alive n hs rs lv ls t t
  | st {u a : Int} : 0 ≤ u → u < n → a ∈ gl ls u → Cl hs rs lv u a → Alive n hs rs lv ls t (g0 hs a) → Alive n hs rs lv ls t u
/-- what a filling leaves -/
structure Aug (n : Nat) (hs rs : List Int) (ls : List (List Int)) (s t : Int) (rs1 : List Int) (tot : Int) : Prop where
  ln : rs1.length = rs.length
  nn : ∀ a : Int, 0 ≤ a → a < hs.length → 0 ≤ g0 rs1 a
  ps : ∀ a : Int, 0 ≤ a → a < hs.length → g0 rs1 a + g0 rs1 (xo a) = g0 rs a + g0 rs (xo a)
  rv : ∀ v : Int, 0 ≤ v → v < n → Rm rs1 ls v = Rm rs ls v - (if v = s then tot else 0) + (if v = t then tot else 0)
  t0 : 0 ≤ tot
  lo : ∀ a : Int, 0 ≤ a → a < hs.length → g0 rs a - tot ≤ g0 rs1 a
end
abbrev ctFS (K : PySem.W.Frag) (C : Addr) : Y.CT Int := ⟨false, .sh tInt, fun as P _ => ∃ (n : Nat) (hs rs lv : List Int) (ls : List (List Int)) (s t : Int), as = [.ow (oFlow K C hs rs ls) (), .sh (tLs K tInt) lv, .sh tInt s, .sh tInt t] ∧
  (Net n hs rs ls ∧ Prs n hs ls ∧ (∀ a : Int, 0 ≤ a → a < hs.length → 0 ≤ g0 rs a) ∧ Lev n hs rs ls [s] lv ∧ (0 ≤ s ∧ s < n) ∧ (0 ≤ t ∧ t < n) ∧ s ≠ t ∧ 0 ≤ g0 lv t) ∧ ∀ rs1 tot, Aug n hs rs ls s t rs1 tot → 1 ≤ tot → P [.ow (oFlow K C hs rs1 ls) (), .un, .un, .un] tot⟩
section
variable {P : Program} {w : World} {K : PySem.W.Frag} {mg : Str → Option Value} {base : Heap} {C : Addr}
end
end KK
end

section
set_option maxRecDepth 100000
set_option maxHeartbeats 4000000
namespace KK
open PySem PySem.Spec PyProof.Rows L2 Y
abbrev ctFill (K : PySem.W.Frag) (C : Addr) : Y.CT Int := ⟨false, .sh tInt, fun as P _ => ∃ (n : Nat) (hs rs : List Int) (ls : List (List Int)) (s t : Int), as = [.ow (oFlow K C hs rs ls) (), .sh tInt s, .sh tInt t] ∧
  (Net n hs rs ls ∧ Prs n hs ls ∧ (∀ a : Int, 0 ≤ a → a < hs.length → 0 ≤ g0 rs a) ∧ (0 ≤ s ∧ s < n) ∧ (0 ≤ t ∧ t < n) ∧ s ≠ t) ∧ ∀ rs1 tot lv, Aug n hs rs ls s t rs1 tot → Lev n hs rs1 ls [s] lv → g0 lv t < 0 → P [.ow (oFlow K C hs rs1 ls) (), .un, .un] tot⟩
abbrev ctReach (K : PySem.W.Frag) (C : Addr) : Y.CT (List Bool) := ⟨false, .sh (tLs K tBl), fun as P _ => ∃ (n : Nat) (hs rs : List Int) (ls : List (List Int)) (st : List Int), as = [.sh (tFlow K C hs rs ls) (), .sh (tLs K tInt) st] ∧
  (Net n hs rs ls ∧ ∀ s ∈ st, 0 ≤ s ∧ s < n) ∧ ∀ lv, Lev n hs rs ls st lv → ∀ os, P os (lv.map fun x => decide (0 ≤ x))⟩
section
variable {P : Program} {w : World} {K : PySem.W.Frag} {mg : Str → Option Value} {base : Heap} {C : Addr}
end
end KK
end

section
set_option maxRecDepth 100000
set_option maxHeartbeats 4000000
namespace KK
open PySem PySem.Spec PyProof.Rows L2 Y
/-! ### networks, link by link -/
abbrev Lk := Int × Int × Int
/-- the arcs that leave a node -/
def lkArcs (v : Int) (p : Lk × Nat) : List Int := (if p.1.1 = v then [2 * (p.2 : Int)] else []) ++ (if p.1.2.1 = v then [2 * (p.2 : Int) + 1] else [])
def arcsOf (L : List Lk) (v : Int) : List Int := L.zipIdx.flatMap (lkArcs v)
structure Built (n : Nat) (L : List Lk) (hs rs : List Int) (ls : List (List Int)) : Prop where
  hs : hs = L.flatMap fun p => [p.2.1, p.1]
  rs : rs = L.flatMap fun p => [p.2.2, 0]
  ln : ls.length = n
  gs : ∀ v : Int, 0 ≤ v → v < n → gl ls v = arcsOf L v
  ok : ∀ p ∈ L, (0 ≤ p.1 ∧ p.1 < n) ∧ (0 ≤ p.2.1 ∧ p.2.1 < n)
section
variable {n : Nat} {L : List Lk} {hs rs : List Int} {ls : List (List Int)}
end
end KK
end

section
set_option maxRecDepth 100000
set_option maxHeartbeats 4000000
/-! enumerate of a dict (locked) -/
namespace PySem
open Sem (wp)
open AutoSeq1 (wpAny_loadPart')
section
variable {prog : Program} {w : World} {A : Around} {E : Value → Shared → Prop} {s : Shared}
end
section
variable {prog : Program} {w : World} {A : Around} {E : Value → Shared → Prop} {s : Shared}
end
end PySem
namespace Own
open PySem PySem.Spec PyProof.Rows L2
/-- the keys of the locked dict at d, each in a new pair -/
def IteD (d : Addr) (o : Obj) (kvs : List (Key × V)) : It :=
  ⟨fun i H => H d = some (.frz o (.dK kvs)) ∧ i < kvs.length, fun i H v H' => ∃ T k u, v = .ref T ∧ H T = none ∧ H' = upd H T (.tup [.int (i : Nat), kV k]) ∧ kvs[i]? = some (k, u), fun i H => H d = some (.frz o (.dK kvs)) ∧ kvs.length = i⟩
def iEnumD (ta : TA) : TI := fun σ H R => ta σ H fun vs H1 => ∃ d o kvs, vs = [.ref d] ∧ H1 d = some (.frz o (.dK kvs)) ∧ R (IteD d o kvs) H1
end Own
end

section
set_option maxRecDepth 100000
set_option maxHeartbeats 4000000
/-! enumerate of a dict -/
namespace Y
open PySem PySem.Spec PyProof.Rows L2
section
variable {α β γ δ : Type} {t : Ty α} {u : Ty β} {X : Xw} {k : Bool} {G : Ct} {K : PySem.W.Frag}
end
end Y
namespace Y
open PySem PySem.Spec PyProof.Rows L2
end Y
namespace Y
open PySem PySem.Spec PyProof.Rows L2
section
variable {α ρ : Type} {F : Fx ρ} {G : Ct} {N B C : Ct → Prop} {t : Ty α} {K : PySem.W.Frag} {D : Addr}
end
end Y
end

section
set_option maxRecDepth 100000
set_option maxHeartbeats 4000000
namespace KK
open PySem PySem.Spec PyProof.Rows L2 Y
abbrev Lit := Str × Bool
abbrev tLit (K : PySem.W.Frag) : Y.Ty Lit := tT2 K tStr tBl
structure SidesC (K : PySem.W.Frag) (C : Addr) : Prop where
  cl : Cls K C
  nn : NoAttr K C "_numbers"
  ns : NoAttr K C "_source"
  nk : NoAttr K C "_sink"
  nf : NoAttr K C "_flow"
  na : NoAttr K C "_arcs"
  nt : NoAttr K C "total"
def opp (l : Lit) : Lit := (l.1, !l.2)
def numsOf (ns : List Str) : List (Str × Int) := ns.zipIdx.map fun p => (p.1, (p.2 : Int))
def ix (ns : List Str) (x : Str) : Int := (ns.idxOf x : Nat)
def node (ns : List Str) (l : Lit) : Int := 2 * ix ns l.1 + (if l.2 then 1 else 0)
theorem look_cons {κ α : Type} [DecidableEq κ] (k x : κ) (v : α) (d : List (κ × α)) : lookK ((k, v) :: d) x = if k = x then some v else lookK d x := by
  unfold lookK
  rw [List.find?_cons]
  by_cases e : k = x
  · rw [if_pos e, show decide ((k, v).1 = x) = true from decide_eq_true e]; rfl
  · rw [if_neg e, show decide ((k, v).1 = x) = false from decide_eq_false e]
abbrev ctOpp (K : PySem.W.Frag) : Y.CT Lit := ⟨false, .sh (tLit K), fun as P _ => ∃ l, as = [.sh (tLit K) l] ∧ ∀ os, P os (opp l)⟩
abbrev ctNode (K : PySem.W.Frag) (CS : Addr) : Y.CT Int := ⟨false, .sh tInt, fun as P _ => ∃ (fl : List (Str × Sl)) (ns : List Str) (l : Lit), as = [.sh (tIns CS fl) (), .sh (tLit K) l] ∧ (fl[0]? = some (("_numbers" : Str), Sl.sh (tDk kS tInt) (numsOf ns)) ∧ (fl.map (·.1)).idxOf ("_numbers" : Str) = 0 ∧ l.1 ∈ ns) ∧ ∀ os, P os (node ns l)⟩
section
variable {P : Program} {w : World} {K : PySem.W.Frag} {mg : Str → Option Value} {base : Heap} {C CS : Addr}
abbrev NYopposite : List Str := ["literal", "name", "flag"]
theorem scYopposite : FnScope NYopposite ["literal"] (defScope s_opposite) := ⟨rfl, rfl, rfl, by decide +kernel, rfl, by decide +kernel, by decide +kernel⟩
theorem y_opp (F : Has K mg "opposite" s_opposite) : C8.Cal P w K mg base 1 "opposite" (Y.spZ (ctOpp K)) [] := by
  refine calF F (fun f fd F => F.binds (ps := ["literal"]) fun _ _ _ _ _ _ us hl => match us, hl with | [_], _ => rfl) scYopposite (fun vs H Q E h => zlen (fun as P XP hc => by obtain ⟨_, rfl, _⟩ := hc; rfl) h) (fun f cdv A outer s H vs Q E hr h => ?_)
  have hu := hu_of hr
  refine ⟨_, (pss_cons (ps_asg (pv 0) (pg_tup rfl (pgs_cons (pg_name (i := 1) scYopposite.nd rfl (Or.inl rfl)) (pgs_cons (pg_name (i := 2) scYopposite.nd rfl (Or.inl rfl)) pgs_nil))))
      (pss_one (ps_ret (pe_tup (pa_cons (pv 1) (pa_cons (pe_not (pv 2)) pa_nil)))))), zrun h ?_⟩
  rintro as P XP ⟨l, rfl, hp⟩ hl
  obtain ⟨p0, rfl⟩ := len1 hl
  refine ⟨2, rfl, by decide, ?_⟩
  refine blk_seq (blk_asg (vs := [1, 2]) (ev_var rfl (tg_tup2 (tg_name (by decide) (free_of rfl) (tg_name (by decide) (free_of rfl) ?_)))))
  exact blk_ret (ev_t2 (ev_var rfl (ev_not (ev_var rfl (fin0 [_] _ hp)))))
end
end KK
end

section
set_option maxRecDepth 100000
set_option maxHeartbeats 4000000
namespace KK
open PySem PySem.Spec PyProof.Rows L2 Y
def gD (d : List (Str × Int)) (x : Str) : Int := (lookK d x).getD 0
abbrev Row := Lit × Lit
abbrev tRow (K : PySem.W.Frag) : Y.Ty Row := tT2 K (tLit K) (tLit K)
def nameLk (ns : List Str) (left right : List (Str × Int)) (x : Str) : List Lk := [(2 * (ns.length : Int), node ns (x, false), gD left x), (node ns (x, true), 2 * (ns.length : Int) + 1, gD right x)]
def rowLk (ns : List Str) (wd : Int) (p : Row) : List Lk := [(node ns (opp p.1), node ns p.2, wd), (node ns (opp p.2), node ns p.1, wd)]
def wideOf (ns : List Str) (left : List (Str × Int)) : Int := 1 + (ns.map (gD left)).sum
def links (ns : List Str) (left right : List (Str × Int)) (rows : List Row) : List Lk := ns.flatMap (nameLk ns left right) ++ rows.flatMap (rowLk ns (wideOf ns left))
def arcL (N m : Nat) : List (Int × Int) := (List.range m).map fun (j : Nat) => (4 * (N : Int) + 4 * (j : Int), 4 * (N : Int) + 4 * (j : Int) + 2)
section
variable (K : PySem.W.Frag) (C : Addr)
abbrev fl1 (ns : List Str) : List (Str × Sl) := [("_numbers", .sh (tDk kS tInt) (numsOf ns))]
abbrev fl2 (ns : List Str) : List (Str × Sl) := [("_numbers", .sh (tDk kS tInt) (numsOf ns)), ("_source", .sh tInt (2 * (ns.length : Int)))]
abbrev fl3 (ns : List Str) : List (Str × Sl) := [("_numbers", .sh (tDk kS tInt) (numsOf ns)), ("_source", .sh tInt (2 * (ns.length : Int))), ("_sink", .sh tInt (2 * (ns.length : Int) + 1))]
abbrev fl4 (ns : List Str) (hs rs : List Int) (ls : List (List Int)) : List (Str × Sl) := [("_numbers", .sh (tDk kS tInt) (numsOf ns)), ("_source", .sh tInt (2 * (ns.length : Int))), ("_sink", .sh tInt (2 * (ns.length : Int) + 1)), ("_flow", .ow (oFlow K C hs rs ls) ())]
abbrev fl5 (ns : List Str) (hs rs : List Int) (ls : List (List Int)) (arcs : List (Int × Int)) : List (Str × Sl) := [("_numbers", .sh (tDk kS tInt) (numsOf ns)), ("_source", .sh tInt (2 * (ns.length : Int))), ("_sink", .sh tInt (2 * (ns.length : Int) + 1)), ("_flow", .ow (oFlow K C hs rs ls) ()), ("_arcs", .ow (oL K (tT2 K tInt tInt)) arcs)]
abbrev fl6 (ns : List Str) (hs rs : List Int) (ls : List (List Int)) (arcs : List (Int × Int)) (tot : Int) : List (Str × Sl) := [("_numbers", .sh (tDk kS tInt) (numsOf ns)), ("_source", .sh tInt (2 * (ns.length : Int))), ("_sink", .sh tInt (2 * (ns.length : Int) + 1)), ("_flow", .ow (oFlow K C hs rs ls) ()), ("_arcs", .ow (oL K (tT2 K tInt tInt)) arcs), ("total", .sh tInt tot)]
end
/-- what the two sides are -/
structure SidesR (ns : List Str) (left right : List (Str × Int)) (rows : List Row) (hs rs0 rs : List Int) (ls : List (List Int)) (tot : Int) (lv : List Int) : Prop where
  bt : Built (2 * ns.length + 2) (links ns left right rows) hs rs0 ls
  ag : Aug (2 * ns.length + 2) hs rs0 ls (2 * (ns.length : Int)) (2 * (ns.length : Int) + 1) rs tot
  lev : Lev (2 * ns.length + 2) hs rs ls [2 * (ns.length : Int)] lv
  no : g0 lv (2 * (ns.length : Int) + 1) < 0
abbrev ctSides (K : PySem.W.Frag) (CS C : Addr) : Y.CT Unit := ⟨true, .sh tNon, fun as P _ => ∃ (rows : List Row) (left right : List (Str × Int)), as = [.ow (oIns CS []) (), .sh (tLs K (tRow K)) rows, .sh (tDk kS tInt) left, .sh (tDk kS tInt) right] ∧
  ((left.map (·.1)).Nodup ∧ left.length ≤ 40 ∧ rows.length ≤ 400 ∧ (∀ p ∈ rows, p.1.1 ∈ left.map (·.1) ∧ p.2.1 ∈ left.map (·.1)) ∧ (∀ x ∈ left.map (·.1), ∃ v, lookK right x = some v ∧ 0 ≤ v) ∧ (∀ x ∈ left.map (·.1), 0 ≤ gD left x)) ∧
  ∀ hs rs0 rs ls tot lv, SidesR (left.map (·.1)) left right rows hs rs0 rs ls tot lv → ∀ o1 o2 o3, P [.ow (oIns CS (fl6 K C (left.map (·.1)) hs rs ls (arcL left.length rows.length) tot)) (), o1, o2, o3] ()⟩
section
variable {P : Program} {w : World} {K : PySem.W.Frag} {mg : Str → Option Value} {base : Heap} {C CS : Addr}
end
end KK
end

section
set_option maxRecDepth 100000
set_option maxHeartbeats 4000000
namespace KK
open PySem PySem.Spec PyProof.Rows L2 Y
theorem fits40 {n : Nat} (h : n ≤ 1000) : n < sizeLine := Nat.lt_of_le_of_lt h (by decide)
section
variable {P : Program} {w : World} {K : PySem.W.Frag} {mg : Str → Option Value} {base : Heap} {C CS : Addr}
end
end KK
end

section
set_option maxRecDepth 100000
set_option maxHeartbeats 4000000
namespace KK
open PySem PySem.Spec PyProof.Rows L2 Y
abbrev tSides (K : PySem.W.Frag) (CS C : Addr) (ns : List Str) (hs rs : List Int) (ls : List (List Int)) (arcs : List (Int × Int)) (tot : Int) : Y.Ty Unit := tIns CS (fl6 K C ns hs rs ls arcs tot)
def gB (re : List Bool) (i : Int) : Bool := re.getD i.toNat false
def valOf (ns : List Str) (re : List Bool) (x : Str) : Int := (if gB re (node ns (x, false)) then 0 else 1) + (if gB re (node ns (x, true)) then 1 else 0)
def readOf (ns : List Str) (re : List Bool) : List (Str × Int) := ns.map fun x => (x, valOf ns re x)
abbrev ctRead (K : PySem.W.Frag) (CS C : Addr) : Y.CT (List (Str × Int)) := ⟨false, .ow (oD kS tInt), fun as P _ => ∃ (ns : List Str) (hs rs : List Int) (ls : List (List Int)) (arcs : List (Int × Int)) (tot : Int) (re : List Bool), as = [.sh (tSides K CS C ns hs rs ls arcs tot) (), .sh (tLs K tBl) re] ∧
  (ns.Nodup ∧ ns.length ≤ 40 ∧ re.length = 2 * ns.length + 2) ∧ ∀ os, P os (readOf ns re)⟩
abbrev ctAnswer (K : PySem.W.Frag) (CS C : Addr) : Y.CT (List (Str × Int)) := ⟨false, .ow (oD kS tInt), fun as P _ => ∃ (ns : List Str) (hs rs : List Int) (ls : List (List Int)) (arcs : List (Int × Int)) (tot : Int), as = [.sh (tSides K CS C ns hs rs ls arcs tot) ()] ∧
  (ns.Nodup ∧ ns.length ≤ 40 ∧ Net (2 * ns.length + 2) hs rs ls) ∧ ∀ lv, Lev (2 * ns.length + 2) hs rs ls [2 * (ns.length : Int)] lv → ∀ os, P os (readOf ns (lv.map fun x => decide (0 ≤ x)))⟩
abbrev ctRowFlows (K : PySem.W.Frag) (CS C : Addr) : Y.CT (List Int) := ⟨false, .ow (oL K tInt), fun as P _ => ∃ (ns : List Str) (hs rs : List Int) (ls : List (List Int)) (arcs : List (Int × Int)) (tot : Int), as = [.sh (tSides K CS C ns hs rs ls arcs tot) ()] ∧
  (arcs.length ≤ 1000 ∧ ∀ p ∈ arcs, (0 ≤ p.1 ∧ p.1 + 1 < rs.length) ∧ (0 ≤ p.2 ∧ p.2 + 1 < rs.length)) ∧ ∀ os, P os (arcs.map fun p => g0 rs (p.1 + 1) + g0 rs (p.2 + 1))⟩
section
variable {P : Program} {w : World} {K : PySem.W.Frag} {mg : Str → Option Value} {base : Heap} {C CS : Addr}
variable {ns : List Str} {hs rs : List Int} {ls : List (List Int)} {arcs : List (Int × Int)} {tot : Int}
end
end KK
end

section
set_option maxRecDepth 100000
set_option maxHeartbeats 4000000
namespace KK
open PySem PySem.Spec PyProof.Rows L2 Y
/-! ### sums -/
/-! ### flows on links -/
/-- what flows on a link -/
def fw (rs : List Int) (k : Nat) : Int := g0 rs (2 * (k : Int) + 1)
structure FlowR (n : Nat) (L : List Lk) (rs : List Int) (s t : Int) (tot : Int) : Prop where
  lo : ∀ (k : Nat) p, L[k]? = some p → 0 ≤ fw rs k ∧ fw rs k ≤ tot ∧ g0 rs (2 * (k : Int)) = p.2.2 - fw rs k ∧ 0 ≤ g0 rs (2 * (k : Int))
  cv : ∀ v : Int, 0 ≤ v → v < n → (L.zipIdx.map fun q => (if q.1.2.1 = v then fw rs q.2 else 0) - (if q.1.1 = v then fw rs q.2 else 0)).sum = (if v = t then tot else 0) - (if v = s then tot else 0)
end KK
end

section
set_option maxRecDepth 100000
set_option maxHeartbeats 4000000
namespace KK
open PySem PySem.Spec PyProof.Rows L2 Y
/-- what is asked of the sides' arguments -/
structure SidesP (ns : List Str) (left right : List (Str × Int)) (rows : List Row) : Prop where
  nd : ns.Nodup
  l0 : ∀ x ∈ ns, 0 ≤ gD left x
  r0 : ∀ x ∈ ns, 0 ≤ gD right x
  rw : ∀ p ∈ rows, p.1.1 ∈ ns ∧ p.2.1 ∈ ns
def inS (lv : List Int) (v : Int) : Bool := decide (0 ≤ g0 lv v)
section
variable {ns : List Str} {left right : List (Str × Int)} {rows : List Row} {hs rs0 rs lv : List Int} {ls : List (List Int)} {tot : Int}
end
end KK
end

section
set_option maxRecDepth 100000
set_option maxHeartbeats 4000000
namespace KK
open PySem PySem.Spec PyProof.Rows L2 Y
def tieRow (e : Str × Str) : Row := ((e.1, true), (e.2, true))
def rowF (N : Nat) (rs : List Int) (j : Nat) : Int := fw rs (2 * j + 2 * N) + fw rs (2 * j + 1 + 2 * N)
def flowsOf (N : Nat) (rs : List Int) (us : List (Str × Str)) : List Int := us.zipIdx.map fun p => rowF N rs p.2
/-- prices of the ties -/
structure TieFl (ns : List Str) (pr : Str → Int) (us : List (Str × Str)) (tot : Int) (ys : List Int) : Prop where
  ln : ys.length = us.length
  nn : ∀ y ∈ ys, 0 ≤ y
  tt : ys.sum = tot
  lo : ∀ x ∈ ns, ((us.zip ys).map fun p => (if p.1.1 = x then p.2 else 0) + (if p.1.2 = x then p.2 else 0)).sum ≤ 2 * pr x
/-- an answer -/
structure AnsR (ns : List Str) (pr : Str → Int) (us : List (Str × Str)) (tot : Int) (xv : Str → Int) : Prop where
  r : ∀ x ∈ ns, 0 ≤ xv x ∧ xv x ≤ 2
  t : ∀ e ∈ us, 2 ≤ xv e.1 + xv e.2
  c : (ns.map fun x => pr x * xv x).sum = tot
section
variable {ns : List Str} {pr : List (Str × Int)} {us : List (Str × Str)} {hs rs0 rs lv : List Int} {ls : List (List Int)} {tot : Int}
end
end KK
end

section
set_option maxRecDepth 100000
set_option maxHeartbeats 4000000
namespace KK
open PySem PySem.Spec PyProof.Rows L2
/-! ### the law's stream and draw -/
def spStream (K : PySem.W.Frag) : Sp := fun vs H Q _ => ∃ (a : Addr) (ns : List Int) (j : Int), vs = [.ref a, .int j] ∧ SqL K H a (ns.map V.int) ∧ ns.length ≤ 1000 ∧ 0 ≤ j ∧ j ≤ 100 ∧ ∀ p c, H p = none → Q (.ref p) (upd H p (.lst [.int c, .int (1 + 101 * j)]))
def spDraw : Sp := fun vs H Q _ => ∃ (a : Addr) (n m : Int), vs = [.ref a, .int n] ∧ StrAt H a m ∧ m ≤ 1000000 ∧ 0 < n ∧ n < 2 ^ 200 ∧ ∀ r H', 0 ≤ r → r < n → But a H H' → StrAt H' a (m + 1) → Q (.int r) H'
theorem fm0 {i j : Int} (h : 0 < j) : 0 ≤ i.fmod j ∧ i.fmod j < j := by
  rw [Int.fmod_eq_emod_of_nonneg i (Int.le_of_lt h)]
  exact ⟨Int.emod_nonneg i (by omega), Int.emod_lt_of_pos i h⟩
theorem mulOk {i j : Int} (h : 0 < j) (h2 : j ≤ 2 ^ 64) : -(2 ^ 64) < i.fmod j ∧ i.fmod j < 2 ^ 64 := by
  have := fm0 (i := i) h
  omega
theorem log200 {n : Int} (h0 : 0 < n) (h : n < 2 ^ 200) : n.natAbs.log2 < 9000 := by
  have h1 : n.natAbs < 2 ^ 200 := by omega
  exact Nat.lt_trans (PySem.Flt.log2_lt_of (by decide) h1) (by decide)
section
variable {P : Program} {w : World} {K : PySem.W.Frag} {mg : Str → Option Value} {base : Heap}
abbrev NStream : List Str := ["_law_script", "_law_k", "_law_cell"]
theorem scStream : FnScope NStream ["_law_script", "_law_k"] (defScope s_law_stream) := ⟨rfl, rfl, rfl, by decide +kernel, rfl, by decide +kernel, by decide +kernel⟩
theorem c_stream (T : Blt mg) (F : Has K mg "_law_stream" s_law_stream) : C8.Cal P w K mg base 1 "_law_stream" (spStream K) [] := by
  refine calF F (fun f fd F => F.binds (ps := ["_law_script", "_law_k"]) fun _ _ _ _ _ _ us hl => match us, hl with | [_, _], _ => rfl) scStream (fun vs H Q E h => ?_) (fun f cdv A outer s H vs Q E hr h => ?_)
  · obtain ⟨a, ns, j, rfl, _⟩ := h
    rfl
  · obtain ⟨a, ns, j, rfl, hs, hn, h0, h1, k⟩ := h
    refine ⟨_, pss_cons (ps_set (i := 2) scStream.nd rfl (Or.inl rfl) pe_int)
      (pss_cons (ps_if (pt_cmpR op_lt (pv 1) (pe_callB call_len (by rfl) T.b_len PySem.boot_len (pa_cons (pv 0) pa_nil)) (nomark _)) (pss_one (ps_set (i := 2) scStream.nd rfl (Or.inl rfl) (pe_ix ix_list (pv 0) (pv 1) (fun _ _ => rfl)))) pss_nil)
      (pss_one (ps_ret (pe_lst (pa_cons (pv 2) (pa_cons (pe_op op_add pe_int (pe_op op_mul pe_int (pv 1))) pa_nil)))))), ?_⟩
    refine ⟨_, rfl, _, rfl, _, _, rfl, .inl ⟨_, hs, rfl⟩, _, _, rfl, rfl, _, rfl, ?_⟩
    refine ite2 (fun hlt => ?_) (fun hlt => ?_)
    · have hj : j < ((ns.map V.int).length : Int) := of_decide_eq_true hlt
      rw [List.length_map] at hj
      have hx : (ns.map V.int)[j.toNat]? = some (V.int (ns[j.toNat]'(by omega))) := by
        rw [List.getElem?_map, List.getElem?_eq_getElem (by omega)]
        rfl
      refine ⟨_, rfl, _, rfl, a, _, _, _, rfl, rfl, hs, at_of (j := j.toNat) (by omega) hx, ?_⟩
      exact ⟨_, rfl, _, rfl, _, _, rfl, rfl, .inl ⟨by decide, by decide⟩, _, _, rfl, rfl, (show 2 ≤ sizeLine from fits (by decide)), fun p hp => k p _ hp⟩
    · exact ⟨_, rfl, _, rfl, _, _, rfl, rfl, .inl ⟨by decide, by decide⟩, _, _, rfl, rfl, (show 2 ≤ sizeLine from fits (by decide)), fun p hp => k p _ hp⟩
abbrev NDraw : List Str := ["_law_stream_here", "_law_many", "_law_found", "_law_mixed"]
theorem scDraw : FnScope NDraw ["_law_stream_here", "_law_many"] (defScope s_law_draw) := ⟨rfl, rfl, rfl, by decide +kernel, rfl, by decide +kernel, by decide +kernel⟩
end
end KK
end

section
set_option maxRecDepth 100000
set_option maxHeartbeats 4000000
namespace KK
open PySem PySem.Spec PyProof.Rows L2
/-! ### names -/
def CsOk (l : List Nat) : Prop := ∀ c ∈ l, 97 ≤ c ∧ c ≤ 122
structure NameOk (x : Str) : Prop where
  lo : 1 ≤ x.cps.toList.length
  hi : x.cps.toList.length ≤ 8
  cs : CsOk x.cps.toList
theorem at_ofN {α : Type} {xs : List α} {z : Int} {j : Nat} {v : α} (e : z = (j : Int)) (h : xs[j]? = some v) : atI xs z = some v := by
  rw [e]
  exact atI_nat h
theorem cps_app (x y : Str) : (x ++ y).cps.toList = x.cps.toList ++ y.cps.toList := by
  have e : (x ++ y).cps = x.cps ++ y.cps := rfl
  rw [e, Array.toList_append]
theorem len_cps (x : Str) : x.length = x.cps.toList.length := by
  show x.cps.size = _
  rw [Array.length_toList]
/-- no more different things than places -/
theorem pigeon {α : Type} [DecidableEq α] : ∀ {xs ys : List α}, xs.Nodup → (∀ x ∈ xs, x ∈ ys) → xs.length ≤ ys.length
  | [], _, _, _ => Nat.zero_le _
  | x :: xs, ys, hn, hs => by
    have hx : x ∈ ys := hs x List.mem_cons_self
    have h1 := List.nodup_cons.mp hn
    have ih := pigeon (xs := xs) (ys := ys.erase x) h1.2 fun z hz => (List.mem_erase_of_ne (fun q => h1.1 (by rw [← q]; exact hz))).mpr (hs z (List.mem_cons_of_mem _ hz))
    rw [List.length_erase_of_mem hx] at ih
    have : 0 < ys.length := List.length_pos_of_mem hx
    rw [List.length_cons]
    omega
abbrev qzv (i : Nat) : Nat := if i = 0 then 113 else if i = 1 then 122 else 118
def two (i j : Nat) : Str := (⟨#[qzv i]⟩ : Str) ++ ⟨#[97 + j]⟩
def allTwo : List Str := ((List.range 3).flatMap fun i => (List.range 26).map fun j => two i j)
theorem abc_all : ∀ j < 26, (PySem.Str.ofString "abcdefghijklmnopqrstuvwxyz").cps.toList[j]? = some (97 + j) := by decide +kernel
def spName (K : PySem.W.Frag) : Sp := fun vs H Q _ => ∃ (a u : Addr) (m : Int) (ys : List Str), vs = [.ref a, .ref u] ∧ StrAt H a m ∧ m ≤ 100000 ∧ u ≠ a ∧ (SqL K H u (ys.map V.str) ∨ SqT K H u (ys.map V.str)) ∧ ys.length ≤ 60 ∧
  ∀ x H', NameOk x → x ∉ ys → But a H H' → StrAt H' a (m + 9) → Q (.str x) H'
section
variable {P : Program} {w : World} {K : PySem.W.Frag} {mg : Str → Option Value} {base : Heap}
end
end KK
end

section
set_option maxRecDepth 100000
set_option maxHeartbeats 4000000
namespace KK
open PySem PySem.Spec PyProof.Rows L2
/-! ### amounts, pairs, parts -/
def spAmount : Sp := fun vs H Q _ => ∃ (a : Addr) (n m : Int), vs = [.ref a, .int n] ∧ StrAt H a m ∧ m ≤ 100000 ∧ ∀ r H', 1 ≤ r → r ≤ 10 ^ 30 → But a H H' → StrAt H' a (m + 2) → Q (.int r) H'
def spPair : Sp := fun vs H Q _ => ∃ (a : Addr) (x y : Str) (m : Int), vs = [.ref a, .str x, .str y] ∧ StrAt H a m ∧ m ≤ 100000 ∧
  ∀ t (p : Str × Str) H', (p = (x, y) ∨ p = (y, x)) → H t = none → But a H H' → StrAt H' a (m + 1) → H' t = some (.tup [.str p.1, .str p.2]) → Q (.ref t) H'
/-- an unordered pair -/
def ordP (p : Str × Str) : Str × Str := if Own.ltS p.2 p.1 = true then (p.2, p.1) else p
/-- the tuple that a value stands for -/
def IsTie (H : Hp) (x : V) (p : Str × Str) : Prop := ∃ t, x = .ref t ∧ H t = some (.tup [.str p.1, .str p.2])
/-- ties between the names -/
structure TieOk (ns : List Str) (p : Str × Str) : Prop where
  a : p.1 ∈ ns
  b : p.2 ∈ ns
  ne : p.1 ≠ p.2
/-- the values xs are the ties ts -/
def Ties (H : Hp) (xs : List V) (ts : List (Str × Str)) : Prop := Paired (IsTie H) xs ts
structure NsOk (ns : List Str) : Prop where
  lo : 1 ≤ ns.length
  hi : ns.length ≤ 40
  nd : ns.Nodup
  ok : ∀ x ∈ ns, NameOk x
structure TsOk (ns : List Str) (ts : List (Str × Str)) : Prop where
  ok : ∀ p ∈ ts, TieOk ns p
  nd : (ts.map ordP).Nodup
  hi : ts.length ≤ 400
def PrOk (ps : List Int) : Prop := ∀ p ∈ ps, 1 ≤ p ∧ p ≤ 10 ^ 30
def prK (ns : List Str) (ps : List Int) : List (Key × V) := (ns.zip ps).map fun e => (Sum.inr e.1, V.int e.2)
/-- prices of ns, in some order -/
def IsPr (H : Hp) (d : Addr) (ns : List Str) (ps : List Int) : Prop := ∃ kvs, H d = some (.dK kvs) ∧ kvs.Perm (prK ns ps)
structure PartsAt (H : Hp) (r pl tl d : Addr) (ns : List Str) (ps : List Int) (xs : List V) (ts : List (Str × Str)) : Prop where
  hr : H r = some (.lst [.ref pl, .ref tl, .ref d])
  hp : H pl = some (.tup (ns.map V.str))
  ht : H tl = some (.lst xs)
  hd : IsPr H d ns ps
  ti : Ties H xs ts
  nr : r ≠ tl
  pl : ps.length = ns.length
  no : NsOk ns
  to : TsOk ns ts
  po : PrOk ps
/-- ties made so far, in the turns ahead of (i, j) -/
structure Made (ns : List Str) (i j : Nat) (ts : List (Str × Str)) : Prop where
  nd : (ts.map ordP).Nodup
  at_ : ∀ p ∈ ts, ∃ i' j' x y, j' < i' ∧ (i' < i ∨ (i' = i ∧ j' < j)) ∧ ns[i']? = some x ∧ ns[j']? = some y ∧ (p = (x, y) ∨ p = (y, x))
  len : ts.length ≤ i * i + j
section
variable {P : Program} {w : World} {K : PySem.W.Frag} {mg : Str → Option Value} {base : Heap}
end
end KK
end

section
set_option maxRecDepth 100000
set_option maxHeartbeats 4000000
namespace KK
open PySem PySem.Spec PyProof.Rows L2
theorem take_more {α : Type} : ∀ {l : List α} {i : Nat} {x : α}, l[i]? = some x → l.take (i + 1) = l.take i ++ [x]
  | [], i, x, h => by simp at h
  | a :: l, 0, x, h => by
    have e : a = x := Option.some.inj h
    subst e
    rfl
  | a :: l, i + 1, x, h => by
    have ih := take_more (l := l) (i := i) (x := x) h
    show a :: l.take (i + 1) = a :: l.take i ++ [x]
    rw [ih]
    rfl
theorem not_taken {l : List Str} {i : Nat} {x : Str} (hn : l.Nodup) (h : l[i]? = some x) : x ∉ l.take i := fun hm => by
  obtain ⟨j, hj⟩ := List.getElem?_of_mem hm
  have hlt : j < i := by
    obtain ⟨h1, _⟩ := List.getElem?_eq_some_iff.mp hj
    rw [List.length_take] at h1
    omega
  rw [List.getElem?_take_of_lt hlt] at hj
  have := nd_ix hn h hj
  omega
def spParts (K : PySem.W.Frag) : Sp := fun vs H Q _ => ∃ (a : Addr) (lo hi m : Int), vs = [.ref a, .int lo, .int hi] ∧ StrAt H a m ∧ m ≤ 1000 ∧ 1 ≤ lo ∧ lo ≤ hi ∧ hi ≤ 19 ∧
  ∀ r pl tl d ns ps xs ts H', H r = none → H pl = none → H tl = none → H d = none → But a H H' → StrAt H' a (m + 4000) → PartsAt H' r pl tl d ns ps xs ts → lo ≤ (ns.length : Int) → (ns.length : Int) ≤ hi → Q (.ref r) H'
section
variable {P : Program} {w : World} {K : PySem.W.Frag} {mg : Str → Option Value} {base : Heap}
end
end KK
end

section
set_option maxRecDepth 100000
set_option maxHeartbeats 4000000
namespace Own
open PySem PySem.Spec PyProof.Rows L2
/-- a list or a tuple, whichever it is -/
def iLT (K : PySem.W.Frag) (te : TE) : TI := fun σ H R => iList K te σ H R ∨ iTup K te σ H R
section
variable {P : Program} {w : World} {K : PySem.W.Frag} {mg : Str → Option Value} {base : Heap} {k : Nat} {x : Str} {sp1 sp2 : Sp} {dvs : List V}
/-- a promise that asks for more -/
theorem cal_of (c : C8.Cal P w K mg base k x sp1 dvs) (h : ∀ vs H Q E, sp2 vs H Q E → sp1 vs H Q E) : C8.Cal P w K mg base k x sp2 dvs := by
  obtain ⟨f, fd, ps, ds, F, hm, kp, b, d⟩ := c.ex
  exact ⟨f, fd, ps, ds, F.imp h, hm, kp, b, d⟩
end
section
variable {X : Cx} {C : Addr} {bmB : List Value} {B newId initId : String}
/-- E(), an own error class with no __init__ -/
theorem pmk_own0 {x : Str} {p pos : Pos} (F : ExcBaseFacts B newId initId bmB) (q : PySem.W.excIn X.K C bmB newId = true) (gC : X.mg x = some (.ref C)) (kC : PySem.W.keepIn X.K (.ref C) = true) (r : Raises X (.ref C)) (hg : Gl X x := by rfl)
    (hdb : (x == ("__debug__" : Str)) = false := by decide +kernel) : PMk X (.Call (.Name x p) [] [] pos) (fun _ H Q => Q (.ref C) none H) := by
  intro pins s σ H Q I h
  refine wpAny_Call_Name_kw (ld_glob I hg gC ?_ hdb)
  refine PySem.W.callWith_K0 I.kIn kC ?_
  obtain ⟨bm, N, nm, qn, bs, hdct, sn, sub, ab, col, dd, k0, k1, k2, k3, k5, mN, hC, hN, hni, T⟩ := exc_obj I.kIn q
  refine wpAny_call_exc_subT F T hC hN hni (fun h' e hm => ?_) (by show 0 ≤ sizeLine; exact Nat.zero_le _)
  exact mk_of I hm r h (I.hok.gone hm.new)
/-- raise E() -/
def tRaise0 (C : Addr) (W : WX) : TS := fun _ σ H => W (.ref C) none σ H
theorem ps_raise0 {x : Str} {W : WX} {p pos pos2 : Pos} (hc : X.calm = true) (q : PySem.W.excIn X.K C He.veBase "ValueError.__new__" = true) (gC : X.mg x = some (.ref C)) (kC : PySem.W.keepIn X.K (.ref C) = true) (exC : PySem.W.subIn X.K (.ref C) (.type "BaseException") = some true) (tyC : PySem.W.typeIn X.K (.ref C) = some (.type "type"))
    (tk : Takes X W) (hg : Gl X x := by rfl) (hdb : (x == ("__debug__" : Str)) = false := by decide +kernel) : PS X (.Raise (some (.Call (.Name x p) [] [] pos)) none pos2) (tRaise0 C W) :=
  ps_raise hc tk (pmk_own0 PySem.F.excBase_ValueError q gC kC (raises_own exC tyC) hg hdb)
/-- a def that may raise, by its name -/
structure CalX (P : Program) (w : World) (K : PySem.W.Frag) (mg : Str → Option Value) (base : Heap) (k : Nat) (x : Str) (sp : Sp) : Prop where
  ex : ∃ (f : Addr) (fd : FuncData) (ps : List Str), FnOk P w K mg base (L2.CX P w) k f fd ps sp ∧ mg x = some (.ref f) ∧ PySem.W.keepIn K (.ref f) = true ∧ L2.Binds K fd ps []
theorem pe_cxS {k j : Nat} {x : Str} {sp : Sp} {W : WX} {e : Expr} {es : List Expr} {t : TA} {p pos : Pos} (c : CalX X.prog X.w X.K X.mg X.base k x sp) (hr : Room j X.A) (hk : k ≤ j) (tk : Takes X W) (hg : Gl X x) (ha : PA X (e :: es) t)
    (hdb : (x == ("__debug__" : Str)) = false := by decide) (he : starEach (e :: es) X.env = (false, eval e X.env) :: starEach es X.env := by rfl) (hpl : (backTo pos (starEach es X.env)).any (·.1) = false := by rfl) :
    PE X (.Call (.Name x p) (e :: es) [] pos) (tCallS sp (WE W) t) := by
  obtain ⟨f, fd, ps, F, hm, kp, b⟩ := c.ex
  exact pe_callS F (hr.mono hk) hg hm kp b (fun σ => passAt tk σ) ha hdb he hpl
end
/-! ### dicts told apart: values flat, or the same object -/
def sameB : V → Bool
  | .ref _ => true
  | v => flatB v
def rNeDR : R2 := fun x y H Q => ∃ a b ks ls, x = .ref a ∧ y = .ref b ∧ H a = some (.dK ks) ∧ H b = some (.dK ls) ∧ ks.length = ls.length ∧ (∀ p ∈ ks, valV ls p.1 = some p.2 ∧ sameB p.2 = true) ∧ Q (.bl false) H
/-- x != y, of what is the same or equal -/
def rNeSame (K : PySem.W.Frag) : R2 := fun x y H Q => rNe x y H Q ∨ rNeD K x y H Q ∨ rNeDR x y H Q
end Own
end

section
set_option maxRecDepth 100000
set_option maxHeartbeats 4000000
namespace KK
open PySem PySem.Spec PyProof.Rows L2
/-! ### the checks of values -/
def spIsInt (K : PySem.W.Frag) : Sp := fun vs H Q _ => ∃ (x : V) (t : String) (b1 b2 : Bool), vs = [x] ∧ TyX K H x (.type t) ∧ kitB t "int" = some b1 ∧ kitB t "bool" = some b2 ∧ Q (.bl (b1 && !b2)) H
def spBetween (K : PySem.W.Frag) : Sp := fun vs H Q _ => ∃ (x : V) (lo hi : Int) (t : String) (b1 b2 : Bool), vs = [x, .int lo, .int hi] ∧ TyX K H x (.type t) ∧ kitB t "int" = some b1 ∧ kitB t "bool" = some b2 ∧
  ((b1 && !b2) = true → ∃ i, x = .int i ∧ Q (.bl (decide (lo ≤ i ∧ i ≤ hi))) H) ∧ ((b1 && !b2) = false → Q (.bl false) H)
def nameB (x : Str) : Bool := (decide (1 ≤ x.cps.toList.length) && decide (x.cps.toList.length ≤ 8)) && x.cps.toList.all fun c => decide (97 ≤ c) && decide (c ≤ 122)
theorem nameB_ok {x : Str} (h : NameOk x) : nameB x = true := by
  unfold nameB
  rw [decide_eq_true h.lo, decide_eq_true h.hi, Bool.and_self, Bool.true_and, List.all_eq_true]
  intro c hc
  rw [decide_eq_true (h.cs c hc).1, decide_eq_true (h.cs c hc).2, Bool.and_self]
def spIsName (K : PySem.W.Frag) : Sp := fun vs H Q _ => ∃ (x : V) (t : String) (b : Bool), vs = [x] ∧ TyX K H x (.type t) ∧ kitB t "str" = some b ∧
  (b = true → ∃ s : Str, x = .str s ∧ s.length ≤ 100000 ∧ ∀ H', Same H H' → Q (.bl (nameB s)) H') ∧ (b = false → Q (.bl false) H)
def spAmong (K : PySem.W.Frag) : Sp := fun vs H Q _ => ∃ (x : V) (a : Addr) (t : String) (b : Bool), vs = [x, .ref a] ∧ TyX K H x (.type t) ∧ kitB t "str" = some b ∧ (b = false → Q (.bl false) H) ∧
  (b = true → ∃ s : Str, x = .str s ∧ ((∃ ns : List Str, (SqL K H a (ns.map V.str) ∨ SqT K H a (ns.map V.str)) ∧ Q (.bl (decide (s ∈ ns))) H) ∨ (∃ kvs : List (Key × V), Rd H a (.dK kvs) ∧ Q (.bl (valV kvs (Sum.inr s : Key)).isSome) H)))
def spJust (K : PySem.W.Frag) : Sp := fun vs H Q _ => ∃ (d k : Addr) (kvs : List (Key × V)) (ns : List Str), vs = [.ref d, .ref k] ∧ H d = some (.dK kvs) ∧ SqT K H k (ns.map V.str) ∧ kvs.length = ns.length ∧ ns.length ≤ 1000 ∧ (∀ x ∈ ns, (valV kvs (Sum.inr x : Key)).isSome = true) ∧
  ∀ H', Same H H' → Q (.bl true) H'
def spJustG (K : PySem.W.Frag) : Sp := fun vs H Q _ => ∃ (x : V) (k : Addr) (ns : List Str) (t : String) (b : Bool), vs = [x, .ref k] ∧ TyX K H x (.type t) ∧ kitB t "dict" = some b ∧ (SqL K H k (ns.map V.str) ∨ SqT K H k (ns.map V.str)) ∧ ns.length ≤ 1000 ∧
  (b = false → Q (.bl false) H) ∧ (b = true → ∃ d kvs, x = .ref d ∧ H d = some (.dK kvs) ∧ ∀ H', Same H H' → Q (.bl (decide (kvs.length = ns.length) && ns.all fun x => (valV kvs (Sum.inr x : Key)).isSome)) H')
def inOrd (p : Str × Str) : Str × Str := if Own.ltS p.2 p.1 = true then (p.2, p.1) else p
def spOrder : Sp := fun vs H Q _ => ∃ (a b : Str), vs = [.str a, .str b] ∧ ∀ p, H p = none → Q (.ref p) (upd H p (.tup [.str (ordP (a, b)).1, .str (ordP (a, b)).2]))
theorem one_lt (c d : Nat) : decide (([c] : List Nat) < [d]) = decide (c < d) := by
  by_cases h : c < d
  · rw [decide_eq_true h, decide_eq_true]
    exact List.Lex.rel h
  · rw [decide_eq_false h, decide_eq_false]
    intro z
    cases z with
    | rel q => exact h q
    | cons q => cases q
theorem a_cps : (PySem.Str.ofString "a").cps.toList = [97] := by decide +kernel
theorem z_cps : (PySem.Str.ofString "z").cps.toList = [122] := by decide +kernel
theorem one_cps (c : Nat) : (⟨#[c]⟩ : Str).cps.toList = [c] := rfl
section
variable {P : Program} {w : World} {K : PySem.W.Frag} {mg : Str → Option Value} {base : Heap}
abbrev Nisinteger : List Str := ["value"]
theorem scisinteger : FnScope Nisinteger ["value"] (defScope s_is_integer) := ⟨rfl, rfl, rfl, by decide +kernel, rfl, by decide +kernel, by decide +kernel⟩
theorem c_isint (T : Blt mg) (F : Has K mg "is_integer" s_is_integer) : C8.Cal P w K mg base 1 "is_integer" (spIsInt K) [] := by
  refine calF F (fun f fd F => F.binds (ps := ["value"]) fun _ _ _ _ _ _ us hl => match us, hl with | [_], _ => rfl) scisinteger (fun vs H Q E h => ?_) (fun f cdv A outer s H vs Q E hr h => ?_)
  · obtain ⟨x, t, b1, b2, rfl, _⟩ := h
    rfl
  · obtain ⟨x, t, b1, b2, rfl, ht, h1, h2, q⟩ := h
    refine ⟨_, (pss_one (ps_ret (pe_and (pe_callB call_isi (by rfl) T.b_isinstance (by decide +kernel) (pa_cons (pv 0) (pa_cons (pe_bltn (v := .ty "int") (by rfl) T.b_int (by decide +kernel) rfl) pa_nil))) (pe_one (pe_not (pe_callB call_isi (by rfl) T.b_isinstance (by decide +kernel) (pa_cons (pv 0) (pa_cons (pe_bltn (v := .ty "bool") (by rfl) T.b_bool (by decide +kernel) rfl) pa_nil)))))))), ?_⟩
    refine ⟨_, rfl, _, _, _, _, _, rfl, .ty "int", ht, kit_ty h1, _, rfl, ?_⟩
    cases b1 with
    | false =>
      refine iteF ?_
      exact q
    | true =>
      refine iteT ?_
      exact ⟨_, rfl, _, _, _, _, _, rfl, .ty "bool", ht, kit_ty h2, _, rfl, q⟩
abbrev Nisbetween : List Str := ["value", "low", "high"]
abbrev Nisname : List Str := ["value", "sign"]
theorem scisname : FnScope Nisname ["value"] (defScope s_is_name) := ⟨rfl, rfl, rfl, by decide +kernel, rfl, by decide +kernel, by decide +kernel⟩
theorem c_isname (T : Blt mg) (G_LONGEST_NAME : ∃ t, mg "LONGEST_NAME" = some (.int 8 t)) (F : Has K mg "is_name" s_is_name) : C8.Cal P w K mg base 1 "is_name" (spIsName K) [] := by
  refine calF F (fun f fd F => F.binds (ps := ["value"]) fun _ _ _ _ _ _ us hl => match us, hl with | [_], _ => rfl) scisname (fun vs H Q E h => ?_) (fun f cdv A outer s H vs Q E hr h => ?_)
  · obtain ⟨x, t, b, rfl, _⟩ := h
    rfl
  · obtain ⟨x, t, b, rfl, ht, h1, q1, q2⟩ := h
    obtain ⟨tk, hG⟩ := G_LONGEST_NAME
    have G_LONGEST_NAME : True ∧ _ := ⟨trivial, hG⟩
    refine ⟨_, (pss_cons (ps_if (PW.pt (pw_or (pt_not (pt_val (pe_callB call_isi (by rfl) T.b_isinstance (by decide +kernel) (pa_cons (pv 0) (pa_cons (pe_bltn (v := .ty "str") (by rfl) T.b_str (by decide +kernel) rfl) pa_nil))))) (pw_or1 (pt_not (pt_chain op_le op_le pe_int (pe_callB call_len_str (by rfl) T.b_len PySem.boot_len (pa_cons (pv 0) pa_nil)) (pe_glob (v := .int 8) rfl G_LONGEST_NAME.2 ⟨_, rfl⟩)))))) (pss_one (ps_ret pe_bl)) pss_nil)
      (pss_one (ps_ret (pe_callB (cr_all rfl) (by rfl) T.b_all (by decide +kernel) (pa_cons (pe_lc (own := [("sign", 1)]) (g := gName 1) (tt := tYes) rfl scisname.nd (pi_str (pv 0)) (blkOk_by (own := [("sign", 1)]) (N := Nisname) (sc := defScope s_is_name) (by decide +kernel)) (fun _ _ _ _ _ => (pg_name (i := 1) scisname.nd rfl (Or.inl rfl))) (fun _ _ _ _ _ => pts_nil) (fun _ _ _ _ _ => (pe_chain op_le_str op_le_str pe_str (pv 1) pe_str))) pa_nil))))), ?_⟩
    refine ⟨_, rfl, _, _, _, _, _, rfl, .ty "str", ht, kit_ty h1, _, rfl, ?_⟩
    cases b with
    | false =>
      refine iteT ?_
      exact q2 rfl
    | true =>
      refine iteF ?_
      obtain ⟨x, rfl, hx, q⟩ := q1 rfl
      have e1 : ((x.length : Nat) : Int) = (x.cps.toList.length : Int) := by rw [len_cps]
      refine ⟨_, rfl, _, rfl, fits hx, _, _, rfl, rfl, _, rfl, ?_⟩
      have hret : (decide (1 ≤ x.cps.toList.length) && decide (x.cps.toList.length ≤ 8)) = false → Q (.bl false) H := fun hf => by
        have := q H (Same.refl H)
        unfold nameB at this
        rw [hf, Bool.false_and] at this
        exact this
      by_cases c1 : (1 : Int) ≤ x.length
      · rw [decide_eq_true c1]
        refine iteT ?_
        refine ⟨_, _, rfl, rfl, _, rfl, ?_⟩
        by_cases c2 : (x.length : Int) ≤ 8
        · rw [decide_eq_true c2]
          refine iteF ?_
          refine ⟨_, rfl, _, rfl, fun D hD => lc_it (σ := [some (.str x), none]) (vs := [1]) walk_str (fun i H2 => Same H H2 ∧ H2 D = some (.lst (((x.cps.toList.take i).map fun c => decide (97 ≤ c) && decide (c ≤ 122)).map V.bl)))
            ⟨Same.new hD, upd_same⟩ (fun _ _ _ _ => True.intro) ?_ ?_⟩
          · rintro i v H2 H3 hi ⟨s2, h2⟩ ⟨rfl, c, ec, rfl⟩
            have ec' : x.cps.toList[i]? = some c := by rw [Array.getElem?_toList]; exact ec
            refine ⟨rfl, ?_⟩
            refine iteT (B := False) ?_
            have fin : ∀ b : Bool, b = (decide (97 ≤ c) && decide (c ≤ 122)) → ∃ acc, H3 D = some (.lst acc) ∧ acc.length < sizeLine ∧ Same H (upd H3 D (.lst (acc ++ [V.bl b]))) ∧ (upd H3 D (.lst (acc ++ [V.bl b]))) D = some (.lst (((x.cps.toList.take (i + 1)).map fun c => decide (97 ≤ c) && decide (c ≤ 122)).map V.bl)) := fun b hb => by
              refine ⟨_, h2, fitsL (by rw [List.length_map, List.length_map, List.length_take]; omega), fun b' o e => by rw [upd_ne (ne_of_none e hD)]; exact s2 _ _ e, ?_⟩
              rw [upd_same, take_more ec', List.map_append, List.map_append, hb]
              rfl
            refine ⟨_, rfl, _, _, rfl, rfl, _, rfl, ?_⟩
            rw [a_cps, one_cps, one_lt]
            by_cases c3 : c < 97
            · rw [decide_eq_true c3]
              refine iteF ?_
              refine fin false ?_
              rw [decide_eq_false (by omega : ¬ 97 ≤ c), Bool.false_and]
            · rw [decide_eq_false c3]
              refine iteT ?_
              refine ⟨_, _, rfl, rfl, ?_⟩
              rw [z_cps, one_cps, one_lt]
              refine fin _ ?_
              rw [decide_eq_true (by omega : 97 ≤ c), Bool.true_and]
              by_cases c4 : 122 < c
              · rw [decide_eq_true c4, decide_eq_false (by omega : ¬ c ≤ 122)]
                rfl
              · rw [decide_eq_false c4, decide_eq_true (by omega : c ≤ 122)]
                rfl
          · rintro H2 ⟨s2, h2⟩
            rw [List.take_of_length_le (by rw [Array.length_toList]; exact Nat.le_refl _)] at h2
            refine ⟨D, _, rfl, SqL.of h2, ?_⟩
            have := q H2 s2
            unfold nameB at this
            rw [decide_eq_true (by omega : 1 ≤ x.cps.toList.length), decide_eq_true (by omega : x.cps.toList.length ≤ 8), Bool.and_self, Bool.true_and] at this
            rw [List.all_map]
            exact this
        · rw [decide_eq_false c2]
          refine iteT ?_
          exact hret (by rw [decide_eq_false (by omega : ¬ x.cps.toList.length ≤ 8), Bool.and_false])
      · rw [decide_eq_false c1]
        refine iteF ?_
        exact ⟨_, rfl, iteT (hret (by rw [decide_eq_false (by omega : ¬ 1 ≤ x.cps.toList.length), Bool.false_and]))⟩
abbrev Nisamong : List Str := ["value", "names"]
abbrev Nhasjust : List Str := ["value", "keys", "key"]
end
end KK
end

section
set_option maxRecDepth 100000
set_option maxHeartbeats 4000000
namespace KK
open PySem PySem.Spec PyProof.Rows L2
def seenK (ns : List Str) : List (Key × V) := ns.map fun x => ((Sum.inr x : Key), V.bl true)
theorem valV_map {α κ : Type} [DecidableEq κ] {f : α → V} {g : α → κ} : ∀ {l : List α} {k : κ}, (∀ x ∈ l, g x ≠ k) → valV (l.map fun x => (g x, f x)) k = none
  | [], k, _ => rfl
  | a :: l, k, h => by
    have ih := valV_map (f := f) (g := g) (l := l) (k := k) fun x hx => h x (List.mem_cons_of_mem _ hx)
    unfold valV at ih ⊢
    rw [List.map_cons, List.find?_cons_of_neg (by
      show ¬ decide (g a = k) = true
      rw [decide_eq_true_eq]
      exact h a List.mem_cons_self)]
    exact ih
theorem seenK_none {ns : List Str} {x : Str} (h : x ∉ ns) : valV (seenK ns) (Sum.inr x : Key) = none := valV_map fun y hy e => h (by have := Sum.inr.inj e; rw [← this]; exact hy)
theorem seenK_put {ns : List Str} {x : Str} (h : x ∉ ns) : putK (seenK ns) (Sum.inr x : Key) (V.bl true) = seenK (ns ++ [x]) := by
  rw [putK_new _ (seenK_none h)]
  unfold seenK
  rw [List.map_append]
  rfl
def spNamesF (K : PySem.W.Frag) : Sp := fun vs H Q _ => ∃ (a : Addr) (ns : List Str), vs = [.ref a] ∧ H a = some (.tup (ns.map V.str)) ∧ NsOk ns ∧ ∀ H', Same H H' → Q .non H'
def spPriceF (K : PySem.W.Frag) : Sp := fun vs H Q _ => ∃ (d a : Addr) (ns : List Str) (ps : List Int), vs = [.ref d, .ref a, .int 1] ∧ IsPr H d ns ps ∧ H a = some (.tup (ns.map V.str)) ∧ NsOk ns ∧ PrOk ps ∧ ps.length = ns.length ∧ ∀ H', Same H H' → Q .non H'
def spIsTie (K : PySem.W.Frag) : Sp := fun vs H Q _ => ∃ (t a : Addr) (ns : List Str) (p : Str × Str), vs = [.ref t, .ref a] ∧ H t = some (.tup [.str p.1, .str p.2]) ∧ H a = some (.tup (ns.map V.str)) ∧ TieOk ns p ∧ (∀ x ∈ ns, x.length ≤ 8) ∧ ∀ H', Same H H' → Q (.bl true) H'
def spTieF (K : PySem.W.Frag) : Sp := fun vs H Q _ => ∃ (l a : Addr) (ns : List Str) (xs : List V) (ts : List (Str × Str)), vs = [.ref l, .ref a] ∧ H l = some (.lst xs) ∧ Ties H xs ts ∧ H a = some (.tup (ns.map V.str)) ∧ NsOk ns ∧ TsOk ns ts ∧ ∀ H', Same H H' → Q .non H'
section
variable {P : Program} {w : World} {K : PySem.W.Frag} {mg : Str → Option Value} {base : Heap}
abbrev Nnamesfault : List Str := ["names", "seen", "index", "name"]
theorem scnamesfault : FnScope Nnamesfault ["names"] (defScope s_names_fault) := ⟨rfl, rfl, rfl, by decide +kernel, rfl, by decide +kernel, by decide +kernel⟩
theorem c_namesf (T : Blt mg) (G_MOST_PLACES : ∃ t, mg "MOST_PLACES" = some (.int 40 t)) (F : Has K mg "names_fault" s_names_fault) (CISNAME : C8.Cal P w K mg base 1 "is_name" (spIsName K) []) : C8.Cal P w K mg base 2 "names_fault" (spNamesF K) [] := by
  refine calF F (fun f fd F => F.binds (ps := ["names"]) fun _ _ _ _ _ _ us hl => match us, hl with | [_], _ => rfl) scnamesfault (fun vs H Q E h => ?_) (fun f cdv A outer s H vs Q E hr h => ?_)
  · obtain ⟨a, ns, rfl, _⟩ := h
    rfl
  · obtain ⟨a, ns, rfl, ha, no, q⟩ := h
    have hu := hu_of hr
    obtain ⟨tk, hG⟩ := G_MOST_PLACES
    have G_MOST_PLACES : True ∧ _ := ⟨trivial, hG⟩
    have n1 := no.lo
    have n2 := no.hi
    refine ⟨_, (pss_cons (ps_if (PW.pt (pw_or (pt_not (pt_val (pe_callB call_isi (by rfl) T.b_isinstance (by decide +kernel) (pa_cons (pv 0) (pa_cons (pe_bltn (v := .ty "tuple") (by rfl) T.b_tuple (by decide +kernel) rfl) pa_nil))))) (pw_or1 (pt_not (pt_chain op_le op_le pe_int (pe_callB call_len (by rfl) T.b_len PySem.boot_len (pa_cons (pv 0) pa_nil)) (pe_glob (v := .int 40) rfl G_MOST_PLACES.2 ⟨_, rfl⟩)))))) (pss_one (ps_ret (pe_un un_neg pe_int))) pss_nil)
      (pss_cons (ps_set (i := 1) scnamesfault.nd rfl (Or.inl rfl) pe_dnewK)
      (pss_cons (ps_for PassesOwn.never rfl (Own.pi_enumT (by rfl) T.b_enumerate (pa_cons (pv 0) pa_nil)) (pg_tup rfl (pgs_cons (pg_name (i := 2) scnamesfault.nd rfl (Or.inl rfl)) (pgs_cons (pg_name (i := 3) scnamesfault.nd rfl (Or.inl rfl)) pgs_nil)))
        (pss_cons (ps_if (PW.pt (pw_or (pt_not (pt_val (C8.pe_c CISNAME hr (by decide) rfl (pa_cons (pv 3) pa_nil)))) (pw_or1 (pt_cmp (pc_din hu (pv 3) (pv 1)))))) (pss_one (ps_ret (pv 2))) pss_nil)
      (pss_one (ps_dput hu (pv 1) (pv 3) pe_bl rfl))))
      (pss_one (ps_ret pe_non))))), ?_⟩
    refine ⟨_, rfl, _, _, _, _, _, rfl, .ty "tuple", .base (.tup ha), kit_ty (b := "tuple") (r := true) (by decide +kernel), _, rfl, iteF ?_⟩
    refine ⟨_, rfl, _, _, rfl, .inr ⟨_, SqT.of ha, rfl⟩, _, _, rfl, rfl, _, rfl, ?_⟩
    rw [List.length_map, decide_eq_true (by omega : (1 : Int) ≤ ns.length)]
    refine iteT ?_
    refine ⟨_, _, rfl, rfl, _, rfl, ?_⟩
    rw [decide_eq_true (by omega : (ns.length : Int) ≤ 40)]
    refine iteF ?_
    intro d hd
    have nad : a ≠ d := ne_of_none ha hd
    refine ⟨_, rfl, a, _, rfl, SqT.of (by rw [upd_ne nad]; exact ha), for_it Own.walk_enumT (fun i σ H2 => ∃ (v2 v3 : Option V), σ = [some (.ref a), some (.ref d), v2, v3] ∧ Same H H2 ∧ H2 d = some (.dK (seenK (ns.take i))))
      ⟨_, _, rfl, Same.new hd, upd_same⟩ (fun i σ H2 _ ⟨_, _, _, s2, _⟩ => Same.seqT s2 (SqT.of ha)) ?_ ?_⟩
    · rintro i v σ H2 H3 hi ⟨v2, v3, rfl, s2, h2⟩ ⟨p, x, y, rfl, hp, rfl, hx, hy⟩
      cases hx
      replace hy : (ns.map V.str)[i]? = some y := hy
      rw [List.getElem?_map] at hy
      obtain ⟨y, hyy, rfl⟩ := Option.map_eq_some_iff.mp hy
      clear hy
      have hy := hyy
      have npd : d ≠ p := ne_of_none h2 hp
      refine ⟨p, _, rfl, SqT.of upd_same, rfl, _, _, rfl, _, _, rfl, rfl, ?_⟩
      refine ⟨_, rfl, _, "str", true, rfl, .base (.str y), by decide +kernel, fun _ => ⟨y, rfl, ?_, fun H4 s4 => ?_⟩, fun z => by cases z⟩
      · have := (no.ok y (List.mem_of_getElem? hy)).hi
        rw [len_cps]
        omega
      · have s5 : Same H H4 := (s2.trans (Same.new hp)).trans s4
        have e1 := (Same.new (o := .tup [.int (i : Nat), .str y]) hp |>.trans s4) _ _ h2
        have hny := not_taken no.nd hy
        rw [nameB_ok (no.ok y (List.mem_of_getElem? hy))]
        refine ⟨_, rfl, iteF ?_⟩
        refine ⟨_, rfl, _, rfl, d, _, rfl, DGet.k (k := Sum.inr y) e1, ?_⟩
        rw [seenK_none hny]
        refine ⟨_, rfl, iteF ?_⟩
        refine ⟨_, rfl, _, rfl, d, _, rfl, DPut.k (k := Sum.inr y) e1 (fitsL (by unfold seenK; rw [List.length_map, List.length_take]; omega)), ?_⟩
        refine ⟨_, _, rfl, fun b o e => by rw [upd_ne (ne_of_none e hd)]; exact s5 _ _ e, ?_⟩
        rw [upd_same, take_more hy, seenK_put hny]
    · rintro σ H2 ⟨v2, v3, rfl, s2, h2⟩
      exact q H2 s2
abbrev Npricefault : List Str := ["prices", "names", "least", "name"]
def pairKey (p : Str × Str) : List Key := [Sum.inr p.1, Sum.inr p.2]
def seenT (ps : List (Str × Str)) : List (List Key × V) := ps.map fun p => (pairKey p, V.bl true)
end
end KK
end

section
set_option maxRecDepth 100000
set_option maxHeartbeats 4000000
namespace KK
open PySem PySem.Spec PyProof.Rows L2
/-- a web in the heap -/
structure WebAt (H : Hp) (C o dx dp tl : Addr) (xs : List V) (ms : List Str) (qs : List Int) (us : List (Str × Str)) : Prop where
  ho : H o = some (.ins C dx [("_prices", .ref dp), ("_ties", .ref tl)])
  hp : H dp = some (.dK (prK ms qs))
  ht : H tl = some (.lst xs)
  ti : Ties H xs us
/-- the web tells these parts -/
structure WebOk (ns : List Str) (ps : List Int) (ts : List (Str × Str)) (ms : List Str) (qs : List Int) (us : List (Str × Str)) : Prop where
  pm : ms.Perm ns
  pq : ∀ x ∈ ns, valV (prK ms qs) (Sum.inr x : Key) = valV (prK ns ps) (Sum.inr x : Key)
  ql : qs.length = ms.length
  am : Own.AscS ms
  pu : us.Perm (ts.map ordP)
  au : Own.AscP us
/-- what the class has -/
structure WebC (K : PySem.W.Frag) (mg : Str → Option Value) (C : Addr) : Prop where
  cl : Cls K C
  np : NoAttr K C "_prices"
  nt : NoAttr K C "_ties"
  mw : mg "Web" = some (.ref C)
def spInit (K : PySem.W.Frag) (C : Addr) : Sp := fun vs H Q _ => ∃ (o dx pl tl d : Addr) (ns : List Str) (ps : List Int) (xs : List V) (ts : List (Str × Str)), vs = [.ref o, .ref pl, .ref tl, .ref d] ∧ H o = some (.ins C dx []) ∧
  H pl = some (.tup (ns.map V.str)) ∧ H tl = some (.lst xs) ∧ IsPr H d ns ps ∧ Ties H xs ts ∧ ps.length = ns.length ∧ NsOk ns ∧ TsOk ns ts ∧ PrOk ps ∧
  ∀ dp tl' ys ms qs us H', But o H H' → H dp = none → H tl' = none → WebAt H' C o dx dp tl' ys ms qs us → WebOk ns ps ts ms qs us → Q .non H'
def prF (ns : List Str) (ps : List Int) (x : Str) : Int := match valV (prK ns ps) (Sum.inr x : Key) with
  | some (.int r) => r
  | _ => 0
section
variable {P : Program} {w : World} {K : PySem.W.Frag} {mg : Str → Option Value} {base : Heap}
end
end KK
end

section
set_option maxRecDepth 100000
set_option maxHeartbeats 4000000
namespace KK
open PySem PySem.Spec PyProof.Rows L2
def nearS (us : List (Str × Str)) (x : Str) : List Str := (us.filter fun p => decide (p.2 = x)).map (·.1) ++ (us.filter fun p => decide (p.1 = x)).map (·.2)
def spPlaces (C : Addr) : Sp := fun vs H Q _ => ∃ o dx dp tl xs ms qs us, vs = [.ref o] ∧ WebAt H C o dx dp tl xs ms qs us ∧ qs.length = ms.length ∧ ∀ p, H p = none → Q (.ref p) (upd H p (.lst (ms.map V.str)))
def spTies (C : Addr) : Sp := fun vs H Q _ => ∃ o dx dp tl xs ms qs us, vs = [.ref o] ∧ WebAt H C o dx dp tl xs ms qs us ∧ ∀ p, H p = none → Q (.ref p) (upd H p (.lst xs))
def spLen (C : Addr) : Sp := fun vs H Q _ => ∃ o dx dp tl xs ms qs us, vs = [.ref o] ∧ WebAt H C o dx dp tl xs ms qs us ∧ qs.length = ms.length ∧ Q (.int ms.length) H
def spHas (K : PySem.W.Frag) (C : Addr) : Sp := fun vs H Q _ => ∃ o dx dp tl xs ms qs us x t b, vs = [.ref o, x] ∧ WebAt H C o dx dp tl xs ms qs us ∧ TyX K H x (.type t) ∧ kitB t "str" = some b ∧ (b = false → Q (.bl false) H) ∧
  (b = true → ∃ s, x = .str s ∧ Q (.bl (valV (prK ms qs) (Sum.inr s : Key)).isSome) H)
def spNeed (C : Addr) : Sp := fun vs H Q _ => ∃ o dx dp tl xs ms qs us x r, vs = [.ref o, .str x] ∧ WebAt H C o dx dp tl xs ms qs us ∧ valV (prK ms qs) (Sum.inr x : Key) = some (.int r) ∧ Q .non H
def spPrice (C : Addr) : Sp := fun vs H Q _ => ∃ o dx dp tl xs ms qs us x r, vs = [.ref o, .str x] ∧ WebAt H C o dx dp tl xs ms qs us ∧ valV (prK ms qs) (Sum.inr x : Key) = some (.int r) ∧ Q (.int r) H
def spNear (C : Addr) : Sp := fun vs H Q _ => ∃ o dx dp tl xs ms qs us x r, vs = [.ref o, .str x] ∧ WebAt H C o dx dp tl xs ms qs us ∧ valV (prK ms qs) (Sum.inr x : Key) = some (.int r) ∧ us.length ≤ 400 ∧
  ∀ p H', Same H H' → H p = none → H' p = some (.lst ((nearS us x).map V.str)) → Q (.ref p) H'
def spDeg (C : Addr) : Sp := fun vs H Q _ => ∃ o dx dp tl xs ms qs us x r, vs = [.ref o, .str x] ∧ WebAt H C o dx dp tl xs ms qs us ∧ valV (prK ms qs) (Sum.inr x : Key) = some (.int r) ∧ us.length ≤ 400 ∧
  ∀ H', Same H H' → Q (.int (nearS us x).length) H'
section
variable {P : Program} {w : World} {K : PySem.W.Frag} {mg : Str → Option Value} {base : Heap} {C : Addr}
end
end KK
end

section
set_option maxRecDepth 100000
set_option maxHeartbeats 4000000
/-! Typed readings: a value in the heap stands for a value of Lean; a reading is asked in a context of typed slots. -/
namespace Z
open PySem PySem.Spec PyProof.Rows L2
/-- what may become of an address: shared (never written), locked (a dict that is walked), a stream, one's own (written here), another's -/
inductive Md where
  | sh | lk | st | ow | fo
  deriving DecidableEq
abbrev Wd := Addr → Md
/-- to be read -/
def RdW (W : Wd) (H : Hp) (b : Addr) (o : HO) : Prop := (W b = .sh ∧ H b = some o) ∨ ((W b = .lk ∨ W b = .fo) ∧ ∃ od, H b = some (.frz od o))
theorem RdW.rd {W : Wd} {H : Hp} {b : Addr} {o : HO} (h : RdW W H b o) : Rd H b o := by
  rcases h with ⟨_, h⟩ | ⟨_, od, h⟩
  · exact .inl h
  · exact .inr ⟨od, h⟩
/-- what was to be read is to be read, lists stand, streams are streams -/
structure Mv (W : Wd) (H : Hp) (W' : Wd) (H' : Hp) : Prop where
  rd : ∀ b o, RdW W H b o → RdW W' H' b o
  ls : ∀ b vs, W b = .sh → H b = some (.lst vs) → W' b = .sh ∧ H' b = some (.lst vs)
  st : ∀ b, W b = .st → W' b = .st
structure Ty (α : Type) where
  R : Wd → Hp → V → α → Prop
  go : ∀ {W W' : Wd} {H H' : Hp} {v : V} {x : α}, R W H v x → Mv W H W' H' → R W' H' v x
/-- all but one's own stands (streams stay streams) -/
structure Go (W : Wd) (H : Hp) (W' : Wd) (H' : Hp) : Prop where
  k : ∀ b o, H b = some o → (W b = .sh ∨ W b = .lk ∨ W b = .fo) → H' b = some o ∧ W' b = W b
  s : ∀ b, W b = .st → W' b = .st
  l : ∀ b, W' b = .lk → W b = .lk
/-- all stands (streams stay streams) -/
structure GoE (W : Wd) (H : Hp) (W' : Wd) (H' : Hp) : Prop where
  k : ∀ b o, H b = some o → W b ≠ .st → H' b = some o ∧ W' b = W b
  s : ∀ b, W b = .st → W' b = .st
  l : ∀ b, W' b = .lk → W b = .lk
structure OKW (W : Wd) (H : Hp) : Prop where
  st : ∀ b, W b = .st → ∃ c k : Int, H b = some (.lst [.int c, .int k]) ∧ 0 ≤ k
  al : ∀ b, W b ≠ .sh → ∃ o, H b = some o
  nf : ∀ b od u, W b = .ow → H b ≠ some (.frz od u)
  lk : ∀ b, W b = .lk → ∃ od, (∃ ws, H b = some (.frz od (.dK ws))) ∨ ∃ ws, H b = some (.frz od (.dT ws))
  fo : ∀ b od u, W b = .fo → H b = some (.frz od u) → ∃ vs, u = .lst vs
  tp : ∀ b vs, H b = some (.tup vs) → W b = .sh
section
variable {W W1 W2 : Wd} {H H1 H2 : Hp}
/-- a new object -/
theorem OKW.fresh (ok : OKW W H) {p : Addr} (hp : H p = none) : W p = .sh := by
  cases e : W p with
  | sh => rfl
  | lk => obtain ⟨o, h⟩ := ok.al p (by rw [e]; decide); rw [hp] at h; cases h
  | st => obtain ⟨o, h⟩ := ok.al p (by rw [e]; decide); rw [hp] at h; cases h
  | ow => obtain ⟨o, h⟩ := ok.al p (by rw [e]; decide); rw [hp] at h; cases h
  | fo => obtain ⟨o, h⟩ := ok.al p (by rw [e]; decide); rw [hp] at h; cases h
def NoFrz : HO → Prop
  | .frz _ _ => False
  | _ => True
def NoTup : HO → Prop
  | .frz _ _ => False
  | .tup _ => False
  | _ => True
end
/-! ### types -/
def tInt : Ty Int := ⟨fun _ _ v i => v = .int i, fun h _ => h⟩
def tStr : Ty Str := ⟨fun _ _ v i => v = .str i, fun h _ => h⟩
def tBl : Ty Bool := ⟨fun _ _ v i => v = .bl i, fun h _ => h⟩
def tNon : Ty Unit := ⟨fun _ _ v _ => v = .non, fun h _ => h⟩
def tStm : Ty Unit := ⟨fun W _ v _ => ∃ a, v = .ref a ∧ W a = .st, fun ⟨a, e, h⟩ m => ⟨a, e, m.st a h⟩⟩
/-- any value, as it is -/
def tVal : Ty V := ⟨fun _ _ v x => v = x, fun h _ => h⟩
def tOpt {α : Type} (t : Ty α) : Ty (Option α) := ⟨fun W H v x => match x with
  | none => v = .non
  | some y => t.R W H v y, fun {W W' H H' v x} h m => by
  cases x with
  | none => exact h
  | some y => exact t.go h m⟩
def tOr {α β : Type} (t : Ty α) (u : Ty β) : Ty (α ⊕ β) := ⟨fun W H v x => match x with
  | .inl y => t.R W H v y
  | .inr y => u.R W H v y, fun {W W' H H' v x} h m => by
  cases x with
  | inl y => exact t.go h m
  | inr y => exact u.go h m⟩
/-- a list of one's own making -/
def SqW (_ : PySem.W.Frag) (W : Wd) (H : Hp) (a : Addr) (vs : List V) : Prop := W a = .sh ∧ H a = some (.lst vs)
/-- any list that may be read -/
def SqR (K : PySem.W.Frag) (W : Wd) (H : Hp) (a : Addr) (vs : List V) : Prop := RdW W H a (.lst vs) ∨
    ∃ (o : Obj) (its : Array Value) (n : Nat), K.lookup a = some o ∧ o.cls = .type "list" ∧ o.dict = none ∧ o.data = .seq its n ∧ its.size ≤ sizeLine ∧ Vals vs its.toList
def SqTW (_ : PySem.W.Frag) (W : Wd) (H : Hp) (a : Addr) (vs : List V) : Prop := RdW W H a (.tup vs)
section
variable {K : PySem.W.Frag} {W W' : Wd} {H H' : Hp} {a : Addr} {vs : List V}
theorem SqR.l (h : SqR K W H a vs) : SqL K H a vs := by
  rcases h with h | h
  · exact .inl h.rd
  · exact .inr h
theorem SqTW.t (h : SqTW K W H a vs) : SqT K H a vs := .inl (RdW.rd h)
theorem SqW.mv (h : SqW K W H a vs) (m : Mv W H W' H') : SqW K W' H' a vs := m.ls a vs h.1 h.2
theorem SqR.mv (h : SqR K W H a vs) (m : Mv W H W' H') : SqR K W' H' a vs := by
  rcases h with h | h
  · exact .inl (m.rd a _ h)
  · exact .inr h
theorem SqTW.mv (h : SqTW K W H a vs) (m : Mv W H W' H') : SqTW K W' H' a vs := m.rd a _ h
end
section
variable (K : PySem.W.Frag)
def tLs {α : Type} (t : Ty α) : Ty (List α) := ⟨fun W H v xs => ∃ a vs, v = .ref a ∧ SqW K W H a vs ∧ Paired (t.R W H) vs xs, by
  rintro W W' H H' v xs ⟨a, vs, e, h, p⟩ m
  exact ⟨a, vs, e, h.mv m, L2.Paired.mapP p fun u x r => t.go r m⟩⟩
/-- the script: ints that are read -/
def tScr : Ty (List Int) := ⟨fun W H v xs => ∃ a, v = .ref a ∧ SqR K W H a (xs.map V.int), by
  rintro W W' H H' v xs ⟨a, e, h⟩ m
  exact ⟨a, e, h.mv m⟩⟩
/-- a tuple of things of one kind -/
def tTu {α : Type} (t : Ty α) : Ty (List α) := ⟨fun W H v xs => ∃ a vs, v = .ref a ∧ SqTW K W H a vs ∧ Paired (t.R W H) vs xs, by
  rintro W W' H H' v xs ⟨a, vs, e, h, p⟩ m
  exact ⟨a, vs, e, h.mv m, L2.Paired.mapP p fun u x r => t.go r m⟩⟩
def tT2 {α β : Type} (t : Ty α) (u : Ty β) : Ty (α × β) := ⟨fun W H v x => ∃ a p q, v = .ref a ∧ SqTW K W H a [p, q] ∧ t.R W H p x.1 ∧ u.R W H q x.2, by
  rintro W W' H H' v xs ⟨a, p, q, e, h, r1, r2⟩ m
  exact ⟨a, p, q, e, h.mv m, t.go r1 m, u.go r2 m⟩⟩
def tT3 {α β γ : Type} (t : Ty α) (u : Ty β) (z : Ty γ) : Ty (α × β × γ) := ⟨fun W H v x => ∃ a p q r, v = .ref a ∧ SqTW K W H a [p, q, r] ∧ t.R W H p x.1 ∧ u.R W H q x.2.1 ∧ z.R W H r x.2.2, by
  rintro W W' H H' v xs ⟨a, p, q, r, e, h, r1, r2, r3⟩ m
  exact ⟨a, p, q, r, e, h.mv m, t.go r1 m, u.go r2 m, z.go r3 m⟩⟩
/-- a list of three things -/
def tL3 {α β γ : Type} (t : Ty α) (u : Ty β) (z : Ty γ) : Ty (α × β × γ) := ⟨fun W H v x => ∃ a p q r, v = .ref a ∧ SqW K W H a [p, q, r] ∧ t.R W H p x.1 ∧ u.R W H q x.2.1 ∧ z.R W H r x.2.2, by
  rintro W W' H H' v xs ⟨a, p, q, r, e, h, r1, r2, r3⟩ m
  exact ⟨a, p, q, r, e, h.mv m, t.go r1 m, u.go r2 m, z.go r3 m⟩⟩
def tL2 {α β : Type} (t : Ty α) (u : Ty β) : Ty (α × β) := ⟨fun W H v x => ∃ a p q, v = .ref a ∧ SqW K W H a [p, q] ∧ t.R W H p x.1 ∧ u.R W H q x.2, by
  rintro W W' H H' v xs ⟨a, p, q, e, h, r1, r2⟩ m
  exact ⟨a, p, q, e, h.mv m, t.go r1 m, u.go r2 m⟩⟩
end
/-- a kind of keys -/
structure Ky (κ : Type) where
  k : κ → Key
  inj : ∀ a b, k a = k b → a = b
def kS : Ky Str := ⟨Sum.inr, fun _ _ h => Sum.inr.inj h⟩
def kI : Ky Int := ⟨Sum.inl, fun _ _ h => Sum.inl.inj h⟩
/-- a dict, its pairs in order -/
def tDk {κ α : Type} (ke : Ky κ) (t : Ty α) : Ty (List (κ × α)) := ⟨fun W H v kvs => ∃ a ws, v = .ref a ∧ RdW W H a (.dK ws) ∧ Paired (fun (p : Key × V) (q : κ × α) => p.1 = ke.k q.1 ∧ t.R W H p.2 q.2) ws kvs, by
  rintro W W' H H' v xs ⟨a, vs, e, h, p⟩ m
  exact ⟨a, vs, e, m.rd _ _ h, L2.Paired.mapP p fun u x r => ⟨r.1, t.go r.2 m⟩⟩⟩
/-! ### contexts -/
inductive Sl : Type 1 where
  | un
  | sh {α : Type} (t : Ty α) (x : α)
  | ol {α : Type} (t : Ty α) (xs : List α)
  | od {κ α : Type} (ke : Ky κ) (t : Ty α) (kvs : List (κ × α))
def Sl.own : Sl → Bool
  | .ol _ _ => true
  | .od _ _ _ => true
  | _ => false
def SlOk (W : Wd) (H : Hp) (s : Sl) (e : Option V) : Prop := match s with
  | .un => True
  | .sh t x => ∃ v, e = some v ∧ t.R W H v x
  | .ol t xs => ∃ a vs, e = some (.ref a) ∧ W a = .ow ∧ H a = some (.lst vs) ∧ Paired (t.R W H) vs xs
  | .od ke t kvs => ∃ a ws, e = some (.ref a) ∧ W a = .ow ∧ H a = some (.dK ws) ∧ Paired (fun (p : Key × V) q => p.1 = ke.k q.1 ∧ t.R W H p.2 q.2) ws kvs
/-- n: no dict is locked -/
structure Ct where
  n : Bool
  s : List Sl
def Ct.set (G : Ct) (i : Nat) (s : Sl) : Ct := ⟨G.n, G.s.set i s⟩
structure Holds (G : Ct) (W : Wd) (H : Hp) (σ : L2.St) : Prop where
  len : σ.length = G.s.length
  ok : OKW W H
  sl : ∀ (i : Nat) s e, G.s[i]? = some s → σ[i]? = some e → SlOk W H s e
  dj : ∀ (i j : Nat) s s' a, G.s[i]? = some s → G.s[j]? = some s' → s.own = true → s'.own = true → σ[i]? = some (some (V.ref a)) → σ[j]? = some (some (V.ref a)) → i = j
  nl : G.n = true → ∀ b, W b ≠ .lk
section
variable {W W1 : Wd} {H H1 : Hp} {G : Ct} {σ : L2.St}
end
/-! ### errors -/
/-- an error: its class, its fields -/
structure Er where
  C : Addr
  fs : Option (List (Str × Sl))
inductive FldsOk (W : Wd) (H : Hp) : List (Str × V) → List (Str × Sl) → Prop where
  | nil : FldsOk W H [] []
  | cons {f : Str} {v : V} {α : Type} {t : Ty α} {x : α} {vs : List (Str × V)} {ss : List (Str × Sl)} : t.R W H v x → FldsOk W H vs ss → FldsOk W H ((f, v) :: vs) ((f, .sh t x) :: ss)
def ErAt (W : Wd) (H : Hp) (e : Er) (d : Option Addr) : Prop := match e.fs, d with
  | none, none => True
  | some fs, some d => ∃ ws, H d = some (.xd ws) ∧ W d = .sh ∧ FldsOk W H ws fs
  | _, _ => False
/-- what is wanted of an exception; which may come -/
structure Xw where
  E : XK
  xp : Er → Prop
def Xw.ok (X : Xw) (W : Wd) (H : Hp) : Prop := ∀ e d W' H', X.xp e → GoE W H W' H' → OKW W' H' → ErAt W' H' e d → X.E (.ref e.C) d H'
/-! ### expressions -/
def Ev (X : Xw) (te : TE) (G : Ct) {α : Type} (t : Ty α) (P : α → Prop) : Prop :=
  ∀ W H σ (Q : VK), Holds G W H σ → X.ok W H → (∀ v W' H' x, P x → GoE W H W' H' → OKW W' H' → t.R W' H' v x → Q v H') → te σ H Q
def Et (X : Xw) (tt : TT) (G : Ct) (P : Bool → Prop) : Prop :=
  ∀ W H σ (Q : Bool → Hp → Prop), Holds G W H σ → X.ok W H → (∀ b W' H', P b → GoE W H W' H' → OKW W' H' → Q b H') → tt σ H Q
/-- arguments -/
inductive ArgsOk (W : Wd) (H : Hp) : List V → List Sl → Prop where
  | nil : ArgsOk W H [] []
  | cons {v : V} {α : Type} {t : Ty α} {x : α} {vs : List V} {as : List Sl} : t.R W H v x → ArgsOk W H vs as → ArgsOk W H (v :: vs) (.sh t x :: as)
def Ea (X : Xw) (ta : TA) (G : Ct) (P : List Sl → Prop) : Prop :=
  ∀ W H σ (Q : List V → Hp → Prop), Holds G W H σ → X.ok W H → (∀ vs W' H' as, P as → GoE W H W' H' → OKW W' H' → ArgsOk W' H' vs as → Q vs H') → ta σ H Q
section
variable {X : Xw} {G : Ct} {α β γ : Type} {t : Ty α} {u : Ty β} {z : Ty γ} {P : α → Prop}
/-- an operation of two typed values -/
def RO (r : R2) (t : Ty α) (u : Ty β) (z : Ty γ) (C : α → β → (γ → Prop) → Prop) : Prop :=
  ∀ W H v w x y (Q : VK) (P : γ → Prop), OKW W H → t.R W H v x → u.R W H w y → C x y P → (∀ a W' H' c, P c → GoE W H W' H' → OKW W' H' → z.R W' H' a c → Q a H') → r v w H Q
/-- values of scalars -/
structure Sc (t : Ty α) where
  f : α → V
  ok : ∀ W H v x, t.R W H v x ↔ v = f x
  eq : ∀ x y, f x = f y ↔ x = y
  fl : ∀ x, flatV (f x) = true
def scI : Sc tInt := ⟨V.int, fun _ _ _ _ => Iff.rfl, fun _ _ => ⟨fun h => V.int.inj h, fun h => by rw [h]⟩, fun _ => rfl⟩
def scS : Sc tStr := ⟨V.str, fun _ _ _ _ => Iff.rfl, fun _ _ => ⟨fun h => V.str.inj h, fun h => by rw [h]⟩, fun _ => rfl⟩
def scB : Sc tBl := ⟨V.bl, fun _ _ _ _ => Iff.rfl, fun _ _ => ⟨fun h => V.bl.inj h, fun h => by rw [h]⟩, fun _ => rfl⟩
/-! tests -/
/-! arguments, displays -/
theorem ArgsOk.go {W W1 : Wd} {H H1 : Hp} {vs : List V} {as : List Sl} (h : ArgsOk W H vs as) (m : Mv W H W1 H1) : ArgsOk W1 H1 vs as := by
  induction h with
  | nil => exact .nil
  | cons r _ ih => exact .cons (Ty.go _ r m) ih
end
end Z
end

section
set_option maxRecDepth 100000
set_option maxHeartbeats 4000000
/-! Statements, calls, loops, comprehensions over typed slots. -/
namespace Z
open PySem PySem.Spec PyProof.Rows L2
/-- a def's wishes: what is wanted of what it hands back, of what it raises -/
structure Fx (ρ : Type) where
  tr : Ty ρ
  rt : ρ → Prop
  X : Xw
def Blk {ρ : Type} (F : Fx ρ) (ts : TS) (G : Ct) (N B C : Ct → Prop) : Prop :=
  ∀ W0 H0 W H σ (D : Ends), Go W0 H0 W H → Holds G W H σ →
    (∀ G' W' H' σ', N G' → Go W0 H0 W' H' → Holds G' W' H' σ' → D.nx σ' H') →
    (∀ G' W' H' σ', B G' → Go W0 H0 W' H' → Holds G' W' H' σ' → D.bk σ' H') →
    (∀ G' W' H' σ', C G' → Go W0 H0 W' H' → Holds G' W' H' σ' → D.ct σ' H') →
    (∀ v W' H' x, F.rt x → Go W0 H0 W' H' → OKW W' H' → F.tr.R W' H' v x → D.rt v H') →
    (∀ e d W' H', F.X.xp e → Go W0 H0 W' H' → OKW W' H' → ErAt W' H' e d → F.X.E (.ref e.C) d H') → ts D σ H
section
variable {ρ : Type} {F : Fx ρ} {G : Ct} {N B C : Ct → Prop} {α β γ : Type} {t : Ty α} {u : Ty β}
/-! ### targets -/
def Tg (g : TG) (G : Ct) (t : Ty α) (x : α) (vs : List Nat) (N : Ct → Prop) : Prop :=
  ∀ W H σ v (Q : L2.St → Hp → Prop), Holds G W H σ → t.R W H v x → (∀ G' σ', N G' → Holds G' W H σ' → σ'.length = σ.length → (∀ i, i ∉ vs → σ'[i]? = σ[i]?) → Q σ' H) → g v σ H Q
/-! ### one's own lists and dicts -/
def setW (W : Wd) (a : Addr) (m : Md) : Wd := fun b => if b = a then m else W b
theorem setW_same {W : Wd} {a : Addr} {m : Md} : setW W a m a = m := if_pos rfl
theorem setW_ne {W : Wd} {a b : Addr} {m : Md} (h : b ≠ a) : setW W a m b = W b := if_neg h
inductive AllSh (t : Ty α) : List Sl → List α → Prop where
  | nil : AllSh t [] []
  | cons {x : α} {as : List Sl} {xs : List α} : AllSh t as xs → AllSh t (.sh t x :: as) (x :: xs)
/-! ### loops -/
/-- what is walked: its items -/
def Ei (X : Xw) (wi : TI) (G : Ct) (t : Ty α) (P : List α → Prop) : Prop :=
  ∀ W H σ (R : It → Hp → Prop), Holds G W H σ → X.ok W H → (∀ J W1 H1 xs (Gh : Hp → Prop) (Y : Nat → Hp → V → Hp → Prop), P xs → GoE W H W1 H1 → OKW W1 H1 → Walk J xs.length Gh Y → (∀ W2 H2, Go W1 H1 W2 H2 → OKW W2 H2 → Gh H2) →
    (∀ W2 H2 i v H3, Go W1 H1 W2 H2 → OKW W2 H2 → i < xs.length → Y i H2 v H3 → ∃ x W3, xs[i]? = some x ∧ GoE W2 H2 W3 H3 ∧ OKW W3 H3 ∧ t.R W3 H3 v x) → R J H1) → wi σ H R
end
end Z
end

section
set_option maxRecDepth 100000
set_option maxHeartbeats 4000000
/-! Typed promises: what a def does with typed arguments. -/
namespace Z
open PySem PySem.Spec PyProof.Rows L2
structure CT (ρ : Type) where
  n : Bool
  tr : Ty ρ
  ct : List Sl → (ρ → Prop) → (Er → Prop) → Prop
/-- behind a call: the caller's own is the caller's own again -/
def hide (W : Wd) : Wd := fun b => if W b = .ow then .fo else W b
def unhide (W Wc : Wd) : Wd := fun b => if W b = .ow then .ow else Wc b
section
variable {W Wc : Wd} {H H' : Hp}
end
/-- the promise of a def, by typed arguments -/
def spZ {ρ : Type} (c : CT ρ) : Sp := fun vs H Q E => ∃ W as P XP, OKW W H ∧ (∀ b, W b ≠ .ow) ∧ (c.n = true → ∀ b, W b ≠ .lk) ∧ ArgsOk W H vs as ∧ c.ct as P XP ∧
  (∀ v W' H' x, P x → Go W H W' H' → OKW W' H' → c.tr.R W' H' v x → Q v H') ∧ (∀ e d W' H', XP e → Go W H W' H' → OKW W' H' → ErAt W' H' e d → E (.ref e.C) d H')
section
variable {ρ α β : Type} {X : Xw} {G : Ct} {c : CT ρ} {P : ρ → Prop}
/-- an instance of the class at C -/
def Inst (C : Addr) (m : Str) (t : Ty α) : Prop := ∀ W H v x, OKW W H → t.R W H v x → ∃ a dx fs, v = .ref a ∧ H a = some (.ins C dx fs) ∧ fs.lookup m = none
end
end Z
end

section
set_option maxRecDepth 100000
set_option maxHeartbeats 4000000
/-! Displays, items, built-in calls, dicts, comprehensions, what is walked. -/
namespace Z
open PySem PySem.Spec PyProof.Rows L2
section
variable {α β γ : Type} {R : α → β → Prop}
end
variable {K : PySem.W.Frag}
section
variable {X : Xw} {G : Ct} {α β γ δ : Type} {t : Ty α} {u : Ty β} {z : Ty γ}
/-! ### displays -/
/-! ### items -/
/-! ### built-in calls of one thing -/
def RC1 (r : List V → Hp → VK → Prop) (t : Ty α) (u : Ty β) (n : Bool) (C : α → (β → Prop) → Prop) : Prop :=
  ∀ W H v x (Q : VK) (P : β → Prop), OKW W H → (n = true → ∀ b, W b ≠ .lk) → t.R W H v x → C x P → (∀ a W' H' c, P c → GoE W H W' H' → OKW W' H' → u.R W' H' a c → Q a H') → r [v] H Q
abbrev rLenA (K : PySem.W.Frag) : List V → Hp → VK → Prop := fun xs H Q => ∃ x n, xs = [x] ∧ LenV K x H n ∧ Q (.int n) H
abbrev rListA (K : PySem.W.Frag) : List V → Hp → VK → Prop := fun xs H Q => ∃ p ys, xs = [.ref p] ∧ (SqL K H p ys ∨ SqT K H p ys) ∧ ∀ l, H l = none → Q (.ref l) (upd H l (.lst ys))
/-- the type of a dict's keys, as values -/
structure KyT {κ : Type} (ke : Ky κ) (tk : Ty κ) : Prop where
  ok : ∀ W H v k, tk.R W H v k ↔ v = kV (ke.k k)
abbrev rTupA (K : PySem.W.Frag) : List V → Hp → VK → Prop := fun xs H Q => ∃ p ys, xs = [.ref p] ∧ ((SqL K H p ys ∧ ∀ l, H l = none → Q (.ref l) (upd H l (.tup ys))) ∨ (SqT K H p ys ∧ Q (.ref p) H))
/-! ### in, not in -/
end
/-! ### dicts -/
section
variable {X : Xw} {G : Ct} {κ α β : Type} [DecidableEq κ] {ke : Ky κ} {tk : Ty κ} {t : Ty α}
def lookK (kvs : List (κ × α)) (k : κ) : Option α := (kvs.find? fun p => decide (p.1 = k)).map (·.2)
def hasK (kvs : List (κ × α)) (k : κ) : Bool := (lookK kvs k).isSome
def putZ (kvs : List (κ × α)) (k : κ) (x : α) : List (κ × α) := if hasK kvs k then kvs.map fun p => if p.1 = k then (p.1, x) else p else kvs ++ [(k, x)]
end
end Z
end

section
set_option maxRecDepth 100000
set_option maxHeartbeats 4000000
/-! What is walked; loops over dicts; comprehensions. -/
namespace Z
open PySem PySem.Spec PyProof.Rows L2
/-- within a comprehension nothing may be raised -/
def x0 : Xw := ⟨fun _ _ _ => False, fun _ => False⟩
variable {K : PySem.W.Frag}
section
variable {α β γ ρ : Type} {t : Ty α} {u : Ty β} {X : Xw} {G : Ct}
/-- what is walked, from here -/
def EiAt (wi : TI) (W : Wd) (H : Hp) (σ : L2.St) (t : Ty α) (P : List α → Prop) : Prop :=
  ∀ (R : It → Hp → Prop), (∀ J W1 H1 xs (Gh : Hp → Prop) (Y : Nat → Hp → V → Hp → Prop), P xs → GoE W H W1 H1 → OKW W1 H1 → Walk J xs.length Gh Y → (∀ W2 H2, Go W1 H1 W2 H2 → OKW W2 H2 → Gh H2) →
    (∀ W2 H2 i v H3, Go W1 H1 W2 H2 → OKW W2 H2 → i < xs.length → Y i H2 v H3 → ∃ x W3, xs[i]? = some x ∧ GoE W2 H2 W3 H3 ∧ OKW W3 H3 ∧ t.R W3 H3 v x) → R J H1) → wi σ H R
def chars (z : Str) : List Str := z.cps.toList.map fun c => ⟨#[c]⟩
def rangeZ (i j : Int) : List Int := (List.range (j - i).toNat).map fun (k : Nat) => i + (k : Int)
def enumZ (xs : List α) : List (Int × α) := xs.zipIdx.map fun p => ((p.2 : Int), p.1)
/-! ### a path to a thing: it may be read again where all stands -/
def Ap (te : TE) (G : Ct) (t : Ty α) (P : α → Prop) : Prop := ∀ W H σ, Holds G W H σ → ∃ v x, P x ∧ t.R W H v x ∧ ∀ W' H' (Q : VK), Mv W H W' H' → OKW W' H' → Q v H' → te σ H' Q
/-! ### a dict is locked, and opened again -/
end
/-! ### loops -/
section
variable {ρ α β : Type} {F : Fx ρ} {G : Ct} {N B C : Ct → Prop} {t : Ty α} {u : Ty β}
/-- one reading or another -/
def tEither (a b : TS) : TS := fun D σ H => a D σ H ∨ b D σ H
def tEitherE (a b : TE) : TE := fun σ H Q => a σ H Q ∨ b σ H Q
/-! ### comprehensions -/
def Ct.wipe (G : Ct) : List Nat → Ct
  | [] => G
  | i :: is => (Ct.wipe G is).set i .un
/-- what a comprehension may give: R x l tells what one item may give (nothing, or one thing) -/
inductive Chop (R : α → List β → Prop) : List α → List β → Prop where
  | nil : Chop R [] []
  | cons {x : α} {xs : List α} {l ys : List β} : R x l → Chop R xs ys → Chop R (x :: xs) (l ++ ys)
end
end Z
end

section
set_option maxRecDepth 100000
set_option maxHeartbeats 4000000
namespace Z
open PySem PySem.Spec PyProof.Rows L2
variable {K : PySem.W.Frag}
section
variable {α β γ ρ : Type} {t : Ty α} {u : Ty β} {X : Xw} {G : Ct} {F : Fx ρ} {N B C : Ct → Prop}
/-! ### dict comprehensions -/
variable {κ δ : Type} [DecidableEq δ]
def mkD (ys : List (δ × β)) : List (δ × β) := ys.foldl (fun d p => putZ d p.1 p.2) []
end
/-! ### one's own things, looked at -/
def Sl.view (K : PySem.W.Frag) : Sl → Sl
  | .ol t xs => .sh (tLs K t) xs
  | .od ke t kvs => .sh (tDk ke t) kvs
  | s => s
def Ct.view (K : PySem.W.Frag) (G : Ct) : Ct := ⟨G.n, G.s.map (Sl.view K)⟩
/-- nothing of the heap is asked -/
def Flat {α : Type} (t : Ty α) : Prop := ∀ W H W' H' v x, t.R W H v x → t.R W' H' v x
def show' (W : Wd) : Wd := fun b => if W b = .ow then .sh else W b
section
variable {α β γ ρ : Type} {t : Ty α} {u : Ty β} {X : Xw} {G : Ct}
/-! ### slices -/
def Eo (X : Xw) (to : TO) (G : Ct) (P : Option Int → Prop) : Prop := ∀ W H σ (Q : Option Int → Hp → Prop), Holds G W H σ → X.ok W H → (∀ i W' H', P i → GoE W H W' H' → OKW W' H' → Q i H') → to σ H Q
def SLI (r : V → Option Int → Option Int → Hp → VK → Prop) (t : Ty α) (u : Ty β) (C : α → Option Int → Option Int → (β → Prop) → Prop) : Prop :=
  ∀ W H v x lo hi (Q : VK) (P : β → Prop), OKW W H → t.R W H v x → C x lo hi P → (∀ a W' H' c, P c → GoE W H W' H' → OKW W' H' → u.R W' H' a c → Q a H') → r v lo hi H Q
def cutZ (xs : List α) (lo hi : Option Int) : List α := (xs.drop (HT.sIx xs.length 0 lo)).take (HT.sIx xs.length xs.length hi - HT.sIx xs.length 0 lo)
/-! ### texts -/
/-! ### an attribute of an instance -/
def FldOf (K : PySem.W.Frag) (f : Str) (T : Ty α) (u : Ty β) (get : α → β) : Prop := ∀ W H v x, T.R W H v x → ∃ a C dx fs w, v = .ref a ∧ RdW W H a (.ins C dx fs) ∧ Cls K C ∧ NoAttr K C f ∧ fs.lookup f = some w ∧ u.R W H w (get x)
/-! ### sorted -/
end
end Z
end

section
set_option maxRecDepth 100000
set_option maxHeartbeats 4000000
namespace Z
open PySem PySem.Spec PyProof.Rows L2
variable {K : PySem.W.Frag}
section
variable {α β γ ρ : Type} {t : Ty α} {u : Ty β} {X : Xw} {G : Ct} {F : Fx ρ} {N B C : Ct → Prop}
/-! ### raise -/
end
end Z
end

section
set_option maxRecDepth 100000
set_option maxHeartbeats 4000000
namespace KK
open PySem PySem.Spec PyProof.Rows L2 Z
def spDrawG : Sp := fun vs H Q _ => ∃ (a : Addr) (n c k : Int), vs = [.ref a, .int n] ∧ H a = some (.lst [.int c, .int k]) ∧ 0 ≤ k ∧ 0 < n ∧ n < 2 ^ 200 ∧ ∀ r c' k', 0 ≤ r → r < n → 0 ≤ k' → Q (.int r) (upd H a (.lst [.int c', .int k']))
section
variable {P : Program} {w : World} {K : PySem.W.Frag} {mg : Str → Option Value} {base : Heap}
theorem c_drawG (T : Blt mg) (F : Has K mg "_law_draw" s_law_draw) : C8.Cal P w K mg base 1 "_law_draw" spDrawG [] := by
  refine calF F (fun f fd F => F.binds (ps := ["_law_stream_here", "_law_many"]) fun _ _ _ _ _ _ us hl => match us, hl with | [_, _], _ => rfl) scDraw (fun vs H Q E h => ?_) (fun f cdv A outer s H vs Q E hr h => ?_)
  · obtain ⟨a, n, c, k, rfl, _⟩ := h
    rfl
  · obtain ⟨a, n, c, k, rfl, hA, hk0, hn, hn2, q⟩ := h
    refine ⟨_, (pss_cons (ps_if (pt_cmpR op_ge (pe_ix ix_list (pv 0) pe_int (fun _ _ => rfl)) (pe_op op_pow pe_int pe_int) (nomark _)) (pss_cons (ps_set (i := 2) scDraw.nd rfl (Or.inl rfl) (pe_op op_modN (pe_callTy call_int1 (by rfl) T.b_int (by decide +kernel) (pa_cons (pe_ix ix_list (pv 0) pe_int (fun _ _ => rfl)) pa_nil)) (pv 1)))
      (pss_cons (ps_asg (pe_op op_fdivW (pe_callTy call_int1 (by rfl) T.b_int (by decide +kernel) (pa_cons (pe_ix ix_list (pv 0) pe_int (fun _ _ => rfl)) pa_nil)) (pv 1)) (pg_sub (pv 0) pe_int set_list))
      (pss_one (ps_ret (pv 2))))) pss_nil)
      (pss_cons (ps_set (i := 3) scDraw.nd rfl (Or.inl rfl) (pe_op op_modN (pe_op op_add (pe_op op_add (pe_op op_mul (pe_op op_modN (pe_callTy call_int1 (by rfl) T.b_int (by decide +kernel) (pa_cons (pe_ix ix_list (pv 0) pe_int (fun _ _ => rfl)) pa_nil)) pe_int) pe_int) (pe_op op_mul (pe_ix ix_list (pv 0) pe_int (fun _ _ => rfl)) pe_int)) pe_int) pe_int))
      (pss_cons (ps_set (i := 3) scDraw.nd rfl (Or.inl rfl) (pe_op op_modN (pe_op op_mul (pv 3) (pe_op op_add (pe_op op_fdivW (pv 3) pe_int) pe_int)) pe_int))
      (pss_cons (ps_set (i := 3) scDraw.nd rfl (Or.inl rfl) (pe_op op_modN (pe_op op_mul (pv 3) (pe_op op_add (pe_op op_fdivW (pv 3) pe_int) pe_int)) pe_int))
      (pss_cons (ps_asg (pe_op op_add (pe_ix ix_list (pv 0) pe_int (fun _ _ => rfl)) pe_int) (pg_sub (pv 0) pe_int set_list))
      (pss_one (ps_ret (pe_op op_modN (pe_op op_fdivW (pv 3) pe_int) (pv 1))))))))), ?_⟩
    have hL : SqL K H a [.int c, .int k] := SqL.of hA
    have i0 : atI ([.int c, .int k] : List V) 0 = some (.int c) := atI_nat (j := 0) rfl
    have i1 : atI ([.int c, .int k] : List V) 1 = some (.int k) := atI_nat (j := 1) rfl
    refine ⟨_, rfl, a, _, _, _, rfl, rfl, hL, i0, _, _, rfl, rfl, ⟨by decide, by decide, by decide⟩, _, _, rfl, rfl, _, rfl, ?_⟩
    refine ite2 (fun hlt => ?_) (fun hlt => ?_)
    · refine ⟨_, rfl, a, _, _, _, rfl, rfl, hL, i0, .inl ⟨_, rfl, ?_⟩⟩
      refine ⟨_, rfl, _, _, rfl, rfl, (show n ≠ 0 by omega), ?_⟩
      refine ⟨_, rfl, a, _, _, _, rfl, rfl, hL, i0, .inl ⟨_, rfl, _, rfl, _, _, rfl, rfl, ⟨hn, ?_⟩, ?_⟩⟩
      · exact log200 hn hn2
      · refine ⟨_, rfl, a, _, _, 0, rfl, rfl, hA, rfl, ?_⟩
        exact ⟨_, rfl, q _ _ _ (fm0 hn).1 (fm0 hn).2 hk0⟩
    · have d1 : CDivW 0 1009 := ⟨by decide, by decide +kernel⟩
      have d2 : CDivW 0 2003 := ⟨by decide, by decide +kernel⟩
      have d3 : CDivW 0 16 := ⟨by decide, by decide +kernel⟩
      have n1 : (2147483647 : Int) ≠ 0 := by decide
      have n2 : (2147483399 : Int) ≠ 0 := by decide
      have m1 : ∀ i : Int, -(2 ^ 64) < i.fmod 2147483647 ∧ i.fmod 2147483647 < 2 ^ 64 := fun i => mulOk (by decide) (by decide)
      have m2 : ∀ i : Int, -(2 ^ 64) < i.fmod 2147483399 ∧ i.fmod 2147483399 < 2 ^ 64 := fun i => mulOk (by decide) (by decide)
      refine ⟨_, rfl, a, _, _, _, rfl, rfl, hL, i0, .inl ⟨_, rfl, _, _, rfl, rfl, n1, _, _, rfl, rfl, .inl (m1 _), ?_⟩⟩
      refine ⟨_, rfl, a, _, _, _, rfl, rfl, hL, i1, _, _, rfl, rfl, .inr ⟨by decide, by decide⟩, _, _, rfl, rfl, _, _, rfl, rfl, _, _, rfl, rfl, n1, ?_⟩
      refine ⟨_, rfl, _, rfl, _, _, rfl, rfl, d1, _, _, rfl, rfl, _, _, rfl, rfl, .inl (m1 _), _, _, rfl, rfl, n1, ?_⟩
      refine ⟨_, rfl, _, rfl, _, _, rfl, rfl, d2, _, _, rfl, rfl, _, _, rfl, rfl, .inl (m1 _), _, _, rfl, rfl, n2, ?_⟩
      refine ⟨_, rfl, a, _, _, _, rfl, rfl, hL, i1, _, _, rfl, rfl, _, rfl, a, _, _, 1, rfl, rfl, hA, rfl, ?_⟩
      refine ⟨_, rfl, _, _, rfl, rfl, d3, _, rfl, _, _, rfl, rfl, (show n ≠ 0 by omega), ?_⟩
      exact q _ _ _ (fm0 hn).1 (fm0 hn).2 (by omega)
/-! ### typed -/
abbrev ctDraw : CT Int := ⟨false, tInt, fun as P _ => ∃ n, as = [.sh tStm (), .sh tInt n] ∧ (0 < n ∧ n < 2 ^ 200) ∧ ∀ r, (0 ≤ r ∧ r < n) → P r⟩
theorem st_write {W : Wd} {H : Hp} {a : Addr} {c k : Int} (ok : OKW W H) (w : W a = .st) (hk : 0 ≤ k) : Go W H W (upd H a (.lst [.int c, .int k])) ∧ OKW W (upd H a (.lst [.int c, .int k])) := by
  have ne : ∀ b, W b ≠ .st → b ≠ a := fun b h e => h (by rw [e]; exact w)
  refine ⟨⟨fun b o h q => ⟨by rw [upd_ne (ne b (by rcases q with q | q | q <;> rw [q] <;> decide))]; exact h, rfl⟩, fun _ h => h, fun _ h => h⟩, ⟨fun b h => ?_, fun b h => ?_, fun b od u w2 e => ?_, fun b h => ?_, fun b od u w2 e => ?_, fun b vs e => by
    have n : b ≠ a := fun z => by rw [z, upd_same] at e; cases e
    rw [upd_ne n] at e; exact ok.tp b vs e⟩⟩
  · by_cases n : b = a
    · exact ⟨c, k, by rw [n, upd_same], hk⟩
    · rw [upd_ne n]; exact ok.st b h
  · by_cases n : b = a
    · exact ⟨_, by rw [n, upd_same]⟩
    · rw [upd_ne n]; exact ok.al b h
  · rw [upd_ne (ne b (by rw [w2]; decide))] at e; exact ok.nf b od u w2 e
  · rw [upd_ne (ne b (by rw [h]; decide))]; exact ok.lk b h
  · rw [upd_ne (ne b (by rw [w2]; decide))] at e; exact ok.fo b od u w2 e
theorem z_draw (T : Blt mg) (F : Has K mg "_law_draw" s_law_draw) : C8.Cal P w K mg base 1 "_law_draw" (spZ ctDraw) [] := by
  refine Own.cal_of (c_drawG T F) ?_
  rintro vs H Q E ⟨W, as, P, XP, ok, _, _, ha, ⟨n, rfl, ⟨h1, h2⟩, hp⟩, q, _⟩
  cases ha with
  | cons r1 ha => cases ha with
    | cons r2 ha =>
      cases ha
      obtain ⟨a, rfl, w⟩ := r1
      cases r2
      obtain ⟨c, k, e, hk⟩ := ok.st a w
      refine ⟨a, n, c, k, rfl, e, hk, h1, h2, fun r c' k' h3 h4 h5 => ?_⟩
      obtain ⟨g, ok2⟩ := st_write (c := c') (k := k') ok w h5
      exact q (.int r) W _ r (hp r ⟨h3, h4⟩) g ok2 rfl
abbrev ctStream (K : PySem.W.Frag) : CT Unit := ⟨false, tStm, fun as P _ => ∃ xs j, as = [.sh (tScr K) xs, .sh tInt j] ∧ (xs.length ≤ 1000 ∧ 0 ≤ j ∧ j ≤ 100) ∧ P ()⟩
theorem z_stream (T : Blt mg) (F : Has K mg "_law_stream" s_law_stream) : C8.Cal P w K mg base 1 "_law_stream" (spZ (ctStream K)) [] := by
  refine Own.cal_of (c_stream T F) ?_
  rintro vs H Q E ⟨W, as, P, XP, ok, _, _, ha, ⟨xs, j, rfl, ⟨h1, h2, h3⟩, hp⟩, q, _⟩
  cases ha with
  | cons r1 ha => cases ha with
    | cons r2 ha =>
      cases ha
      obtain ⟨a, rfl, sq⟩ := r1
      cases r2
      refine ⟨a, xs, j, rfl, sq.l, h1, h2, h3, fun p c hn => ?_⟩
      have fr := ok.fresh hn
      have ne : ∀ b o, H b = some o → b ≠ p := fun b o e => ne_of_none e hn
      refine q (.ref p) (setW W p .st) _ () hp ⟨fun b o e w => ⟨by rw [upd_ne (ne b o e)]; exact e, setW_ne (ne b o e)⟩, fun b w => ?_, fun b w => ?_⟩ ⟨fun b h => ?_, fun b h => ?_, fun b od u w e => ?_, fun b h => ?_, fun b od u w e => ?_, fun b vs e => by
        have n : b ≠ p := fun z => by rw [z, upd_same] at e; cases e
        rw [upd_ne n] at e; rw [setW_ne n]; exact ok.tp b vs e⟩ ⟨p, rfl, setW_same⟩
      · by_cases n : b = p
        · rw [n, setW_same]
        · rw [setW_ne n]; exact w
      · by_cases n : b = p
        · rw [n, setW_same] at w; cases w
        · rw [setW_ne n] at w; exact w
      · by_cases n : b = p
        · exact ⟨c, _, by rw [n, upd_same], by omega⟩
        · rw [setW_ne n] at h; rw [upd_ne n]; exact ok.st b h
      · by_cases n : b = p
        · exact ⟨_, by rw [n, upd_same]⟩
        · rw [setW_ne n] at h; rw [upd_ne n]; exact ok.al b h
      · by_cases n : b = p
        · rw [n, setW_same] at w; cases w
        · rw [setW_ne n] at w; rw [upd_ne n] at e; exact ok.nf b od u w e
      · by_cases n : b = p
        · rw [n, setW_same] at h; cases h
        · rw [setW_ne n] at h; rw [upd_ne n]; exact ok.lk b h
      · by_cases n : b = p
        · rw [n, setW_same] at w; cases w
        · rw [setW_ne n] at w; rw [upd_ne n] at e; exact ok.fo b od u w e
end
end KK
end

section
set_option maxRecDepth 100000
set_option maxHeartbeats 4000000
/-! tuple(d), d a dict: its keys -/
namespace PySem
open Sem (wp)
section
variable {prog : Program} {w : World} {A : Around} {E : Value → Shared → Prop} {s : Shared} {T : String} {r d : Addr} {n : Nat} {P : Nat → Value → Prop} {OK : Heap → Prop}
end
end PySem
namespace Own
open PySem PySem.Spec PyProof.Rows L2
end Own
end

section
set_option maxRecDepth 100000
set_option maxHeartbeats 4000000
namespace KK
open PySem PySem.Spec PyProof.Rows L2
/-- a web made of a dict of prices and a list of ties -/
def spWebOf (C : Addr) : Sp := fun vs H Q _ => ∃ (d tl : Addr) (ns : List Str) (ps : List Int) (xs : List V) (ts : List (Str × Str)), vs = [.ref d, .ref tl] ∧ H d = some (.dK (prK ns ps)) ∧ H tl = some (.lst xs) ∧ Ties H xs ts ∧ ps.length = ns.length ∧ NsOk ns ∧ TsOk ns ts ∧ PrOk ps ∧
  ∀ o dx dp tl2 ys ms qs us H', Same H H' → H o = none → H dp = none → H tl2 = none → WebAt H' C o dx dp tl2 ys ms qs us → WebOk ns ps ts ms qs us → Q (.ref o) H'
section
variable {P : Program} {w : World} {K : PySem.W.Frag} {mg : Str → Option Value} {base : Heap} {C : Addr}
end
end KK
end

section
set_option maxRecDepth 100000
set_option maxHeartbeats 4000000
namespace KK
open PySem PySem.Spec PyProof.Rows L2
def bes1 (x : Str) (p : Str × Str) : List Str := (if p.1 = x then [p.2] else []) ++ (if p.2 = x then [p.1] else [])
def bes (ts : List (Str × Str)) (x : Str) : List Str := ts.flatMap (bes1 x)
def upP (p : Str × Str) : Str × Str := if Own.ltS p.1 p.2 = true then p else (p.2, p.1)
end KK
end

section
set_option maxRecDepth 100000
set_option maxHeartbeats 4000000
namespace KK
open PySem PySem.Spec PyProof.Rows L2
def spUp : Sp := fun vs H Q _ => ∃ (t : Addr) (p : Str × Str), vs = [.ref t] ∧ H t = some (.tup [.str p.1, .str p.2]) ∧ ∀ u, H u = none → Q (.ref u) (upd H u (.tup [.str (upP p).1, .str (upP p).2]))
def spCopy : Sp := fun vs H Q _ => ∃ (d : Addr) (ns : List Str) (ps : List Int), vs = [.ref d] ∧ H d = some (.dK (prK ns ps)) ∧ ns.Nodup ∧ ns.length ≤ 40 ∧ ps.length = ns.length ∧
  ∀ c H', Same H H' → H c = none → H' c = some (.dK (prK ns ps)) → Q (.ref c) H'
def beK (ns : List Str) (as : List Addr) : List (Key × V) := (ns.zip as).map fun e => (Sum.inr e.1, V.ref e.2)
/-- the dict of the neighbours' lists -/
structure BesAt (H : Hp) (d : Addr) (ns : List Str) (as : List Addr) (f : Str → List Str) : Prop where
  hd : H d = some (.dK (beK ns as))
  len : as.length = ns.length
  nd : as.Nodup
  ls : ∀ (i : Nat) (x : Str) (a : Addr), ns[i]? = some x → as[i]? = some a → H a = some (.lst ((f x).map V.str))
def spBeside : Sp := fun vs H Q _ => ∃ (pl tl : Addr) (ns : List Str) (xs : List V) (ts : List (Str × Str)), vs = [.ref pl, .ref tl] ∧ H pl = some (.tup (ns.map V.str)) ∧ H tl = some (.lst xs) ∧ Ties H xs ts ∧ NsOk ns ∧ TsOk ns ts ∧
  ∀ d as H', Same H H' → BesAt H' d ns as (bes ts) → Q (.ref d) H'
section
variable {P : Program} {w : World} {K : PySem.W.Frag} {mg : Str → Option Value} {base : Heap}
end
end KK
end

section
set_option maxRecDepth 100000
set_option maxHeartbeats 4000000
namespace KK
open PySem PySem.Spec PyProof.Rows L2
theorem strOk_name {x : Str} (h : NameOk x) : PyData.strOk x = true := by
  unfold PyData.strOk
  rw [← Array.all_toList, List.all_eq_true]
  intro c hc
  have := (h.cs c hc).2
  exact decide_eq_true (by omega)
abbrev tieD (p : Str × Str) : PyData := .tuple [.str p.1, .str p.2]
end KK
end

section
set_option maxRecDepth 100000
set_option maxHeartbeats 4000000
/-! {**a, k: v}, {**a, **b} -/
namespace OwnM
open PySem
open Sem (wp)
section
variable {prog : Program} {w : World} {K : Type} [DecidableEq K] {knd : KeyKind prog w K} {A : Around} {E : Value → Shared → Prop} {s : Shared}
end
end OwnM
end

section
set_option maxRecDepth 100000
set_option maxHeartbeats 4000000
namespace OwnM
open PySem PySem.Spec PyProof.Rows L2
section
variable {X : Cx} {pins : List (Addr × Obj)} {σ : L2.St} {H : Hp} {s : Shared}
/-- {**x, **y} -/
def tStar2 (t1 t2 : TE) : TE := fun σ H Q => ∀ p, H p = none → t1 σ (upd H p (.dK [])) fun x H1 => ∃ a ks, x = .ref a ∧ H1 a = some (.dK ks) ∧ a ≠ p ∧ H1 p = some (.dK []) ∧ (mergeK [] ks).length ≤ 1000 ∧ ks.length ≤ 1000 ∧
  t2 σ (upd H1 p (.dK (mergeK [] ks))) fun y H2 => ∃ b ls, y = .ref b ∧ H2 b = some (.dK ls) ∧ b ≠ p ∧ H2 p = some (.dK (mergeK [] ks)) ∧ ls.length ≤ 1000 ∧ Q (.ref p) (upd H2 p (.dK (mergeK (mergeK [] ks) ls)))
/-- {**x, k: v}: the pair in a dict of its own, at r, then merged -/
def tStar1 (t1 tk tv : TE) : TE := fun σ H Q => ∀ p, H p = none → t1 σ (upd H p (.dK [])) fun x H1 => ∃ a ks, x = .ref a ∧ H1 a = some (.dK ks) ∧ a ≠ p ∧ H1 p = some (.dK []) ∧ (mergeK [] ks).length ≤ 1000 ∧ ks.length ≤ 1000 ∧
  ∀ r, upd H1 p (.dK (mergeK [] ks)) r = none → tk σ (upd (upd H1 p (.dK (mergeK [] ks))) r (.dK [])) fun y H2 => tv σ H2 fun z H3 => ∃ k, y = kV k ∧ H3 r = some (.dK []) ∧ r ≠ p ∧ H3 p = some (.dK (mergeK [] ks)) ∧
    Q (.ref p) (upd (upd H3 r (.dK (mergeK [] [(k, z)]))) p (.dK (mergeK (mergeK [] ks) (mergeK [] [(k, z)]))))
end
end OwnM
end

section
set_option maxRecDepth 100000
set_option maxHeartbeats 4000000
namespace KK
open PySem PySem.Spec PyProof.Rows L2
theorem room65 {k : Nat} {A : Around} (r : Room k A) : A.units + 65 < cLine := by
  have := r.un
  omega
/-- a web whose parts are sound -/
structure WebS (H : Hp) (C o dx dp tl : Addr) (xs : List V) (ms : List Str) (qs : List Int) (us : List (Str × Str)) : Prop where
  wa : WebAt H C o dx dp tl xs ms qs us
  ql : qs.length = ms.length
  no : NsOk ms
  to : TsOk ms us
  po : PrOk qs
def spIsPrice (K : PySem.W.Frag) : Sp := fun vs H Q _ => ∃ (p : Int), vs = [.int p] ∧ 1 ≤ p ∧ p ≤ 10 ^ 30 ∧ Q (.bl true) H
def spWithPrice (C : Addr) : Sp := fun vs H Q _ => ∃ o dx dp tl xs ms qs us x i p, vs = [.ref o, .str x, .int p] ∧ WebS H C o dx dp tl xs ms qs us ∧ ms[i]? = some x ∧ 1 ≤ p ∧ p ≤ 10 ^ 30 ∧
  ∀ o2 dx2 dp2 tl2 ys ms2 qs2 us2 H', Same H H' → H o2 = none → H dp2 = none → H tl2 = none → WebAt H' C o2 dx2 dp2 tl2 ys ms2 qs2 us2 → WebOk ms (qs.set i p) us ms2 qs2 us2 → Q (.ref o2) H'
section
variable {P : Program} {w : World} {K : PySem.W.Frag} {mg : Str → Option Value} {base : Heap} {C : Addr}
def spWithTie (C : Addr) : Sp := fun vs H Q _ => ∃ o dx dp tl xs ms qs us x y, vs = [.ref o, .str x, .str y] ∧ WebS H C o dx dp tl xs ms qs us ∧ x ∈ ms ∧ y ∈ ms ∧ x ≠ y ∧ ordP (x, y) ∉ us ∧ us.length < 400 ∧ (∀ p ∈ us, ordP p = p) ∧
  ∀ o2 dx2 dp2 tl2 ys ms2 qs2 us2 H', Same H H' → H o2 = none → H dp2 = none → H tl2 = none → WebAt H' C o2 dx2 dp2 tl2 ys ms2 qs2 us2 → WebOk ms qs (us ++ [ordP (x, y)]) ms2 qs2 us2 → Q (.ref o2) H'
end
end KK
end

section
set_option maxRecDepth 100000
set_option maxHeartbeats 4000000
namespace KK
open PySem PySem.Spec PyProof.Rows L2
def spCut (C : Addr) : Sp := fun vs H Q _ => ∃ o dx dp tl xs ms qs us x y, vs = [.ref o, .str x, .str y] ∧ WebS H C o dx dp tl xs ms qs us ∧ x ∈ ms ∧ y ∈ ms ∧ ordP (x, y) ∈ us ∧
  ∀ o2 dx2 dp2 tl2 ys ms2 qs2 us2 H', Same H H' → H o2 = none → H dp2 = none → H tl2 = none → WebAt H' C o2 dx2 dp2 tl2 ys ms2 qs2 us2 → WebOk ms qs (us.filter fun p => !decide (p = ordP (x, y))) ms2 qs2 us2 → Q (.ref o2) H'
section
variable {P : Program} {w : World} {K : PySem.W.Frag} {mg : Str → Option Value} {base : Heap} {C : Addr}
end
end KK
end

section
set_option maxRecDepth 100000
set_option maxHeartbeats 4000000
/-! x == y, both dicts from texts to ints: both answers -/
namespace Own
open PySem PySem.Spec PyProof.Rows L2
def dZ (zs : List (Str × Int)) : List (Key × V) := zs.map fun e => (Sum.inr e.1, V.int e.2)
def lookZ (zs : List (Str × Int)) (x : Str) : Option Int := (zs.find? fun e => decide (e.1 = x)).map (·.2)
def eqZ (zs ws : List (Str × Int)) : Bool := (zs.length == ws.length) && zs.all fun e => decide (lookZ ws e.1 = some e.2)
section
variable {X : Cx}
def rEqZ : R2 := fun x y H Q => ∃ a b zs ws, x = .ref a ∧ y = .ref b ∧ H a = some (.dK (dZ zs)) ∧ H b = some (.dK (dZ ws)) ∧ Q (.bl (eqZ zs ws)) H
end
end Own
end

section
set_option maxRecDepth 100000
set_option maxHeartbeats 4000000
namespace KK
open PySem PySem.Spec PyProof.Rows L2
/-- two webs compared -/
def webEq (ms : List Str) (qs : List Int) (us : List (Str × Str)) (ms2 : List Str) (qs2 : List Int) (us2 : List (Str × Str)) : Bool := Own.eqZ (ms.zip qs) (ms2.zip qs2) && decide (us = us2)
def spEq (C : Addr) : Sp := fun vs H Q _ => ∃ o dx dp tl xs ms qs us o2 dx2 dp2 tl2 xs2 ms2 qs2 us2, vs = [.ref o, .ref o2] ∧ WebAt H C o dx dp tl xs ms qs us ∧ WebAt H C o2 dx2 dp2 tl2 xs2 ms2 qs2 us2 ∧
  (∀ p ∈ us, NameOk p.1 ∧ NameOk p.2) ∧ (∀ p ∈ us2, NameOk p.1 ∧ NameOk p.2) ∧ Q (.bl (webEq ms qs us ms2 qs2 us2)) H
section
variable {P : Program} {w : World} {K : PySem.W.Frag} {mg : Str → Option Value} {base : Heap} {C : Addr}
end
end KK
end

section
set_option maxRecDepth 100000
set_option maxHeartbeats 4000000
namespace KK
open PySem PySem.Spec PyProof.Rows L2
/-- sound parts -/
structure Pts (ns : List Str) (ps : List Int) (ts : List (Str × Str)) : Prop where
  pl : ps.length = ns.length
  no : NsOk ns
  to : TsOk ns ts
  po : PrOk ps
/-- the same parts, whatever their order -/
structure Sames (ns : List Str) (ps : List Int) (ts : List (Str × Str)) (ns2 : List Str) (ps2 : List Int) (ts2 : List (Str × Str)) : Prop where
  pn : ns.Perm ns2
  pp : ∀ x ∈ ns, prF ns ps x = prF ns2 ps2 x
  pt : (ts.map ordP).Perm (ts2.map ordP)
end KK
end

section
set_option maxRecDepth 100000
set_option maxHeartbeats 4000000
namespace KK
open PySem PySem.Spec PyProof.Rows L2 Z
structure WebZ where
  ms : List Str
  qs : List Int
  us : List (Str × Str)
  deriving DecidableEq
structure WfZ (w : WebZ) : Prop where
  p : Pts w.ms w.qs w.us
  am : Own.AscS w.ms
  au : Own.AscP w.us
  fx : ∀ e ∈ w.us, ordP e = e
section
variable (K : PySem.W.Frag) (C : Addr)
def tWeb : Z.Ty WebZ := ⟨fun W H v w => WfZ w ∧ ∃ o dx dp tl xs, v = .ref o ∧ RdW W H o (.ins C dx [("_prices", .ref dp), ("_ties", .ref tl)]) ∧ RdW W H dp (.dK (prK w.ms w.qs)) ∧ (W tl = .sh ∧ H tl = some (.lst xs)) ∧ Paired ((tT2 K tStr tStr).R W H) xs w.us, by
  rintro W W' H H' v w ⟨wf, o, dx, dp, tl, xs, e, h1, h2, h3, p⟩ m
  exact ⟨wf, o, dx, dp, tl, xs, e, m.rd _ _ h1, m.rd _ _ h2, m.ls _ _ h3.1 h3.2, L2.Paired.mapP p fun u x r => Z.Ty.go _ r m⟩⟩
end
variable {K : PySem.W.Frag} {C : Addr}
end KK
end

section
set_option maxRecDepth 100000
set_option maxHeartbeats 4000000
namespace KK
open PySem PySem.Spec PyProof.Rows L2 Z
abbrev ctPair (K : PySem.W.Frag) : CT (Str × Str) := ⟨false, tT2 K tStr tStr, fun as P _ => ∃ a b, as = [.sh tStm (), .sh tStr a, .sh tStr b] ∧ ∀ p, (p = (a, b) ∨ p = (b, a)) → P p⟩
abbrev ctAmount : CT Int := ⟨false, tInt, fun as P _ => ∃ n, as = [.sh tStm (), .sh tInt n] ∧ ∀ r, (1 ≤ r ∧ r ≤ 10 ^ 30) → P r⟩
section
variable {P : Program} {w : World} {K : PySem.W.Frag} {mg : Str → Option Value} {base : Heap}
end
end KK
end

section
set_option maxRecDepth 100000
set_option maxHeartbeats 4000000
namespace KK
open PySem PySem.Spec PyProof.Rows L2 Z
abbrev ctName (T : Ty (List Str)) : CT Str := ⟨false, tStr, fun as P _ => ∃ ys, as = [.sh tStm (), .sh T ys] ∧ ys.length ≤ 60 ∧ ∀ x, (NameOk x ∧ x ∉ ys) → P x⟩
section
variable {P : Program} {w : World} {K : PySem.W.Frag} {mg : Str → Option Value} {base : Heap}
end
end KK
end

section
set_option maxRecDepth 100000
set_option maxHeartbeats 4000000
namespace KK
open PySem PySem.Spec PyProof.Rows L2 Z
abbrev tParts (K : PySem.W.Frag) : Z.Ty (List Str × List (Str × Str) × List (Str × Int)) := tL3 K (tTu K tStr) (tLs K (tT2 K tStr tStr)) (tDk kS tInt)
/-- sound parts of a web -/
structure PtsZ (p : List Str × List (Str × Str) × List (Str × Int)) : Prop where
  no : NsOk p.1
  to : TsOk p.1 p.2.1
  ks : (p.2.2.map (·.1)).Perm p.1
  po : ∀ e ∈ p.2.2, 1 ≤ e.2 ∧ e.2 ≤ 10 ^ 30
abbrev ctParts (K : PySem.W.Frag) : CT (List Str × List (Str × Str) × List (Str × Int)) := ⟨true, tParts K, fun as P _ => ∃ lo hi, as = [.sh tStm (), .sh tInt lo, .sh tInt hi] ∧ (1 ≤ lo ∧ lo ≤ hi ∧ hi ≤ 19) ∧ ∀ r, (PtsZ r ∧ lo ≤ (r.1.length : Int) ∧ (r.1.length : Int) ≤ hi) → P r⟩
section
variable {P : Program} {w : World} {K : PySem.W.Frag} {mg : Str → Option Value} {base : Heap}
end
end KK
end

section
set_option maxRecDepth 100000
set_option maxHeartbeats 4000000
namespace KK
open PySem PySem.Spec PyProof.Rows L2
def spWebIs (C : Addr) : Sp := fun vs H Q _ => ∃ (o dx dp tl : Addr) (ys : List V) (ms : List Str) (qs : List Int) (us : List (Str × Str)) (r pl tl0 d0 : Addr) (ns : List Str) (ps : List Int) (xs : List V) (ts : List (Str × Str)),
  vs = [.ref o, .ref r] ∧ WebAt H C o dx dp tl ys ms qs us ∧ PartsAt H r pl tl0 d0 ns ps xs ts ∧ WebOk ns ps ts ms qs us ∧ ∀ H', Same H H' → Q (.bl true) H'
section
variable {P : Program} {w : World} {K : PySem.W.Frag} {mg : Str → Option Value} {base : Heap} {C : Addr}
end
end KK
end

section
set_option maxRecDepth 100000
set_option maxHeartbeats 4000000
namespace KK
open PySem PySem.Spec PyProof.Rows L2
def spLawWeb (C : Addr) : Sp := fun vs H Q _ => ∃ r pl tl d ns ps xs ts, vs = [.ref r] ∧ PartsAt H r pl tl d ns ps xs ts ∧
  ∀ o dx dp tl2 ys ms qs us H', Same H H' → H o = none → H dp = none → H tl2 = none → WebAt H' C o dx dp tl2 ys ms qs us → WebOk ns ps ts ms qs us → Q (.ref o) H'
section
variable {P : Program} {w : World} {K : PySem.W.Frag} {mg : Str → Option Value} {base : Heap} {C : Addr}
end
end KK
end

section
set_option maxRecDepth 100000
set_option maxHeartbeats 4000000
namespace Z
open PySem PySem.Spec PyProof.Rows L2
variable {K : PySem.W.Frag}
section
variable {α β γ ρ : Type} {t : Ty α} {u : Ty β} {X : Xw} {G : Ct} {F : Fx ρ} {N B C : Ct → Prop}
/-- a list whose first item is a text -/
def tHd : Ty Str := ⟨fun W H v s => ∃ a vs, v = .ref a ∧ W a = .sh ∧ H a = some (.lst (.str s :: vs)), by
  rintro W W' H H' v s ⟨a, vs, e, w, h⟩ m
  obtain ⟨w2, h2⟩ := m.ls a _ w h
  exact ⟨a, vs, e, w2, h2⟩⟩
end
end Z
end

section
set_option maxRecDepth 100000
set_option maxHeartbeats 4000000
/-! try with several clauses 'except x as n', all of one name n -/
namespace Own
open PySem PySem.Spec PyProof.Rows L2
abbrev Hnd : Type := Value × (Addr → Value → Option Addr → TS)
/-- behind a clause its name is gone -/
def ends (i : Nat) (D : Ends) : Ends where
  nx := fun τ J => D.nx (τ.set i none) J
  rt := D.rt
  bk := fun τ J => D.bk (τ.set i none) J
  ct := fun τ J => D.ct (τ.set i none) J
def wEach (K : PySem.W.Frag) (Wo : WX) (D : Ends) (i : Nat) : List Hnd → WX
  | [] => Wo
  | z :: r => fun q d τ J => ∃ b, PySem.W.exmOne K q z.1 = some b ∧ (b = true → ∀ e, J e = none → z.2 e q d (ends i D) (τ.set i (some (.ref e))) J) ∧ (b = false → wEach K Wo D i r q d τ J)
inductive Each (X : Cx) (n : Str) : List ExceptHandler → List Hnd → Prop
  | nil : Each X n [] []
  | cons {y : Str} {cl : Value} {tz : Addr → Value → Option Addr → TS} {f : Stmt} {fs : List Stmt} {p1 p2 : Pos} {ks : List ExceptHandler} {r : List Hnd} :
      Names X y cl → (∀ (e : Addr) (o : Obj) (q : Value) (d : Option Addr) (pn : List (Addr × Obj)), Zc q d o → (∃ vs, o.data = .fields vs) → PSs (X.suite e ((e, o) :: pn)) (f :: fs) (tz e q d)) →
      Each X n ks r → Each X n (.ExceptHandler (some (.Name y p1)) (some n) (f :: fs) p2 :: ks) ((cl, tz) :: r)
/-- the exception e has come down into the frame -/
structure Down (X : Cx) (pins : List (Addr × Obj)) (τ : L2.St) (J : Hp) (e : Addr) (q : Value) (d : Option Addr) (G : Heap) (s0 u : Shared) : Prop where
  inv : Inv X pins τ J s0
  nb : ∀ b o, s0.heap.get? b = some o → b ∉ frs X.stack → G.get? b = some o
  up : s0.heap.UpToSlots u.heap
  fl : HandSPX.FlyingZ G (X.env :: X.outer) e (Zc q d) u.heap
  na : J e = none
  os : u.os = s0.os
  ag : AllBare u.gens
section
variable {X : Cx} {pins : List (Addr × Obj)} {τ : L2.St} {J : Hp} {e : Addr} {q : Value} {d : Option Addr} {G : Heap} {s0 u : Shared} {n : Str} {i : Nat} {D : Ends} {Wo : WX}
theorem Down.now (g : Down X pins τ J e q d G s0 u) : Inv X pins τ J u := g.inv.landed g.nb g.fl.1 g.up g.os g.ag
theorem Down.off (g : Down X pins τ J e q d G s0 u) : e ∉ frs (X.env :: X.outer) := fun hm => by
  obtain ⟨o1, vs1, g1, _, g3⟩ := g.fl.there
  obtain ⟨_, o2, g4, nf⟩ := g.fl.2.2.1.mem hm
  rw [g1] at g4
  cases g4
  exact nf _ g3
theorem Down.sees (g : Down X pins τ J e q d G s0 u) (hf : X.env.frame = some X.env.locals) : ∃ o, u.heap.get? e = some o ∧ Zc q d o ∧ (∃ vs, o.data = .fields vs) ∧ Inv (X.suite e ((e, o) :: (X.pn ++ pins))) [] τ J u := by
  obtain ⟨o1, vs1, g1, g2, g3⟩ := g.fl.there
  have off := g.off
  refine ⟨o1, g1, g2, ⟨vs1, g3⟩, g.now.suite g1 g3 g.na (fun z => off ?_) fun hm => off ?_⟩
  · exact List.mem_filterMap.mpr ⟨X.env, List.mem_cons_self, by rw [hf, z]⟩
  · obtain ⟨v, m1, m2⟩ := List.mem_filterMap.mp hm
    exact List.mem_filterMap.mpr ⟨v, List.mem_cons_of_mem _ m1, m2⟩
theorem Down.to {h : Heap} (g : Down X pins τ J e q d G s0 u) (f : HandSPX.FlyingZ G (X.env :: X.outer) e (Zc q d) h) (up : u.heap.UpToSlots h) : Down X pins τ J e q d G s0 { u with heap := h } :=
  ⟨g.inv, g.nb, g.up.trans up, f, g.na, g.os, g.ag⟩
end
end Own
end

section
set_option maxRecDepth 100000
set_option maxHeartbeats 4000000
/-! what is raised and caught; one of two types -/
namespace Z
open PySem PySem.Spec PyProof.Rows L2
/-! ### a + b by the class's own __add__, in a try's body -/
def tAddS (C : Addr) (sp : Sp) (E : L2.St → XK) (ta tb : TE) : TE := fun σ H Q => ta σ H fun x H1 => tb σ H1 fun y H2 => Own.rOpO C sp (E σ) x y H2 Q
structure MetX (P : Program) (w : World) (K : PySem.W.Frag) (mg : Str → Option Value) (base : Heap) (k : Nat) (C : Addr) (m : Str) (sp : Sp) : Prop where
  ex : ∃ (f : Addr) (fd : FuncData) (ps : List Str), Cls K C ∧ Meth K C m f ∧ FnOk P w K mg base (L2.CX P w) k f fd ps sp ∧ Binds K fd ps []
section
variable {X : Cx} {W : WX} {k j : Nat} {C : Addr} {sp : Sp} {a b : Expr} {ta tb : TE} {pos : Pos}
end
/-! ### an exception in hand -/
theorem FldsOk.mv {W W' : Wd} {H H' : Hp} (m : Mv W H W' H') : ∀ {vs : List (Str × V)} {ss : List (Str × Sl)}, FldsOk W H vs ss → FldsOk W' H' vs ss
  | _, _, .nil => .nil
  | _, _, .cons r p => .cons (Z.Ty.go _ r m) (p.mv m)
def ErIn (W : Wd) (H : Hp) (e : Er) (d : Option Addr) : Prop := ∀ fs, e.fs = some fs → ∃ dd ws, d = some dd ∧ RdW W H dd (.xd ws) ∧ FldsOk W H ws fs
def tErr (a : Addr) (e : Er) (d : Option Addr) : Z.Ty Unit := ⟨fun W H v _ => v = .ref a ∧ ErIn W H e d, by
  rintro W W' H H' v _ ⟨e1, h⟩ m
  refine ⟨e1, fun fs e2 => ?_⟩
  obtain ⟨dd, ws, h1, h2, h3⟩ := h fs e2
  exact ⟨dd, ws, h1, m.rd _ _ h2, h3.mv m⟩⟩
section
variable {α β ρ : Type} {t : Z.Ty α} {u : Z.Ty β} {X : Xw} {G : Ct} {F : Fx ρ} {N B C : Ct → Prop}
/-! ### the clauses -/
def Catch (F : Fx ρ) (G : Ct) (N B C : Ct → Prop) (K : PySem.W.Frag) (Wo : WX) (i : Nat) (r : List Own.Hnd) (e : Er) : Prop :=
  ∀ W0 H0 W H σ (D : Ends) d, Go W0 H0 W H → Holds G W H σ →
    (∀ G' W' H' σ', N G' → Go W0 H0 W' H' → Holds G' W' H' σ' → D.nx σ' H') →
    (∀ G' W' H' σ', B G' → Go W0 H0 W' H' → Holds G' W' H' σ' → D.bk σ' H') →
    (∀ G' W' H' σ', C G' → Go W0 H0 W' H' → Holds G' W' H' σ' → D.ct σ' H') →
    (∀ v W' H' x, F.rt x → Go W0 H0 W' H' → OKW W' H' → F.tr.R W' H' v x → D.rt v H') →
    (∀ e d W' H', F.X.xp e → Go W0 H0 W' H' → OKW W' H' → ErAt W' H' e d → F.X.E (.ref e.C) d H') → ErAt W H e d → Own.wEach K Wo D i r (.ref e.C) d σ H
variable {K : PySem.W.Frag} {Wo : WX} {i : Nat} {z : Own.Hnd} {r : List Own.Hnd} {e : Er}
/-! ### one of two -/
def tSum (t : Z.Ty α) (u : Z.Ty β) : Z.Ty (α ⊕ β) := ⟨fun W H v x => match x with
  | .inl a => t.R W H v a
  | .inr b => u.R W H v b, by
  rintro W W' H H' v (a | b) h m
  · exact t.go h m
  · exact u.go h m⟩
end
end Z
end

section
set_option maxRecDepth 100000
set_option maxHeartbeats 4000000
namespace Z
open PySem PySem.Spec PyProof.Rows L2
end Z
namespace KK
open PySem PySem.Spec PyProof.Rows L2 Z
section
variable {P : Program} {w : World} {K : PySem.W.Frag} {mg : Str → Option Value} {base : Heap} {C : Addr}
/-- the prices in the order of the names -/
def prP (p : List Str × List (Str × Str) × List (Str × Int)) : List Int := p.1.map (prF (p.2.2.map (·.1)) (p.2.2.map (·.2)))
/-- a web of parts -/
abbrev ctWebL (K : PySem.W.Frag) (C : Addr) : CT WebZ := ⟨true, tWeb K C, fun as P _ => ∃ p, as = [.sh (tParts K) p] ∧ PtsZ p ∧ ∀ r, (WfZ r ∧ WebOk p.1 (prP p) p.2.1 r.ms r.qs r.us) → P r⟩
end
abbrev ctCopy : CT (List (Str × Int)) := ⟨true, tDk kS tInt, fun as P _ => ∃ d, as = [.sh (tDk kS tInt) d] ∧ ((d.map (·.1)).Nodup ∧ d.length ≤ 40) ∧ P d⟩
section
variable {P : Program} {w : World} {K : PySem.W.Frag} {mg : Str → Option Value} {base : Heap}
abbrev ctWebIs (K : PySem.W.Frag) (C : Addr) : CT Bool := ⟨true, tBl, fun as P _ => ∃ z p, as = [.sh (tWeb K C) z, .sh (tParts K) p] ∧ (PtsZ p ∧ WebOk p.1 (prP p) p.2.1 z.ms z.qs z.us) ∧ P true⟩
end
end KK
end

section
set_option maxRecDepth 100000
set_option maxHeartbeats 4000000
namespace KK
open PySem PySem.Spec PyProof.Rows L2
/-- a method with keyword-only defaults -/
def HasMD (K : PySem.W.Frag) (C : Addr) (m qual : Str) (st : Stmt) (kws : List (Str × V)) : Prop := ∃ f fd, FunD K m qual (defArgs st) (defBody st) (defScope st) [] kws f fd ∧ Meth K C m f
def spWithPlace (C : Addr) : Sp := fun vs H Q _ => ∃ o dx dp tl xs ms qs us x p, vs = [.ref o, .str x, .int p] ∧ WebS H C o dx dp tl xs ms qs us ∧ NameOk x ∧ x ∉ ms ∧ ms.length < 40 ∧ 1 ≤ p ∧ p ≤ 10 ^ 30 ∧
  ∀ o2 dx2 dp2 tl2 ys ms2 qs2 us2 H', Same H H' → H o2 = none → H dp2 = none → H tl2 = none → WebAt H' C o2 dx2 dp2 tl2 ys ms2 qs2 us2 → WebOk (ms ++ [x]) (qs ++ [p]) us ms2 qs2 us2 → Q (.ref o2) H'
section
variable {P : Program} {w : World} {K : PySem.W.Frag} {mg : Str → Option Value} {base : Heap} {C : Addr}
end
end KK
end

section
set_option maxRecDepth 100000
set_option maxHeartbeats 4000000
namespace KK
open PySem PySem.Spec PyProof.Rows L2
def within (ns : List Str) (p : Str × Str) : Bool := decide (p.1 ∈ ns) && decide (p.2 ∈ ns)
/-- names in the order in which they come first -/
def firsts (ns : List Str) : List Str := ns.foldl (fun d x => if x ∈ d then d else d ++ [x]) []
def spPart (C : Addr) : Sp := fun vs H Q _ => ∃ o dx dp tl xs ms qs us nl ns ds, vs = [.ref o, .ref nl] ∧ WebS H C o dx dp tl xs ms qs us ∧ H nl = some (.lst (ns.map V.str)) ∧ ds = firsts ns ∧ ns.length ≤ 1000 ∧ NsOk ds ∧ (∀ x ∈ ns, x ∈ ms) ∧
  ∀ o2 dx2 dp2 tl2 ys ms2 qs2 us2 H', Same H H' → H o2 = none → H dp2 = none → H tl2 = none → WebAt H' C o2 dx2 dp2 tl2 ys ms2 qs2 us2 → WebOk ds (ds.map (prF ms qs)) (us.filter (within ds)) ms2 qs2 us2 → Q (.ref o2) H'
section
variable {P : Program} {w : World} {K : PySem.W.Frag} {mg : Str → Option Value} {base : Heap} {C : Addr}
end
end KK
end

section
set_option maxRecDepth 100000
set_option maxHeartbeats 4000000
namespace KK
open PySem PySem.Spec PyProof.Rows L2
def spWithout (C : Addr) : Sp := fun vs H Q _ => ∃ o dx dp tl xs ms qs us x, vs = [.ref o, .str x] ∧ WebS H C o dx dp tl xs ms qs us ∧ x ∈ ms ∧ 1 < ms.length ∧
  ∀ o2 dx2 dp2 tl2 ys ms2 qs2 us2 H', Same H H' → H o2 = none → H dp2 = none → H tl2 = none → WebAt H' C o2 dx2 dp2 tl2 ys ms2 qs2 us2 →
    WebOk (ms.filter fun z => !decide (z = x)) ((ms.filter fun z => !decide (z = x)).map (prF ms qs)) (us.filter (within (ms.filter fun z => !decide (z = x)))) ms2 qs2 us2 → Q (.ref o2) H'
section
variable {P : Program} {w : World} {K : PySem.W.Frag} {mg : Str → Option Value} {base : Heap} {C : Addr}
end
end KK
end

section
set_option maxRecDepth 100000
set_option maxHeartbeats 4000000
namespace KK
open PySem PySem.Spec PyProof.Rows L2 Z
section
variable {P : Program} {w : World} {K : PySem.W.Frag} {mg : Str → Option Value} {base : Heap} {C : Addr}
/-! promises of the methods, where they raise nothing -/
abbrev ctPrice (K : PySem.W.Frag) (C : Addr) : CT WebZ := ⟨true, tWeb K C, fun as P _ => ∃ z x p, as = [.sh (tWeb K C) z, .sh tStr x, .sh tInt p] ∧ (x ∈ z.ms ∧ 1 ≤ p ∧ p ≤ 10 ^ 30) ∧ ∀ r, (WfZ z ∧ ∃ i, z.ms[i]? = some x ∧ WebOk z.ms (z.qs.set i p) z.us r.ms r.qs r.us) → P r⟩
end
end KK
end

section
set_option maxRecDepth 100000
set_option maxHeartbeats 4000000
namespace KK
open PySem PySem.Spec PyProof.Rows L2 Z
abbrev ctLaw (K : PySem.W.Frag) : CT Bool := ⟨true, tBl, fun as P _ => ∃ xs, as = [.sh (tScr K) xs] ∧ xs.length ≤ 1000 ∧ P true⟩
section
variable {P : Program} {w : World} {K : PySem.W.Frag} {mg : Str → Option Value} {base : Heap}
theorem calG {x : Str} {st : Stmt} {N ps : List Str} {k : Nat} {sp : Sp} (F : Has K mg x st) (S : FnScope N ps (defScope st)) (len : ∀ vs H Q E, sp vs H Q E → vs.length = ps.length)
    (hbody : ∀ (f : Addr) (cdv : Value) (A : Around) (outer : List Env) (s : Shared) (H : Hp) (vs : List V) (Q : VK) (E : XK), Room k (A.deeper (envOfC x (defScope st) s.heap.objs.size f cdv)) → sp vs H Q E →
      ∃ t, PSs (cxOf CX0 P w K mg base N x (defScope st) f cdv A outer s H E).nox (defBody st) t ∧ t { nx := fun _ H' => Q .non H', rt := Q } (start N vs) H) : ∃ f fd, Fun K x x st f fd ∧ mg x = some (.ref f) ∧ FnOk P w K mg base CX0 (k + 1) f fd ps sp := by
  obtain ⟨f, fd, F, hm⟩ := F
  exact ⟨f, fd, F, hm, F.ok S len (hbody f)⟩
end
end KK
end

section
set_option maxRecDepth 100000
set_option maxHeartbeats 4000000
/-! What the Z layer has shown, told to the Y layer. -/
namespace Y
open PySem PySem.Spec PyProof.Rows L2
open Classical in
/-- to be read by -/
noncomputable def toR (W : Wd) : Z.Wd := fun b => match W b with
  | .sh => .sh
  | .lk => .lk
  | .fo => .fo
  | .st φ => if φ = IsStm then .st else .ow
  | .ow _ => .ow
open Classical in
/-- to be called in -/
noncomputable def toC (W : Wd) : Z.Wd := fun b => match W b with
  | .sh => .sh
  | .lk => .lk
  | .fo => .fo
  | .st φ => if φ = IsStm then .st else .fo
  | .ow _ => .fo
section
variable {W : Wd} {H : Hp} {b : Addr}
theorem toR_sh : toR W b = .sh ↔ W b = .sh := by
  unfold toR
  cases W b with
  | st φ => simp only; split <;> simp
  | _ => simp
theorem toR_lk : toR W b = .lk ↔ W b = .lk := by
  unfold toR
  cases W b with
  | st φ => simp only; split <;> simp
  | _ => simp
theorem toR_fo : toR W b = .fo ↔ W b = .fo := by
  unfold toR
  cases W b with
  | st φ => simp only; split <;> simp
  | _ => simp
theorem toR_st : toR W b = .st ↔ W b = .st IsStm := by
  unfold toR
  cases W b with
  | st φ =>
    simp only
    split
    · rename_i e; simp [e]
    · rename_i e; simp [e]
  | _ => simp
theorem toC_sh : toC W b = .sh ↔ W b = .sh := by
  unfold toC
  cases W b with
  | st φ => simp only; split <;> simp
  | _ => simp
theorem toC_lk : toC W b = .lk ↔ W b = .lk := by
  unfold toC
  cases W b with
  | st φ => simp only; split <;> simp
  | _ => simp
theorem toC_st : toC W b = .st ↔ W b = .st IsStm := by
  unfold toC
  cases W b with
  | st φ =>
    simp only
    split
    · rename_i e; simp [e]
    · rename_i e; simp [e]
  | _ => simp
theorem toC_ow : toC W b ≠ .ow := by
  unfold toC
  cases W b with
  | st φ => simp only; split <;> simp
  | _ => simp
theorem toC_fo : toC W b = .fo ↔ (W b = .fo ∨ (∃ p, W b = .ow p) ∨ ∃ φ, W b = .st φ ∧ φ ≠ IsStm) := by
  unfold toC
  cases W b with
  | st φ =>
    simp only
    split
    · rename_i e; simp [e]
    · rename_i e; simp [e]
  | _ => simp
theorem rdR {o : HO} : Z.RdW (toR W) H b o ↔ RdW W H b o := by
  unfold Z.RdW RdW
  rw [toR_sh, toR_lk, toR_fo]
end
theorem toR_mv {W W' : Wd} {H H' : Hp} (m : Mv W H W' H') : Z.Mv (toR W) H (toR W') H' := ⟨fun b o h => rdR.mpr (m.rd b o (rdR.mp h)), fun b vs w h => by
  obtain ⟨a, c⟩ := m.ls b vs (toR_sh.mp w) h
  exact ⟨toR_sh.mpr a, c⟩, fun b h => toR_st.mpr (m.st b _ (toR_st.mp h))⟩
theorem toRC_mv {W : Wd} {H : Hp} : Z.Mv (toR W) H (toC W) H := ⟨fun b o h => by
  have h := rdR.mp h
  rcases h with ⟨w, h⟩ | ⟨w | w, od, h⟩
  · exact .inl ⟨toC_sh.mpr w, h⟩
  · exact .inr ⟨.inl (toC_lk.mpr w), od, h⟩
  · exact .inr ⟨.inr (toC_fo.mpr (.inl w)), od, h⟩, fun b vs w h => ⟨toC_sh.mpr (toR_sh.mp w), h⟩, fun b h => toC_st.mpr (toR_st.mp h)⟩
/-- a reading of the Z layer -/
def Lift {α : Type} (t : Z.Ty α) : Ty α := ⟨fun W H v x => t.R (toR W) H v x, fun h m => t.go h (toR_mv m)⟩
/-- one reading on both layers -/
def Same {α : Type} (t : Ty α) (u : Z.Ty α) : Prop := ∀ W H v x, t.R W H v x ↔ u.R (toR W) H v x
section
variable {α β γ : Type} {t : Ty α} {u : Ty β} {z : Ty γ} {t' : Z.Ty α} {u' : Z.Ty β} {z' : Z.Ty γ} {K : PySem.W.Frag}
theorem same_int : Same tInt Z.tInt := fun _ _ _ _ => Iff.rfl
theorem same_stm : Same tStm Z.tStm := fun W H v x => ⟨fun ⟨a, e, h⟩ => ⟨a, e, toR_st.mpr h⟩, fun ⟨a, e, h⟩ => ⟨a, e, toR_st.mp h⟩⟩
theorem same_scr : Same (tScr K) (Z.tScr K) := fun W H v x => by
  constructor
  · rintro ⟨a, e, h | h⟩
    · exact ⟨a, e, .inl (rdR.mpr h)⟩
    · exact ⟨a, e, .inr h⟩
  · rintro ⟨a, e, h | h⟩
    · exact ⟨a, e, .inl (rdR.mp h)⟩
    · exact ⟨a, e, .inr h⟩
def kyZ {κ : Type} (ke : Ky κ) : Z.Ky κ := ⟨ke.k, ke.inj⟩
end
/-! ### promises -/
/-- slots on both layers -/
inductive SlS : List Sl → List Z.Sl → Prop where
  | nil : SlS [] []
  | cons {α : Type} {t : Ty α} {u : Z.Ty α} {x : α} {as : List Sl} {bs : List Z.Sl} : Same t u → SlS as bs → SlS (.sh t x :: as) (.sh u x :: bs)
theorem SlS.args {W : Wd} {H : Hp} {as : List Sl} {bs : List Z.Sl} (h : SlS as bs) : ∀ {vs : List V}, vs.length = as.length → (∀ (k : Nat) v s, vs[k]? = some v → as[k]? = some s → s.at [k] W H v) → Z.ArgsOk (toR W) H vs bs := by
  have key : ∀ {as : List Sl} {bs : List Z.Sl}, SlS as bs → ∀ (n : Nat) {vs : List V}, vs.length = as.length → (∀ (k : Nat) v s, vs[k]? = some v → as[k]? = some s → s.at [n + k] W H v) → Z.ArgsOk (toR W) H vs bs := by
    intro as bs h
    induction h with
    | nil =>
      intro n vs hl _
      cases vs with
      | nil => exact .nil
      | cons _ _ => cases hl
    | @cons α t u x as bs s _ ih =>
      intro n vs hl hk
      cases vs with
      | nil => cases hl
      | cons v vs =>
        refine .cons ((s _ _ _ _).mp (hk 0 v (.sh t x) rfl rfl)) (ih (n + 1) (Nat.succ.inj hl) fun k v' s' h1 h2 => ?_)
        have := hk (k + 1) v' s' h1 h2
        rwa [show n + 1 + k = n + (k + 1) from by omega]
  intro vs hl hk
  exact key h 0 hl fun k v s h1 h2 => by rw [Nat.zero_add]; exact hk k v s h1 h2
open Classical in
/-- what stands behind a call of the Z layer -/
noncomputable def backW (W : Wd) (Wz : Z.Wd) : Wd := fun b => match W b with
  | .ow p => .ow p
  | .st φ => .st φ
  | _ => match Wz b with
    | .sh => .sh
    | .lk => .lk
    | .st => .st IsStm
    | _ => .fo
section
variable {W : Wd} {H H' : Hp} {Wz : Z.Wd}
theorem toC_ok (ok : OKW W H) : Z.OKW (toC W) H := by
  refine ⟨fun b h => ?_, fun b h => ?_, fun b od u w => absurd w toC_ow, fun b h => ok.lk b (toC_lk.mp h), fun b od u w h => ?_, fun b vs h => toC_sh.mpr (ok.tp b vs h)⟩
  · obtain ⟨o, h1, ⟨c, k, rfl, hk⟩, _⟩ := ok.st b _ (toC_st.mp h)
    exact ⟨c, k, h1, hk⟩
  · exact ok.al b fun e => h (toC_sh.mpr e)
  · rcases toC_fo.mp w with w | ⟨p, w⟩ | ⟨φ, w, _⟩
    · exact ok.fo b od u w h
    · exact absurd h (ok.nf b p od u w)
    · obtain ⟨o, h1, _, nf⟩ := ok.st b φ w
      rw [h] at h1
      cases h1
      exact nf.elim
theorem back_keep (ok : OKW W H) (g : Z.Go (toC W) H Wz H') {b : Addr} (h : (∃ p, W b = .ow p) ∨ ∃ φ, W b = .st φ ∧ φ ≠ IsStm) : ∃ o, H b = some o ∧ H' b = some o ∧ Wz b = .fo ∧ NoFrz o := by
  have w : toC W b = .fo := toC_fo.mpr (.inr h)
  obtain ⟨o, e⟩ := ok.al b (by rcases h with ⟨p, h⟩ | ⟨φ, h, _⟩ <;> rw [h] <;> exact fun z => nomatch z)
  obtain ⟨h1, w1⟩ := g.k b o e (.inr (.inr w))
  refine ⟨o, e, h1, w1.trans w, ?_⟩
  rcases h with ⟨p, h⟩ | ⟨φ, h, _⟩
  · cases o with
    | frz od u => exact absurd e (ok.nf b p od u h)
    | _ => trivial
  · obtain ⟨o', h2, _, nf⟩ := ok.st b φ h
    rw [e] at h2
    cases h2
    exact nf
theorem back_else (n1 : ∀ p, W b ≠ .ow p) (n2 : ∀ φ, W b ≠ .st φ) : backW W Wz b = (match Wz b with | .sh => .sh | .lk => .lk | .st => .st IsStm | _ => .fo) := by
  unfold backW
  cases e : W b with
  | ow p => exact absurd e (n1 p)
  | st φ => exact absurd e (n2 φ)
  | _ => rfl
theorem back_ok (ok : OKW W H) (g : Z.Go (toC W) H Wz H') (okz : Z.OKW Wz H') : Go W H (backW W Wz) H' ∧ OKW (backW W Wz) H' ∧ Z.Mv Wz H' (toR (backW W Wz)) H' := by
  have cas : ∀ b, ((∃ p, W b = .ow p) ∨ ∃ φ, W b = .st φ ∧ φ ≠ IsStm) ∨ W b = .st IsStm ∨ ((∀ p, W b ≠ .ow p) ∧ ∀ φ, W b ≠ .st φ) := fun b => by
    cases e : W b with
    | ow p => exact .inl (.inl ⟨p, rfl⟩)
    | st φ =>
      by_cases h : φ = IsStm
      · exact .inr (.inl (by rw [h]))
      · exact .inl (.inr ⟨φ, rfl, h⟩)
    | _ => exact .inr (.inr ⟨fun p z => (nomatch z), fun φ z => (nomatch z)⟩)
  have owE : ∀ {b p}, W b = .ow p → backW W Wz b = .ow p := fun {b p} h => by unfold backW; rw [h]
  have stE : ∀ {b φ}, W b = .st φ → backW W Wz b = .st φ := fun {b φ} h => by unfold backW; rw [h]
  have own : ∀ {b p}, backW W Wz b = .ow p → W b = .ow p := fun {b p} h => by
    rcases cas b with (⟨q, e⟩ | ⟨φ, e, _⟩) | e | ⟨n1, n2⟩
    · rw [owE e] at h; cases h; exact e
    · rw [stE e] at h; cases h
    · rw [stE e] at h; cases h
    · rw [back_else n1 n2] at h
      cases e2 : Wz b <;> rw [e2] at h <;> cases h
  refine ⟨⟨fun b o h w => ?_, fun b φ h => stE h, fun b h => ?_⟩, ⟨fun b φ h => ?_, fun b h => ?_, fun b p od u w h => ?_, fun b h => ?_, fun b od u w h => ?_, fun b vs h => ?_⟩, ⟨fun b o h => ?_, fun b vs w h => ?_, fun b h => ?_⟩⟩
  · have wz : toC W b = .sh ∨ toC W b = .lk ∨ toC W b = .fo := by
      rcases w with w | w | w
      · exact .inl (toC_sh.mpr w)
      · exact .inr (.inl (toC_lk.mpr w))
      · exact .inr (.inr (toC_fo.mpr (.inl w)))
    obtain ⟨h1, w1⟩ := g.k b o h wz
    refine ⟨h1, ?_⟩
    rw [back_else (fun p e => by rcases w with w | w | w <;> (rw [w] at e; cases e)) (fun p e => by rcases w with w | w | w <;> (rw [w] at e; cases e)), w1]
    clear wz w1
    rcases w with w | w | w
    · rw [toC_sh.mpr w, w]
    · rw [toC_lk.mpr w, w]
    · rw [toC_fo.mpr (.inl w), w]
  · rcases cas b with (⟨q, e⟩ | ⟨φ, e, _⟩) | e | ⟨n1, n2⟩
    · rw [owE e] at h; cases h
    · rw [stE e] at h; cases h
    · rw [stE e] at h; cases h
    · rw [back_else n1 n2] at h
      cases e2 : Wz b with
      | lk => exact toC_lk.mp (g.l b e2)
      | _ => rw [e2] at h; cases h
  · rcases cas b with c | e | ⟨n1, n2⟩
    · obtain ⟨o, h0, h1, _, nf⟩ := back_keep ok g c
      rcases c with ⟨q, e⟩ | ⟨ψ, e, _⟩
      · rw [owE e] at h; cases h
      · rw [stE e] at h; cases h
        obtain ⟨o', h2, hp, _⟩ := ok.st b φ e
        rw [h0] at h2; cases h2
        exact ⟨o, h1, hp, nf⟩
    · rw [stE e] at h
      cases h
      obtain ⟨c, k, h1, hk⟩ := okz.st b (g.s b (toC_st.mpr e))
      exact ⟨_, h1, ⟨c, k, rfl, hk⟩, trivial⟩
    · rw [back_else n1 n2] at h
      cases e2 : Wz b with
      | st =>
        rw [e2] at h
        cases h
        obtain ⟨c, k, h1, hk⟩ := okz.st b e2
        exact ⟨_, h1, ⟨c, k, rfl, hk⟩, trivial⟩
      | _ => rw [e2] at h; cases h
  · rcases cas b with c | e | ⟨n1, n2⟩
    · obtain ⟨o, _, h1, _⟩ := back_keep ok g c
      exact ⟨o, h1⟩
    · obtain ⟨c, k, h1, _⟩ := okz.st b (g.s b (toC_st.mpr e))
      exact ⟨_, h1⟩
    · rw [back_else n1 n2] at h
      refine okz.al b fun e2 => h ?_
      rw [e2]
  · have e := own w
    obtain ⟨o, _, h1, _, nf⟩ := back_keep ok g (.inl ⟨p, e⟩)
    rw [h] at h1
    cases h1
    exact nf
  · rcases cas b with (⟨q, e⟩ | ⟨φ, e, _⟩) | e | ⟨n1, n2⟩
    · rw [owE e] at h; cases h
    · rw [stE e] at h; cases h
    · rw [stE e] at h; cases h
    · rw [back_else n1 n2] at h
      cases e2 : Wz b with
      | lk => exact okz.lk b e2
      | _ => rw [e2] at h; cases h
  · rcases cas b with (⟨q, e⟩ | ⟨φ, e, _⟩) | e | ⟨n1, n2⟩
    · rw [owE e] at w; cases w
    · rw [stE e] at w; cases w
    · rw [stE e] at w; cases w
    · rw [back_else n1 n2] at w
      cases e2 : Wz b with
      | fo => exact okz.fo b od u e2 h
      | ow => exact absurd h (okz.nf b od u e2)
      | _ => rw [e2] at w; cases w
  · have ws := okz.tp b vs h
    rcases cas b with c | e | ⟨n1, n2⟩
    · obtain ⟨_, _, _, w, _⟩ := back_keep ok g c
      rw [ws] at w; cases w
    · have := g.s b (toC_st.mpr e)
      rw [ws] at this; cases this
    · rw [back_else n1 n2, ws]
  · refine rdR.mpr ?_
    rcases cas b with c | e | ⟨n1, n2⟩
    · obtain ⟨o2, _, h1, w, nf⟩ := back_keep ok g c
      rcases h with ⟨w2, _⟩ | ⟨w2 | w2, od, h2⟩
      · rw [w] at w2; cases w2
      · rw [w] at w2; cases w2
      · rw [h1] at h2; cases h2; exact nf.elim
    · have := g.s b (toC_st.mpr e)
      rcases h with ⟨w2, _⟩ | ⟨w2 | w2, od, h2⟩ <;> (rw [this] at w2; cases w2)
    · have eb := back_else (Wz := Wz) n1 n2
      rcases h with ⟨w2, h2⟩ | ⟨w2 | w2, od, h2⟩
      · rw [w2] at eb; exact .inl ⟨eb, h2⟩
      · rw [w2] at eb; exact .inr ⟨.inl eb, od, h2⟩
      · rw [w2] at eb; exact .inr ⟨.inr eb, od, h2⟩
  · refine ⟨toR_sh.mpr ?_, h⟩
    rcases cas b with c | e | ⟨n1, n2⟩
    · obtain ⟨_, _, _, w2, _⟩ := back_keep ok g c
      rw [w] at w2; cases w2
    · have := g.s b (toC_st.mpr e)
      rw [w] at this; cases this
    · rw [back_else n1 n2, w]
  · refine toR_st.mpr ?_
    rcases cas b with c | e | ⟨n1, n2⟩
    · obtain ⟨_, _, _, w2, _⟩ := back_keep ok g c
      rw [h] at w2; cases w2
    · exact stE e
    · rw [back_else n1 n2, h]
end
/-- a promise without errors -/
theorem of_z {ρ : Type} {c : CT ρ} {cz : Z.CT ρ} {t : Ty ρ} (hr : c.r = .sh t) (st : Same t cz.tr) (hn : cz.n = true → c.n = true)
    (h : ∀ as P XP, c.ct as P XP → ∃ bs Pz, SlS as bs ∧ cz.ct bs Pz (fun _ => False) ∧ ∀ x, Pz x → ∀ os, P os x) {vs : List V} {H : Hp} {Q : VK} {E : XK} (s : spZ c vs H Q E) : Z.spZ cz vs H Q E := by
  obtain ⟨W, as, P, XP, ok, nl, ha, hc, q, _⟩ := s
  obtain ⟨bs, Pz, sl, hz, hp⟩ := h as P XP hc
  refine ⟨toC W, bs, Pz, fun _ => False, toC_ok ok, fun b => toC_ow, fun n b w => nl (hn n) b (toC_lk.mp w), (sl.args ha.1 ha.2).go toRC_mv, hz, fun v Wz H' x p g okz r => ?_, fun e d Wz H' z => z.elim⟩
  obtain ⟨g2, ok2, mv⟩ := back_ok ok g okz
  refine q v _ H' (as.map fun _ => .un) x (hp x p _) g2 ok2 ⟨by rw [List.length_map]; exact ha.1, fun k v s h1 h2 => ?_⟩ ?_
  · rw [List.getElem?_map] at h2
    obtain ⟨_, _, rfl⟩ := Option.map_eq_some_iff.mp h2
    trivial
  · rw [hr]
    exact (st _ _ _ _).mpr (cz.tr.go r mv)
theorem cal_z {ρ : Type} {P : Program} {w : World} {K : PySem.W.Frag} {mg : Str → Option Value} {base : Heap} {k : Nat} {f : Str} {c : CT ρ} {cz : Z.CT ρ} {t : Ty ρ} (C : C8.Cal P w K mg base k f (Z.spZ cz) []) (hr : c.r = .sh t) (st : Same t cz.tr) (hn : cz.n = true → c.n = true)
    (h : ∀ as P XP, c.ct as P XP → ∃ bs Pz, SlS as bs ∧ cz.ct bs Pz (fun _ => False) ∧ ∀ x, Pz x → ∀ os, P os x) : C8.Cal P w K mg base k f (spZ c) [] := by
  obtain ⟨f, fd, ps, ds, F, hm, kp, b, d⟩ := C.ex
  exact ⟨f, fd, ps, ds, F.imp fun vs H Q E s => of_z hr st hn h s, hm, kp, b, d⟩
end Y
end

section
set_option maxRecDepth 100000
set_option maxHeartbeats 4000000
/-! A thing of one's own whose shape is told by what it holds. -/
namespace Y
open PySem PySem.Spec PyProof.Rows L2
section
variable {β : Type}
def tBox (f : β → Ty Unit) : Ty β := ⟨fun W H v x => (f x).R W H v (), fun h m => (f _).go h m⟩
def oBox (f : β → OT Unit) : OT β := ⟨fun p W H v x => (f x).R p W H v (), tBox fun x => (f x).sv, fun h k m => (f _).mv h k m, fun h k m => (f _).fz h k m⟩
theorem fo_box {γ : Type} {K : PySem.W.Frag} {nm : Str} {f : β → Ty Unit} {u : Ty γ} {get : β → γ} (h : ∀ x, FldOf K nm (f x) u fun _ => get x) : FldOf K nm (tBox f) u get := fun W H v x r => h x W H v () r
theorem inst_box {C : Addr} {m : Str} {f : β → Ty Unit} (h : ∀ x, Inst C m (f x)) : Inst C m (tBox f) := fun W H v x ok r => h x W H v () ok r
end
/-- slots that say less -/
inductive SlsTo : List Sl → List Sl → Prop where
  | nil : SlsTo [] []
  | cons {s s' : Sl} {as bs : List Sl} : (∀ p W H v, s.at p W H v → s'.at p W H v) → SlsTo as bs → SlsTo (s :: as) (s' :: bs)
theorem SlsTo.refl : ∀ as, SlsTo as as
  | [] => .nil
  | _ :: l => .cons (fun _ _ _ _ h => h) (.refl l)
theorem SlsTo.at {as bs : List Sl} (h : SlsTo as bs) : as.length = bs.length ∧ ∀ (k : Nat) s', bs[k]? = some s' → ∃ s, as[k]? = some s ∧ ∀ p W H v, s.at p W H v → s'.at p W H v := by
  induction h with
  | nil => exact ⟨rfl, fun k s' h => by simp at h⟩
  | cons a _ ih =>
    refine ⟨by simp [ih.1], fun k s' h => ?_⟩
    cases k with
    | zero => cases h; exact ⟨_, rfl, a⟩
    | succ k => exact ih.2 k s' h
theorem SlsTo.ok {W : Wd} {H : Hp} {vs : List V} {as bs : List Sl} (h : SlsTo as bs) (o : SlsOk W H vs as) : SlsOk W H vs bs := by
  refine ⟨o.1.trans h.at.1, fun k v s h1 h2 => ?_⟩
  obtain ⟨s0, h3, g⟩ := h.at.2 k s h2
  exact g _ _ _ _ (o.2 k v s0 h1 h3)
section
variable {ρ : Type} {c c' : CT ρ}
/-- c' asks for c -/
def CtTo (c' c : CT ρ) : Prop := (c.n = true → c'.n = true) ∧ c'.r = c.r ∧ ∀ as P XP, c'.ct as P XP → ∃ as' P' XP', SlsTo as as' ∧ c.ct as' P' XP' ∧ (∀ os x, P' os x → ∃ os', SlsTo os os' ∧ P os' x) ∧ ∀ os e, XP' os e → ∃ os', SlsTo os os' ∧ XP os' e
theorem sp_to (t : CtTo c' c) {vs : List V} {H : Hp} {Q : VK} {E : XK} (h : spZ c' vs H Q E) : spZ c vs H Q E := by
  obtain ⟨W, as, P, XP, ok, nl, ha, hc, q, e⟩ := h
  obtain ⟨t1, t2, t3⟩ := t
  obtain ⟨as', P', XP', s, hc', p1, p2⟩ := t3 as P XP hc
  refine ⟨W, as', P', XP', ok, fun n => nl (t1 n), s.ok ha, hc', fun v W' H' os x p g ok' so r => ?_, fun er d W' H' os p g ok' so ea => ?_⟩
  · obtain ⟨os', s', p'⟩ := p1 os x p
    exact q v W' H' os' x p' g ok' (s'.ok so) (by rw [t2]; exact r)
  · obtain ⟨os', s', p'⟩ := p2 os er p
    exact e er d W' H' os' p' g ok' (s'.ok so) ea
variable {P : Program} {w : World} {K : PySem.W.Frag} {mg : Str → Option Value} {base : Heap} {k : Nat} {D : Addr} {f : Str}
theorem mak_to {dvs : List V} (C : C8.Mak P w K mg base k f D (spZ c) dvs) (t : CtTo c' c) : C8.Mak P w K mg base k f D (spZ c') dvs := by
  obtain ⟨f, fd, ps, ds, M, F, hm, b, d⟩ := C.ex
  exact ⟨f, fd, ps, ds, M, F.imp fun vs H Q E s => sp_to t s, hm, b, d⟩
end
end Y
end

section
set_option maxRecDepth 100000
set_option maxHeartbeats 4000000
/-! dict(zip(xs, ys)), its keys tuples; d.clear() of such a dict -/
namespace PySem
end PySem
namespace L2
open PySem PySem.Spec PyProof.Rows
/-- dict(zip(a, b)): the keys are a's items, tuples of ints and texts that differ -/
def tDictZip (K : PySem.W.Frag) (ta : TA) : TE := fun σ H Q => ta σ H fun vs H1 => ∃ (a b : Addr) (ks : List (Addr × List Key)) (ys : List V), vs = [.ref a, .ref b] ∧ SqL K H1 a (ks.map fun e => V.ref e.1) ∧ SqL K H1 b ys ∧
  (∀ e ∈ ks, H1 e.1 = some (.tup (e.2.map kV))) ∧ ys.length = ks.length ∧ (ks.map (·.2)).Nodup ∧ ∀ p, H1 p = none → Q (.ref p) (upd H1 p (.dT ((ks.map (·.2)).zip ys)))
section
variable {X : Cx} {e e2 : Expr} {ta : TA} {pd pos pz posz : Pos}
end
/-! ### d.clear(), of a dict whose keys are tuples -/
def rTClear : V → List V → Hp → VK → Prop := fun x vs H Q => ∃ (a : Addr) (kvs : List (List Key × V)), x = .ref a ∧ vs = [] ∧ H a = some (.dT kvs) ∧ Q .non (upd H a (.dT []))
section
variable {X : Cx} {o : Expr} {to : TE} {apos cpos : Pos}
end
end L2
end

section
set_option maxRecDepth 100000
set_option maxHeartbeats 4000000
/-! dicts whose keys are pairs of texts; isinstance(x, dict), isinstance of ints -/
namespace Y
open PySem PySem.Spec PyProof.Rows L2
abbrev kP (p : Str × Str) : List Key := [Sum.inr p.1, Sum.inr p.2]
def tDP {α : Type} (t : Ty α) : Ty (List ((Str × Str) × α)) := ⟨fun W H v kvs => ∃ a ws, v = .ref a ∧ RdW W H a (.dT ws) ∧ Paired (fun (p : List Key × V) (q : (Str × Str) × α) => p.1 = kP q.1 ∧ t.R W H p.2 q.2) ws kvs, by
  rintro W W' H H' v xs ⟨a, vs, e, h, p⟩ m
  exact ⟨a, vs, e, m.rd _ _ h, L2.Paired.mapP p fun u x r => ⟨r.1, t.go r.2 m⟩⟩⟩
def oDP {α : Type} (t : Ty α) : OT (List ((Str × Str) × α)) where
  R p W H v xs := ∃ a ws, v = .ref a ∧ W a = .ow p ∧ H a = some (.dT ws) ∧ Paired (fun (p : List Key × V) (q : (Str × Str) × α) => p.1 = kP q.1 ∧ t.R W H p.2 q.2) ws xs
  sv := tDP t
  mv := by
    rintro p p' W W' H H' v xs ⟨a, vs, e, w, h, r⟩ k m
    obtain ⟨w1, h1⟩ := k a _ [] (by rw [List.append_nil]; exact w) h
    exact ⟨a, vs, e, by rw [List.append_nil] at w1; exact w1, h1, L2.Paired.mapP r fun u x r => ⟨r.1, t.go r.2 m⟩⟩
  fz := by
    rintro p W W' H H' v xs ⟨a, vs, e, w, h, r⟩ k m
    obtain ⟨w1, h1⟩ := k a _ [] (by rw [List.append_nil]; exact w) h
    exact ⟨a, vs, e, .inl ⟨w1, h1⟩, L2.Paired.mapP r fun u x r => ⟨r.1, t.go r.2 m⟩⟩
section
variable {α ρ : Type} {K : PySem.W.Frag} {X : Xw} {k : Bool} {G : Ct} {t : Ty α}
abbrev tPr (K : PySem.W.Frag) : Ty (Str × Str) := tT2 K tStr tStr
theorem ty_dK {κ : Type} {ke : Ky κ} {W : Wd} {H : Hp} {v : V} {xs : List (κ × α)} (h : (tDk ke t).R W H v xs) : TyX K H v (.type "dict") := by
  obtain ⟨a, ws, rfl, ⟨_, h⟩ | ⟨_, od, h⟩, p⟩ := h
  · exact .base (.dK h)
  · exact .fDict h
/-- isinstance(x, T) -/
theorem ev_isi {T : String} {b : Bool} {te : TE} {A : String} {P : Ct → Bool → Prop} (ty : ∀ W H v x, OKW W H → (G.n = true → ∀ b, W b ≠ .lk) → t.R W H v x → TyX K H v (.type A)) (kb : kitB A T = some b) (h : Ev X k te G t fun G1 _ => G1.n = G.n ∧ P G1 b) :
    Ev X k (tCB (rIsi K) (tCons te (tCons (tC (.ty T)) tNil))) G tBl P := fun W H σ Q hs ex q =>
  h W H σ _ hs ex fun v W1 H1 G1 x ⟨hn, p⟩ m r => ⟨v, .ty T, .type A, .type T, b, rfl, .ty T, ty W1 H1 v x m.hs.ok (fun e => m.hs.nl (hn.trans e)) r, kit_ty kb, q _ W1 H1 G1 b p m rfl⟩
end
section
variable {α ρ : Type} {F : Fx ρ} {G : Ct} {N B C : Ct → Prop} {t : Ty α} {K : PySem.W.Frag}
end
end Y
end

section
set_option maxRecDepth 100000
set_option maxHeartbeats 4000000
namespace KK
open PySem PySem.Spec PyProof.Rows L2
/-! ### webs, told to the Y layer -/
section
variable {P : Program} {w : World} {K : PySem.W.Frag} {mg : Str → Option Value} {base : Heap} {C : Addr}
abbrev ctPlacesZ (K : PySem.W.Frag) (C : Addr) : Z.CT (List Str) := ⟨true, Z.tLs K Z.tStr, fun as P _ => ∃ z, as = [.sh (tWeb K C) z] ∧ P z.ms⟩
abbrev ctTiesZ (K : PySem.W.Frag) (C : Addr) : Z.CT (List (Str × Str)) := ⟨true, Z.tLs K (Z.tT2 K Z.tStr Z.tStr), fun as P _ => ∃ z, as = [.sh (tWeb K C) z] ∧ P z.us⟩
abbrev ctPriceZ (K : PySem.W.Frag) (C : Addr) : Z.CT Int := ⟨true, Z.tInt, fun as P _ => ∃ z x, as = [.sh (tWeb K C) z, .sh Z.tStr x] ∧ x ∈ z.ms ∧ P (prF z.ms z.qs x)⟩
open Y
abbrev yWeb (K : PySem.W.Frag) (C : Addr) : Y.Ty WebZ := Lift (tWeb K C)
abbrev yParts (K : PySem.W.Frag) : Y.Ty (List Str × List (Str × Str) × List (Str × Int)) := tL3 K (tTu K tStr) (tLs K (tT2 K tStr tStr)) (tDk kS tInt)
abbrev ctPlaces (K : PySem.W.Frag) (C : Addr) : Y.CT (List Str) := ⟨true, .sh (tLs K tStr), fun as P _ => ∃ z, as = [.sh (yWeb K C) z] ∧ ∀ os, P os z.ms⟩
abbrev ctTies (K : PySem.W.Frag) (C : Addr) : Y.CT (List (Str × Str)) := ⟨true, .sh (tLs K (tT2 K tStr tStr)), fun as P _ => ∃ z, as = [.sh (yWeb K C) z] ∧ ∀ os, P os z.us⟩
abbrev ctPrc (K : PySem.W.Frag) (C : Addr) : Y.CT Int := ⟨true, .sh tInt, fun as P _ => ∃ z x, as = [.sh (yWeb K C) z, .sh tStr x] ∧ x ∈ z.ms ∧ ∀ os, P os (prF z.ms z.qs x)⟩
/-! ### draws -/
abbrev yDraw : Y.CT Int := ⟨false, .sh tInt, fun as P _ => ∃ n, as = [.sh tStm (), .sh tInt n] ∧ (0 < n ∧ n < 2 ^ 200) ∧ ∀ r, (0 ≤ r ∧ r < n) → ∀ os, P os r⟩
abbrev yStream (K : PySem.W.Frag) : Y.CT Unit := ⟨false, .sh tStm, fun as P _ => ∃ xs j, as = [.sh (tScr K) xs, .sh tInt j] ∧ (xs.length ≤ 1000 ∧ 0 ≤ j ∧ j ≤ 100) ∧ ∀ os, P os ()⟩
abbrev yName (K : PySem.W.Frag) : Y.CT Str := ⟨false, .sh tStr, fun as P _ => ∃ ys, as = [.sh tStm (), .sh (tLs K tStr) ys] ∧ ys.length ≤ 60 ∧ ∀ x, (NameOk x ∧ x ∉ ys) → ∀ os, P os x⟩
abbrev yAmount : Y.CT Int := ⟨false, .sh tInt, fun as P _ => ∃ n, as = [.sh tStm (), .sh tInt n] ∧ ∀ r, (1 ≤ r ∧ r ≤ 10 ^ 30) → ∀ os, P os r⟩
abbrev yWebL (K : PySem.W.Frag) (C : Addr) : Y.CT WebZ := ⟨true, .sh (yWeb K C), fun as P _ => ∃ p, as = [.sh (yParts K) p] ∧ PtsZ p ∧ ∀ r, (WfZ r ∧ WebOk p.1 (prP p) p.2.1 r.ms r.qs r.us) → ∀ os, P os r⟩
abbrev yCopy : Y.CT (List (Str × Int)) := ⟨true, .sh (tDk kS tInt), fun as P _ => ∃ d, as = [.sh (tDk kS tInt) d] ∧ ((d.map (·.1)).Nodup ∧ d.length ≤ 40) ∧ ∀ os, P os d⟩
abbrev yWithPrice (K : PySem.W.Frag) (C : Addr) : Y.CT WebZ := ⟨true, .sh (yWeb K C), fun as P _ => ∃ z x p, as = [.sh (yWeb K C) z, .sh tStr x, .sh tInt p] ∧ (x ∈ z.ms ∧ 1 ≤ p ∧ p ≤ 10 ^ 30) ∧ ∀ r, (WfZ z ∧ ∃ i, z.ms[i]? = some x ∧ WebOk z.ms (z.qs.set i p) z.us r.ms r.qs r.us) → ∀ os, P os r⟩
theorem y_draw (c : C8.Cal P w K mg base 1 "_law_draw" (Z.spZ ctDraw) []) : C8.Cal P w K mg base 1 "_law_draw" (Y.spZ yDraw) [] :=
  cal_z c rfl same_int (fun h => h) fun as P XP ⟨n, e, h, hp⟩ => ⟨_, fun r => 0 ≤ r ∧ r < n, by rw [e]; exact .cons same_stm (.cons same_int .nil), ⟨n, rfl, h, fun r hr => hr⟩, fun x hx os => hp x hx os⟩
theorem y_stream (c : C8.Cal P w K mg base 1 "_law_stream" (Z.spZ (ctStream K)) []) : C8.Cal P w K mg base 1 "_law_stream" (Y.spZ (yStream K)) [] :=
  cal_z c rfl same_stm (fun h => h) fun as P XP ⟨xs, j, e, h, hp⟩ => ⟨_, fun r => True, by rw [e]; exact .cons same_scr (.cons same_int .nil), ⟨xs, j, rfl, h, trivial⟩, fun x hx os => hp os⟩
end
end KK
end

section
set_option maxRecDepth 100000
set_option maxHeartbeats 4000000
namespace KK
open PySem PySem.Spec PyProof.Rows L2 Y
/-! ### sides as one thing -/
structure SD where
  ns : List Str
  hs : List Int
  rs : List Int
  ls : List (List Int)
  arcs : List (Int × Int)
  tot : Int
abbrev fSd (K : PySem.W.Frag) (CS C : Addr) (d : SD) : OT Unit := oIns CS (fl6 K C d.ns d.hs d.rs d.ls d.arcs d.tot)
abbrev oSd (K : PySem.W.Frag) (CS C : Addr) : OT SD := oBox (fSd K CS C)
abbrev tSd (K : PySem.W.Frag) (CS C : Addr) : Y.Ty SD := tBox fun d => (fSd K CS C d).sv
abbrev ctSidesB (K : PySem.W.Frag) (CS C : Addr) : Y.CT Unit := ⟨true, .sh tNon, fun as P _ => ∃ (rows : List Row) (left right : List (Str × Int)), as = [.ow (oIns CS []) (), .sh (tLs K (tRow K)) rows, .sh (tDk kS tInt) left, .sh (tDk kS tInt) right] ∧
  ((left.map (·.1)).Nodup ∧ left.length ≤ 40 ∧ rows.length ≤ 400 ∧ (∀ p ∈ rows, p.1.1 ∈ left.map (·.1) ∧ p.2.1 ∈ left.map (·.1)) ∧ (∀ x ∈ left.map (·.1), ∃ v, lookK right x = some v ∧ 0 ≤ v) ∧ (∀ x ∈ left.map (·.1), 0 ≤ gD left x)) ∧
  ∀ hs rs0 rs ls tot lv, SidesR (left.map (·.1)) left right rows hs rs0 rs ls tot lv → ∀ r, P (.ow (oSd K CS C) ⟨left.map (·.1), hs, rs, ls, arcL left.length rows.length, tot⟩ :: r) ()⟩
abbrev yAnsB (K : PySem.W.Frag) (CS C : Addr) : Y.CT (List (Str × Int)) := ⟨false, .ow (oD kS tInt), fun as P _ => ∃ d, as = [.sh (tSd K CS C) d] ∧
  (d.ns.Nodup ∧ d.ns.length ≤ 40 ∧ Net (2 * d.ns.length + 2) d.hs d.rs d.ls) ∧ ∀ lv, Lev (2 * d.ns.length + 2) d.hs d.rs d.ls [2 * (d.ns.length : Int)] lv → ∀ os, P os (readOf d.ns (lv.map fun x => decide (0 ≤ x)))⟩
abbrev yRowB (K : PySem.W.Frag) (CS C : Addr) : Y.CT (List Int) := ⟨false, .ow (oL K tInt), fun as P _ => ∃ d, as = [.sh (tSd K CS C) d] ∧
  (d.arcs.length ≤ 1000 ∧ ∀ p ∈ d.arcs, (0 ≤ p.1 ∧ p.1 + 1 < d.rs.length) ∧ (0 ≤ p.2 ∧ p.2 + 1 < d.rs.length)) ∧ ∀ os, P os (d.arcs.map fun p => g0 d.rs (p.1 + 1) + g0 d.rs (p.2 + 1))⟩
/-! ### what a web's sides are -/
def prW (z : WebZ) (x : Str) : Int := prF z.ms z.qs x
def prD (z : WebZ) : List (Str × Int) := z.ms.map fun x => (x, prW z x)
theorem look_fun {f : Str → Int} {x : Str} : ∀ {l : List Str}, x ∈ l → lookK (l.map fun x => (x, f x)) x = some (f x)
  | [], h => by simp at h
  | a :: l, h => by
    rw [List.map_cons, look_cons]
    by_cases e : a = x
    · rw [if_pos e, e]
    · rw [if_neg e]
      exact look_fun ((List.mem_cons.mp h).resolve_left fun z => e z.symm)
def Opt (z : WebZ) (v : Int) : Prop := (∃ xv, AnsR z.ms (prW z) z.us v xv) ∧ ∃ ys, TieFl z.ms (prW z) z.us v ys
structure SofR (z : WebZ) (d : SD) : Prop where
  ns : d.ns = z.ms
  ar : d.arcs = arcL z.ms.length z.us.length
  sd : ∃ rs0 lv, SidesR z.ms (prD z) (prD z) (z.us.map tieRow) d.hs rs0 d.rs d.ls d.tot lv
/-! ### weak duality -/
end KK
end

section
set_option maxRecDepth 100000
set_option maxHeartbeats 4000000
/-! name = {..: .. for ..} on one line -/
namespace L2
open PySem PySem.Spec PyProof.Rows
section
variable {X : Cx}
end
end L2
end

section
set_option maxRecDepth 100000
set_option maxHeartbeats 4000000
namespace KK
open PySem PySem.Spec PyProof.Rows L2 Y
abbrev yRows (K : PySem.W.Frag) (CW : Addr) : Y.CT (List Row) := ⟨true, .ow (oL K (tRow K)), fun as P _ => ∃ z, as = [.sh (yWeb K CW) z] ∧ WfZ z ∧ ∀ os, P os (z.us.map tieRow)⟩
abbrev ySof (K : PySem.W.Frag) (CW CS C : Addr) : Y.CT SD := ⟨true, .sh (tSd K CS C), fun as P _ => ∃ z, as = [.sh (yWeb K CW) z] ∧ WfZ z ∧ ∀ d, SofR z d → ∀ os, P os d⟩
abbrev yWorth (K : PySem.W.Frag) (CW : Addr) : Y.CT Int := ⟨true, .sh tInt, fun as P _ => ∃ z, as = [.sh (yWeb K CW) z] ∧ WfZ z ∧ ∀ v, Opt z v → ∀ os, P os v⟩
abbrev yAnsW (K : PySem.W.Frag) (CW : Addr) : Y.CT (List (Str × Int)) := ⟨true, .ow (oD kS tInt), fun as P _ => ∃ z, as = [.sh (yWeb K CW) z] ∧ WfZ z ∧ ∀ v xv, Opt z v → AnsR z.ms (prW z) z.us v xv → ∀ os, P os (z.ms.map fun x => (x, xv x))⟩
abbrev yTieP (K : PySem.W.Frag) (CW : Addr) : Y.CT (List ((Str × Str) × Int)) := ⟨true, .ow (oDP tInt), fun as P _ => ∃ z, as = [.sh (yWeb K CW) z] ∧ WfZ z ∧ ∀ v ys, Opt z v → TieFl z.ms (prW z) z.us v ys → ∀ os, P os (z.us.zip ys)⟩
section
variable {P : Program} {w : World} {K : PySem.W.Frag} {mg : Str → Option Value} {base : Heap} {C CS CW : Addr}
end
end KK
end

section
set_option maxRecDepth 100000
set_option maxHeartbeats 4000000
namespace KK
open PySem PySem.Spec PyProof.Rows L2 Y
section
variable {K : PySem.W.Frag}
theorem ev_draw {X : Xw} {k : Bool} {G : Ct} {E : XK} {tn : TE} {i : Nat} {P : Ct → Int → Prop} (e : G.s[i]? = some (.sh tStm ())) (h : Ev X k tn G tInt fun G1 n => (0 < n ∧ n < 2 ^ 200) ∧ ∀ r, 0 ≤ r → r < n → P G1 r) : Ev X k (tCall (Y.spZ yDraw) [] E (tCons (tVar i) (tCons tn tNil))) G tInt P :=
  ev_call0 (ea_cons (ev_var e (ea_cons (h.mono fun G1 n q => ea_nil ⟨fun h => (nomatch h), allc trivial (all1 trivial), n, rfl, q.1, fun r hr _ => q.2 r hr.1 hr.2⟩))))
theorem at_in {α : Type} {xs : List α} {i : Int} (h0 : 0 ≤ i) (h1 : i < xs.length) : ∃ x, atI xs i = some x ∧ x ∈ xs := by
  refine ⟨xs[i.toNat]'(by omega), ?_, List.getElem_mem _⟩
  unfold atI
  rw [ixN_in h0 h1]
  exact List.getElem?_eq_getElem _
end
abbrev yWide (K : PySem.W.Frag) : Y.CT (List Str × List (Str × Str) × List (Str × Int)) := ⟨true, .sh (yParts K), fun as P _ => ∃ lo hi tr, as = [.sh tStm (), .sh tInt lo, .sh tInt hi, .sh tInt tr] ∧ (1 ≤ lo ∧ lo ≤ hi ∧ hi ≤ 40 ∧ 0 ≤ tr ∧ tr ≤ 400) ∧ ∀ r, PtsZ r → ∀ os, P os r⟩
abbrev yLint : Y.CT Bool := ⟨false, .sh tBl, fun as P _ => ∃ i, as = [.sh tInt i] ∧ ∀ os, P os true⟩
abbrev yUp (K : PySem.W.Frag) : Y.CT (Str × Str) := ⟨false, .sh (tPr K), fun as P _ => ∃ p, as = [.sh (tPr K) p] ∧ ∀ os, P os (upP p)⟩
abbrev yCopyO : Y.CT (List (Str × Int)) := ⟨true, .ow (oD kS tInt), fun as P _ => ∃ d, as = [.sh (tDk kS tInt) d] ∧ ((d.map (·.1)).Nodup ∧ d.length ≤ 40) ∧ ∀ os, P os d⟩
section
variable {P : Program} {w : World} {K : PySem.W.Frag} {mg : Str → Option Value} {base : Heap}
end
end KK
end

section
set_option maxRecDepth 100000
set_option maxHeartbeats 4000000
namespace KK
open PySem PySem.Spec PyProof.Rows L2 Y
section
variable {P : Program} {w : World} {K : PySem.W.Frag} {mg : Str → Option Value} {base : Heap}
end
end KK
end

section
set_option maxRecDepth 100000
set_option maxHeartbeats 4000000
namespace KK
open PySem PySem.Spec PyProof.Rows L2 Y
abbrev ySpent (K : PySem.W.Frag) : Y.CT Int := ⟨false, .sh tInt, fun as P _ => ∃ p d, as = [.sh (yParts K) p, .sh (tDk kS tInt) d] ∧ (∀ x ∈ p.1, lookK p.2.2 x = some (gD p.2.2 x) ∧ lookK d x = some (gD d x) ∧ -(2 ^ 64) < gD d x ∧ gD d x < 2 ^ 64) ∧ ∀ os, P os ((p.1.map fun x => gD p.2.2 x * gD d x).sum)⟩
abbrev yAnsIs (K : PySem.W.Frag) : Y.CT Bool := ⟨true, .sh tBl, fun as P _ => ∃ p d, as = [.sh (yParts K) p, .sh (tDk kS tInt) d] ∧ (d.length = p.1.length ∧ (∀ x ∈ p.1, lookK d x = some (gD d x) ∧ 0 ≤ gD d x ∧ gD d x ≤ 2) ∧ ∀ e ∈ p.2.1, lookK d e.1 = some (gD d e.1) ∧ lookK d e.2 = some (gD d e.2) ∧ 2 ≤ gD d e.1 + gD d e.2) ∧ ∀ os, P os true⟩
section
variable {P : Program} {w : World} {K : PySem.W.Frag} {mg : Str → Option Value} {base : Heap}
end
end KK
end

section
set_option maxRecDepth 100000
set_option maxHeartbeats 4000000
namespace KK
open PySem PySem.Spec PyProof.Rows L2 Y
/-- what is put on x by the ties us -/
def loadU (f : Str × Str → Int) (us : List (Str × Str)) (x : Str) : Int := (us.map fun e => (if (upP e).1 = x then f e else 0) + (if (upP e).2 = x then f e else 0)).sum
structure PrsR (p : List Str × List (Str × Str) × List (Str × Int)) (y : List ((Str × Str) × Int)) (v : Int) (f : Str × Str → Int) : Prop where
  nd : p.1.Nodup
  hi : p.1.length ≤ 40
  pr : ∀ x ∈ p.1, lookK p.2.2 x = some (gD p.2.2 x)
  ln : y.length = p.2.1.length
  at_ : ∀ e ∈ p.2.1, lookK y (upP e) = some (f e) ∧ 0 ≤ f e ∧ (upP e).1 ∈ p.1 ∧ (upP e).2 ∈ p.1
  tt : (p.2.1.map f).sum = v
  lo : ∀ x ∈ p.1, loadU f p.2.1 x ≤ 2 * gD p.2.2 x
abbrev yPrs (K : PySem.W.Frag) : Y.CT Bool := ⟨true, .sh tBl, fun as P _ => ∃ p y v, as = [.sh (yParts K) p, .sh (tDP tInt) y, .sh tInt v] ∧ (∃ f, PrsR p y v f) ∧ ∀ os, P os true⟩
def atD (ns : List Str) (g : Str → Int) : List (Str × Int) := ns.map fun x => (x, g x)
section
variable {P : Program} {w : World} {K : PySem.W.Frag} {mg : Str → Option Value} {base : Heap}
end
end KK
end

section
set_option maxRecDepth 100000
set_option maxHeartbeats 4000000
namespace KK
open PySem PySem.Spec PyProof.Rows L2 Y
theorem look_ix {κ α : Type} [DecidableEq κ] {kvs : List (κ × α)} (hn : (kvs.map (·.1)).Nodup) {e : κ × α} (h : e ∈ kvs) : lookK kvs e.1 = some e.2 := by
  induction kvs with
  | nil => simp at h
  | cons z kvs ih =>
    obtain ⟨k, v⟩ := z
    rw [List.map_cons, List.nodup_cons] at hn
    rw [look_cons]
    rcases List.mem_cons.mp h with rfl | h
    · rw [if_pos rfl]
    · rw [if_neg fun z => hn.1 (by rw [show (k, v).1 = k from rfl, z]; exact List.mem_map_of_mem (f := (·.1)) h)]
      exact ih hn.2 h
/-- a web stands for these parts -/
structure Mat (z : WebZ) (p : List Str × List (Str × Str) × List (Str × Int)) : Prop where
  wf : WfZ z
  pt : PtsZ p
  pm : z.ms.Perm p.1
  pu : z.us.Perm (p.2.1.map ordP)
  pr : ∀ x ∈ p.1, prW z x = gD p.2.2 x ∧ lookK p.2.2 x = some (gD p.2.2 x)
/-- the prices of a tie, by its dict -/
def gP (y : List ((Str × Str) × Int)) (e : Str × Str) : Int := (lookK y e).getD 0
section
variable {z : WebZ} {p : List Str × List (Str × Str) × List (Str × Int)} {v : Int} {xv : Str → Int} {ys : List Int}
end
end KK
end

section
set_option maxRecDepth 100000
set_option maxHeartbeats 4000000
namespace KK
open PySem PySem.Spec PyProof.Rows L2 Y
/-! answers, their cost, the best -/
section
variable {K : PySem.W.Frag} {mg : Str → Option Value} {CW : Addr}
end
/-- a dict that is an answer -/
structure AnsD (z : WebZ) (d : List (Str × Int)) : Prop where
  pm : (d.map (·.1)).Perm z.ms
  r : ∀ x ∈ z.ms, lookK d x = some (gD d x) ∧ 0 ≤ gD d x ∧ gD d x ≤ 2
  t : ∀ e ∈ z.us, 2 ≤ gD d e.1 + gD d e.2
abbrev yInt : Y.CT Bool := ⟨false, .sh tBl, fun as P _ => ∃ i, as = [.sh tInt i] ∧ ∀ os, P os true⟩
abbrev yBet : Y.CT Bool := ⟨false, .sh tBl, fun as P _ => ∃ i lo hi, as = [.sh tInt i, .sh tInt lo, .sh tInt hi] ∧ ∀ os, P os (decide (lo ≤ i) && decide (i ≤ hi))⟩
abbrev yJust (K : PySem.W.Frag) : Y.CT Bool := ⟨true, .sh tBl, fun as P _ => ∃ d ns, as = [.sh (tDk kS tInt) d, .sh (tLs K tStr) ns] ∧ (d.length = ns.length ∧ ns.length ≤ 1000 ∧ ∀ x ∈ ns, hasK d x = true) ∧ ∀ os, P os true⟩
abbrev yVals (K : PySem.W.Frag) : Y.CT Bool := ⟨true, .sh tBl, fun as P _ => ∃ d ns, as = [.sh (tDk kS tInt) d, .sh (tLs K tStr) ns] ∧ (d.length = ns.length ∧ ns.length ≤ 1000 ∧ ∀ x ∈ ns, lookK d x = some (gD d x) ∧ 0 ≤ gD d x ∧ gD d x ≤ 2) ∧ ∀ os, P os true⟩
abbrev yIsAns (K : PySem.W.Frag) (CW : Addr) : Y.CT Bool := ⟨true, .sh tBl, fun as P _ => ∃ z d, as = [.sh (yWeb K CW) z, .sh (tDk kS tInt) d] ∧ (WfZ z ∧ AnsD z d) ∧ ∀ os, P os true⟩
abbrev yCost (K : PySem.W.Frag) (CW : Addr) : Y.CT Int := ⟨true, .sh tInt, fun as P _ => ∃ z d, as = [.sh (yWeb K CW) z, .sh (tDk kS tInt) d] ∧ (WfZ z ∧ AnsD z d) ∧ ∀ os, P os ((z.ms.map fun x => prW z x * gD d x).sum)⟩
abbrev yBest (K : PySem.W.Frag) (CW : Addr) : Y.CT Bool := ⟨true, .sh tBl, fun as P _ => ∃ z d, as = [.sh (yWeb K CW) z, .sh (tDk kS tInt) d] ∧ (WfZ z ∧ AnsD z d) ∧ ∀ v, Opt z v → ∀ os, P os (decide ((z.ms.map fun x => prW z x * gD d x).sum = v))⟩
abbrev yAmong : Y.CT Bool := ⟨false, .sh tBl, fun as P _ => ∃ x d, as = [.sh tStr x, .sh (tDk kS tInt) d] ∧ ∀ os, P os (hasK d x)⟩
abbrev yNeed (K : PySem.W.Frag) (CW : Addr) : Y.CT Unit := ⟨false, .sh tNon, fun as P _ => ∃ z x, as = [.sh (yWeb K CW) z, .sh tStr x] ∧ (WfZ z ∧ x ∈ z.ms) ∧ ∀ os, P os ()⟩
abbrev yPrc2 (K : PySem.W.Frag) (CW : Addr) : Y.CT Int := ⟨false, .sh tInt, fun as P _ => ∃ z x, as = [.sh (yWeb K CW) z, .sh tStr x] ∧ (WfZ z ∧ x ∈ z.ms) ∧ ∀ os, P os (prW z x)⟩
section
variable {P : Program} {w : World} {K : PySem.W.Frag} {mg : Str → Option Value} {base : Heap} {CW : Addr}
abbrev NYisinteger : List Str := ["value"]
theorem scYisinteger : FnScope NYisinteger ["value"] (defScope s_is_integer) := ⟨rfl, rfl, rfl, by decide +kernel, rfl, by decide +kernel, by decide +kernel⟩
theorem y_int (T : Blt mg) (F : Has K mg "is_integer" s_is_integer) : C8.Cal P w K mg base 1 "is_integer" (Y.spZ yInt) [] := by
  refine calF F (fun f fd F => F.binds (ps := ["value"]) fun _ _ _ _ _ _ us hl => match us, hl with | [_], _ => rfl) scYisinteger (fun vs H Q E h => zlen (fun as P XP hc => by obtain ⟨_, rfl, _⟩ := hc; rfl) h) (fun f cdv A outer s H vs Q E hr h => ?_)
  have hu := hu_of hr
  refine ⟨_, (pss_one (ps_ret (pe_and (pe_callB (show CallR _ (.builtin "isinstance") (rIsi K) from call_isi) (by rfl) T.b_isinstance (by decide +kernel) (pa_cons (pv 0) (pa_cons (pe_bltn (v := .ty "int") (by rfl) T.b_int (by decide +kernel) rfl) pa_nil))) (pe_one (pe_not (pe_callB (show CallR _ (.builtin "isinstance") (rIsi K) from call_isi) (by rfl) T.b_isinstance (by decide +kernel) (pa_cons (pv 0) (pa_cons (pe_bltn (v := .ty "bool") (by rfl) T.b_bool (by decide +kernel) rfl) pa_nil)))))))), zrun h ?_⟩
  rintro as P XP ⟨i, rfl, hp⟩ hl
  obtain ⟨p0, rfl⟩ := len1 hl
  refine ⟨0, rfl, by decide, ?_⟩
  have ti : ∀ (W : Wd) (H : Hp) (v : V) (x : Int), tInt.R W H v x → TyX K H v (.type "int") := fun W H v x r => by cases r; exact .base (.int _)
  refine blk_ret (ev_and (ev_isi (A := "int") (b := true) (fun W H v x ok _ r => ti W H v x r) (by decide +kernel) (ev_var rfl ⟨rfl, fun _ => ev_not (ev_isi (A := "int") (b := false) (fun W H v x ok _ r => ti W H v x r) (by decide +kernel) (ev_var rfl ⟨rfl, fin0 [_] _ hp⟩)), fun h => (nomatch h)⟩)))
abbrev NYisbetween : List Str := ["value", "low", "high"]
theorem scYisbetween : FnScope NYisbetween ["value", "low", "high"] (defScope s_is_between) := ⟨rfl, rfl, rfl, by decide +kernel, rfl, by decide +kernel, by decide +kernel⟩
theorem y_bet (T : Blt mg) (F : Has K mg "is_between" s_is_between) (YINT : C8.Cal P w K mg base 1 "is_integer" (Y.spZ yInt) []) : C8.Cal P w K mg base 2 "is_between" (Y.spZ yBet) [] := by
  refine calF F (fun f fd F => F.binds (ps := ["value", "low", "high"]) fun _ _ _ _ _ _ us hl => match us, hl with | [_, _, _], _ => rfl) scYisbetween (fun vs H Q E h => zlen (fun as P XP hc => by obtain ⟨_, _, _, rfl, _⟩ := hc; rfl) h) (fun f cdv A outer s H vs Q E hr h => ?_)
  have hu := hu_of hr
  refine ⟨_, (pss_one (ps_ret (pe_and (C8.pe_c YINT hr (by decide) rfl (pa_cons (pv 0) pa_nil)) (pe_one (pe_chain op_le op_le (pv 1) (pv 0) (pv 2)))))), zrun h ?_⟩
  rintro as P XP ⟨i, lo, hi, rfl, hp⟩ hl
  obtain ⟨p0, p1, p2, rfl⟩ := len3 hl
  refine ⟨0, rfl, by decide, ?_⟩
  refine blk_ret (ev_and (ev_call0 (ea_cons (ev_var rfl (ea_nil ⟨fun h => (nomatch h), all1 trivial, i, rfl, fun _ => ⟨fun _ => ev_chain ro_B0 ro_B0 (ev_var rfl (ev_var rfl ⟨fun h1 => ev_var rfl ?_, fun h1 => ?_⟩)), fun h => (nomatch h)⟩⟩)))))
  · refine fin0 [_, _, _] _ fun os => ?_
    have := hp os
    rw [h1, Bool.true_and] at this
    exact this
  · refine fin0 [_, _, _] _ fun os => ?_
    have := hp os
    rw [h1, Bool.false_and] at this
    exact this
abbrev NYhasjust : List Str := ["value", "keys", "key"]
end
end KK
end

section
set_option maxRecDepth 100000
set_option maxHeartbeats 4000000
namespace KK
open PySem PySem.Spec PyProof.Rows L2 Y
section
variable {P : Program} {w : World} {K : PySem.W.Frag} {mg : Str → Option Value} {base : Heap} {CW : Addr}
abbrev NYisamong : List Str := ["value", "names"]
end
end KK
end

section
set_option maxRecDepth 100000
set_option maxHeartbeats 4000000
/-! a + b by the class's own __add__, where it raises nothing; p[i] of a pair, i drawn -/
namespace Y
open PySem PySem.Spec PyProof.Rows L2
section
variable {α ρ : Type} {X : Xw} {k : Bool} {G : Ct} {t : Ty α} {c : CT ρ} {K : PySem.W.Frag}
end
end Y
end

section
set_option maxRecDepth 100000
set_option maxHeartbeats 4000000
/-! {} with pairs as keys, d[p] = v; min of two -/
namespace Y
open PySem PySem.Spec PyProof.Rows L2
section
variable {α ρ : Type} {X : Xw} {k : Bool} {G : Ct} {t : Ty α} {K : PySem.W.Frag}
end
section
variable {α ρ : Type} {F : Fx ρ} {G : Ct} {N B C : Ct → Prop} {t : Ty α} {K : PySem.W.Frag}
end
end Y
end

section
set_option maxRecDepth 100000
set_option maxHeartbeats 4000000
/-! a list [a, b, c] of one's own, its third one's own too -/
namespace Y
open PySem PySem.Spec PyProof.Rows L2
section
variable {α β γ : Type}
def oL3 (K : PySem.W.Frag) (t : Ty α) (u : Ty β) (O : OT γ) : OT (α × β × γ) where
  R p W H v x := ∃ a v1 v2 v3, v = .ref a ∧ W a = .ow p ∧ H a = some (.lst [v1, v2, v3]) ∧ t.R W H v1 x.1 ∧ u.R W H v2 x.2.1 ∧ O.R (p ++ [2]) W H v3 x.2.2
  sv := tL3 K t u O.sv
  mv := by
    rintro p p' W W' H H' v x ⟨a, v1, v2, v3, e, w, h, r1, r2, r3⟩ kk m
    obtain ⟨w1, h1⟩ := kk a _ [] (by rw [List.append_nil]; exact w) h
    refine ⟨a, v1, v2, v3, e, by rw [List.append_nil] at w1; exact w1, h1, t.go r1 m, u.go r2 m, O.mv r3 (fun b o q w e => ?_) m⟩
    have := kk b o ([2] ++ q) (by rw [← List.append_assoc]; exact w) e
    rwa [← List.append_assoc] at this
  fz := by
    rintro p W W' H H' v x ⟨a, v1, v2, v3, e, w, h, r1, r2, r3⟩ kk m
    obtain ⟨w1, h1⟩ := kk a _ [] (by rw [List.append_nil]; exact w) h
    exact ⟨a, v1, v2, v3, e, ⟨w1, h1⟩, t.go r1 m, u.go r2 m, O.fz r3 (fun b o q w e => kk b o ([2] ++ q) (by rw [← List.append_assoc]; exact w) e) m⟩
variable {G : Ct} {K : PySem.W.Frag} {t : Ty α} {u : Ty β}
end
end Y
end

section
set_option maxRecDepth 100000
set_option maxHeartbeats 4000000
/-! a list of three made with an own third; dicts with pairs as keys, walked; a string in a pair -/
namespace Y
open PySem PySem.Spec PyProof.Rows L2
section
variable {α β γ κ ρ : Type} {t : Ty α} {u : Ty β} {X : Xw} {k : Bool} {G : Ct} {K : PySem.W.Frag}
end

section
variable {α β γ : Type} {t : Ty α} {u : Ty β} {X : Xw} {k : Bool} {G : Ct} {K : PySem.W.Frag}
/-- what is new and hangs nowhere hangs as the third item of what is new -/
def push2 (W : Wd) : Wd := fun b => match W b with
  | .ow (j :: r) => if j = tmp then .ow (tmp :: 2 :: r) else .ow (j :: r)
  | w => w
end
end Y
namespace Y
open PySem PySem.Spec PyProof.Rows L2
section
variable {K : PySem.W.Frag}
end
end Y
namespace Y
open PySem PySem.Spec PyProof.Rows L2
section
variable {α : Type} {X : Xw} {k : Bool} {G : Ct} {t : Ty α} {K : PySem.W.Frag}
end
end Y
namespace Y
open PySem PySem.Spec PyProof.Rows L2
section
variable {α β γ : Type} {X : Xw} {k : Bool} {G : Ct} {t : Ty α} {u : Ty β} {K : PySem.W.Frag}
end
end Y
end

section
set_option maxRecDepth 100000
set_option maxHeartbeats 4000000
/-! x in (a, b, ..) where equality is told by what is held -/
namespace L2
open PySem PySem.Spec PyProof.Rows
def rInDT (K : PySem.W.Frag) : R2 := fun x y H Q => ∃ d ds, Dp K H x d ∧ Dp K H y (.tuple ds) ∧ SeqAt.shaped d = true ∧ SeqAt.shaped (.list ds) = true ∧ Q (.bl (ds.any fun z => PyData.eqv z d)) H
end L2
end

section
set_option maxRecDepth 100000
set_option maxHeartbeats 4000000
/-! lists of ints, of texts: equality -/
namespace Y
open PySem PySem.Spec PyProof.Rows L2
section
variable {K : PySem.W.Frag}
end
end Y
end

section
set_option maxRecDepth 100000
set_option maxHeartbeats 4000000
/-! a op b op c op d -/
namespace L2
open PySem PySem.Spec PyProof.Rows
variable {X : Cx} {a b c d : Expr} {ta tb tc td : TE} {pos : Pos}
def tChain3 (r r' r'' : R2) (ta tb tc td : TE) : TE := fun σ H Q => ta σ H fun x H1 => tb σ H1 fun y H2 => r x y H2 fun z H3 => ∃ k, z = .bl k ∧
  (if k = true then tc σ H3 fun w H4 => r' y w H4 fun z2 H5 => ∃ k2, z2 = .bl k2 ∧ (if k2 = true then td σ H5 fun w2 H6 => r'' w w2 H6 Q else Q (.bl false) H5) else Q (.bl false) H3)
end L2
end

section
set_option maxRecDepth 100000
set_option maxHeartbeats 4000000
/-! x in o by the class's own __contains__; a chain of three comparisons of ints -/
namespace Y
open PySem PySem.Spec PyProof.Rows L2
section
variable {α β : Type} {X : Xw} {k : Bool} {G : Ct} {t : Ty α} {u : Ty β} {c : CT Bool} {K : PySem.W.Frag}
end
end Y
end

section
set_option maxRecDepth 100000
set_option maxHeartbeats 4000000
/-! own dicts of flat things -/
namespace Y
open PySem PySem.Spec PyProof.Rows L2
end Y
end

section
set_option maxRecDepth 100000
set_option maxHeartbeats 4000000
/-! len(o) by the class's own __len__; not xs as a value -/
namespace Y
open PySem PySem.Spec PyProof.Rows L2
section
variable {α β : Type} {X : Xw} {k : Bool} {G : Ct} {t : Ty α} {c : CT Int} {K : PySem.W.Frag}
end
end Y
end

section
set_option maxRecDepth 100000
set_option maxHeartbeats 4000000
/-! max of two; len of a pair -/
namespace Y
open PySem PySem.Spec PyProof.Rows L2
section
variable {α β : Type} {X : Xw} {k : Bool} {G : Ct} {t : Ty α} {u : Ty β} {K : PySem.W.Frag}
theorem rc_lenT2 : RC1 (rLenA K) (tT2 K t u) (.sh tInt) false (fun _ P => P 2) := by
  rintro W H v x Q P ok _ ⟨a, p1, p2, rfl, sq, r1, r2⟩ c q
  exact ⟨_, 2, rfl, .inr ⟨[p1, p2], sq.t, rfl⟩, q _ W H _ c .refl ok rfl⟩
end
end Y
end

section
set_option maxRecDepth 100000
set_option maxHeartbeats 4000000
/-! dicts that hold the same, to be read: != -/
namespace Own
open PySem PySem.Spec PyProof.Rows L2
def rNeDS : R2 := fun x y H Q => ∃ a b ks ls, x = .ref a ∧ y = .ref b ∧ Rd H a (.dK ks) ∧ Rd H b (.dK ls) ∧ ks.length = ls.length ∧ (∀ p ∈ ks, valV ls p.1 = some p.2 ∧ sameB p.2 = true) ∧ Q (.bl false) H

end Own
end

section
set_option maxRecDepth 100000
set_option maxHeartbeats 4000000
/-! dicts alike -/
namespace Y
open PySem PySem.Spec PyProof.Rows L2
section
variable {K : PySem.W.Frag} {κ : Type} [DecidableEq κ] {ke : Ky κ}
/-- the one holds what the other holds -/
def LikeD (xs ys : List (κ × Int)) : Prop := xs.length = ys.length ∧ ∀ p ∈ xs, lookK ys p.1 = some p.2
theorem prd_mem {A B : Type} {R : A → B → Prop} {ws : List A} {xs : List B} (p : Paired R ws xs) : ∀ w ∈ ws, ∃ x ∈ xs, R w x := by
  induction p with
  | nil => exact fun _ h => nomatch h
  | cons r _ ih =>
    intro w h
    rcases List.mem_cons.mp h with rfl | h
    · exact ⟨_, List.mem_cons_self .., r⟩
    · obtain ⟨x, hx, e⟩ := ih w h
      exact ⟨x, List.mem_cons_of_mem _ hx, e⟩
end
end Y
end

section
set_option maxRecDepth 100000
set_option maxHeartbeats 4000000
/-! a pair whose second is one's own; a thing of one's own or None -/
namespace Y
open PySem PySem.Spec PyProof.Rows L2
section
variable {α γ : Type}
def oT2 (K : PySem.W.Frag) (t : Ty α) (O : OT γ) : OT (α × γ) where
  R p W H v x := ∃ a v1 v2, v = .ref a ∧ SqTW K W H a [v1, v2] ∧ t.R W H v1 x.1 ∧ O.R p W H v2 x.2
  sv := tT2 K t O.sv
  mv := by
    rintro p p' W W' H H' v x ⟨a, v1, v2, e, sq, r1, r2⟩ kk m
    exact ⟨a, v1, v2, e, sq.mv m, t.go r1 m, O.mv r2 kk m⟩
  fz := by
    rintro p W W' H H' v x ⟨a, v1, v2, e, sq, r1, r2⟩ kk m
    exact ⟨a, v1, v2, e, sq.mv m, t.go r1 m, O.fz r2 kk m⟩
def oOpt (O : OT γ) : OT (Option γ) where
  R p W H v x := match x with
    | none => v = .non
    | some y => O.R p W H v y
  sv := tOpt O.sv
  mv := by
    rintro p p' W W' H H' v (_ | y) r kk m
    · exact r
    · exact O.mv (x := y) r kk m
  fz := by
    rintro p W W' H H' v (_ | y) r kk m
    · exact r
    · exact O.fz (x := y) r kk m
variable {X : Xw} {k : Bool} {G : Ct} {K : PySem.W.Frag} {t : Ty α}
theorem ev_nonO {O : OT γ} {P : Ct → Option γ → Prop} (p : P G none) : EvR X k (tC .non) G (.ow (oOpt O)) P := fun W H σ Q hs ex q => q .non W H G none p (.refl hs) rfl
theorem ev_someO {te : TE} {O : OT γ} {P : Ct → Option γ → Prop} (h : EvR X k te G (.ow O) fun G x => P G (some x)) : EvR X k te G (.ow (oOpt O)) P := fun W H σ Q hs ex q => h W H σ Q hs ex fun v W1 H1 G1 x p m r => q v W1 H1 G1 (some x) p m r
end
end Y
end

section
set_option maxRecDepth 100000
set_option maxHeartbeats 4000000
/-! an own dict that a list holds too -/
namespace Y
open PySem PySem.Spec PyProof.Rows L2
/-- an own dict, its address told -/
def oDA : OT (Addr × List (Str × Int)) where
  R p W H v x := v = .ref x.1 ∧ (oD kS tInt).R p W H v x.2
  sv := ⟨fun W H v x => v = .ref x.1 ∧ (tDk kS tInt).R W H v x.2, fun r m => ⟨r.1, (tDk kS tInt).go r.2 m⟩⟩
  mv := fun r kk m => ⟨r.1, (oD kS tInt).mv r.2 kk m⟩
  fz := fun r kk m => ⟨r.1, (oD kS tInt).fz r.2 kk m⟩
section
variable {ρ : Type} {X : Xw} {k : Bool} {G : Ct} {F : Fx ρ} {N B C : Ct → Prop} {K : PySem.W.Frag}
/-- a list of three whose third is told by its address -/
def tRing (K : PySem.W.Frag) : Ty (List Str × List (Str × Str) × Addr) := ⟨fun W H v x => ∃ a v1 v2, v = .ref a ∧ SqW K W H a [v1, v2, .ref x.2.2] ∧ (tTu K tStr).R W H v1 x.1 ∧ (tLs K (tT2 K tStr tStr)).R W H v2 x.2.1, fun r m => by
  obtain ⟨a, v1, v2, e, sq, r1, r2⟩ := r
  exact ⟨a, v1, v2, e, sq.mv m, (tTu K tStr).go r1 m, (tLs K (tT2 K tStr tStr)).go r2 m⟩⟩
end
end Y
end

section
set_option maxRecDepth 100000
set_option maxHeartbeats 4000000
/-! dict(d): a copy -/
namespace Own
open PySem PySem.Spec PyProof.Rows L2
def rDictD : List V → Hp → VK → Prop := fun xs H Q => ∃ p kvs, xs = [.ref p] ∧ Rd H p (.dK kvs) ∧ ∀ q, H q = none → Q (.ref q) (upd H q (.dK kvs))
theorem call_dict_dK {X : Cx} : CallR X (.type "dict") rDictD := by
  intro pins s σ H xs us Q I r h
  obtain ⟨p, kvs, e, hk, q⟩ := h
  subst e
  obtain ⟨u, eu, rx⟩ := vals1 r
  subst eu
  obtain rfl : u = Value.ref p := rx
  exact d_copyOf I hk fun b s' hb I' => ⟨.ref b, _, I', rfl, q b hb⟩
end Own
end

section
set_option maxRecDepth 100000
set_option maxHeartbeats 4000000
/-! dict(d) -/
namespace Y
open PySem PySem.Spec PyProof.Rows L2
section
variable {κ α : Type} {ke : Ky κ} {t : Ty α}
theorem rc_dictD : RC1 Own.rDictD (tDk ke t) (.ow (oD ke t)) false (fun xs P => P xs) := by
  rintro W H v x Q P ok _ ⟨a, ws, rfl, rd, p⟩ c q
  refine ⟨a, ws, rfl, rd.rd, fun b hb => ?_⟩
  obtain ⟨g, ok'⟩ := newT ok hb (o := .dK ws) trivial
  exact q _ _ _ _ c g ok' ⟨b, ws, rfl, setW_same, upd_same, L2.Paired.mapP p fun u x r => ⟨r.1, t.mvE r.2 g⟩⟩
end
end Y
end

section
set_option maxRecDepth 100000
set_option maxHeartbeats 4000000
/-! {x: y} of two variables -/
namespace Y
open PySem PySem.Spec PyProof.Rows L2
section
variable {X : Xw} {k : Bool} {G : Ct}
end
end Y
end

section
set_option maxRecDepth 100000
set_option maxHeartbeats 4000000
/-! dicts that hold the same, to be read: == -/
namespace Own
open PySem PySem.Spec PyProof.Rows L2
def rEqDS : R2 := fun x y H Q => ∃ a b ks ls, x = .ref a ∧ y = .ref b ∧ Rd H a (.dK ks) ∧ Rd H b (.dK ls) ∧ ks.length = ls.length ∧ (∀ p ∈ ks, valV ls p.1 = some p.2 ∧ sameB p.2 = true) ∧ Q (.bl true) H
end Own
end

section
set_option maxRecDepth 100000
set_option maxHeartbeats 4000000
/-! dicts alike: == -/
namespace Y
open PySem PySem.Spec PyProof.Rows L2
section
variable {κ : Type} [DecidableEq κ] {ke : Ky κ}
end
end Y
end

section
set_option maxRecDepth 100000
set_option maxHeartbeats 4000000
/-! xs.append(e) where e changes other things of one's own -/
namespace Y
open PySem PySem.Spec PyProof.Rows L2
section
variable {α ρ : Type} {F : Fx ρ} {G : Ct} {N B C : Ct → Prop} {t : Ty α} {K : PySem.W.Frag}
end
end Y
end

section
set_option maxRecDepth 100000
set_option maxHeartbeats 4000000
/-! try with several clauses, 'except X as n' and 'except X', mixed -/
namespace Own
open PySem PySem.Spec PyProof.Rows L2
/-- a body asked of its errors (kept as it stands) -/
def ap (tb : WX → TS) (W : WX) : TS := tb W
structure Hn where
  cl : Value
  i : Option Nat
  ts : Addr → Value → Option Addr → TS
def wEv (K : PySem.W.Frag) (Wo : WX) (D : Ends) : List Hn → WX
  | [] => Wo
  | z :: r => fun q d τ J => ∃ b, PySem.W.exmOne K q z.cl = some b ∧ (b = true → ∀ e, J e = none → match z.i with
      | some i => z.ts e q d (ends i D) (τ.set i (some (.ref e))) J
      | none => z.ts e q d D τ J) ∧ (b = false → wEv K Wo D r q d τ J)
def tryAp (K : PySem.W.Frag) (Wo : WX) (tb : WX → TS) (r : List Hn) : TS := fun D τ J => tb (wEv K Wo D r) D τ J
inductive Evs (X : Cx) : List ExceptHandler → List Hn → Prop
  | nil : Evs X [] []
  | cons {n : Str} {i : Nat} {y : Str} {cl : Value} {tz : Addr → Value → Option Addr → TS} {f : Stmt} {fs : List Stmt} {p1 p2 : Pos} {ks : List ExceptHandler} {r : List Hn} : X.N[i]? = some n → X.env.kindOf n = some .local →
      Names X y cl → (∀ (e : Addr) (o : Obj) (q : Value) (d : Option Addr) (pn : List (Addr × Obj)), Zc q d o → (∃ vs, o.data = .fields vs) → PSs (X.suite e ((e, o) :: pn)) (f :: fs) (tz e q d)) →
      Evs X ks r → Evs X (.ExceptHandler (some (.Name y p1)) (some n) (f :: fs) p2 :: ks) (⟨cl, some i, tz⟩ :: r)
  | bare {y : Str} {cl : Value} {tz : Addr → Value → Option Addr → TS} {f : Stmt} {fs : List Stmt} {p1 p2 : Pos} {ks : List ExceptHandler} {r : List Hn} :
      Names X y cl → (∀ (e : Addr) (o : Obj) (q : Value) (d : Option Addr) (pn : List (Addr × Obj)), Zc q d o → (∃ vs, o.data = .fields vs) → PSs (X.suite e ((e, o) :: pn)) (f :: fs) (tz e q d)) →
      Evs X ks r → Evs X (.ExceptHandler (some (.Name y p1)) none (f :: fs) p2 :: ks) (⟨cl, none, tz⟩ :: r)
section
variable {X : Cx} {pins : List (Addr × Obj)} {τ : L2.St} {J : Hp} {e : Addr} {q : Value} {d : Option Addr} {G : Heap} {s0 u : Shared} {D : Ends} {Wo : WX}
theorem ev_ok (hs : X.stack = X.env :: X.outer) (hf : X.env.frame = some X.env.locals) (hN : X.N.Nodup) (tk : Takes X Wo) :
    ∀ {ks : List ExceptHandler} {r : List Hn}, Evs X ks r → ∀ {u : Shared}, Down X pins τ J e q d G s0 u → wEv X.K Wo D r q d τ J → wpAny (model X.prog X.w) X.A (handleBy (.ref e) X.env ks) (SP X pins D) X.xe u := by
  intro ks r hk
  induction hk with
  | nil =>
    intro u g w
    refine wpAny_handleBy_nil ?_
    have fl := g.fl
    obtain ⟨_, _, _, o1, vs1, t1, _, _, e1, _, e3, e4, _⟩ := id fl
    unfold PySem.passOn
    refine wpAny_bind (wpAny_field e1 e3 e4 ?_)
    rw [if_neg (by simp)]
    have go : wpAny (model X.prog X.w) X.A (setFlight (.ref e) X.env.frame) (fun _ s4 => wpAny (model X.prog X.w) X.A (throw (.ref e) : Sem Flow) (SP X pins D) X.xe s4) X.xe u := by
      rw [hf]
      refine HandSPX.setFlight_upZ fl fun h4 fl4 up4 => wpAny_throw ?_
      exact tk _ _ ⟨e, G, s0, pins, τ, J, q, d, rfl, g.inv, g.nb, g.up.trans up4, .inr (.inr (by rw [hs]; exact fl4)), g.na, g.os, g.ag, w⟩
    first
      | exact wpAny_bind (wpAny_pure (wpAny_bind go))
      | exact wpAny_bind go
  | @cons n i y cl tz f fs p1 p2 ks2 r2 hi hl hc hsu hr ih =>
    intro u g w
    obtain ⟨b, wb, yes, no⟩ := w
    refine wpAny_handleBy_cons (codeAny_handlers_test ?_) (by intro x; cases x)
    obtain ⟨o, g1, g2, g3, S⟩ := g.sees hf
    have look : PySem.W.Looks (model X.prog X.w) u.heap (typeOf (.ref e)) q := fun _ _ _ _ k x => wpAny_typeOf_ref (k _ _ g1) (by rw [g2.1]; exact x)
    have is := PySem.W.exm_one (M := model X.prog X.w) g.now.kIn look wb
    have name : ∀ {Q E : Value → Shared → Prop}, Q cl u → wpAny (model X.prog X.w) (X.A.mark (some (.ref e))) (eval (.Name y p1) X.env) Q E u := fun {Q E} x => by
      obtain ⟨c1, c2, c3 | ⟨c3, c4, c5⟩⟩ := hc
      · exact ld_glob S c1 c3 x c2
      · exact ld_blt S c1 c3 c4 x c5 c2
    refine name (is.here ?_)
    cases b with
    | false => exact ih g (no rfl)
    | true =>
      refine codeAny_handlers_suite_as ?_
      refine HandSPX.lands_againZ g.fl fun h4 fl4 up4 => ?_
      have g' := g.to fl4 up4
      obtain ⟨o', _, z2, z3, S'⟩ := g'.sees hf
      refine store_ok (X := X.suite e ((e, o') :: (X.pn ++ pins)))
        (v := .ref e) S' hN hi (.inl hl) rfl (fun s5 S5 => ?_) (.inr hl)
      refine wpAny_mono ((hsu e o' q d (X.pn ++ pins) z2 z3).run [] s5 _ J _ S5 (yes rfl e g.na)) (fun fw s6 r6 => ?_) fun _ _ x => x.elim
      have back : ∀ {τ6 : L2.St} {J6 : Hp} {Q : Shared → Prop}, Inv (X.suite e ((e, o') :: (X.pn ++ pins))) [] τ6 J6 s6 → (∀ s7, Inv X pins (τ6.set i none) J6 s7 → Q s7) →
          wpAny (model X.prog X.w) X.A (do bindName X.env n .none; unbindBehindTheSuite X.env n p2) (fun _ s7 => Q s7) X.xe s6 := fun S6 k => gone_ok (S6.unsuite g.inv.ok) hN hi hl k
      cases fw with
      | next => exact let ⟨_, _, S6, q6⟩ := r6; back S6 fun _ I => ⟨_, _, I, q6⟩
      | brk => exact let ⟨_, _, S6, q6⟩ := r6; back S6 fun _ I => ⟨_, _, I, q6⟩
      | cont => exact let ⟨_, _, S6, q6⟩ := r6; back S6 fun _ I => ⟨_, _, I, q6⟩
      | ret v => exact let ⟨_, _, _, S6, r7, q6⟩ := r6; back S6 fun _ I => ⟨_, _, _, I, r7, q6⟩
  | @bare y cl tz f fs p1 p2 ks2 r2 hc hsu hr ih =>
    intro u g w
    obtain ⟨b, wb, yes, no⟩ := w
    refine wpAny_handleBy_cons (codeAny_handlers_test ?_) (by intro x; cases x)
    obtain ⟨o, g1, g2, g3, S⟩ := g.sees hf
    have look : PySem.W.Looks (model X.prog X.w) u.heap (typeOf (.ref e)) q := fun _ _ _ _ k x => wpAny_typeOf_ref (k _ _ g1) (by rw [g2.1]; exact x)
    have is := PySem.W.exm_one (M := model X.prog X.w) g.now.kIn look wb
    have name : ∀ {Q E : Value → Shared → Prop}, Q cl u → wpAny (model X.prog X.w) (X.A.mark (some (.ref e))) (eval (.Name y p1) X.env) Q E u := fun {Q E} x => by
      obtain ⟨c1, c2, c3 | ⟨c3, c4, c5⟩⟩ := hc
      · exact ld_glob S c1 c3 x c2
      · exact ld_blt S c1 c3 c4 x c5 c2
    refine name (is.here ?_)
    cases b with
    | false => exact ih g (no rfl)
    | true =>
      refine codeAny_handlers_suite ?_
      refine HandSPX.lands_againZ g.fl fun h4 fl4 up4 => ?_
      have g' := g.to fl4 up4
      obtain ⟨o', _, z2, z3, S'⟩ := g'.sees hf
      refine wpAny_mono ((hsu e o' q d (X.pn ++ pins) z2 z3).run [] _ _ J _ S' (yes rfl e g.na)) (fun fw s6 r6 => ?_) fun _ _ x => x.elim
      cases fw with
      | next => exact let ⟨_, _, S6, q6⟩ := r6; ⟨_, _, S6.unsuite g.inv.ok, q6⟩
      | brk => exact let ⟨_, _, S6, q6⟩ := r6; ⟨_, _, S6.unsuite g.inv.ok, q6⟩
      | cont => exact let ⟨_, _, S6, q6⟩ := r6; ⟨_, _, S6.unsuite g.inv.ok, q6⟩
      | ret v => exact let ⟨_, _, _, S6, r7, q6⟩ := r6; ⟨_, _, _, S6.unsuite g.inv.ok, r7, q6⟩
/-- the statement -/
theorem ps_try_evs {body : List Stmt} {k0 : ExceptHandler} {ks : List ExceptHandler} {r : List Hn} {pos : Pos} {tb : WX → TS} (hs : X.stack = X.env :: X.outer) (hf : X.env.frame = some X.env.locals) (hN : X.N.Nodup) (tk : Takes X Wo)
    (hb : ∀ (W : WX) (pn : List (Addr × Obj)) (xe : Value → Shared → Prop), Takes (X.tr pn xe) W → PassesOwn (model X.prog X.w) X.A X.env xe → PSs (X.tr pn xe) body (tb W)) (hk : Evs X (k0 :: ks) r) :
    PS X (.Try body (k0 :: ks) [] [] pos) fun D τ J => tb (wEv X.K Wo D r) D τ J := by
  refine ⟨fun pins s τ J D I h => wpAny_Try_except ?_⟩
  have ok := I.ok
  have fr : X.A.frames = some (X.env :: X.outer) := by rw [ok.frames, hs]
  let xe : Value → Shared → Prop := fun v s1 => wpAny (model X.prog X.w) X.A (noteFrame v X.env) (fun _ s2 => wpAny (model X.prog X.w) X.A (setFlight v none) (fun _ s3 => wpAny (model X.prog X.w) X.A (handleBy v X.env (k0 :: ks)) (SP X pins D) X.xe s3) X.xe s2) X.xe s1
  have tx : Takes (X.tr (X.pn ++ pins) xe) (wEv X.K Wo D r) := fun v s' x => by
    obtain ⟨e, G, s0, pins', τ', J', q, d, rfl, I', nb, up, sky, na, os, ag, w⟩ := x
    have sky' : Sky G (X.env :: X.outer) e (Zc q d) X.env.locals s'.heap := by rw [← hs]; exact sky
    show wpAny (model X.prog X.w) X.A (noteFrame (.ref e) X.env) _ _ _
    exact Sky.land Zc.steady fr hf sky' fun h3 fl3 up3 => ev_ok hs hf hN tk hk (u := { s' with heap := h3 }) ⟨I'.ofTry ok, nb, up.trans up3, fl3, na, os, ag⟩ w
  refine wpAny_mono ((hb _ _ xe tx PassesOwn.looking).run [] s τ J D (I.toTry _) h) (fun fw s1 x => ?_) fun _ _ x => x
  cases fw with
  | next => exact let ⟨_, _, I1, q1⟩ := x; wpAny_execs_nil ⟨_, _, I1.ofTry ok, q1⟩
  | brk => exact let ⟨_, _, I1, q1⟩ := x; ⟨_, _, I1.ofTry ok, q1⟩
  | cont => exact let ⟨_, _, I1, q1⟩ := x; ⟨_, _, I1.ofTry ok, q1⟩
  | ret v => exact let ⟨_, _, _, I1, r1, q1⟩ := x; ⟨_, _, _, I1.ofTry ok, r1, q1⟩
theorem ps_try_ap {body : List Stmt} {k0 : ExceptHandler} {ks : List ExceptHandler} {r : List Hn} {pos : Pos} {tb : WX → TS} (hs : X.stack = X.env :: X.outer) (hf : X.env.frame = some X.env.locals) (hN : X.N.Nodup) (tk : Takes X Wo)
    (hb : ∀ (W : WX) (pn : List (Addr × Obj)) (xe : Value → Shared → Prop), Takes (X.tr pn xe) W → PassesOwn (model X.prog X.w) X.A X.env xe → PSs (X.tr pn xe) body (tb W)) (hk : Evs X (k0 :: ks) r) :
    PS X (.Try body (k0 :: ks) [] [] pos) (tryAp X.K Wo tb r) := ps_try_evs hs hf hN tk hb hk
end
end Own
end

section
set_option maxRecDepth 100000
set_option maxHeartbeats 4000000
/-! the head's facts, properties too -/
namespace OwnP
open PySem PySem.Spec PyProof.Rows L2 He OwnH OwnQ
/-- a property: its class, its name; its getter -/
structure PrD where
  cls : Str
  name : Str
  qual : Str
  st : Stmt
def pAd (K : PySem.W.Frag) (d : PrD) : Addr := ma K (ga K d.cls) d.name
def gAd (K : PySem.W.Frag) (d : PrD) : Addr := match PySem.W.recIn K (pAd K d) "property" with
  | some (.ref g :: _) => g
  | _ => 0
def prO (K : PySem.W.Frag) (d : PrD) : FnV := match K.lookup (gAd K d) with
  | some ⟨_, _, .func fd, _⟩ => some (fd.name, fd.qualname, fd.params, fd.body, fd.scope, fd.globals, fd.closure, fd.defaults, fd.builtins)
  | _ => none
def PrD.val (d : PrD) : FnV := some (d.name, d.qual, defArgs d.st, .stmts (defBody d.st), defScope d.st, mainGlobals, [], .none, builtinsNs)
def recB (K : PySem.W.Frag) (d : PrD) : Bool := match PySem.W.recIn K (pAd K d) "property" with
  | some (.ref _ :: _) => true
  | _ => false
def codB (K : PySem.W.Frag) (d : PrD) : Bool := match K.lookup (gAd K d) with
  | some ⟨_, _, .func fd, _⟩ => PySem.W.codeIn K fd.code d.qual
  | _ => false
def prB (K : PySem.W.Frag) (d : PrD) : Bool := decide (PySem.W.findIn K (.ref (ga K d.cls)) d.name = some (some (.ref (pAd K d)))) && (decide (PySem.W.specialIn K (.ref (pAd K d)) "__get__" = some (some (.builtin "property.__get__"))) &&
  (decide (PySem.W.takesIn K (.ref (pAd K d)) = some true) && (recB K d && (PySem.W.keepIn K (.ref (gAd K d)) && codB K d))))
abbrev AlP : Type := AlQ × Bool × List FnV
def obsP (file : Str) (n : Nat) (fa : List Fa) (fn : List DefD) (er : List ErrD) (ck : PySem.W.Frag → Bool) (pr : List PrD) (g : Addr → Option Obj) : AlP := (obsQ file n fa fn er ck g, pr.all (fun d => prB (frG g (asO g n)) d), pr.map fun d => prO (frG g (asO g n)) d)
def hookP (file : Str) (n : Nat) (fa : List Fa) (fn : List DefD) (er : List ErrD) (ck : PySem.W.Frag → Bool) (pr : List PrD) : PySem.W.Hook where
  α := AlP
  obs := fun s => obsP file n fa fn er ck pr s.heap.get?
  val := fun _ => ((valO fn er, true), true, pr.map PrD.val)
  says := fun _ h => ∃ K : PySem.W.Frag, K.In h ∧ SaysO file fa fn er K ∧ ck K = true ∧ pr.all (fun d => prB K d) = true ∧ (pr.map fun d => prO K d) = pr.map PrD.val
  of := fun _ s e => ⟨_, frG_in, ⟨congrArg (fun z : AlP => z.1.1.1) e, congrArg (fun z : AlP => z.1.1.2.1) e, congrArg (fun z : AlP => z.1.1.2.2) e⟩, congrArg (fun z : AlP => z.1.2) e, congrArg (fun z : AlP => z.2.1) e, congrArg (fun z : AlP => z.2.2) e⟩
  keeps := fun _ _ _ ⟨K, hK, c⟩ k => ⟨K, PySem.W.Frag.In.keeps hK k, c⟩
/-! a property, an instance called: as promises -/
structure Prp (P : Program) (w : World) (K : PySem.W.Frag) (mg : Str → Option Value) (base : Heap) (k : Nat) (C : Addr) (f : Str) (sp : Sp) : Prop where
  ex : ∃ (p g : Addr) (fd : FuncData) (ps : List Str), Cls K C ∧ PropOf K C f p g ∧ FnOk P w K mg base CX0 k g fd ps sp ∧ Binds K fd ps []
structure Cbl (P : Program) (w : World) (K : PySem.W.Frag) (mg : Str → Option Value) (base : Heap) (k : Nat) (C : Addr) (sp : Sp) : Prop where
  ex : ∃ (g : Addr) (fd : FuncData) (ps : List Str), StX.CallO K C g ∧ FnOk P w K mg base CX0 k g fd ps sp ∧ Binds K fd ps []
section
variable {X : Cx} {k j : Nat} {C : Addr} {f : Str} {sp : Sp} {e fe : Expr} {es : List Expr} {ta tf : TE} {t : TA} {pos : Pos}
end
end OwnP
end

section
set_option maxRecDepth 100000
set_option maxHeartbeats 4000000
/-! what is raised and caught; properties, instances called -/
namespace Y
open PySem PySem.Spec PyProof.Rows L2
/-! ### raise -/
section
variable {ρ α : Type} {F : Fx ρ} {G : Ct} {N B C : Ct → Prop} {t : Ty α}
theorem blk_raise0 {C0 : Addr} (h : F.X.xp G ⟨C0, none⟩) : Blk F (Own.tRaise0 C0 F.X.E) G N B C := fun W0 H0 W H σ D g hs n _ _ _ ex => ex ⟨C0, none⟩ none G W H σ h g hs trivial
end
/-! ### an exception in hand -/
theorem FldsOk.mv {W W' : Wd} {H H' : Hp} (m : Mv W H W' H') : ∀ {vs : List (Str × V)} {ss : List (Str × Sl)}, FldsOk W H vs ss → FldsOk W' H' vs ss
  | _, _, .nil => .nil
  | _, _, .cons r p => .cons (Ty.go _ r m) (FldsOk.mv m p)
def ErIn (W : Wd) (H : Hp) (e : Er) (d : Option Addr) : Prop := ∀ fs, e.fs = some fs → ∃ dd ws, d = some dd ∧ RdW W H dd (.xd ws) ∧ FldsOk W H ws fs
def tErr (a : Addr) (e : Er) (d : Option Addr) : Ty Unit := ⟨fun W H v _ => v = .ref a ∧ ErIn W H e d, by
  rintro W W' H H' v _ ⟨e1, h⟩ m
  refine ⟨e1, fun fs e2 => ?_⟩
  obtain ⟨dd, ws, h1, h2, h3⟩ := h fs e2
  exact ⟨dd, ws, h1, m.rd _ _ h2, h3.mv m⟩⟩
section
variable {α β ρ : Type} {t : Ty α} {u : Ty β} {X : Xw} {k : Bool} {G : Ct} {F : Fx ρ} {N B C : Ct → Prop}
/-! ### the clauses -/
def Catc (F : Fx ρ) (G : Ct) (N B C : Ct → Prop) (K : PySem.W.Frag) (Wo : WX) (r : List Own.Hn) (e : Er) : Prop :=
  ∀ W0 H0 W H σ (D : Ends) d, Go W0 H0 W H → Holds G W H σ →
    (∀ G' W' H' σ', N G' → Go W0 H0 W' H' → Holds G' W' H' σ' → D.nx σ' H') →
    (∀ G' W' H' σ', B G' → Go W0 H0 W' H' → Holds G' W' H' σ' → D.bk σ' H') →
    (∀ G' W' H' σ', C G' → Go W0 H0 W' H' → Holds G' W' H' σ' → D.ct σ' H') →
    (∀ v G' W' H' σ' x, F.rt G' x → Go W0 H0 W' H' → Holds G' W' H' σ' → F.r.R W' H' v x → D.rt v H') →
    (∀ e d G' W' H' σ', F.X.xp G' e → Go W0 H0 W' H' → Holds G' W' H' σ' → ErAt W' H' e d → F.X.E (.ref e.C) d σ' H') → ErAt W H e d → Own.wEv K Wo D r (.ref e.C) d σ H
variable {K : PySem.W.Frag} {Wo : WX} {z : Own.Hn} {r : List Own.Hn} {e : Er}
theorem catc_bare {cl : Value} {ts : Addr → Value → Option Addr → TS} (h1 : PySem.W.exmOne K (.ref e.C) cl = some true) (hb : ∀ a d, Blk F (ts a (.ref e.C) d) G N B C) : Catc F G N B C K Wo (⟨cl, none, ts⟩ :: r) e :=
  fun W0 H0 W H σ D d g hs n bk ct rt ex ea => ⟨true, h1, fun _ a _ => hb a d W0 H0 W H _ D g hs n bk ct rt ex, fun z => by cases z⟩
/-- try -/
theorem blk_try {tb : WX → TS} {xp : Ct → Er → Prop} (h : ∀ E, Blk ⟨F.r, F.rt, ⟨E, xp⟩⟩ (tb E) G N B C) (hc : ∀ G' e, xp G' e → Catc F G' N B C K Wo r e) : Blk F (Own.tryAp K Wo tb r) G N B C := fun W0 H0 W H σ D g hs n bk ct rt ex =>
  h (Own.wEv K Wo D r) W0 H0 W H σ D g hs n bk ct rt fun e d G' W' H' σ' p g' hs' ea => hc G' e p W0 H0 W' H' σ' D d g' hs' n bk ct rt ex ea
end
/-! ### properties, instances called -/
section
variable {ρ α β : Type} {c : CT ρ} {X : Xw} {k : Bool} {G : Ct} {t : Ty α} {u : Ty β}
def InC (C : Addr) (t : Ty α) : Prop := ∀ W H v x, OKW W H → t.R W H v x → ∃ o dx fs, v = .ref o ∧ H o = some (.ins C dx fs)
end
end Y
end

section
set_option maxRecDepth 100000
set_option maxHeartbeats 4000000
/-! a list unpacked -/
namespace Y
open PySem PySem.Spec PyProof.Rows L2
section
variable {α β γ : Type} {t : Ty α} {u : Ty β} {z : Ty γ} {K : PySem.W.Frag} {G : Ct} {N : Ct → Prop}
theorem tg_unl3 {g1 g2 g3 : TG} {x : α × β × γ} {vs : List Nat} (h : Tg g1 G t x.1 vs fun G1 => Tg g2 G1 u x.2.1 vs fun G2 => Tg g3 G2 z x.2.2 vs N) : Tg (gUnl K 3 (gCons g1 (gCons g2 (gCons g3 gNil)))) G (tL3 K t u z) x vs N := fun W H σ v Q hs r q => by
  obtain ⟨a, p, w, w3, rfl, sq, r1, r2, r3⟩ := r
  refine ⟨a, [p, w, w3], rfl, sq.l, rfl, p, [w, w3], rfl, h W H σ p _ hs r1 fun G1 σ1 h1 hs1 l1 k1 => ⟨w, [w3], rfl, h1 W H σ1 w _ hs1 r2 fun G2 σ2 h2 hs2 l2 k2 => ⟨w3, [], rfl, h2 W H σ2 w3 _ hs2 r3 fun G3 σ3 h3 hs3 l3 k3 => ⟨rfl, q G3 σ3 h3 hs3 (l3.trans (l2.trans l1)) fun i hi => (k3 i hi).trans ((k2 i hi).trans (k1 i hi))⟩⟩⟩⟩
end
end Y
end

section
set_option maxRecDepth 100000
set_option maxHeartbeats 4000000
/-! x is True, x is not False, of a bool or None -/
namespace Own
open PySem PySem.Spec PyProof.Rows L2
/-- a bool or None -/
def isPl : V → Bool
  | .bl _ => true
  | .non => true
  | _ => false
def rIsP : R2 := fun x y H Q => isPl x = true ∧ isPl y = true ∧ Q (.bl (decide (x = y))) H
def rNotP : R2 := fun x y H Q => isPl x = true ∧ isPl y = true ∧ Q (.bl (!decide (x = y))) H
section
variable {X : Cx}
end
end Own
end

section
set_option maxRecDepth 100000
set_option maxHeartbeats 4000000
/-! x is True of a bool or None; slices -/
namespace Y
open PySem PySem.Spec PyProof.Rows L2
theorem cut_to {α : Type} {xs : List α} {n : Int} (h : 0 ≤ n) : cutZ xs none (some n) = xs.take n.toNat := by
  obtain ⟨m, rfl⟩ := Int.eq_ofNat_of_zero_le h
  unfold cutZ
  rw [HT.sIx_nat, HT.sIx_none, Nat.sub_zero, List.drop_zero, Int.toNat_natCast]
  by_cases c : m ≤ xs.length
  · rw [Nat.min_eq_left c]
  · rw [Nat.min_eq_right (by omega), List.take_of_length_le (Nat.le_refl _), List.take_of_length_le (by omega)]
end Y
end

section
set_option maxRecDepth 100000
set_option maxHeartbeats 4000000
/-! slices up to, from -/
namespace Y
open PySem PySem.Spec PyProof.Rows L2
section
variable {K : PySem.W.Frag} {α : Type} {t : Ty α}
theorem sl_to : SLI (rSlL K) (tLs K t) (.ow (oL K t)) (fun xs lo hi P => ∃ m : Nat, lo = none ∧ hi = some (m : Int) ∧ P (xs.take m)) := by
  rintro W H v xs lo hi Q P ok r ⟨m, rfl, rfl, c⟩ q
  refine sl_lst W H v xs _ _ Q P ok r ?_ q
  show P (cutZ xs none (some (m : Int)))
  rw [cut_to (by omega), Int.toNat_natCast]
  exact c
end
/-- the slots told anew, as they are -/
theorem blk_norm {ρ : Type} {F : Fx ρ} {ts : TS} {G : Ct} {N B C : Ct → Prop} (G' : Ct) (e : G = G') (h : Blk F ts G' N B C) : Blk F ts G N B C := by
  rw [e]
  exact h
end Y
end

section
set_option maxRecDepth 100000
set_option maxHeartbeats 4000000
/-! a list of four unpacked, made -/
namespace Y
open PySem PySem.Spec PyProof.Rows L2
section
variable {α β γ δ : Type} {t : Ty α} {u : Ty β} {z : Ty γ} {y : Ty δ} {K : PySem.W.Frag} {G : Ct} {N : Ct → Prop} {X : Xw} {k : Bool}
end
end Y
end

section
set_option maxRecDepth 100000
set_option maxHeartbeats 4000000
/-! zip of two tuples -/
namespace Y
open PySem PySem.Spec PyProof.Rows L2 RZ
section
variable {α β : Type} {t : Ty α} {u : Ty β} {K : PySem.W.Frag} {G : Ct} {X : Xw} {k : Bool} {a b : Addr} {xs ys : List V}
end
end Y
end

section
set_option maxRecDepth 100000
set_option maxHeartbeats 4000000
/-! tuples of texts compared -/
namespace Y
open PySem PySem.Spec PyProof.Rows L2
section
variable {K : PySem.W.Frag}
end
end Y
end

section
set_option maxRecDepth 100000
set_option maxHeartbeats 4000000
/-! a == b by the class's own __eq__, both of the class -/
namespace Y
open PySem PySem.Spec PyProof.Rows L2
section
variable {α ρ : Type} {X : Xw} {k : Bool} {G : Ct} {t : Ty α} {c : CT ρ}
end
end Y
end

section
set_option maxRecDepth 100000
set_option maxHeartbeats 4000000
/-! pairs of ints compared; a list of things that are there, read as a list of things -/
namespace Y
open PySem PySem.Spec PyProof.Rows L2
section
variable {K : PySem.W.Frag}
end
end Y
end

section
set_option maxRecDepth 100000
set_option maxHeartbeats 4000000
/-! the head's facts with properties: five steps, and the getters' codes by name -/
namespace OwnP
open PySem PySem.Spec PyProof.Rows L2 He OwnH OwnQ
def codA (K : PySem.W.Frag) (d : PrD) : List Addr := match K.lookup (gAd K d) with
  | some ⟨_, _, .func fd, _⟩ => refV fd.code
  | _ => []
def asP (g : Addr → Option Obj) (n : Nat) (pr : List PrD) : List Addr := asO g n ++ pr.flatMap fun d => codA (frG g (asO g n)) d
def obsK (file : Str) (fa : List Fa) (fn : List DefD) (er : List ErrD) (ck : PySem.W.Frag → Bool) (pr : List PrD) (K : PySem.W.Frag) : AlP := (((obsD fa fn K, er.all (fun d => errB file K d), er.map fun d => fnC K d.at_), ck K), pr.all (fun d => prB K d), pr.map fun d => prO K d)
def obsR (file : Str) (n : Nat) (fa : List Fa) (fn : List DefD) (er : List ErrD) (ck : PySem.W.Frag → Bool) (pr : List PrD) (g : Addr → Option Obj) : AlP := obsK file fa fn er ck pr (frG g (asP g n pr))
def hookR (file : Str) (n : Nat) (fa : List Fa) (fn : List DefD) (er : List ErrD) (ck : PySem.W.Frag → Bool) (pr : List PrD) : PySem.W.Hook where
  α := AlP
  obs := fun s => obsR file n fa fn er ck pr s.heap.get?
  val := fun _ => ((valO fn er, true), true, pr.map PrD.val)
  says := fun _ h => ∃ K : PySem.W.Frag, K.In h ∧ SaysO file fa fn er K ∧ ck K = true ∧ pr.all (fun d => prB K d) = true ∧ (pr.map fun d => prO K d) = pr.map PrD.val
  of := fun _ s e => ⟨_, frG_in, ⟨congrArg (fun z : AlP => z.1.1.1) e, congrArg (fun z : AlP => z.1.1.2.1) e, congrArg (fun z : AlP => z.1.1.2.2) e⟩, congrArg (fun z : AlP => z.1.2) e, congrArg (fun z : AlP => z.2.1) e, congrArg (fun z : AlP => z.2.2) e⟩
  keeps := fun _ _ _ ⟨K, hK, c⟩ k => ⟨K, PySem.W.Frag.In.keeps hK k, c⟩
end OwnP
end

section
set_option maxRecDepth 100000
set_option maxHeartbeats 4000000
/-! d.update(e): what stands in e is put into d -/
namespace Own
open PySem PySem.Spec PyProof.Rows L2
def putAll (ws us : List (Key × V)) : List (Key × V) := us.foldl (fun acc p => putK acc p.1 p.2) ws
def rDUpd : V → List V → Hp → VK → Prop := fun x vs H Q => ∃ (a b : Addr) (ws us : List (Key × V)), x = .ref a ∧ vs = [.ref b] ∧ a ≠ b ∧ H a = some (.dK ws) ∧ Rd H b (.dK us) ∧ ws.length + us.length ≤ sizeLine ∧ Q .non (upd H a (.dK (putAll ws us)))
end Own
end

section
set_option maxRecDepth 100000
set_option maxHeartbeats 4000000
/-! d.update(e) -/
namespace Y
open PySem PySem.Spec PyProof.Rows L2
section
variable {α κ ρ : Type} {F : Fx ρ} {G : Ct} {N B C : Ct → Prop} {t : Ty α} {X : Xw} {K : PySem.W.Frag} {ke : Ky κ} {tk : Ty κ} [DecidableEq κ]
def mrgZ (xs ys : List (κ × α)) : List (κ × α) := ys.foldl (fun a e => putZ a e.1 e.2) xs
end
end Y
end

section
set_option maxRecDepth 100000
set_option maxHeartbeats 4000000
/-! xs[-2::-1]: from the last but one backwards -/
namespace Own
open PySem PySem.Spec PyProof.Rows L2
def tRevF (K : PySem.W.Frag) (te : TE) : TE := fun σ H Q => te σ H fun x H1 => ∃ a xs, x = .ref a ∧ SqL K H1 a xs ∧ 0 < xs.length ∧ ∀ p, H1 p = none → Q (.ref p) (upd H1 p (.lst xs.dropLast.reverse))
end Own
end

section
set_option maxRecDepth 100000
set_option maxHeartbeats 4000000
/-! xs[-2::-1] -/
namespace Y
open PySem PySem.Spec PyProof.Rows L2
section
variable {α : Type} {X : Xw} {k : Bool} {G : Ct} {K : PySem.W.Frag} {t : Ty α}
end
end Y
end

section
set_option maxRecDepth 100000
set_option maxHeartbeats 4000000
/-! n & 1 -/
namespace Y
open PySem PySem.Spec PyProof.Rows L2
def rOdd : R2 := fun x y H Q => ∃ n : Nat, x = .int (n : Int) ∧ y = .int 1 ∧ Q (.int ((n % 2 : Nat) : Int)) H
/-! a comprehension over a dict, assigned to a name -/
section
variable {ρ : Type} {F : Fx ρ} {G : Ct} {N B C : Ct → Prop}
end
end Y
end

section
set_option maxRecDepth 100000
set_option maxHeartbeats 4000000
/-! x != y, dicts from texts to ints that are read: both answers -/
namespace Own
open PySem PySem.Spec PyProof.Rows L2
def rNeDG : R2 := fun x y H Q => ∃ a b zs ws, x = .ref a ∧ y = .ref b ∧ Rd H a (.dK (dZ zs)) ∧ Rd H b (.dK (dZ ws)) ∧ Q (.bl (!eqZ zs ws)) H
end Own
end

section
set_option maxRecDepth 100000
set_option maxHeartbeats 4000000
/-! dicts of ints by texts: not the same -/
namespace Y
open PySem PySem.Spec PyProof.Rows L2
end Y
end

section
set_option maxRecDepth 100000
set_option maxHeartbeats 4000000
/-! a list [a, b, c] of one's own, its second one's own too -/
namespace Y
open PySem PySem.Spec PyProof.Rows L2
section
variable {α β γ : Type}
def oL3m (K : PySem.W.Frag) (t : Ty α) (O : OT γ) (u : Ty β) : OT (α × γ × β) where
  R p W H v x := ∃ a v1 v2 v3, v = .ref a ∧ W a = .ow p ∧ H a = some (.lst [v1, v2, v3]) ∧ t.R W H v1 x.1 ∧ O.R (p ++ [1]) W H v2 x.2.1 ∧ u.R W H v3 x.2.2
  sv := tL3 K t O.sv u
  mv := by
    rintro p p' W W' H H' v x ⟨a, v1, v2, v3, e, w, h, r1, r2, r3⟩ kk m
    obtain ⟨w1, h1⟩ := kk a _ [] (by rw [List.append_nil]; exact w) h
    refine ⟨a, v1, v2, v3, e, by rw [List.append_nil] at w1; exact w1, h1, t.go r1 m, O.mv r2 (fun b o q w e => ?_) m, u.go r3 m⟩
    have := kk b o ([1] ++ q) (by rw [← List.append_assoc]; exact w) e
    rwa [← List.append_assoc] at this
  fz := by
    rintro p W W' H H' v x ⟨a, v1, v2, v3, e, w, h, r1, r2, r3⟩ kk m
    obtain ⟨w1, h1⟩ := kk a _ [] (by rw [List.append_nil]; exact w) h
    exact ⟨a, v1, v2, v3, e, ⟨w1, h1⟩, t.go r1 m, O.fz r2 (fun b o q w e => kk b o ([1] ++ q) (by rw [← List.append_assoc]; exact w) e) m, u.go r3 m⟩
variable {G : Ct} {K : PySem.W.Frag} {t : Ty α} {u : Ty β}
def push1 (W : Wd) : Wd := fun b => match W b with
  | .ow (j :: r) => if j = tmp then .ow (tmp :: 1 :: r) else .ow (j :: r)
  | w => w
variable {X : Xw}
end
end Y
end

section
set_option maxRecDepth 100000
set_option maxHeartbeats 4000000
/-! equality of nested values: ==, !=, in, not in -/
namespace PySem.SeqAt
open AutoSeq1 (wpAny_loadPart')
open MeetsSeq MeetsSeq2 MeetsSeq3 SeqRoads2
section
variable {pg : Program} {w : World}
end
section
variable {pg : Program} {w : World} {A : Around} {s : Shared} {E : Value → Shared → Prop}
end
end PySem.SeqAt
namespace Own
open PySem PySem.Spec PyProof.Rows L2
/-- x == y tells b, at most n deep -/
inductive EqG (K : PySem.W.Frag) (H : Hp) : Nat → V → V → Bool → Prop
  | same {n : Nat} {v : V} : sameB v = true → EqG K H n v v true
  | leaf {n : Nat} {v y : V} : flatV v = true → flatV y = true → EqG K H n v y (eqV v y)
  | lists {n : Nat} {a b : Addr} {xs ys : List V} {e : Nat → Bool} : a ≠ b → SqL K H a xs → SqL K H b ys → xs.length = ys.length → (∀ j x y, xs[j]? = some x → ys[j]? = some y → EqG K H n x y (e j)) → EqG K H (n + 1) (.ref a) (.ref b) ((List.range xs.length).all e)
  | dicts {n : Nat} {a b : Addr} {ks ls : List (Key × V)} {e : Key → Bool} : a ≠ b → Rd H a (.dK ks) → Rd H b (.dK ls) → (∀ k v y, (k, v) ∈ ks → valV ls k = some y → EqG K H n v y (e k)) → EqG K H (n + 1) (.ref a) (.ref b) (ks.length == ls.length && ks.all fun p => (valV ls p.1).isSome && e p.1)
section
variable {X : Cx} {pins : List (Addr × Obj)} {σ : L2.St} {H : Hp} {s : Shared}
end
/-- the value without its token -/
def noTok : Value → V
  | .none => .non
  | .bool b => .bl b
  | .int i _ => .int i
  | .str z _ => .str z
  | .ref a => .ref a
  | _ => .non
def isRefB : V → Bool
  | .ref _ => true
  | _ => false
/-- x in xs, a list -/
def rInG (K : PySem.W.Frag) (neg : Bool) : R2 := fun x y H Q => ∃ p xs f, y = .ref p ∧ SqL K H p xs ∧ (∀ z ∈ xs, (flatV z = true ∨ isRefB z = true) ∧ EqG K H 60 z x (f z)) ∧ Q (.bl (if neg then !xs.any f else xs.any f)) H
/-- xs == ys, xs != ys: lists of one length -/
def rEqGL (K : PySem.W.Frag) (neg : Bool) : R2 := fun x y H Q => ∃ a b xs ys e, x = .ref a ∧ y = .ref b ∧ SqL K H a xs ∧ SqL K H b ys ∧ xs.length = ys.length ∧ (∀ j x y, xs[j]? = some x → ys[j]? = some y → EqG K H 60 x y (e j)) ∧ Q (.bl (if neg then !(List.range xs.length).all e else (List.range xs.length).all e)) H
end Own
end

section
set_option maxRecDepth 100000
set_option maxHeartbeats 4000000
/-! nested equality, typed; a list of two whose second is one's own; plain errors -/
namespace Y
open PySem PySem.Spec PyProof.Rows L2
/-! ### equality -/
/-- values of u and t compared -/
def EqT {α β : Type} (K : PySem.W.Frag) (n : Nat) (u : Ty α) (t : Ty β) (C : α → β → Prop) (f : α → β → Bool) : Prop := ∀ W H v w x y, OKW W H → u.R W H v x → t.R W H w y → C x y → Own.EqG K H n v w (f x y)
/-- a value stands for one thing, and is flat or at an address -/
def FnT {α : Type} (t : Ty α) : Prop := ∀ W H v x, t.R W H v x → (flatV v = true ∨ Own.isRefB v = true) ∧ ∀ y, t.R W H v y → x = y
section
variable {K : PySem.W.Frag} {α β : Type}
end
/-! dicts of ints -/
section
variable {K : PySem.W.Frag} {κ : Type} [DecidableEq κ] {ke : Ky κ}
def eqDZ (x y : List (κ × Int)) : Bool := x.length == y.length && x.all fun p => decide (lookK y p.1 = some p.2)
end
/-! ### what is never told -/
section
variable {α β γ : Type} {X : Xw} {k : Bool} {G : Ct} {t : Ty α} {u : Ty β} {K : PySem.W.Frag}
theorem ev_void {te : TE} {r : Rt α} {r' : Rt β} {P : Ct → β → Prop} (h : EvR X k te G r fun _ _ => False) : EvR X k te G r' P := fun W H σ Q hs ex q => h W H σ Q hs ex fun v W1 H1 G1 x p m r => p.elim
/-! ### [a, b], b one's own -/
def oL2 (K : PySem.W.Frag) (t : Ty α) (O : OT γ) : OT (α × γ) where
  R p W H v x := ∃ a v1 v2, v = .ref a ∧ W a = .ow p ∧ H a = some (.lst [v1, v2]) ∧ t.R W H v1 x.1 ∧ O.R (p ++ [1]) W H v2 x.2
  sv := tL2 K t O.sv
  mv := by
    rintro p p' W W' H H' v x ⟨a, v1, v2, e, w, h, r1, r2⟩ kk m
    obtain ⟨w1, h1⟩ := kk a _ [] (by rw [List.append_nil]; exact w) h
    refine ⟨a, v1, v2, e, by rw [List.append_nil] at w1; exact w1, h1, t.go r1 m, O.mv r2 (fun b o q w e => ?_) m⟩
    have := kk b o ([1] ++ q) (by rw [← List.append_assoc]; exact w) e
    rwa [← List.append_assoc] at this
  fz := by
    rintro p W W' H H' v x ⟨a, v1, v2, e, w, h, r1, r2⟩ kk m
    obtain ⟨w1, h1⟩ := kk a _ [] (by rw [List.append_nil]; exact w) h
    exact ⟨a, v1, v2, e, ⟨w1, h1⟩, t.go r1 m, O.fz r2 (fun b o q w e => kk b o ([1] ++ q) (by rw [← List.append_assoc]; exact w) e) m⟩
end
end Y
namespace KK
open PySem PySem.Spec PyProof.Rows L2
/-- what the class of a plain own error has -/
structure ErrN (K : PySem.W.Frag) (mg : Str → Option Value) (x : Str) (C : Addr) : Prop where
  gC : mg x = some (.ref C)
  q : PySem.W.excIn K C He.veBase "ValueError.__new__" = true
  kC : PySem.W.keepIn K (.ref C) = true
  exC : PySem.W.subIn K (.ref C) (.type "BaseException") = some true
  tyC : PySem.W.typeIn K (.ref C) = some (.type "type")
theorem errN_of {K : PySem.W.Frag} {mg : Str → Option Value} {x : Str} {C : Addr} (h : PySem.W.excIn K C He.veBase "ValueError.__new__" = true ∧ PySem.W.keepIn K (.ref C) = true ∧ PySem.W.subIn K (.ref C) (.type "BaseException") = some true ∧ PySem.W.typeIn K (.ref C) = some (.type "type")) (g : mg x = some (.ref C)) : ErrN K mg x C := ⟨g, h.1, h.2.1, h.2.2.1, h.2.2.2⟩
end KK
end

section
set_option maxRecDepth 100000
set_option maxHeartbeats 4000000
/-! values of any kind, told by themselves -/
namespace Y
open PySem PySem.Spec PyProof.Rows L2
def KindW (K : PySem.W.Frag) (W : Wd) (H : Hp) (v : V) : Prop := flatV v = true ∨ (∃ a vs, v = .ref a ∧ SqW K W H a vs) ∨ (∃ a vs, v = .ref a ∧ SqTW K W H a vs) ∨ ∃ a ws, v = .ref a ∧ RdW W H a (.dK ws)
theorem KindW.mv {K : PySem.W.Frag} {W W' : Wd} {H H' : Hp} {v : V} (h : KindW K W H v) (m : Mv W H W' H') : KindW K W' H' v := by
  rcases h with h | ⟨a, vs, e, h⟩ | ⟨a, vs, e, h⟩ | ⟨a, ws, e, h⟩
  · exact .inl h
  · exact .inr (.inl ⟨a, vs, e, h.mv m⟩)
  · exact .inr (.inr (.inl ⟨a, vs, e, h.mv m⟩))
  · exact .inr (.inr (.inr ⟨a, ws, e, m.rd _ _ h⟩))
/-- the value itself is what is told -/
def tV (K : PySem.W.Frag) : Ty V := ⟨fun W H v x => v = x ∧ KindW K W H v, fun ⟨e, h⟩ m => ⟨e, h.mv m⟩⟩
def isIntV : V → Bool
  | .int _ => true
  | .bl _ => true
  | _ => false
def isBlV : V → Bool
  | .bl _ => true
  | _ => false
def isStrV : V → Bool
  | .str _ => true
  | _ => false
section
variable {α β γ κ : Type} {t : Ty α} {X : Xw} {k : Bool} {G : Ct} {K : PySem.W.Frag}
theorem tyV {W : Wd} {H : Hp} {v : V} (ok : OKW W H) (h : KindW K W H v) : ∃ A, TyX K H v (.type A) ∧ kitB A "int" = some (isIntV v) ∧ kitB A "bool" = some (isBlV v) ∧ kitB A "str" = some (isStrV v) := by
  rcases h with h | ⟨a, vs, rfl, h⟩ | ⟨a, vs, rfl, h⟩ | ⟨a, ws, rfl, h⟩
  · cases v with
    | non => exact ⟨_, .base .non, by decide +kernel, by decide +kernel, by decide +kernel⟩
    | bl b => exact ⟨_, .base (.bl b), by simp only [isIntV]; decide +kernel, by simp only [isBlV]; decide +kernel, by simp only [isStrV]; decide +kernel⟩
    | int b => exact ⟨_, .base (.int b), by simp only [isIntV]; decide +kernel, by simp only [isBlV]; decide +kernel, by simp only [isStrV]; decide +kernel⟩
    | str b => exact ⟨_, .base (.str b), by simp only [isIntV]; decide +kernel, by simp only [isBlV]; decide +kernel, by simp only [isStrV]; decide +kernel⟩
    | _ => cases h
  · exact ⟨_, .base (.lst h.2), by simp only [isIntV]; decide +kernel, by simp only [isBlV]; decide +kernel, by simp only [isStrV]; decide +kernel⟩
  · exact ⟨_, .base (.tup (h.at ok)), by simp only [isIntV]; decide +kernel, by simp only [isBlV]; decide +kernel, by simp only [isStrV]; decide +kernel⟩
  · rcases h with ⟨_, h⟩ | ⟨_, od, h⟩
    · exact ⟨_, .base (.dK h), by simp only [isIntV]; decide +kernel, by simp only [isBlV]; decide +kernel, by simp only [isStrV]; decide +kernel⟩
    · exact ⟨_, .fDict h, by simp only [isIntV]; decide +kernel, by simp only [isBlV]; decide +kernel, by simp only [isStrV]; decide +kernel⟩
theorem ev_isVg {T : String} {f : V → Bool} (hf : ∀ W H v, OKW W H → KindW K W H v → ∃ A, TyX K H v (.type A) ∧ kitB A T = some (f v)) {te : TE} {P : Ct → Bool → Prop} (h : Ev X k te G (tV K) fun G1 x => P G1 (f x)) : Ev X k (tCB (rIsi K) (tCons te (tCons (tC (.ty T)) tNil))) G tBl P := fun W H σ Q hs ex q =>
  h W H σ _ hs ex fun v W1 H1 G1 x p m r => by
    obtain ⟨rfl, r⟩ := r
    obtain ⟨A, ty, kb⟩ := hf W1 H1 v m.hs.ok r
    exact ⟨v, .ty T, .type A, .type T, _, rfl, .ty T, ty, kit_ty kb, q _ W1 H1 G1 _ p m rfl⟩
theorem ev_isVb {te : TE} {P : Ct → Bool → Prop} (h : Ev X k te G (tV K) fun G1 x => P G1 (isBlV x)) : Ev X k (tCB (rIsi K) (tCons te (tCons (tC (.ty "bool")) tNil))) G tBl P := ev_isVg (fun W H v ok r => by obtain ⟨A, h1, _, h2, _⟩ := tyV ok r; exact ⟨A, h1, h2⟩) h
theorem ev_isVs {te : TE} {P : Ct → Bool → Prop} (h : Ev X k te G (tV K) fun G1 x => P G1 (isStrV x)) : Ev X k (tCB (rIsi K) (tCons te (tCons (tC (.ty "str")) tNil))) G tBl P := ev_isVg (fun W H v ok r => by obtain ⟨A, h1, _, _, h2⟩ := tyV ok r; exact ⟨A, h1, h2⟩) h
/-! told as of any kind -/
theorem ev_Vi {te : TE} {P : Ct → V → Prop} (h : Ev X k te G tInt fun G x => P G (.int x)) : Ev X k te G (tV K) P := Ev.as V.int h fun W H v x r => ⟨r, .inl (by rw [show v = V.int x from r]; rfl)⟩
theorem ev_Vs {te : TE} {P : Ct → V → Prop} (h : Ev X k te G tStr fun G x => P G (.str x)) : Ev X k te G (tV K) P := Ev.as V.str h fun W H v x r => ⟨r, .inl (by rw [show v = V.str x from r]; rfl)⟩
theorem ev_Vb {te : TE} {P : Ct → V → Prop} (h : Ev X k te G tBl fun G x => P G (.bl x)) : Ev X k te G (tV K) P := Ev.as V.bl h fun W H v x r => ⟨r, .inl (by rw [show v = V.bl x from r]; rfl)⟩
theorem ev_Vref {te : TE} {u : Ty α} {P : Ct → V → Prop} (c : ∀ W H v x, u.R W H v x → ∃ a, v = .ref a ∧ KindW K W H v) (h : Ev X k te G u fun G _ => ∀ a, P G (.ref a)) : Ev X k te G (tV K) P := fun W H σ Q hs ex q => h W H σ Q hs ex fun v W1 H1 G1 x p m r => by
  obtain ⟨a, rfl, kd⟩ := c _ _ _ _ r
  exact q _ W1 H1 G1 _ (p a) m ⟨rfl, kd⟩
theorem ev_Vl {te : TE} {P : Ct → V → Prop} (h : Ev X k te G (tLs K t) fun G _ => ∀ a, P G (.ref a)) : Ev X k te G (tV K) P := ev_Vref (u := tLs K t) (fun W H v x ⟨a, vs, e, h, _⟩ => ⟨a, e, .inr (.inl ⟨a, vs, e, h⟩)⟩) h
theorem ev_Vd {ke : Ky κ} {te : TE} {P : Ct → V → Prop} (h : Ev X k te G (tDk ke t) fun G _ => ∀ a, P G (.ref a)) : Ev X k te G (tV K) P := ev_Vref (u := tDk ke t) (fun W H v x ⟨a, vs, e, h, _⟩ => ⟨a, e, .inr (.inr (.inr ⟨a, vs, e, h⟩))⟩) h
/-! and read again -/
theorem ev_asS {te : TE} {P : Ct → Str → Prop} (h : Ev X k te G (tV K) fun G x => ∃ i, x = .str i ∧ P G i) : Ev X k te G tStr P := fun W H σ Q hs ex q => h W H σ Q hs ex fun v W1 H1 G1 x ⟨i, e, p⟩ m r => q v W1 H1 G1 i p m (by obtain ⟨rfl, _⟩ := r; exact e)
/-! [s, v] against [s, v] -/
/-! dicts of any keys and values, or no dict -/
def kK : Ky Key := ⟨id, fun _ _ h => h⟩
def tKy : Ty Key := ⟨fun _ _ v k => v = kV k, fun h _ => h⟩
def anyD (d : List (Str × Int)) : List (Key × V) := d.map fun e => (Sum.inr e.1, V.int e.2)
def tAD (K : PySem.W.Frag) : Ty (Option (List (Key × V))) := ⟨fun W H v o => match o with
  | some d => (tDk kK (tV K)).R W H v d
  | none => flatV v = true ∨ (∃ a vs, v = .ref a ∧ SqW K W H a vs) ∨ ∃ a vs, v = .ref a ∧ SqTW K W H a vs, by
  rintro W W' H H' v (_ | d) r m
  · rcases r with h | ⟨a, vs, e, sq⟩ | ⟨a, vs, e, sq⟩
    · exact .inl h
    · exact .inr (.inl ⟨a, vs, e, sq.mv m⟩)
    · exact .inr (.inr ⟨a, vs, e, sq.mv m⟩)
  · exact (tDk kK (tV K)).go (x := d) r m⟩
end
end Y
end

section
set_option maxRecDepth 100000
set_option maxHeartbeats 4000000
/-! xs[::-1] of a tuple -/
namespace Own
open PySem PySem.Spec PyProof.Rows L2
section
variable {pg : Program} {w : World} {A : Around} {s : Shared} {E : Value → Shared → Prop}
theorem fm_map {α β : Type} {f : α → Option β} {g : α → β} : ∀ {l : List α}, (∀ x ∈ l, f x = some (g x)) → l.filterMap f = l.map g
  | [], _ => rfl
  | a :: l, h => by
    rw [List.filterMap_cons, h a List.mem_cons_self, List.map_cons, fm_map fun x hx => h x (List.mem_cons_of_mem _ hx)]
theorem revA_pick (zs : Array Value) : ((List.range zs.size).filterMap fun (m : Nat) => zs[(((zs.size : Int) - 1) + (m : Int) * (-1)).toNat]?).toArray = zs.toList.reverse.toArray := by
  congr 1
  refine List.ext_getElem? fun j => ?_
  have e : (List.range zs.size).filterMap (fun (m : Nat) => zs[(((zs.size : Int) - 1) + (m : Int) * (-1)).toNat]?) = (List.range zs.size).map fun m => zs[zs.size - 1 - m]?.getD .none := by
    refine fm_map fun m hm => ?_
    have lt := List.mem_range.mp hm
    have : (((zs.size : Int) - 1) + (m : Int) * (-1)).toNat = zs.size - 1 - m := by omega
    rw [this]
    rw [Array.getElem?_eq_getElem (by omega)]
    rfl
  rw [e, List.getElem?_map]
  by_cases c : j < zs.size
  · rw [List.getElem?_range c, List.getElem?_reverse (by rw [Array.length_toList]; exact c), Array.length_toList]
    show some (zs[zs.size - 1 - j]?.getD .none) = zs.toList[zs.size - 1 - j]?
    rw [Array.getElem?_toList, Array.getElem?_eq_getElem (by omega)]
    rfl
  · rw [List.getElem?_eq_none (by rw [List.length_range]; omega), List.getElem?_eq_none (by rw [List.length_reverse, Array.length_toList]; omega)]
    rfl
theorem revA_places (n : Nat) : Builtin.Slice.sliceAdjust none none (-1) (n : Int) = ((n : Int) - 1, -1) ∧ Builtin.Slice.slicePlaces ((n : Int) - 1) (-1) (-1) = n := by
  constructor
  · rfl
  · unfold Builtin.Slice.slicePlaces
    have h1 : ¬ ((-1 : Int) > 0) := by omega
    simp only [h1, if_false]
    split
    · simp
    · omega
theorem revA_applied {sl : Addr} {vs : Value} {n : Nat} {Q : Int × Int × Nat → Shared → Prop} (hs : s.heap.IsSliceOf sl .none .none vs) (ps : IsPart vs (some (-1))) (h : Q ((n : Int) - 1, -1, n) s) : wpAny (model pg w) A (Builtin.Slice.sliceApplied (.ref sl) (pure (n : Int))) Q E s := by
  obtain ⟨os, h1, h2, h3⟩ := id hs
  unfold Builtin.Slice.sliceApplied Builtin.Slice.sliceFields
  refine wpAny_bind (wpAny_bind (wpAny_field h1 h3 (x := .none) rfl (wpAny_bind (wpAny_field h1 h3 (x := .none) rfl (wpAny_bind (wpAny_field h1 h3 (x := vs) rfl (wpAny_pure ?_)))))))
  refine wpAny_bind (HT.slicePart_ ps ?_)
  show wpAny _ _ (if ((-1 : Int) == 0) = true then _ else _) _ _ s
  rw [if_neg (by decide)]
  refine wpAny_bind (slicePart_none (wpAny_bind (slicePart_none (wpAny_bind (wpAny_pure ?_)))))
  show wpAny _ _ (match Builtin.Slice.sliceAdjust none none (-1) (n : Int) with | (lo, hi) => pure (lo, (-1 : Int), Builtin.Slice.slicePlaces lo hi (-1))) _ _ s
  rw [(revA_places n).1]
  show wpAny _ _ (pure ((n : Int) - 1, (-1 : Int), Builtin.Slice.slicePlaces ((n : Int) - 1) (-1) (-1))) _ _ s
  rw [(revA_places n).2]
  exact wpAny_pure h
theorem revA_get {t sl : Addr} {zs : Array Value} {vs : Value} {Q : Value → Shared → Prop} (ht : IsTup s.heap t zs) (hs : s.heap.IsSliceOf sl .none .none vs) (ps : IsPart vs (some (-1)))
    (h : Q (.ref s.heap.objs.size) { s with heap := s.heap.push { cls := .type "tuple", data := .seq zs.toList.reverse.toArray } }) (hsz : zs.size ≤ sizeLine) : wpAny (model pg w) A (getItem (.ref t) (.ref sl)) Q E s := by
  have ok : sizeOk (.seq zs.toList.reverse.toArray) := by
    show zs.toList.reverse.toArray.size ≤ sizeLine
    rw [List.size_toArray, List.length_reverse, Array.length_toList]
    exact hsz
  obtain ⟨os, h1, h2, h3⟩ := id hs
  have ty : s.TypeIs (.ref sl) "slice" := ⟨os, h1, h2⟩
  unfold getItem
  try with_reducible refine wpAny_holding ?_
  first | refine wpAny_bind (wpAny_pure ?_) | skip
  refine wpAny_bind (wpAny_sequenceKey ht.typeIs (by decide) ?_)
  refine wpAny_bind (wpAny_callSpecial?_slot (name := Str.ofString "__getitem__") ht.typeIs PyProof.Rows.slot_tuple_getitem
    (wpAny_call_entry PyProof.Rows.slot_tuple_getitem ht.typeIs entry_tuple_getitem ?_ (args_tuple_getitem _ _)))
  show wpAny _ _ (Builtin.Tuple.tupleItemsOf (.ref t) >>= _) _ _ s
  refine wpAny_bind (tupleItemsOf_ ht ?_)
  refine wpAny_bind (wpAny_typeOf ty ?_)
  rw [if_pos (by decide)]
  refine wpAny_bind (revA_applied hs ps ?_)
  have no : ¬ ((((zs.size : Int) - 1) == 0 && (-1 : Int) == 1 && zs.size == zs.size) = true) := by simp
  show wpAny _ _ (if (((zs.size : Int) - 1) == 0 && (-1 : Int) == 1 && zs.size == zs.size) = true then _ else _) _ _ s
  rw [if_neg no, revA_pick]
  first
    | exact wpAny_bind (m := Builtin.Tuple.tupleExact _) (wpAny_newObj_type (wpAny_pure ⟨_, rfl, wpAny_pure h⟩) ok)
    | exact wpAny_bind (m := Builtin.Tuple.tupleExact _) (wpAny_newObj_type (wpAny_bind (wpAny_pure (wpAny_pure ⟨_, rfl, wpAny_pure h⟩))) ok)
    | exact wpAny_bind (wpAny_bind (m := Builtin.Tuple.tupleExact _) (wpAny_newObj_type (wpAny_pure (wpAny_pure ⟨_, rfl, wpAny_pure h⟩)) ok))
    | exact wpAny_bind (wpAny_bind (m := Builtin.Tuple.tupleExact _) (wpAny_newObj_type (wpAny_pure ⟨_, rfl, wpAny_pure h⟩) ok))
end
def tRevA (K : PySem.W.Frag) (te : TE) : TE := fun σ H Q => te σ H fun x H1 => ∃ a xs, x = .ref a ∧ SqT K H1 a xs ∧ ∀ p, H1 p = none → Q (.ref p) (upd H1 p (.tup xs.reverse))
theorem pe_revA {X : Cx} {e : Expr} {te : TE} {k : Nat} {p1 p2 p3 pos : Pos} (he : PE X e te) : PE X (.Subscript e (.Slice none none (some (.UnaryOp .USub (.Constant (.int 1) k p1) p2)) p3) pos) (tRevA X.K te) := by
  refine ⟨fun pins s σ H Q I h => ?_⟩
  refine Subscript_ (thn (he.run pins s σ H _ I h) fun v s1 ⟨x, H1, I1, r1, q1⟩ => ?_)
  obtain ⟨a, xs, ex, hx, q⟩ := q1
  subst ex
  cases r1
  have st : PO X (some (.UnaryOp .USub (.Constant (.int 1) k p1) p2)) (tPart (tUn (rU fun i => .int (-i)) (tC (.int 1)))) := po_some (pe_un un_neg pe_int)
  refine wpAny_Slice (thn (po_none.run pins s1 σ H1 (fun o H2 => o = none ∧ H2 = H1) I1 ⟨rfl, rfl⟩) fun vl s2 ⟨l, H2, I2, pl, el, e2⟩ => ?_)
  subst el e2
  refine thn (po_none.run pins s2 σ H2 (fun o H3 => o = none ∧ H3 = H2) I2 ⟨rfl, rfl⟩) fun vu s3 ⟨u, H3, I3, pu, eu, e3⟩ => ?_
  subst eu e3
  refine thn (st.run pins s3 σ H3 (fun o H4 => o = some (-1) ∧ H4 = H3) I3 ⟨1, rfl, -1, rfl, rfl, rfl⟩) fun vs s4 ⟨o, H4, I4, ps, eo, e4⟩ => ?_
  subst eo e4
  cases pl
  cases pu
  have I5 : Inv X pins σ H4 { s4 with heap := s4.heap.push { cls := .type "slice", data := .fields #[.none, .none, vs] } } := I4.kept (t' := s4.toks) fun b ob q => Heap.get?_push_of_some _ q
  obtain ⟨its, r, ht, hz⟩ := I5.tuple hx
  have ln := r.length
  show wpAny (model X.prog X.w) X.A (subscriptTail e (.Slice none none (some (.UnaryOp .USub (.Constant (.int 1) k p1) p2)) p3) (.ref a) (.ref s4.heap.objs.size)) (EP X pins σ Q) X.xe { s4 with heap := s4.heap.push { cls := .type "slice", data := .fields #[.none, .none, vs] } }
  refine tail_any (ops := [.ref a, .ref s4.heap.objs.size]) ht.typeIs (PyProof.Rows.slot_tuple_getitem.lookup) ?_ (by with_unfolding_all rfl)
  refine revA_get ht (Heap.IsSliceOf.new _ .none .none vs) ps ?_ (by rw [List.size_toArray]; omega)
  refine ⟨.ref _, _, I5.laid (t' := s4.toks) (o := .tup xs.reverse) (fun b ob q => Heap.get?_push_of_some _ q) (Nat.le_refl _) ?_, rfl, q _ (I5.hok.fresh (Nat.le_refl _))⟩
  exact ⟨by rw [List.length_reverse]; exact hz, _, r.reverse, IsTup.new _ _⟩
end Own
end

section
set_option maxRecDepth 100000
set_option maxHeartbeats 4000000
/-! xs[::-1] of a tuple, typed -/
namespace Y
open PySem PySem.Spec PyProof.Rows L2
section
variable {α : Type} {t : Ty α} {X : Xw} {k : Bool} {G : Ct} {K : PySem.W.Frag}
theorem ev_revA {te : TE} {P : Ct → List α → Prop} (h : Ev X k te G (tTu K t) fun G xs => P G xs.reverse) : Ev X k (Own.tRevA K te) G (tTu K t) P := fun W H σ Q hs ex q => h W H σ _ hs ex fun v W1 H1 G1 xs p m r => by
  obtain ⟨a, vs, rfl, sq, pp⟩ := r
  refine ⟨a, vs, rfl, sq.t, fun d hd => ?_⟩
  have g := GoE.new (W := W1) (o := .tup vs.reverse) hd
  exact q _ W1 _ G1 _ p (m.thenE g (m.hs.ok.new hd trivial)) ⟨d, vs.reverse, rfl, rdNew m.hs.ok hd, L2.Paired.mapP (paired_rev pp) fun _ _ r => t.mvE r g⟩
end
end Y
end

section
set_option maxRecDepth 100000
set_option maxHeartbeats 4000000
/-! C(..), where __init__ may raise -/
namespace Own
open PySem PySem.Spec PyProof.Rows L2
structure MakX (P : Program) (w : World) (K : PySem.W.Frag) (mg : Str → Option Value) (base : Heap) (k : Nat) (x : Str) (C : Addr) (sp : Sp) : Prop where
  ex : ∃ (f : Addr) (fd : FuncData) (ps : List Str), Mk K C f ∧ FnOk P w K mg base (L2.CX P w) k f fd ps sp ∧ mg x = some (.ref C) ∧ L2.Binds K fd ps []
def tMakeS (C : Addr) (sp : Sp) (E : L2.St → XK) (t : TA) : TE := fun σ H Q => tMake C sp [] (E σ) t σ H Q
section
variable {X : Cx} {k j : Nat} {C f : Addr} {fd : FuncData} {ps : List Str} {x : Str} {sp : Sp} {W : WX} {e : Expr} {es : List Expr} {t : TA} {p pos : Pos}
end
end Own
end

section
set_option maxRecDepth 100000
set_option maxHeartbeats 4000000
/-! methods and __init__ that raise -/
namespace Y
open PySem PySem.Spec PyProof.Rows L2
section
variable {X : Cx} {k j : Nat} {C : Addr} {m : Str} {sp : Sp} {e o : Expr} {es : List Expr} {ta : TE} {t : TA} {p apos pos : Pos}
end
section
variable {α ρ : Type} {G : Ct} {t : Ty α} {X : Xw} {K : PySem.W.Frag}
end
end Y
end

section
set_option maxRecDepth 100000
set_option maxHeartbeats 4000000
/-! instances called that may raise; isinstance of a caught error; min of three ints -/
namespace Own
open PySem PySem.Spec PyProof.Rows L2 StX
structure CblX (P : Program) (w : World) (K : PySem.W.Frag) (mg : Str → Option Value) (base : Heap) (k : Nat) (C : Addr) (sp : Sp) : Prop where
  ex : ∃ (g : Addr) (fd : FuncData) (ps : List Str), StX.CallO K C g ∧ FnOk P w K mg base (L2.CX P w) k g fd ps sp ∧ L2.Binds K fd ps []
def tCallOS (C : Addr) (sp : Sp) (E : L2.St → XK) (tf : TE) (t : TA) : TE := fun σ H Q => tf σ H fun y H1 => ∃ a, y = V.ref a ∧ t σ H1 fun vs H2 => (∃ dx fs, H2 a = some (.ins C dx fs)) ∧ sp (V.ref a :: vs) H2 Q (E σ)
section
variable {X : Cx} {k j : Nat} {C : Addr} {sp : Sp} {W : WX} {e fe : Expr} {es : List Expr} {tf : TE} {t : TA} {pos : Pos}
end
/-- min(a, b, c) of ints -/
def mn3 (i j l : Int) : Int := if l < (if j < i then j else i) then l else if j < i then j else i
def rMin3 : List V → Hp → VK → Prop := fun xs H Q => ∃ i j l, xs = [.int i, .int j, .int l] ∧ Q (.int (mn3 i j l)) H
/-- what isinstance asks of an error's class D: H is above it, N is not -/
def excB (K : PySem.W.Frag) (D H N : Addr) : Bool :=
  decide (PySem.W.findIn K (.ref D) "__getattribute__" = some (some (.builtin "BaseException.__getattribute__"))) && (decide (PySem.W.findIn K (.ref D) "__getattr__" = some none) && (decide (PySem.W.subIn K (.ref D) (.type "BaseException") = some true) && (PySem.W.hasDictIn K D && (decide (PySem.W.findIn K (.ref D) "__class__" = some (some (.builtin "object.__class__"))) &&
  (decide (PySem.W.specialIn K (.builtin "object.__class__") "__get__" = some (some (.builtin "getset_descriptor.__get__"))) && (decide (PySem.W.takesIn K (.builtin "object.__class__") = some true) && (decide (PySem.W.mroIn K D (.type "object") = some true) && (decide (PySem.W.kitOne K (.ref D) (.ref H) = some true) && decide (PySem.W.kitOne K (.ref D) (.ref N) = some false)))))))))
/-- .. whatever the handler holds -/
def rIsG (K : PySem.W.Frag) (D a : Addr) (cls : Value) (d : Option Addr) : List V → Hp → VK → Prop := fun xs H Q => cls = .ref D ∧ d = none ∧ L2.rIsE K D a xs H Q
end Own
end

section
set_option maxRecDepth 100000
set_option maxHeartbeats 4000000
namespace Y
open PySem PySem.Spec PyProof.Rows L2
section
variable {ρ α β : Type} {c : CT ρ} {X : Xw} {k : Bool} {G : Ct} {t : Ty α} {K : PySem.W.Frag}
/-! an instance called, which may raise -/
/-! isinstance of a caught error -/
/-! min of three -/
end
/-! values that are compared with themselves -/
inductive Qv
  | non
  | bl (b : Bool)
  | int (i : Int)
  | str (s : Str)
  | tu (l : List Str)
  | ls (l : List Str)
  | di
def tQ (K : PySem.W.Frag) : Ty Qv := ⟨fun W H v x => match x with
  | .non => v = .non
  | .bl b => v = .bl b
  | .int i => v = .int i
  | .str s => v = .str s
  | .tu l => (tTu K tStr).R W H v l
  | .ls l => (tLs K tStr).R W H v l
  | .di => (tDk kS tInt).R W H v [], by
  rintro W W' H H' v x r m
  cases x with
  | tu l => exact (tTu K tStr).go r m
  | ls l => exact (tLs K tStr).go r m
  | di => exact (tDk kS tInt).go r m
  | _ => exact r⟩
section
variable {X : Xw} {k : Bool} {G : Ct} {K : PySem.W.Frag} {te : TE} {P : Ct → Qv → Prop}
def Qv.key : Qv → V → Prop
  | .str s, v => v = .str s
  | _, v => isStrV v = false
def Qv.ok : Qv → Prop
  | .str s => PyData.strOk s = true
  | .tu l => ∀ x ∈ l, PyData.strOk x = true
  | .ls l => ∀ x ∈ l, PyData.strOk x = true
  | _ => True
end
end Y
end

section
set_option maxRecDepth 100000
set_option maxHeartbeats 4000000
/-! sets of positions as bits of an int -/
namespace Own
open PySem PySem.Spec
/-- the lowest bit -/
structure Low (n k : Nat) : Prop where
  at_ : n.testBit k = true
  lo : ∀ j, j < k → n.testBit j = false
/-- the positions below n that are in f -/
def mask (f : Nat → Bool) : Nat → Nat
  | 0 => 0
  | n + 1 => mask f n + if f n then 2 ^ n else 0
section
open PyProof.Rows L2
end
end Own
end

section
set_option maxRecDepth 100000
set_option maxHeartbeats 4000000
/-! bits, typed -/
namespace Y
open PySem PySem.Spec PyProof.Rows L2
section
variable {X : Xw} {k : Bool} {G : Ct} {K : PySem.W.Frag}
end
end Y
end

section
set_option maxRecDepth 100000
set_option maxHeartbeats 4000000
namespace KK
open PySem PySem.Spec PyProof.Rows L2 Y
/-! the search for covers: bits -/
abbrev yFirst : Y.CT Int := ⟨false, .sh tInt, fun as P _ => ∃ r : Nat, as = [.sh tInt (r : Int)] ∧ 0 < r ∧ ∀ k, Own.Low r k → ∀ os, P os (k : Int)⟩
section
variable {P : Program} {w : World} {K : PySem.W.Frag} {mg : Str → Option Value} {base : Heap} {C CS CW : Addr}
end
end KK
end

section
set_option maxRecDepth 100000
set_option maxHeartbeats 4000000
/-! min(list), sorted(list) of data -/
namespace Own
open PySem PySem.Spec PyProof.Rows L2 PySem.W SrtO
def rMinD (K : PySem.W.Frag) : List V → Hp → VK → Prop := fun vs H Q => ∃ (a : Addr) (xs : List V) (d : PyData) (ds : List PyData), vs = [V.ref a] ∧ SqL K H a xs ∧ DpAll K H xs (d :: ds) ∧ AlikeAll (d :: ds) ∧ PyData.depthAll (d :: ds) ≤ 60 ∧
  ∀ i v, xs[i]? = some v → (d :: ds).getD i .none = minD d ds → Q v H
def rSortD (K : PySem.W.Frag) {α : Type} (e : α → PyData) : List V → Hp → VK → Prop := fun vs H Q => ∃ (a : Addr) (bs : List (V × α)), vs = [V.ref a] ∧ SqL K H a (bs.map (·.1)) ∧ (∀ b ∈ bs, Dp K H b.1 (e b.2)) ∧ (bs.length ≤ 1 ∨ (AllAlike (bs.map fun b => e b.2) ∧ Sortable (bs.map fun b => e b.2))) ∧ (∀ b ∈ bs, (e b.2).depth ≤ 60) ∧
  ∀ p, H p = none → Q (.ref p) (upd H p (.lst ((bs.mergeSort (dataLe false fun b : V × α => e b.2)).map (·.1))))
section
variable {X : Cx}
theorem perm1 {β : Type} : ∀ {l l' : List β}, l.Perm l' → l'.length ≤ 1 → l = l'
  | l, [], h, _ => List.perm_nil.mp h
  | l, [x], h, _ => List.perm_singleton.mp h
  | l, x :: y :: t, _, h => absurd h (by simp)
theorem msort1 {β : Type} {le : β → β → Bool} : ∀ {l : List β}, l.length ≤ 1 → l.mergeSort le = l
  | [], _ => List.mergeSort_nil
  | [x], _ => List.mergeSort_singleton x
  | x :: y :: t, h => absurd h (by simp)
theorem each_vals {α : Type} {bs : List (V × α)} {us : List Value} (h : Vals (bs.map (·.1)) us) : EachIs (fun u (b : V × α) => RelV b.1 u) us bs := by
  induction bs generalizing us with
  | nil => cases h; exact .nil
  | cons b bs ih => cases h with
    | cons r t => exact .cons r (ih t)
theorem vals_each {α : Type} {bs : List (V × α)} {us : List Value} (h : EachIs (fun u (b : V × α) => RelV b.1 u) us bs) : Vals (bs.map (·.1)) us := by
  induction h with
  | nil => exact .nil
  | cons r _ ih => exact .cons r ih
theorem each_reads {α : Type} {e : α → PyData} {pins : List (Addr × Obj)} {σ : L2.St} {H : Hp} {s : Shared} (I : Inv X pins σ H s) {bs : List (V × α)} {us : List Value} (h : EachIs (fun u (b : V × α) => RelV b.1 u) us bs) (hd : ∀ b ∈ bs, Dp X.K H b.1 (e b.2)) : EachIs (fun v (b : V × α) => ∃ as, Reads s.heap v (e b.2) as) us bs := by
  induction h with
  | nil => exact .nil
  | cons r _ ih => exact .cons (Dp.reads I _ _ _ (hd _ List.mem_cons_self) r) (ih fun b hb => hd b (List.mem_cons_of_mem _ hb))
theorem cr_sortD {α : Type} {e : α → PyData} (hu : X.A.units + 64 < cLine) : CallR X (.builtin "sorted") (rSortD X.K e) := by
  intro pins s σ H vs us Q I r h
  obtain ⟨a, bs, rfl, hs, hd, hsm, hdep, q⟩ := h
  obtain ⟨its, rv, hl, hz⟩ := I.list hs
  rw [Vals.ref1 r]
  have ei := each_vals rv
  have er := each_reads I ei hd
  have hlen : bs.length ≤ sizeLine := by rw [List.length_map] at hz; exact hz
  rcases hsm with h1 | ⟨hal, hso⟩
  · have hl1 : its.length ≤ 1 := by rw [ei.length]; exact h1
    obtain ⟨o, ho, hcl, n, hda⟩ := hl.isList
    refine sorted_seq_ord swo_sv (.inl rfl) ho hcl hda (by rw [← rv.length]; exact hz) (fun h2 => absurd h2 (Nat.not_le.mpr (Nat.lt_succ_of_le hl1))) fun h' out g1 g2 hk => ?_
    have I1 : Inv X pins σ H { s with heap := h' } := I.kept (t' := s.toks) hk
    have hoL : (h'.push (seqObj "list" its.toArray 0)).get? h'.objs.size = some (seqObj "list" its.toArray 0) := Heap.get?_push_size _ rfl
    obtain ⟨ep, he'⟩ := PyProof.Rows.sortedHeap_at (vs := its) (out := out.toArray) hoL
    have eo : out = its := perm1 g2.perm hl1
    have em : bs.mergeSort (dataLe false fun b : V × α => e b.2) = bs := msort1 h1
    subst eo
    refine ⟨.ref h'.objs.size, upd H h'.objs.size (.lst (bs.map (·.1))), I1.laid (t' := s.toks) (fun b u e => ?_) (Nat.le_refl _) ⟨hz, out, ep, rv, he'⟩, rfl, ?_⟩
    · have hb : b < h'.objs.size := Heap.lt_size e
      rw [PyProof.Rows.sortedHeap_old (Nat.ne_of_lt hb) (by rw [size_push']; exact Nat.lt_succ_of_lt hb)]
      exact Heap.get?_push_of_some _ e
    · have := q _ (I1.hok.fresh (Nat.le_refl _))
      rw [em] at this
      exact this
  · refine sorted_data (enc := fun b : V × α => e b.2) hl.isList ei er hal hso hlen (fun b hb => by have := hdep b hb; omega) fun out hol eo => ?_
    obtain ⟨ep, he'⟩ := PyProof.Rows.sortedAll_at s.heap its out.toArray
    have hl2 : ((bs.mergeSort (dataLe false fun b : V × α => e b.2)).map (·.1)).length ≤ sizeLine := by rw [List.length_map, List.length_mergeSort]; exact hlen
    exact ⟨.ref _, upd H (s.heap.objs.size + 1) (.lst ((bs.mergeSort (dataLe false fun b : V × α => e b.2)).map (·.1))), I.laid (t' := s.toks) (fun _ _ => PyProof.Rows.sortedAll_old) (Nat.le_succ _) ⟨hl2, out, ep, vals_each eo, he'⟩, rfl, q _ (I.hok.fresh (Nat.le_succ _))⟩
end
end Own
end

section
set_option maxRecDepth 100000
set_option maxHeartbeats 4000000
/-! items of a dict walked; min and sorted of tuples; xs.extend(e) where e changes one's own -/
namespace Y
open PySem PySem.Spec PyProof.Rows L2
section
variable {α β γ δ : Type} {t : Ty α} {u : Ty β} {X : Xw} {k : Bool} {G : Ct} {K : PySem.W.Frag}
/-! data -/
def Enc (K : PySem.W.Frag) (t : Ty α) (e : α → PyData) : Prop := ∀ W H v x, t.R W H v x → Dp K H v (e x)
theorem dpAll_enc {e : α → PyData} (en : Enc K t e) {W : Wd} {H : Hp} {vs : List V} {xs : List α} (p : Paired (t.R W H) vs xs) : DpAll K H vs (xs.map e) := by
  induction p with
  | nil => exact .nil
  | cons r _ ih => exact .cons (en _ _ _ _ r) ih
abbrev e3 : Int × Int × Int → PyData := fun x => .tuple [.int x.1, .int x.2.1, .int x.2.2]
/-- sorted, by what the items are as data -/
theorem rc_sortE {e : α → PyData} (en : Enc K t e) : RC1 (Own.rSortD K e) (tLs K t) (.ow (oL K t)) false (fun xs P => ((xs.length ≤ 1 ∨ (PySem.W.AllAlike (xs.map e) ∧ PySem.W.Sortable (xs.map e))) ∧ ∀ x ∈ xs, (e x).depth ≤ 60) ∧ ∀ ys, ys.Perm xs → ys.Pairwise (fun x y => PySem.W.dataLt (e y) (e x) = false) → P ys) := by
  rintro W H v xs Q P ok _ ⟨a, vs, rfl, sq, p⟩ ⟨⟨h1, h2⟩, c⟩ q
  have z1 : (vs.zip xs).map (·.1) = vs := List.map_fst_zip (by rw [p.length]; exact Nat.le_refl _)
  have z2 : (vs.zip xs).map (·.2) = xs := List.map_snd_zip (by rw [p.length]; exact Nat.le_refl _)
  have z3 : (vs.zip xs).map (fun b => e b.2) = xs.map e := by
    conv => rhs; rw [← z2, List.map_map]
    rfl
  have zr : ∀ b ∈ vs.zip xs, t.R W H b.1 b.2 := by
    have : ∀ {vs : List V} {xs : List α}, Paired (t.R W H) vs xs → ∀ b ∈ vs.zip xs, t.R W H b.1 b.2 := by
      intro vs xs p
      induction p with
      | nil => intro b hb; simp at hb
      | cons r _ ih =>
        intro b hb
        rw [List.zip_cons_cons] at hb
        rcases List.mem_cons.mp hb with rfl | hb
        · exact r
        · exact ih b hb
    exact this p
  have zm : ∀ b ∈ vs.zip xs, b.2 ∈ xs := fun b hb => by rw [← z2]; exact List.mem_map.mpr ⟨b, hb, rfl⟩
  refine ⟨a, vs.zip xs, rfl, by rw [z1]; exact sq.l, fun b hb => en _ _ _ _ (zr b hb), ?_, fun b hb => h2 _ (zm b hb), fun l hl => ?_⟩
  · rw [z3, List.length_zip, p.length, Nat.min_self]
    exact h1
  · have pm := List.mergeSort_perm (vs.zip xs) (PySem.W.dataLe false fun b : V × α => e b.2)
    have pw := PySem.W.sort_pairwise (PySem.W.sortLe_total (PyProof.Rows.listOrd PyProof.Rows.itemOrd) false fun b : V × α => PySem.W.keyToks (e b.2)) (vs.zip xs)
    refine new_list (xs := ((vs.zip xs).mergeSort (PySem.W.dataLe false fun b : V × α => e b.2)).map (·.2)) ok (c _ ?_ ?_) ?_ q l hl
    · have := pm.map (·.2)
      rw [z2] at this
      exact this
    · refine List.pairwise_map.mpr (pw.imp fun {a b} h => ?_)
      have h : (!PySem.W.dataLt (e b.2) (e a.2)) = true := h
      simpa using h
    · have : ∀ bs : List (V × α), (∀ b ∈ bs, t.R W H b.1 b.2) → Paired (t.R W H) (bs.map (·.1)) (bs.map (·.2)) := by
        intro bs
        induction bs with
        | nil => intro _; exact .nil
        | cons b bs ih => intro h; exact .cons (h b List.mem_cons_self) (ih fun b hb => h b (List.mem_cons_of_mem _ hb))
      exact this _ fun b hb => zr b (pm.mem_iff.mp hb)
/-! tuples of texts in order -/
abbrev eTS : List Str → PyData := fun xs => .tuple (xs.map PyData.str)
def ltL : List Str → List Str → Bool
  | [], [] => false
  | [], _ :: _ => true
  | _ :: _, [] => false
  | x :: xs, y :: ys => if x = y then ltL xs ys else Own.ltS x y
def AscL (l : List (List Str)) : Prop := l.Pairwise fun x y => ltL y x = false
end
section
variable {α ρ : Type} {F : Fx ρ} {G : Ct} {N B C : Ct → Prop} {t : Ty α} {K : PySem.W.Frag}
end
end Y
namespace Y
open PySem PySem.Spec PyProof.Rows L2
end Y
namespace Y
open PySem PySem.Spec PyProof.Rows L2
section
variable {α ρ : Type} {G : Ct} {X : Xw} {c : CT ρ}
end
end Y
end

section
set_option maxRecDepth 100000
set_option maxHeartbeats 4000000
namespace KK
open PySem PySem.Spec PyProof.Rows L2 Y
/-! cheapest sets, as bits -/
def prB : List Int → Nat → Nat → Int
  | [], _, _ => 0
  | x :: xs, i, S => (if S.testBit i then x else 0) + prB xs (i + 1) S
/-- how many there are -/
def cntB (n S : Nat) : Nat := (prB (List.replicate n 1) 0 S).toNat
/-- what is left of r without what is decided -/
abbrev lat (r d : Nat) : Nat := r ^^^ (d &&& r)
structure SrR (n : Nat) (p : List Int) (ch : List (List (Nat × Nat))) (R : Nat → Prop) (A : Nat → Nat → Prop) : Prop where
  n22 : n ≤ 22
  pl : p.length = n
  cl : ch.length = n
  lt : ∀ r, R r → r < 2 ^ n
  all : R (2 ^ n - 1)
  nx : ∀ (r k : Nat) (cs : List (Nat × Nat)) (c : Nat × Nat), R r → r.testBit k = true → ch[k]? = some cs → c ∈ cs → R (lat r c.2)
  ne : ∀ (r k : Nat) (cs : List (Nat × Nat)), R r → r.testBit k = true → ch[k]? = some cs → cs ≠ []
  hk : ∀ (k : Nat) (cs : List (Nat × Nat)) (c : Nat × Nat), ch[k]? = some cs → c ∈ cs → c.2.testBit k = true
  sb : ∀ (k : Nat) (cs : List (Nat × Nat)) (c : Nat × Nat), ch[k]? = some cs → c ∈ cs → ∀ i, c.1.testBit i = true → c.2.testBit i = true
  a0 : ∀ S, A 0 S ↔ S = 0
  as : ∀ r S, R r → A r S → ∀ i, S.testBit i = true → r.testBit i = true
  ak : ∀ (r k : Nat) (cs : List (Nat × Nat)) (S : Nat), R r → r.testBit k = true → ch[k]? = some cs → (A r S ↔ ∃ c ∈ cs, ∃ S', A (lat r c.2) S' ∧ S = (c.1 &&& r) ||| S')
  pw : ∀ (k : Nat) (cs : List (Nat × Nat)), ch[k]? = some cs → cs.Pairwise fun c c' => c.1.testBit k ≠ c'.1.testBit k
  c2 : ∀ (k : Nat) (cs : List (Nat × Nat)), ch[k]? = some cs → cs.length ≤ 2
def LeastB (p : List Int) (A : Nat → Nat → Prop) (r : Nat) (v : Int) : Prop := (∃ S, A r S ∧ prB p 0 S = v) ∧ ∀ S, A r S → v ≤ prB p 0 S
/-- the ways at k -/
def WaysR (p : List Int) (A : Nat → Nat → Prop) (r : Nat) (cs : List (Nat × Nat)) (L : List (Int × Int × Int)) : Prop :=
  L.length = cs.length ∧ ∀ (i : Nat) c w, cs[i]? = some c → L[i]? = some w → ∃ v, LeastB p A (lat r c.2) v ∧ w = (prB p 0 (c.1 &&& r) + v, ((c.1 &&& r : Nat) : Int), ((lat r c.2 : Nat) : Int))
section
variable {n : Nat} {p : List Int} {ch : List (List (Nat × Nat))} {R : Nat → Prop} {A : Nat → Nat → Prop}
/-- what is known of costs -/
structure MemoR (p : List Int) (R : Nat → Prop) (A : Nat → Nat → Prop) (m : List (Int × Int)) : Prop where
  ok : ∀ e ∈ m, ∃ r : Nat, e.1 = (r : Int) ∧ R r ∧ LeastB p A r e.2
  nd : (m.map (·.1)).Nodup
  z : lookK m 0 = some 0
end
end KK
end

section
set_option maxRecDepth 100000
set_option maxHeartbeats 4000000
namespace Y
open PySem PySem.Spec PyProof.Rows L2
section
variable {α β : Type} {X : Xw} {k : Bool} {G : Ct} {K : PySem.W.Frag} {D : Addr} {fl : List (Str × Sl)} {f : Str} {j i : Nat} {t : Ty α} {x : α}
end
end Y
namespace KK
open PySem PySem.Spec PyProof.Rows L2 Y
/-! class Search: what only reads -/
structure SearchC (K : PySem.W.Frag) (C : Addr) : Prop where
  cl : Cls K C
  nl : NoAttr K C "_places"
  np : NoAttr K C "_prices"
  nh : NoAttr K C "_choices"
  ne : NoAttr K C "_everything"
  nc : NoAttr K C "_costs"
def inN (ns xs : List Str) (i : Nat) : Bool := match ns[i]? with
  | some x => decide (x ∈ xs)
  | none => false
def bitsN (ns xs : List Str) : Nat := Own.mask (inN ns xs) ns.length
def readN (ns : List Str) (S : Nat) : List Str := (ns.zipIdx.filter fun q => S.testBit q.2).map (·.1)
abbrev yBits (K : PySem.W.Frag) (CZ : Addr) : Y.CT Int := ⟨false, .sh tInt, fun as P _ => ∃ (fl : List (Str × Sl)) (ns xs : List Str), as = [.sh (tIns CZ fl) (), .sh (tLs K tStr) xs] ∧ (fl[0]? = some (("_places" : Str), Sl.sh (tDk kS tInt) (numsOf ns)) ∧ (fl.map (·.1)).idxOf ("_places" : Str) = 0 ∧ ns.length ≤ 40) ∧ ∀ os, P os (bitsN ns xs : Nat)⟩
abbrev ySRead (K : PySem.W.Frag) (CZ : Addr) : Y.CT (List Str) := ⟨false, .ow (oL K tStr), fun as P _ => ∃ (fl : List (Str × Sl)) (ns : List Str) (S : Nat), as = [.sh (tIns CZ fl) (), .sh tInt (S : Int)] ∧ (fl[0]? = some (("_places" : Str), Sl.sh (tDk kS tInt) (numsOf ns)) ∧ (fl.map (·.1)).idxOf ("_places" : Str) = 0 ∧ ns.length ≤ 40) ∧ ∀ os, P os (readN ns S)⟩
abbrev ySPrice (K : PySem.W.Frag) (CZ : Addr) : Y.CT Int := ⟨false, .sh tInt, fun as P _ => ∃ (fl : List (Str × Sl)) (ps : List Int) (S : Nat), as = [.sh (tIns CZ fl) (), .sh tInt (S : Int)] ∧ (fl[1]? = some (("_prices" : Str), Sl.sh (tLs K tInt) ps) ∧ (fl.map (·.1)).idxOf ("_prices" : Str) = 1 ∧ ps.length ≤ 40) ∧ ∀ os, P os (prB ps 0 S)⟩
section
variable {P : Program} {w : World} {K : PySem.W.Frag} {mg : Str → Option Value} {base : Heap} {C CS CW CZ : Addr}
end
end KK
end

section
set_option maxRecDepth 100000
set_option maxHeartbeats 4000000
namespace KK
open PySem PySem.Spec PyProof.Rows L2 Y
/-! class Search: costs and ways -/
def chZ (ch : List (List (Nat × Nat))) : List (List (Int × Int)) := ch.map fun cs => cs.map fun c => ((c.1 : Int), (c.2 : Int))
abbrev T3I := Int × Int × Int
abbrev tT3I (K : PySem.W.Frag) : Y.Ty T3I := tT3 K tInt tInt tInt
abbrev flSea (K : PySem.W.Frag) (ns : List Str) (ps : List Int) (ch : List (List (Nat × Nat))) (ev : Int) (m : List (Int × Int)) : List (Str × Sl) := [("_places", .sh (tDk kS tInt) (numsOf ns)), ("_prices", .sh (tLs K tInt) ps), ("_choices", .sh (tLs K (tLs K (tT2 K tInt tInt))) (chZ ch)), ("_everything", .sh tInt ev), ("_costs", .ow (oD kI tInt) m)]
abbrev oSea (K : PySem.W.Frag) (CZ : Addr) (ns : List Str) (ps : List Int) (ch : List (List (Nat × Nat))) (ev : Int) (m : List (Int × Int)) : OT Unit := oIns CZ (flSea K ns ps ch ev m)
structure SeaR (ns : List Str) (ps : List Int) (ch : List (List (Nat × Nat))) (R : Nat → Prop) (A : Nat → Nat → Prop) (m : List (Int × Int)) : Prop where
  sr : SrR ns.length ps ch R A
  mr : MemoR ps R A m
abbrev yWays (K : PySem.W.Frag) (CZ : Addr) (lv : Nat) : Y.CT (List T3I) := ⟨false, .ow (oL K (tT3I K)), fun as P _ => ∃ (ns : List Str) (ps : List Int) (ch : List (List (Nat × Nat))) (ev : Int) (m : List (Int × Int)) (R : Nat → Prop) (A : Nat → Nat → Prop) (r k : Nat) (cs : List (Nat × Nat)), as = [.ow (oSea K CZ ns ps ch ev m) (), .sh tInt (r : Int), .sh tInt (k : Int)] ∧
  (SeaR ns ps ch R A m ∧ R r ∧ r.testBit k = true ∧ ch[k]? = some cs ∧ cntB ns.length r ≤ lv) ∧ ∀ m' L, SeaR ns ps ch R A m' → WaysR ps A r cs L → ∀ o1 o2, P [.ow (oSea K CZ ns ps ch ev m') (), o1, o2] L⟩
abbrev ySCost (K : PySem.W.Frag) (CZ : Addr) (lv : Nat) : Y.CT Int := ⟨false, .sh tInt, fun as P _ => ∃ (ns : List Str) (ps : List Int) (ch : List (List (Nat × Nat))) (ev : Int) (m : List (Int × Int)) (R : Nat → Prop) (A : Nat → Nat → Prop) (r : Nat), as = [.ow (oSea K CZ ns ps ch ev m) (), .sh tInt (r : Int)] ∧
  (SeaR ns ps ch R A m ∧ R r ∧ cntB ns.length r ≤ lv) ∧ ∀ m' v, SeaR ns ps ch R A m' → LeastB ps A r v → ∀ o1, P [.ow (oSea K CZ ns ps ch ev m') (), o1] v⟩
section
variable {P : Program} {w : World} {K : PySem.W.Frag} {mg : Str → Option Value} {base : Heap} {C CS CW CZ : Addr}
variable {ns : List Str} {ps : List Int} {ch : List (List (Nat × Nat))} {ev : Int} {m : List (Int × Int)} {R : Nat → Prop} {A : Nat → Nat → Prop}
end
end KK
end

section
set_option maxRecDepth 100000
set_option maxHeartbeats 4000000
namespace KK
open PySem PySem.Spec PyProof.Rows L2 Y
/-! class Search: recursion, cheapest sets -/
abbrev allB (n : Nat) : Nat := 2 ^ n - 1
abbrev yCheap (K : PySem.W.Frag) (CZ : Addr) (lv : Nat) : Y.CT (List Str) := ⟨false, .ow (oL K tStr), fun as P _ => ∃ (ns : List Str) (ps : List Int) (ch : List (List (Nat × Nat))) (m : List (Int × Int)) (R : Nat → Prop) (A : Nat → Nat → Prop), as = [.ow (oSea K CZ ns ps ch (allB ns.length : Nat) m) ()] ∧
  (SeaR ns ps ch R A m ∧ ns.length ≤ lv) ∧ ∀ m' S, SeaR ns ps ch R A m' → A (allB ns.length) S → LeastB ps A (allB ns.length) (prB ps 0 S) → P [.ow (oSea K CZ ns ps ch (allB ns.length : Nat) m') ()] (readN ns S)⟩
section
variable {P : Program} {w : World} {K : PySem.W.Frag} {mg : Str → Option Value} {base : Heap} {C CS CW CZ : Addr}
end
end KK
end

section
set_option maxRecDepth 100000
set_option maxHeartbeats 4000000
namespace KK
open PySem PySem.Spec PyProof.Rows L2 Y
/-! class Search: all cheapest sets -/
def castL (l : List Nat) : List Int := l.map fun (i : Nat) => (i : Int)
structure AllR (p : List Int) (A : Nat → Nat → Prop) (r : Nat) (l : List Nat) : Prop where
  nd : l.Nodup
  mem : ∀ S, S ∈ l ↔ A r S ∧ LeastB p A r (prB p 0 S)
/-- what the first ways bring -/
structure AllI (p : List Int) (A : Nat → Nat → Prop) (r : Nat) (cs : List (Nat × Nat)) (l : List Nat) : Prop where
  nd : l.Nodup
  mem : ∀ S, S ∈ l ↔ ∃ c ∈ cs, ∃ S', A (lat r c.2) S' ∧ S = (c.1 &&& r) ||| S' ∧ LeastB p A r (prB p 0 S)
section
variable {n : Nat} {p : List Int} {ch : List (List (Nat × Nat))} {R : Nat → Prop} {A : Nat → Nat → Prop}
end
abbrev ySAll (K : PySem.W.Frag) (CZ : Addr) (lv : Nat) : Y.CT (List Int) := ⟨false, .ow (oL K tInt), fun as P _ => ∃ (ns : List Str) (ps : List Int) (ch : List (List (Nat × Nat))) (ev : Int) (m : List (Int × Int)) (R : Nat → Prop) (A : Nat → Nat → Prop) (r : Nat), as = [.ow (oSea K CZ ns ps ch ev m) (), .sh tInt (r : Int)] ∧
  (SeaR ns ps ch R A m ∧ R r ∧ cntB ns.length r < lv) ∧ ∀ m' l, SeaR ns ps ch R A m' → AllR ps A r l → ∀ o1, P [.ow (oSea K CZ ns ps ch ev m') (), o1] (castL l)⟩
abbrev yAllCh (K : PySem.W.Frag) (CZ : Addr) (lv : Nat) : Y.CT (List (List Str)) := ⟨false, .ow (oL K (tLs K tStr)), fun as P _ => ∃ (ns : List Str) (ps : List Int) (ch : List (List (Nat × Nat))) (m : List (Int × Int)) (R : Nat → Prop) (A : Nat → Nat → Prop), as = [.ow (oSea K CZ ns ps ch (allB ns.length : Nat) m) ()] ∧
  (SeaR ns ps ch R A m ∧ ns.length < lv) ∧ ∀ m' l, SeaR ns ps ch R A m' → AllR ps A (allB ns.length) l → P [.ow (oSea K CZ ns ps ch (allB ns.length : Nat) m') ()] (l.map (readN ns))⟩
section
variable {P : Program} {w : World} {K : PySem.W.Frag} {mg : Str → Option Value} {base : Heap} {C CS CW CZ : Addr}
end
end KK
end

section
set_option maxRecDepth 100000
set_option maxHeartbeats 4000000
namespace KK
open PySem PySem.Spec PyProof.Rows L2 Y
/-! class Search made -/
abbrev Chs := List (List Str × List Str)
abbrev tChs (K : PySem.W.Frag) : Y.Ty Chs := tLs K (tT2 K (tLs K tStr) (tLs K tStr))
def chO (ns : List Str) (l : Chs) : List (Nat × Nat) := l.map fun p => (bitsN ns p.1, bitsN ns (p.1 ++ p.2))
def chOf (ns : List Str) (cd : List (Str × Chs)) : List (List (Nat × Nat)) := ns.map fun x => chO ns ((lookK cd x).getD [])
abbrev ySearch (K : PySem.W.Frag) (CZ : Addr) : Y.CT Unit := ⟨true, .sh tNon, fun as P _ => ∃ (pd : List (Str × Int)) (cd : List (Str × Chs)), as = [.ow (oIns CZ []) (), .sh (tDk kS tInt) pd, .sh (tDk kS (tChs K)) cd] ∧
  ((pd.map (·.1)).Nodup ∧ pd.length ≤ 22 ∧ ∀ x ∈ pd.map (·.1), ∃ l, lookK cd x = some l ∧ l.length ≤ 2 ∧ ∀ p ∈ l, p.1.length + p.2.length ≤ 1000) ∧
  ∀ os, P (.ow (oSea K CZ (pd.map (·.1)) (pd.map (·.2)) (chOf (pd.map (·.1)) cd) (bitsN (pd.map (·.1)) (pd.map (·.1)) : Nat) [(0, 0)]) () :: os) ()⟩
section
variable {P : Program} {w : World} {K : PySem.W.Frag} {mg : Str → Option Value} {base : Heap} {C CS CW CZ : Addr}
theorem frees1 {G : Ct} {a : Nat} (h1 : G.free a) : G.frees [a] := fun i hi => by
  rw [List.mem_singleton] at hi; subst hi; exact h1
end
end KK
end

section
set_option maxRecDepth 100000
set_option maxHeartbeats 4000000
namespace KK
open PySem PySem.Spec PyProof.Rows L2 Y
/-! all least cuts: sets that no rest leaves -/
section
variable {ns : List Str} {left right : List (Str × Int)} {rows : List Row} {hs rs0 rs lv : List Int} {ls : List (List Int)} {tot : Int}
end
section
variable {ns : List Str} {pr : List (Str × Int)} {us : List (Str × Str)} {hs rs0 rs lv : List Int} {ls : List (List Int)} {tot : Int}
/-- the values of a set -/
def valS (ns : List Str) (S : Int → Bool) (x : Str) : Int := (if S (node ns (x, false)) = true then 0 else 1) + (if S (node ns (x, true)) = true then 1 else 0)
/-- the set of an answer -/
def setOf (ns : List Str) (g : Str → Int) (u : Int) : Bool := decide (u = 2 * (ns.length : Int) ∨ ∃ x ∈ ns, (u = node ns (x, false) ∧ g x ≤ 1) ∨ (u = node ns (x, true) ∧ 1 ≤ g x))
end
end KK
end

section
set_option maxRecDepth 100000
set_option maxHeartbeats 4000000
namespace KK
open PySem PySem.Spec PyProof.Rows L2 Y
abbrev yTruth : Y.CT Bool := ⟨false, .sh tBl, fun as P _ => ∃ a b, as = [.sh tBl a, .sh tBl b] ∧ ∀ os, P os (decide (a = b))⟩
structure SomeR (p : List Str × List (Str × Str) × List (Str × Int)) (g : Str → Int) : Prop where
  r : ∀ x, 0 ≤ g x ∧ g x ≤ 2
  t : ∀ e ∈ p.2.1, 2 ≤ g e.1 + g e.2
abbrev ySome (K : PySem.W.Frag) : Y.CT (List (Str × Int)) := ⟨true, .sh (tDk kS tInt), fun as P _ => ∃ p, as = [.sh tStm (), .sh (yParts K) p] ∧ PtsZ p ∧ ∀ g, SomeR p g → ∀ os, P os (atD p.1 g)⟩
abbrev yBoth : Y.CT (List (Str × Int)) := ⟨true, .sh (tDk kS tInt), fun as P _ => ∃ xs ys g h, as = [.sh (tDk kS tInt) (atD xs g), .sh (tDk kS tInt) (atD ys h)] ∧ ((xs ++ ys).Nodup ∧ xs.length ≤ 40 ∧ ys.length ≤ 40) ∧ ∀ os, P os (atD (xs ++ ys) fun x => if x ∈ xs then g x else h x)⟩
abbrev yPart (K : PySem.W.Frag) : Y.CT (List (Str × Int)) := ⟨true, .sh (tDk kS tInt), fun as P _ => ∃ ns xs g, as = [.sh (tDk kS tInt) (atD ns g), .sh (tTu K tStr) xs] ∧ (xs.Nodup ∧ xs.length ≤ 40 ∧ ∀ x ∈ xs, x ∈ ns) ∧ ∀ os, P os (atD xs g)⟩
section
variable {P : Program} {w : World} {K : PySem.W.Frag} {mg : Str → Option Value} {base : Heap}
end
end KK
end

section
set_option maxRecDepth 100000
set_option maxHeartbeats 4000000
namespace KK
open PySem PySem.Spec PyProof.Rows L2 Z
/-! what a call has made anew is the caller's own -/
section
variable {ρ α : Type} {F : Fx ρ} {G : Ct} {N B C : Ct → Prop} {t : Z.Ty α} {K : PySem.W.Frag}
end
end KK
end

section
set_option maxRecDepth 100000
set_option maxHeartbeats 4000000
namespace KK
open PySem PySem.Spec PyProof.Rows L2 Z
abbrev ctMany (K : PySem.W.Frag) : CT (List Str) := ⟨false, tLs K tStr, fun as P _ => ∃ n, as = [.sh tInt n] ∧ (0 ≤ n ∧ n ≤ 78) ∧ ∀ r, (r.Nodup ∧ (∀ x ∈ r, NameOk x) ∧ (r.length : Int) = n) → P r⟩
abbrev ctBlock (K : PySem.W.Frag) : CT (List Str × List (Str × Str) × List (Str × Int)) := ⟨true, tParts K, fun as P _ => ∃ ns n, as = [.sh (tLs K tStr) ns, .sh tInt n] ∧ (NsOk ns ∧ n ≤ 400) ∧ ∀ r, (PtsZ r ∧ r.1 = ns ∧ (r.2.1.length : Int) ≤ max n 0) → P r⟩
abbrev DueZ : Type := (Str × Str) ⊕ ((Str × Int) ⊕ (Str × (List Str × List (Str × Str) × List (Str × Int))))
/-- what two parts give, added -/
def dueZ (p q : List Str × List (Str × Str) × List (Str × Int)) (r : DueZ) : Prop :=
  (∃ x, r = .inl ("CommonPlace", x) ∧ x ∈ p.1 ∧ x ∈ q.1 ∧ ∀ y ∈ p.1, y ∈ q.1 → Own.ltS y x = false) ∨
  ((∀ x ∈ p.1, x ∉ q.1) ∧ ((40 < p.1.length + q.1.length ∧ r = .inr (.inl ("TooMany", 40))) ∨
    (p.1.length + q.1.length ≤ 40 ∧ ((400 < p.2.1.length + q.2.1.length ∧ r = .inr (.inl ("TooMany", 400))) ∨ (p.2.1.length + q.2.1.length ≤ 400 ∧ r = .inr (.inr ("web", (p.1 ++ q.1, p.2.1 ++ q.2.1, p.2.2 ++ q.2.2))))))))
abbrev ctLDue (K : PySem.W.Frag) : CT DueZ := ⟨true, tSum (tL2 K tStr tStr) (tSum (tL2 K tStr tInt) (tL2 K tStr (tParts K))), fun as P _ => ∃ p q, as = [.sh (tParts K) p, .sh (tParts K) q] ∧ (PtsZ p ∧ PtsZ q) ∧ ∀ r, dueZ p q r → P r⟩
def abcN : List Str := chars "abcdefghijklmnopqrstuvwxyz"
def allN : List Str := (chars "kbz").flatMap fun y => abcN.map fun x => x ++ y
section
variable {P : Program} {w : World} {K : PySem.W.Frag} {mg : Str → Option Value} {base : Heap}
end
end KK
end

section
set_option maxRecDepth 100000
set_option maxHeartbeats 4000000
namespace KK
open PySem PySem.Spec PyProof.Rows L2 Z
abbrev ctApart (K : PySem.W.Frag) : CT (List Str × List (Str × Str) × List (Str × Int)) := ⟨true, tParts K, fun as P _ => ∃ p lo hi, as = [.sh tStm (), .sh (tParts K) p, .sh tInt lo, .sh tInt hi] ∧ (PtsZ p ∧ 1 ≤ lo ∧ lo ≤ hi ∧ hi ≤ 9) ∧ ∀ r, (PtsZ r ∧ (r.1.length : Int) ≤ hi ∧ (p.1 ++ r.1).Nodup) → P r⟩
abbrev ctCommon (K : PySem.W.Frag) : CT (List Str × List (Str × Str) × List (Str × Int)) := ⟨true, tParts K, fun as P _ => ∃ p q, as = [.sh tStm (), .sh (tParts K) p, .sh (tParts K) q] ∧ (PtsZ p ∧ PtsZ q ∧ q.1.length ≤ 37) ∧ ∀ r, PtsZ r → P r⟩
/-- names told anew, one after another -/
structure Turn (p d : List Str × List (Str × Str) × List (Str × Int)) (i : Nat) (tn : List (Str × Str)) (ps : List (Str × Int)) : Prop where
  hk : tn.map (·.1) = d.1.take i
  us : (p.1 ++ tn.map (·.2)).Nodup
  ok : ∀ x ∈ tn.map (·.2), NameOk x
  pk : ps.map (·.1) = tn.map (·.2)
  po : ∀ e ∈ ps, 1 ≤ e.2 ∧ e.2 ≤ 10 ^ 30
abbrev TurnR (tn : List (Str × Str)) : Str × Str → List (Str × Str) → Prop := fun x l => ∃ a b, lookK tn x.1 = some a ∧ lookK tn x.2 = some b ∧ l = [(a, b)]
section
variable {P : Program} {w : World} {K : PySem.W.Frag} {mg : Str → Option Value} {base : Heap}
end
end KK
end

section
set_option maxRecDepth 100000
set_option maxHeartbeats 4000000
/-! values of any kind -/
namespace Z
open PySem PySem.Spec PyProof.Rows L2
def keyD : Key → PyData
  | .inl i => .int i
  | .inr s => .str s
def flatD : V → PyData
  | .bl b => .bool b
  | .int i => .int i
  | .str s => .str s
  | _ => .none
mutual
inductive DpW (K : PySem.W.Frag) (W : Wd) (H : Hp) : V → PyData → Prop
  | non : DpW K W H .non .none
  | bl (b : Bool) : DpW K W H (.bl b) (.bool b)
  | int (i : Int) : DpW K W H (.int i) (.int i)
  | str (x : Str) : DpW K W H (.str x) (.str x)
  | lst {a : Addr} {xs : List V} {ds : List PyData} : W a = .sh → H a = some (.lst xs) → DpWs K W H xs ds → DpW K W H (.ref a) (.list ds)
  | tup {a : Addr} {xs : List V} {ds : List PyData} : SqTW K W H a xs → DpWs K W H xs ds → DpW K W H (.ref a) (.tuple ds)
  | dic {a : Addr} {ws : List (Key × V)} : RdW W H a (.dK ws) → (∀ p ∈ ws, flatV p.2 = true ∧ valV ws p.1 = some p.2) → DpW K W H (.ref a) (.dict (ws.map fun p => (keyD p.1, flatD p.2)))
inductive DpWs (K : PySem.W.Frag) (W : Wd) (H : Hp) : List V → List PyData → Prop
  | nil : DpWs K W H [] []
  | cons {v : V} {vs : List V} {d : PyData} {ds : List PyData} : DpW K W H v d → DpWs K W H vs ds → DpWs K W H (v :: vs) (d :: ds)
end
section
variable {K : PySem.W.Frag} {W W' : Wd} {H H' : Hp}
mutual
theorem DpW.go (m : Mv W H W' H') : ∀ (d : PyData) (v : V), DpW K W H v d → DpW K W' H' v d
  | .none, _, h => by cases h; exact .non
  | .bool b, _, h => by cases h; exact .bl b
  | .int i, _, h => by cases h; exact .int i
  | .str x, _, h => by cases h; exact .str x
  | .list ds, _, h => by
    cases h with
    | lst w h hs => exact .lst (m.ls _ _ w h).1 (m.ls _ _ w h).2 (DpWs.go m ds _ hs)
  | .tuple ds, _, h => by
    cases h with
    | tup h hs => exact .tup (h.mv m) (DpWs.go m ds _ hs)
  | .dict kvs, _, h => by
    cases h with
    | dic h f => exact .dic (m.rd _ _ h) f
theorem DpWs.go (m : Mv W H W' H') : ∀ (ds : List PyData) (vs : List V), DpWs K W H vs ds → DpWs K W' H' vs ds
  | [], _, h => by cases h; exact .nil
  | d :: ds, _, h => by
    cases h with
    | cons h1 h2 => exact .cons (DpW.go m d _ h1) (DpWs.go m ds _ h2)
end
mutual
theorem DpW.dp : ∀ (d : PyData) (v : V), DpW K W H v d → d.canLay0 = true → Dp K H v d
  | .none, _, h, _ => by cases h; exact .non
  | .bool b, _, h, _ => by cases h; exact .bl b
  | .int i, _, h, _ => by cases h; exact .int i
  | .str x, _, h, _ => by cases h; exact .str x
  | .list ds, _, h, c => by
    cases h with
    | lst w h hs => exact .lst (SqL.of h) (DpWs.dp ds _ hs (by rw [PyData.canLay0] at c; exact c))
  | .tuple ds, _, h, c => by
    cases h with
    | tup h hs => exact .tup h.t (DpWs.dp ds _ hs (by rw [PyData.canLay0] at c; exact c))
  | .dict kvs, _, h, c => by rw [PyData.canLay0] at c; cases c
theorem DpWs.dp : ∀ (ds : List PyData) (vs : List V), DpWs K W H vs ds → PyData.canLayAll0 ds = true → DpAll K H vs ds
  | [], _, h, _ => by cases h; exact .nil
  | d :: ds, _, h, c => by
    rw [PyData.canLayAll0, Bool.and_eq_true] at c
    cases h with
    | cons h1 h2 => exact .cons (DpW.dp d _ h1 c.1) (DpWs.dp ds _ h2 c.2)
end
end
/-- any value that may be compared: of no great depth; a dict only at the top -/
def okD (d : PyData) : Prop := SeqAt.shaped d = true ∨ ∃ kvs, d = .dict kvs
def tAny (K : PySem.W.Frag) : Ty PyData := ⟨fun W H v d => DpW K W H v d ∧ okD d, fun h m => ⟨DpW.go m _ _ h.1, h.2⟩⟩
def kindD : PyData → String
  | .none => "NoneType"
  | .bool _ => "bool"
  | .int _ => "int"
  | .str _ => "str"
  | .list _ => "list"
  | .tuple _ => "tuple"
  | .dict _ => "dict"
section
variable {K : PySem.W.Frag} {W : Wd} {H : Hp}
end
/-- an operation that wants no dict locked -/
def RON {α β γ : Type} (r : R2) (t : Ty α) (u : Ty β) (z : Ty γ) (C : α → β → (γ → Prop) → Prop) : Prop :=
  ∀ W H v w x y (Q : VK) (P : γ → Prop), OKW W H → (∀ b, W b ≠ .lk) → t.R W H v x → u.R W H w y → C x y P → (∀ a W' H' c, P c → GoE W H W' H' → OKW W' H' → z.R W' H' a c → Q a H') → r v w H Q
/-- == of the same -/
def rSelf (K : PySem.W.Frag) : R2 := fun x y H Q => rEqD K x y H Q ∨ rEqDA x y H Q
section
variable {K : PySem.W.Frag}
/-- any value looked for among texts -/
def isIn (d : PyData) (ns : List Str) : Bool := match d with
  | .str s => decide (s ∈ ns)
  | _ => false
def rInA (K : PySem.W.Frag) (neg : Bool) : R2 := fun x y H Q => rIn K neg x y H Q ∨ Own.rInRef K neg x y H Q
end
end Z
end

section
set_option maxRecDepth 100000
set_option maxHeartbeats 4000000
/-! try of any body with clauses of any kind; displays of values of any kind -/
namespace Z
open PySem PySem.Spec PyProof.Rows L2
section
variable {α β ρ : Type} {t : Z.Ty α} {u : Z.Ty β} {X : Xw} {G : Ct} {F : Fx ρ} {N B C : Ct → Prop}
/-! ### try -/
def NoOwn (G : Ct) : Prop := ∀ s ∈ G.s, s.own = false
def Catc (F : Fx ρ) (G : Ct) (N B C : Ct → Prop) (K : PySem.W.Frag) (Wo : WX) (r : List Own.Hn) (e : Er) : Prop :=
  ∀ W0 H0 W H σ (D : Ends) d, Go W0 H0 W H → Holds G W H σ →
    (∀ G' W' H' σ', N G' → Go W0 H0 W' H' → Holds G' W' H' σ' → D.nx σ' H') →
    (∀ G' W' H' σ', B G' → Go W0 H0 W' H' → Holds G' W' H' σ' → D.bk σ' H') →
    (∀ G' W' H' σ', C G' → Go W0 H0 W' H' → Holds G' W' H' σ' → D.ct σ' H') →
    (∀ v W' H' x, F.rt x → Go W0 H0 W' H' → OKW W' H' → F.tr.R W' H' v x → D.rt v H') →
    (∀ e d W' H', F.X.xp e → Go W0 H0 W' H' → OKW W' H' → ErAt W' H' e d → F.X.E (.ref e.C) d H') → ErAt W H e d → Own.wEv K Wo D r (.ref e.C) d σ H
variable {K : PySem.W.Frag} {Wo : WX} {z : Own.Hn} {r : List Own.Hn} {e : Er}
/-! ### values of any kind, told -/
end
/-! ### a method in a try's body -/
section
variable {X : Cx} {k j : Nat} {C : Addr} {m : Str} {sp : Sp} {e o : Expr} {es : List Expr} {ta : TE} {t : TA} {p apos pos : Pos}
def tMethS (C : Addr) (m : Str) (sp : Sp) (E : L2.St → XK) (ta : TE) (t : TA) : TE := fun σ H Q => ta σ H fun x H1 => ∃ a dx fs, x = .ref a ∧ H1 a = some (.ins C dx fs) ∧ fs.lookup m = none ∧
  t σ H1 fun vs H2 => sp (x :: vs) H2 Q (E σ)
end
section
variable {ρ α : Type} {X : Xw} {G : Ct} {c : CT ρ} {P : ρ → Prop} {C : Addr} {m : Str} {t : Z.Ty α} {to : TE} {ta : TA}
end
section
variable {K : PySem.W.Frag} {ρ : Type} {G : Ct} {F : Fx ρ} {N B C : Ct → Prop} {Wo : WX} {r : List Own.Hn}
/-- of two bodies at these slots -/
def Le (σ : L2.St) (a b : TS) : Prop := ∀ D H, a D σ H → b D σ H
def LeE (σ : L2.St) (a b : TE) : Prop := ∀ H Q, a σ H Q → b σ H Q
def MonT (σ : L2.St) (c : TT) : Prop := ∀ H (K1 K2 : Bool → Hp → Prop), (∀ b H', K1 b H' → K2 b H') → c σ H K1 → c σ H K2
end
end Z
end

section
set_option maxRecDepth 100000
set_option maxHeartbeats 4000000
/-! a method called with keywords in a try's body; isinstance of any value; min of two -/
namespace Z
open PySem PySem.Spec PyProof.Rows L2
structure MetXK (P : Program) (w : World) (K : PySem.W.Frag) (mg : Str → Option Value) (base : Heap) (k : Nat) (C : Addr) (m : Str) (n : Nat) (ks : List Str) (sp : Sp) : Prop where
  ex : ∃ (f : Addr) (fd : FuncData) (ps : List Str), Cls K C ∧ Meth K C m f ∧ FnOk P w K mg base (L2.CX P w) k f fd ps sp ∧ KBn K fd ps n ks (fun us ws => us ++ ws) (fun vs zs => vs ++ zs)
def tMethSK (C : Addr) (m : Str) (n l : Nat) (sp : Sp) (E : L2.St → XK) (ta : TE) (t tk : TA) : TE := fun σ H Q => ta σ H fun x H1 => ∃ a dx fs, x = .ref a ∧ H1 a = some (.ins C dx fs) ∧ fs.lookup m = none ∧
  t σ H1 fun vs H2 => tk σ H2 fun zs H3 => (x :: vs).length = n ∧ zs.length = l ∧ sp ((x :: vs) ++ zs) H3 Q (E σ)
section
variable {X : Cx} {CX : CXT} {k j n : Nat} {f C : Addr} {fd : FuncData} {m : Str} {ps ks : List Str} {sp : Sp} {e o : Expr} {es : List Expr} {kws : List Keyword} {ta : TE} {t tw : TA} {apos pos : Pos} {g : List Value → List Value → List Value} {gV : List V → List V → List V} {E : L2.St → XK}
end
section
variable {ρ α β γ : Type} {X : Xw} {G : Ct} {c : CT ρ} {P : ρ → Prop} {C : Addr} {m : Str} {t : Z.Ty α} {u : Z.Ty β} {z : Z.Ty γ} {to te tf : TE} {K : PySem.W.Frag}
end
end Z
end

section
set_option maxRecDepth 100000
set_option maxHeartbeats 4000000
/-! a list comprehension into a name, to be written; a method of a try's body with its defaults -/
namespace Z
open PySem PySem.Spec PyProof.Rows L2
section
variable {α β γ ρ : Type} {t : Z.Ty α} {u : Z.Ty β} {X : Xw} {G : Ct} {F : Fx ρ} {N B C : Ct → Prop}
end
/-! defaults -/
structure MetXD (P : Program) (w : World) (K : PySem.W.Frag) (mg : Str → Option Value) (base : Heap) (k : Nat) (C : Addr) (m : Str) (sp : Sp) (dvs : List V) : Prop where
  ex : ∃ (f : Addr) (fd : FuncData) (ps : List Str) (ds : List Value), Cls K C ∧ Meth K C m f ∧ FnOk P w K mg base (L2.CX P w) k f fd ps sp ∧ Binds K fd ps ds ∧ Vals dvs ds
def tMethSD (C : Addr) (m : Str) (sp : Sp) (dvs : List V) (E : L2.St → XK) (ta : TE) (t : TA) : TE := fun σ H Q => ta σ H fun x H1 => ∃ a dx fs, x = .ref a ∧ H1 a = some (.ins C dx fs) ∧ fs.lookup m = none ∧
  t σ H1 fun vs H2 => sp ((x :: vs) ++ dvs) H2 Q (E σ)
section
variable {X : Cx} {k j : Nat} {C : Addr} {m : Str} {sp : Sp} {dvs : List V} {e o : Expr} {es : List Expr} {ta : TE} {t : TA} {p apos pos : Pos}
end
section
variable {ρ α β : Type} {X : Xw} {G : Ct} {c : CT ρ} {P : ρ → Prop} {C : Addr} {m : Str} {t : Z.Ty α} {u : Z.Ty β} {to te : TE}
end
/-! values of any kind, as they stand -/
def tAV (K : PySem.W.Frag) : Z.Ty (V × PyData) := ⟨fun W H v p => v = p.1 ∧ (tAny K).R W H v p.2, fun h m => ⟨h.1, (tAny K).go h.2 m⟩⟩
abbrev Itm : Type := PyData ⊕ List (V × PyData)
abbrev tItm (K : PySem.W.Frag) : Z.Ty Itm := tSum (tAny K) (tLs K (tAV K))
section
variable {K : PySem.W.Frag} {ρ α β : Type} {t : Z.Ty α} {u : Z.Ty β} {X : Xw} {G : Ct} {F : Fx ρ} {N B C : Ct → Prop}
/-- a value's truth -/
def TrT (K : PySem.W.Frag) (t : Z.Ty α) (f : α → Bool) : Prop := ∀ W H v x, OKW W H → t.R W H v x → TruV K v H (f x)
/-- lists of the same things are equal -/
def rEqSL (K : PySem.W.Frag) : R2 := fun x y H Q => ∃ a b vs, x = .ref a ∧ y = .ref b ∧ SqL K H a vs ∧ SqL K H b vs ∧ (∀ v ∈ vs, Own.sameB v = true) ∧ Q (.bl true) H
def rItm (K : PySem.W.Frag) : R2 := fun x y H Q => rSelf K x y H Q ∨ rEqSL K x y H Q
end
end Z
end

section
set_option maxRecDepth 100000
set_option maxHeartbeats 4000000
namespace Z
open PySem PySem.Spec PyProof.Rows L2 KK
section
variable {K : PySem.W.Frag} {C : Addr} {mg : Str → Option Value} {X : Xw} {G : Ct}
end
end Z
namespace KK
open PySem PySem.Spec PyProof.Rows L2 Z
abbrev ctWebOf (K : PySem.W.Frag) (C : Addr) : CT WebZ := ⟨true, tWeb K C, fun as P _ => ∃ d us, as = [.sh (tDk kS tInt) d, .sh (tLs K (tT2 K tStr tStr)) us] ∧ (NsOk (d.map (·.1)) ∧ TsOk (d.map (·.1)) us ∧ PrOk (d.map (·.2))) ∧ ∀ r, (WfZ r ∧ WebOk (d.map (·.1)) (d.map (·.2)) us r.ms r.qs r.us) → P r⟩
abbrev ctAdd (K : PySem.W.Frag) (C CP CM : Addr) : CT WebZ := ⟨true, tWeb K C, fun as P XP => ∃ z y, as = [.sh (tWeb K C) z, .sh (tWeb K C) y] ∧ (WfZ z ∧ WfZ y) ∧
  (∀ x, x ∈ z.ms → x ∈ y.ms → (∀ w ∈ z.ms, w ∈ y.ms → Own.ltS w x = false) → XP ⟨CP, some [("place", .sh tStr x)]⟩) ∧
  ((∀ x ∈ z.ms, x ∉ y.ms) → 40 < z.ms.length + y.ms.length → XP ⟨CM, some [("limit", .sh tInt 40)]⟩) ∧
  ((∀ x ∈ z.ms, x ∉ y.ms) → z.ms.length + y.ms.length ≤ 40 → 400 < z.us.length + y.us.length → XP ⟨CM, some [("limit", .sh tInt 400)]⟩) ∧
  ∀ r, ((∀ x ∈ z.ms, x ∉ y.ms) ∧ z.ms.length + y.ms.length ≤ 40 ∧ z.us.length + y.us.length ≤ 400 ∧ WfZ r ∧ WebOk (z.ms ++ y.ms) (z.qs ++ y.qs) (z.us ++ y.us) r.ms r.qs r.us) → P r⟩
section
variable {P : Program} {w : World} {K : PySem.W.Frag} {mg : Str → Option Value} {base : Heap} {C CP CM fP fM : Addr} {eP eM : PySem.Err1.EP}
end
end KK
end

section
set_option maxRecDepth 100000
set_option maxHeartbeats 4000000
namespace KK
open PySem PySem.Spec PyProof.Rows L2 Z
structure Cmn (q : List Str × List (Str × Str) × List (Str × Int)) (i : Nat) (ns : List Str) (ps : List (Str × Int)) : Prop where
  nd : ns.Nodup
  ok : ∀ x ∈ ns, NameOk x
  sub : ∀ x ∈ q.1, x ∈ ns
  ln : ns.length ≤ q.1.length + i
  lo : 1 ≤ ns.length
  pk : (ps.map (·.1)).Perm ns
  po : ∀ e ∈ ps, 1 ≤ e.2 ∧ e.2 ≤ 10 ^ 30
section
variable {P : Program} {w : World} {K : PySem.W.Frag} {mg : Str → Option Value} {base : Heap} {C : Addr}
end
end KK
end

section
set_option maxRecDepth 100000
set_option maxHeartbeats 4000000
namespace KK
open PySem PySem.Spec PyProof.Rows L2 Y
abbrev yPartsC (K : PySem.W.Frag) : Y.CT (List Str × List (Str × Str) × List (Str × Int)) := ⟨true, .sh (yParts K), fun as P _ => ∃ lo hi, as = [.sh tStm (), .sh tInt lo, .sh tInt hi] ∧ (1 ≤ lo ∧ lo ≤ hi ∧ hi ≤ 19) ∧ ∀ r, (PtsZ r ∧ (r.1.length : Int) ≤ hi) → ∀ os, P os r⟩
abbrev yApart (K : PySem.W.Frag) : Y.CT (List Str × List (Str × Str) × List (Str × Int)) := ⟨true, .sh (yParts K), fun as P _ => ∃ p lo hi, as = [.sh tStm (), .sh (yParts K) p, .sh tInt lo, .sh tInt hi] ∧ (PtsZ p ∧ 1 ≤ lo ∧ lo ≤ hi ∧ hi ≤ 9) ∧ ∀ r, (PtsZ r ∧ (r.1.length : Int) ≤ hi ∧ (p.1 ++ r.1).Nodup) → ∀ os, P os r⟩
abbrev yAdd (K : PySem.W.Frag) (C : Addr) : Y.CT WebZ := ⟨true, .sh (yWeb K C), fun as P _ => ∃ z y, as = [.sh (yWeb K C) z, .sh (yWeb K C) y] ∧ (WfZ z ∧ WfZ y ∧ (∀ x ∈ z.ms, x ∉ y.ms) ∧ z.ms.length + y.ms.length ≤ 40 ∧ z.us.length + y.us.length ≤ 400) ∧ ∀ r, (WfZ r ∧ WebOk (z.ms ++ y.ms) (z.qs ++ y.qs) (z.us ++ y.us) r.ms r.qs r.us) → ∀ os, P os r⟩
section
variable {P : Program} {w : World} {K : PySem.W.Frag} {mg : Str → Option Value} {base : Heap} {C CP CM : Addr}
end
/-! ### joined webs -/
def costZ (z : WebZ) (g : Str → Int) : Int := (z.ms.map fun x => prW z x * g x).sum
structure Ansf (z : WebZ) (g : Str → Int) : Prop where
  r : ∀ x ∈ z.ms, 0 ≤ g x ∧ g x ≤ 2
  t : ∀ e ∈ z.us, 2 ≤ g e.1 + g e.2
structure Join (z y J : WebZ) : Prop where
  wf : WfZ J
  nd : (z.ms ++ y.ms).Nodup
  pm : J.ms.Perm (z.ms ++ y.ms)
  pu : J.us.Perm (z.us ++ y.us)
  pz : ∀ x ∈ z.ms, prW J x = prW z x
  py : ∀ x ∈ y.ms, prW J x = prW y x
section
variable {z y J : WebZ}
end
end KK
end

section
set_option maxRecDepth 100000
set_option maxHeartbeats 4000000
namespace KK
open PySem PySem.Spec PyProof.Rows L2 Y
def starts1 (ns : List Str) (x : Str) (i : Int) : List Int := if i < 2 then [2 * (ns.length : Int)] ++ [node ns (x, false)] else [2 * (ns.length : Int)]
def startsOf (ns : List Str) (x : Str) (i : Int) : List Int := if 0 < i then starts1 ns x i ++ [node ns (x, true)] else starts1 ns x i
/-- a best answer of cost v -/
abbrev BestA (z : WebZ) (v : Int) (g : Str → Int) : Prop := AnsR z.ms (prW z) z.us v g
inductive AwR (z : WebZ) (v : Int) (x : Str) (i : Int) : Option (List (Str × Int)) → Prop where
  | no : (∀ g, BestA z v g → g x ≠ i) → AwR z v x i none
  | yes (g : Str → Int) : BestA z v g → g x = i → AwR z v x i (some (atD z.ms g))
abbrev ctAw (K : PySem.W.Frag) (CS C : Addr) : Y.CT (Option (List (Str × Int))) := ⟨false, .sh (tOpt (tDk kS tInt)), fun as P _ => ∃ (z : WebZ) (d : SD) (x : Str) (i : Int), as = [.sh (tSides K CS C d.ns d.hs d.rs d.ls d.arcs d.tot) (), .sh tStr x, .sh tInt i] ∧ (WfZ z ∧ SofR z d ∧ x ∈ z.ms ∧ 0 ≤ i ∧ i ≤ 2) ∧ ∀ o, AwR z d.tot x i o → ∀ os, P os o⟩
abbrev yAw (K : PySem.W.Frag) (CS C : Addr) : Y.CT (Option (List (Str × Int))) := ⟨false, .sh (tOpt (tDk kS tInt)), fun as P _ => ∃ (z : WebZ) (d : SD) (x : Str) (i : Int), as = [.sh (tSd K CS C) d, .sh tStr x, .sh tInt i] ∧ (WfZ z ∧ SofR z d ∧ x ∈ z.ms ∧ 0 ≤ i ∧ i ≤ 2) ∧ ∀ o, AwR z d.tot x i o → ∀ os, P os o⟩
section
variable {ns : List Str} {x : Str} {i : Int}
end
section
variable {P : Program} {w : World} {K : PySem.W.Frag} {mg : Str → Option Value} {base : Heap} {C CS : Addr}
end
end KK
end

section
set_option maxRecDepth 100000
set_option maxHeartbeats 4000000
namespace KK
open PySem PySem.Spec PyProof.Rows L2 Y
/-- some best answer gives x the value i -/
noncomputable def canB (z : WebZ) (v : Int) (x : Str) (i : Int) : Bool := @decide (∃ g, BestA z v g ∧ g x = i) (Classical.propDecidable _)
/-- the values of a place -/
noncomputable def possL (z : WebZ) (v : Int) (x : Str) : List Int := [0, 1, 2].filter (canB z v x)
noncomputable def possD (z : WebZ) (v : Int) : List (Str × List Int) := z.ms.map fun x => (x, possL z v x)
noncomputable def kerL (z : WebZ) (v : Int) : List Str := z.ms.filter fun x => decide (possL z v x = [1])
noncomputable def fixD (z : WebZ) (v : Int) : List (Str × Int) := (z.ms.filter fun x => decide (possL z v x ∈ [[0], [2]])).map fun x => (x, (possL z v x).headD 0)
noncomputable def looL (z : WebZ) (v : Int) : List Str := z.ms.filter fun x => canB z v x 0 && canB z v x 2
abbrev yPoss (K : PySem.W.Frag) (CS C : Addr) : Y.CT (List (Str × List Int)) := ⟨false, .ow (oD kS (tLs K tInt)), fun as P _ => ∃ (z : WebZ) (d : SD), as = [.sh (tSd K CS C) d] ∧ (WfZ z ∧ SofR z d) ∧ ∀ os, P os (possD z d.tot)⟩
abbrev yHalves (K : PySem.W.Frag) (CS C : Addr) : Y.CT (List Str) := ⟨false, .ow (oL K tStr), fun as P _ => ∃ (z : WebZ) (d : SD), as = [.sh (tSd K CS C) d] ∧ (WfZ z ∧ SofR z d) ∧ ∀ os, P os (kerL z d.tot)⟩
abbrev yFixM (K : PySem.W.Frag) (CS C : Addr) : Y.CT (List (Str × Int)) := ⟨false, .ow (oD kS tInt), fun as P _ => ∃ (z : WebZ) (d : SD), as = [.sh (tSd K CS C) d] ∧ (WfZ z ∧ SofR z d) ∧ ∀ os, P os (fixD z d.tot)⟩
abbrev yKernel (K : PySem.W.Frag) (CW : Addr) : Y.CT (List Str) := ⟨true, .ow (oL K tStr), fun as P _ => ∃ z, as = [.sh (yWeb K CW) z] ∧ WfZ z ∧ ∀ v, Opt z v → ∀ os, P os (kerL z v)⟩
abbrev yFixed (K : PySem.W.Frag) (CW : Addr) : Y.CT (List (Str × Int)) := ⟨true, .ow (oD kS tInt), fun as P _ => ∃ z, as = [.sh (yWeb K CW) z] ∧ WfZ z ∧ ∀ v, Opt z v → ∀ os, P os (fixD z v)⟩
abbrev yLoose (K : PySem.W.Frag) (CW : Addr) : Y.CT (List Str) := ⟨true, .ow (oL K tStr), fun as P _ => ∃ z, as = [.sh (yWeb K CW) z] ∧ WfZ z ∧ ∀ v, Opt z v → ∀ os, P os (looL z v)⟩
section
variable {P : Program} {w : World} {K : PySem.W.Frag} {mg : Str → Option Value} {base : Heap} {C CS CW : Addr}
end
end KK
end

section
set_option maxRecDepth 100000
set_option maxHeartbeats 4000000
namespace KK
open PySem PySem.Spec PyProof.Rows L2 Y
abbrev yHas (K : PySem.W.Frag) (CW : Addr) : Y.CT Bool := ⟨false, .sh tBl, fun as P _ => ∃ z x, as = [.sh (yWeb K CW) z, .sh tStr x] ∧ WfZ z ∧ ∀ os, P os (decide (x ∈ z.ms))⟩
abbrev yCan (K : PySem.W.Frag) (CW : Addr) : Y.CT Bool := ⟨true, .sh tBl, fun as P _ => ∃ z x i, as = [.sh (yWeb K CW) z, .sh tStr x, .sh tInt i] ∧ (WfZ z ∧ x ∈ z.ms ∧ 0 ≤ i ∧ i ≤ 2) ∧ ∀ v, Opt z v → ∀ os, P os (canB z v x i)⟩
section
variable {P : Program} {w : World} {K : PySem.W.Frag} {mg : Str → Option Value} {base : Heap} {C CS CW : Addr}
end
end KK
end

section
set_option maxRecDepth 100000
set_option maxHeartbeats 4000000
namespace KK
open PySem PySem.Spec PyProof.Rows L2 Y
section
variable {z z2 : WebZ} {p p2 : List Str × List (Str × Str) × List (Str × Int)}
end
end KK
end

section
set_option maxRecDepth 100000
set_option maxHeartbeats 4000000
namespace KK
open PySem PySem.Spec PyProof.Rows L2 Y
/-! the values that a place has in best answers are a stretch -/
section
variable {z : WebZ} {v : Int}
def joinV (g1 g2 : Str → Int) (x : Str) : Int := (if g1 x ≤ 1 ∨ g2 x ≤ 1 then 0 else 1) + (if 1 ≤ g1 x ∨ 1 ≤ g2 x then 1 else 0)
def meetV (g1 g2 : Str → Int) (x : Str) : Int := (if g1 x ≤ 1 ∧ g2 x ≤ 1 then 0 else 1) + (if 1 ≤ g1 x ∧ 1 ≤ g2 x then 1 else 0)
/-- least, without a witness in prices -/
def LowV (z : WebZ) (v : Int) : Prop := (∃ g, BestA z v g) ∧ ∀ h, Ansf z h → v ≤ costZ z h
end
/-! a price moved by one, all prices thrice -/
section
variable {z z3 : WebZ} {v w : Int}
end
end KK
end

section
set_option maxRecDepth 100000
set_option maxHeartbeats 4000000
namespace KK
open PySem PySem.Spec PyProof.Rows L2 Y
/-! two sides whose rooms differ; the worth with kept values -/
def lrC (left right : List (Str × Int)) (g : Str → Int) (x : Str) : Int := (if g x ≤ 1 then 0 else gD left x) + (if 1 ≤ g x then gD right x else 0)
section
variable {ns : List Str} {left right : List (Str × Int)} {us : List (Str × Str)} {hs rs0 rs lv : List Int} {ls : List (List Int)} {tot : Int}
end
/-- the least cost of the answers that agree with what is kept -/
def Agr (kd : List (Str × Int)) (g : Str → Int) : Prop := ∀ e ∈ kd, g e.1 = e.2
def LowK (z : WebZ) (kd : List (Str × Int)) (w : Int) : Prop := (∃ g, Ansf z g ∧ Agr kd g ∧ costZ z g = w) ∧ ∀ g, Ansf z g → Agr kd g → w ≤ costZ z g
structure KeptR (z : WebZ) (kd : List (Str × Int)) (left right : List (Str × Int)) (wide : Int) : Prop where
  nd : (kd.map (·.1)).Nodup
  sub : ∀ e ∈ kd, e.1 ∈ z.ms ∧ 0 ≤ e.2 ∧ e.2 ≤ 2
  wd : wide = 1 + 2 * (z.ms.map (prW z)).sum
  lk : ∀ e ∈ kd, gD left e.1 = (if e.2 = 2 then 0 else wide) ∧ gD right e.1 = if e.2 = 0 then wide else 0
  un : ∀ x ∈ z.ms, x ∉ kd.map (·.1) → gD left x = prW z x ∧ gD right x = prW z x
section
variable {z : WebZ} {kd left right : List (Str × Int)} {wide : Int} {hs rs0 rs lv : List Int} {ls : List (List Int)} {tot : Int}
/-- the kept place's own share -/
def kpC (z : WebZ) (kd : List (Str × Int)) (x : Str) : Int := (lookK kd x).elim 0 fun k => prW z x * k
end
end KK
end

section
set_option maxRecDepth 100000
set_option maxHeartbeats 4000000
namespace KK
open PySem PySem.Spec PyProof.Rows L2 Y
structure KdOk (z : WebZ) (kd : List (Str × Int)) : Prop where
  nd : (kd.map (·.1)).Nodup
  sub : ∀ e ∈ kd, e.1 ∈ z.ms ∧ 0 ≤ e.2 ∧ e.2 ≤ 2
def barL (kd : List (Str × Int)) (us : List (Str × Str)) : List Bool := (us.filter fun e => hasK kd e.1 && hasK kd e.2).map fun e => decide (gD kd e.1 + gD kd e.2 < 2)
def barB (z : WebZ) (kd : List (Str × Int)) : Bool := (barL kd z.us).any id
def lfV (z : WebZ) (wd : Int) (kd : List (Str × Int)) (x : Str) : Int := (lookK kd x).elim (prW z x) fun k => if k = 2 then 0 else wd
def rtV (z : WebZ) (wd : Int) (kd : List (Str × Int)) (x : Str) : Int := (lookK kd x).elim (prW z x) fun k => if k = 0 then wd else 0
abbrev yIsKept (K : PySem.W.Frag) (CW : Addr) : Y.CT Bool := ⟨true, .sh tBl, fun as P _ => ∃ z kd, as = [.sh (yWeb K CW) z, .sh (tDk kS tInt) kd] ∧ (WfZ z ∧ KdOk z kd) ∧ ∀ os, P os true⟩
abbrev yForced (K : PySem.W.Frag) (CW : Addr) : Y.CT (Option Int) := ⟨true, .sh (tOpt tInt), fun as P _ => ∃ z kd, as = [.sh (yWeb K CW) z, .sh (tDk kS tInt) kd] ∧ (WfZ z ∧ KdOk z kd) ∧ (barB z kd = true → ∀ os, P os none) ∧ (barB z kd = false → ∀ w, LowK z kd w → ∀ os, P os (some w))⟩
section
variable {P : Program} {w : World} {K : PySem.W.Frag} {mg : Str → Option Value} {base : Heap} {C CS CW : Addr}
end
end KK
end

section
set_option maxRecDepth 100000
set_option maxHeartbeats 4000000
namespace KK
open PySem PySem.Spec PyProof.Rows L2 Y
/-! merged, merge, least -/
def mrgV (g1 g2 : Str → Int) (x : Str) : Int := if g1 x = 1 then g2 x else g1 x
/-- just the places of the kernel are half -/
structure LeastR (z : WebZ) (v : Int) (g : Str → Int) : Prop where
  a : BestA z v g
  k : ∀ x ∈ z.ms, g x = 1 ↔ x ∈ kerL z v
abbrev yMerged : Y.CT (List (Str × Int)) := ⟨false, .ow (oD kS tInt), fun as P _ => ∃ ns ms g1 g2, as = [.sh (tDk kS tInt) (atD ns g1), .sh (tDk kS tInt) (atD ms g2)] ∧ (ns.Nodup ∧ ns.length ≤ 40 ∧ ∀ x ∈ ns, x ∈ ms) ∧ ∀ os, P os (atD ns (mrgV g1 g2))⟩
abbrev ctLeastM (K : PySem.W.Frag) (CS C : Addr) : Y.CT (List (Str × Int)) := ⟨false, .ow (oD kS tInt), fun as P _ => ∃ (z : WebZ) (d : SD), as = [.sh (tSd K CS C) d] ∧ (WfZ z ∧ SofR z d) ∧ ∀ g, LeastR z d.tot g → ∀ os, P os (atD z.ms g)⟩
abbrev yLeast (K : PySem.W.Frag) (CW : Addr) : Y.CT (List (Str × Int)) := ⟨true, .ow (oD kS tInt), fun as P _ => ∃ z, as = [.sh (yWeb K CW) z] ∧ WfZ z ∧ ∀ v g, Opt z v → LeastR z v g → ∀ os, P os (atD z.ms g)⟩
abbrev yMerge (K : PySem.W.Frag) (CW : Addr) : Y.CT (List (Str × Int)) := ⟨true, .ow (oD kS tInt), fun as P _ => ∃ z v ns ms g1 g2, as = [.sh (yWeb K CW) z, .sh (tDk kS tInt) (atD ns g1), .sh (tDk kS tInt) (atD ms g2)] ∧ (WfZ z ∧ Opt z v ∧ ns.Perm z.ms ∧ ms.Perm z.ms ∧ BestA z v g1 ∧ BestA z v g2) ∧ ∀ os, P os (atD ns (mrgV g1 g2))⟩
theorem ev_varS {α : Type} {X : Y.Xw} {k : Bool} {G : Ct} {t : Y.Ty α} {i : Nat} {x : α} {P : Ct → α → Prop} (e : G.s[i]? = some (.sh (tOpt t) (some x))) (p : P G x) : Ev X k (tVar i) G t P := fun W H σ Q hs ex q => by
  obtain ⟨v, e1, r⟩ := hs.var e
  exact ⟨v, e1, q v W H G x p (.refl hs) r⟩
section
variable {P : Program} {w : World} {K : PySem.W.Frag} {mg : Str → Option Value} {base : Heap} {C CS CW : Addr}
end
end KK
end

section
set_option maxRecDepth 100000
set_option maxHeartbeats 4000000
namespace KK
open PySem PySem.Spec PyProof.Rows L2 Y
abbrev yLaw (K : PySem.W.Frag) : Y.CT Bool := ⟨true, .sh tBl, fun as P _ => ∃ xs, as = [.sh (tScr K) xs] ∧ xs.length ≤ 1000 ∧ ∀ os, P os true⟩
theorem spY_law {K : PySem.W.Frag} {H : Hp} {a : Addr} {ns : List Int} (hl : ns.length ≤ 1000) (hS : SqL K H a (ns.map V.int)) : Y.spZ (yLaw K) [.ref a] H (fun v _ => v = .bl true) fun _ _ _ => False := by
  have fin : ∀ W : Y.Wd, OKW W H → (∀ b, W b ≠ .lk) → (Y.tScr K).R W H (.ref a) ns → Y.spZ (yLaw K) [.ref a] H (fun v _ => v = .bl true) fun _ _ _ => False := fun W ok nl r =>
    ⟨W, [.sh (tScr K) ns], fun _ r => r = true, fun _ _ => False, ok, fun _ => nl, ⟨rfl, fun k v s h1 h2 => by
      cases k with
      | zero => cases h1; cases h2; exact r
      | succ k => cases h1⟩, ⟨ns, rfl, hl, fun _ => rfl⟩, fun v W' H' os x p _ _ _ r => (by rw [p] at r; exact r), fun e d W' H' os p => p.elim⟩
  have sh : OKW (fun _ => .sh) H := ⟨fun b φ h => (by cases h), fun b h => absurd rfl h, fun b p od u h => (by cases h), fun b h => (by cases h), fun b od u h => (by cases h), fun _ _ _ => rfl⟩
  rcases hS with (h | ⟨od, hA⟩) | h
  · exact fin _ sh (fun b h => by cases h) ⟨a, rfl, .inl (.inl ⟨rfl, h⟩)⟩
  · have hW : ∀ b, (if b = a then Md.fo else Md.sh) ≠ .sh → b = a := fun b h => by
      by_cases e : b = a
      · exact e
      · rw [if_neg e] at h; exact absurd rfl h
    refine fin (fun b => if b = a then .fo else .sh) ⟨fun b φ h => ?_, fun b h => ?_, fun b p od' u h => ?_, fun b h => ?_, fun b od' u h e => ?_, fun b vs e => ?_⟩ (fun b h => ?_) ⟨a, rfl, .inl (.inr ⟨.inr (if_pos rfl), od, hA⟩)⟩
    · have h : (if b = a then Md.fo else Md.sh) = Md.st φ := h
      split at h <;> cases h
    · rw [hW b h]; exact ⟨_, hA⟩
    · have h : (if b = a then Md.fo else Md.sh) = Md.ow p := h
      split at h <;> cases h
    · have h : (if b = a then Md.fo else Md.sh) = Md.lk := h
      split at h <;> cases h
    · have eb : b = a := hW b (by rw [show (if b = a then Md.fo else Md.sh) = Md.fo from h]; exact fun z => nomatch z)
      rw [eb, hA] at e
      cases e
      exact ⟨_, rfl⟩
    · have n : b ≠ a := fun z => by rw [z, hA] at e; cases e
      show (if b = a then Md.fo else Md.sh) = Md.sh
      rw [if_neg n]
    · have h : (if b = a then Md.fo else Md.sh) = Md.lk := h
      split at h <;> cases h
  · exact fin _ sh (fun b h => by cases h) ⟨a, rfl, .inr h⟩
end KK
end

section
set_option maxRecDepth 100000
set_option maxHeartbeats 4000000
namespace KK
open PySem PySem.Spec PyProof.Rows L2 Y
end KK
end

section
set_option maxRecDepth 100000
set_option maxHeartbeats 4000000
namespace KK
open PySem PySem.Spec PyProof.Rows L2 Y
/-! Web(places, ties, prices), made in a law -/
section
variable {K : PySem.W.Frag} {C : Addr} {X : Y.Xw} {k : Bool} {G : Ct}
end
end KK
end

section
set_option maxRecDepth 100000
set_option maxHeartbeats 4000000
namespace KK
open PySem PySem.Spec PyProof.Rows L2 Y
abbrev oParts (K : PySem.W.Frag) : OT (List Str × List (Str × Str) × List (Str × Int)) := oL3 K (tTu K tStr) (tLs K (tPr K)) (oD kS tInt)
abbrev yWideO (K : PySem.W.Frag) : Y.CT (List Str × List (Str × Str) × List (Str × Int)) := ⟨true, .ow (oParts K), fun as P _ => ∃ lo hi tr, as = [.sh tStm (), .sh tInt lo, .sh tInt hi, .sh tInt tr] ∧ (1 ≤ lo ∧ lo ≤ hi ∧ hi ≤ 40 ∧ 0 ≤ tr ∧ tr ≤ 400) ∧ ∀ r, PtsZ r → ∀ os, P os r⟩
abbrev yJustP (K : PySem.W.Frag) : Y.CT Bool := ⟨true, .sh tBl, fun as P _ => ∃ d ns, as = [.sh (tDP tInt) d, .sh (tLs K (tPr K)) ns] ∧ (d.length = ns.length ∧ ns.length ≤ 1000 ∧ ∀ x ∈ ns, hasK d x = true) ∧ ∀ os, P os true⟩
/-- tie prices of the law's own -/
structure PrsG (p : List Str × List (Str × Str) × List (Str × Int)) (f : Str × Str → Int) : Prop where
  nn : ∀ e ∈ p.2.1, 0 ≤ f e
  lo : ∀ x ∈ p.1, loadU f p.2.1 x ≤ 2 * gD p.2.2 x
abbrev tieY (f : Str × Str → Int) (us : List (Str × Str)) : List ((Str × Str) × Int) := us.map fun e => (upP e, f e)
abbrev ySomeP (K : PySem.W.Frag) : Y.CT (List ((Str × Str) × Int)) := ⟨false, .ow (oDP tInt), fun as P _ => ∃ p, as = [.sh tStm (), .sh (yParts K) p] ∧ PtsZ p ∧ ∀ f, PrsG p f → ∀ os, P os (tieY f p.2.1)⟩
/-- tie prices as prices_fault takes them -/
structure TpD (z : WebZ) (y : List ((Str × Str) × Int)) : Prop where
  pm : (y.map (·.1)).Perm z.us
  nn : ∀ q ∈ y, 0 ≤ q.2
  lo : ∀ x ∈ z.ms, (y.map fun q => if x ∈ [q.1.1, q.1.2] then q.2 else 0).sum ≤ 2 * prW z x
abbrev yFault (K : PySem.W.Frag) (CW : Addr) : Y.CT (Option (List Str)) := ⟨true, .sh (tOpt (tTu K tStr)), fun as P _ => ∃ z y, as = [.sh (yWeb K CW) z, .sh (tDP tInt) y] ∧ (WfZ z ∧ TpD z y) ∧ ∀ v, Opt z v → ∀ os, P os (if (y.map (·.2)).sum = v then none else some ["sum"])⟩
section
variable {P : Program} {w : World} {K : PySem.W.Frag} {mg : Str → Option Value} {base : Heap} {CW : Addr}
abbrev NYhasjustP : List Str := ["value", "keys", "key"]
end
end KK
end

section
set_option maxRecDepth 100000
set_option maxHeartbeats 4000000
namespace KK
open PySem PySem.Spec PyProof.Rows L2 Y
section
variable {P : Program} {w : World} {K : PySem.W.Frag} {mg : Str → Option Value} {base : Heap} {C CS CW : Addr}
end
end KK
end

section
set_option maxRecDepth 100000
set_option maxHeartbeats 4000000
namespace KK
open PySem PySem.Spec PyProof.Rows L2 Y
section
variable {P : Program} {w : World} {K : PySem.W.Frag} {mg : Str → Option Value} {base : Heap} {C CS CW : Addr}
end
/-! ### the class Curve -/
structure CurveC (K : PySem.W.Frag) (C : Addr) : Prop where
  cl : Cls K C
  nr : NoAttr K C "_rests"
abbrev R3 := Int × Int × Int
def r3L (r : R3) : List Int := [r.1, r.2.1, r.2.2]
abbrev flCu (K : PySem.W.Frag) (r : R3) : List (Str × Sl) := [("_rests", .sh (tLs K tInt) (r3L r))]
abbrev oCu (K : PySem.W.Frag) (CC : Addr) : OT R3 := oBox fun r => oIns CC (flCu K r)
abbrev tCu (K : PySem.W.Frag) (CC : Addr) : Y.Ty R3 := tBox fun r => (oIns CC (flCu K r)).sv
/-- the least costs of the others, by the value of x -/
structure CurR (z : WebZ) (x : Str) (r : R3) : Prop where
  n0 : LowK z [(x, 0)] (r.1 + 0 * prW z x)
  n1 : LowK z [(x, 1)] (r.2.1 + 1 * prW z x)
  n2 : LowK z [(x, 2)] (r.2.2 + 2 * prW z x)
abbrev ctCurve (K : PySem.W.Frag) (CW CC : Addr) : Y.CT Unit := ⟨true, .sh tNon, fun as P _ => ∃ z x, as = [.ow (oIns CC []) (), .sh (yWeb K CW) z, .sh tStr x] ∧ (WfZ z ∧ x ∈ z.ms) ∧ ∀ r, CurR z x r → ∀ os, P (.ow (oCu K CC) r :: os) ()⟩
def totL (r : R3) (p : Int) : List Int := [r.1 + 0 * p, r.2.1 + 1 * p, r.2.2 + 2 * p]
abbrev yTot (K : PySem.W.Frag) (CC : Addr) : Y.CT (List Int) := ⟨false, .ow (oL K tInt), fun as P _ => ∃ r p, as = [.sh (tCu K CC) r, .sh tInt p] ∧ (1 ≤ p ∧ p ≤ 10 ^ 30) ∧ ∀ os, P os (totL r p)⟩
/-- the worth at a price -/
def IsCur (r : R3) (p m : Int) : Prop := (m = r.1 ∨ m = r.2.1 + p ∨ m = r.2.2 + 2 * p) ∧ m ≤ r.1 ∧ m ≤ r.2.1 + p ∧ m ≤ r.2.2 + 2 * p
abbrev yCurv (K : PySem.W.Frag) (CC : Addr) : Y.CT Int := ⟨false, .sh tInt, fun as P _ => ∃ r p, as = [.sh (tCu K CC) r, .sh tInt p] ∧ (1 ≤ p ∧ p ≤ 10 ^ 30) ∧ ∀ m, IsCur r p m → ∀ os, P os m⟩
abbrev yAt (K : PySem.W.Frag) (CC : Addr) : Y.CT (List Int) := ⟨false, .ow (oL K tInt), fun as P _ => ∃ r p, as = [.sh (tCu K CC) r, .sh tInt p] ∧ (1 ≤ p ∧ p ≤ 10 ^ 30) ∧ ∀ m, IsCur r p m → ∀ os, P os (([0, 1, 2] : List Int).filter fun i => decide ((totL r p)[i.toNat]? = some m))⟩
abbrev yRest (K : PySem.W.Frag) (CC : Addr) (get : R3 → Int) : Y.CT Int := ⟨false, .sh tInt, fun as P _ => ∃ r, as = [.sh (tCu K CC) r] ∧ ∀ os, P os (get r)⟩
abbrev yBreaks (K : PySem.W.Frag) (CC : Addr) : Y.CT (Int × Int) := ⟨false, .sh (tT2 K tInt tInt), fun as P _ => ∃ r, as = [.sh (tCu K CC) r] ∧ ∀ os, P os (r.2.1 - r.2.2, r.1 - r.2.1)⟩
abbrev yIsPrice : Y.CT Bool := ⟨false, .sh tBl, fun as P _ => ∃ n, as = [.sh tInt n] ∧ (1 ≤ n ∧ n ≤ 10 ^ 30) ∧ ∀ os, P os true⟩
section
variable {P : Program} {w : World} {K : PySem.W.Frag} {mg : Str → Option Value} {base : Heap} {C CS CW CC : Addr}
abbrev ctCurve0 (K : PySem.W.Frag) (CW CC : Addr) : Y.CT Unit := ⟨true, .sh tNon, fun as P _ => ∃ z x, as = [.ow (oIns CC []) (), .sh (yWeb K CW) z, .sh tStr x] ∧ (WfZ z ∧ x ∈ z.ms) ∧ ∀ r, CurR z x r → ∀ os, P (.ow (oIns CC (flCu K r)) () :: os) ()⟩
end
end KK
end

section
set_option maxRecDepth 100000
set_option maxHeartbeats 4000000
namespace KK
open PySem PySem.Spec PyProof.Rows L2 Y
/-- a def under another name than its own -/
def HasA (K : PySem.W.Frag) (mg : Str → Option Value) (x nm : Str) (st : Stmt) : Prop := ∃ f fd, Fun K nm nm st f fd ∧ mg x = some (.ref f)
/-! ### the class Clauses -/
structure ClC (K : PySem.W.Frag) (C : Addr) : Prop where
  cl : Cls K C
  np : NoAttr K C "_prices"
  nr : NoAttr K C "_rows"
abbrev ClausesC (K : PySem.W.Frag) (C : Addr) : Prop := ClC K C
structure ClZ where
  ps : List (Str × Int)
  rs : List Row
def ClZ.ns (c : ClZ) : List Str := c.ps.map (·.1)
/-- valid rows over these names -/
structure RowsOk (ns : List Str) (rs : List Row) : Prop where
  hi : rs.length ≤ 400
  ok : ∀ r ∈ rs, r.1.1 ∈ ns ∧ r.2.1 ∈ ns
structure WfC (c : ClZ) : Prop where
  no : NsOk c.ns
  am : Own.AscS c.ns
  pr : ∀ e ∈ c.ps, 0 ≤ e.2 ∧ e.2 ≤ 10 ^ 30
  ro : RowsOk c.ns c.rs
abbrev flCl (K : PySem.W.Frag) (c : ClZ) : List (Str × Sl) := [("_prices", .sh (tDk kS tInt) c.ps), ("_rows", .sh (tLs K (tRow K)) c.rs)]
abbrev oCl (K : PySem.W.Frag) (CC : Addr) : OT ClZ := oBox fun c => oIns CC (flCl K c)
abbrev yCl (K : PySem.W.Frag) (CC : Addr) : Y.Ty ClZ := tBox fun c => (oIns CC (flCl K c)).sv
abbrev yIsName : Y.CT Bool := ⟨false, .sh tBl, fun as P _ => ∃ x, as = [.sh tStr x] ∧ NameOk x ∧ ∀ os, P os true⟩
theorem yok_same {W : Wd} {H H' : Hp} (ok : OKW W H) (s : L2.Same H H') : Go W H W H' ∧ OKW W H' := by
  refine ⟨⟨fun b o h _ => ⟨s b o h, rfl⟩, fun _ _ h => h, fun _ h => h⟩, fun b φ h => ?_, fun b h => ?_, fun b p od u h e => ?_, fun b h => ?_, fun b od u h e => ?_, fun b vs h => ?_⟩
  · obtain ⟨o, h1, h2⟩ := ok.st b φ h
    exact ⟨o, s b o h1, h2⟩
  · obtain ⟨o, h1⟩ := ok.al b h
    exact ⟨o, s b o h1⟩
  · obtain ⟨o, h1⟩ := ok.al b (by rw [h]; exact fun z => by cases z)
    have := s b o h1
    rw [e] at this
    cases this
    exact ok.nf b p _ _ h h1
  · obtain ⟨od, ⟨ws, h1⟩ | ⟨ws, h1⟩⟩ := ok.lk b h
    · exact ⟨od, .inl ⟨ws, s b _ h1⟩⟩
    · exact ⟨od, .inr ⟨ws, s b _ h1⟩⟩
  · obtain ⟨o, h1⟩ := ok.al b (by rw [h]; exact fun z => by cases z)
    have := s b o h1
    rw [e] at this
    cases this
    exact ok.fo b _ _ h h1
  · cases e : H b with
    | none => exact ok.fresh e
    | some o =>
      have := s b o e
      rw [h] at this
      cases this
      exact ok.tp b vs e
theorem y_isname {P : Program} {w : World} {K : PySem.W.Frag} {mg : Str → Option Value} {base : Heap} (c : C8.Cal P w K mg base 1 "is_name" (spIsName K) []) : C8.Cal P w K mg base 1 "is_name" (Y.spZ yIsName) [] := by
  obtain ⟨f, fd, ps, ds, F, hm, kp, b, d⟩ := c.ex
  refine ⟨f, fd, ps, ds, F.imp fun vs H Q E s => ?_, hm, kp, b, d⟩
  obtain ⟨W, as, P, XP, ok, nl, ha, ⟨n, rfl, h1, hp⟩, q, _⟩ := s
  have h0 := ha.2 0
  match vs, ha.1 with
  | [v], _ =>
    obtain rfl : v = .str n := h0 v _ rfl rfl
    refine ⟨_, "str", true, rfl, .base (.str _), by decide +kernel, fun _ => ⟨n, rfl, Nat.le_trans (by rw [len_cps]; exact h1.hi) (by decide : 8 ≤ 100000), fun H' s => ?_⟩, fun h => (nomatch h)⟩
    rw [nameB_ok h1]
    obtain ⟨g, ok'⟩ := yok_same ok s
    exact q _ W H' [.sh tStr n] _ (hp _) g ok' ⟨rfl, fun k v s h1 h2 => by
      match k, h1, h2 with
      | 0, h1, h2 =>
        cases h1
        cases h2
        rfl⟩ rfl
abbrev yAmongT (K : PySem.W.Frag) : Y.CT Bool := ⟨false, .sh tBl, fun as P _ => ∃ x ns, as = [.sh tStr x, .sh (tTu K tStr) ns] ∧ ∀ os, P os (decide (x ∈ ns))⟩
abbrev yIsLit (K : PySem.W.Frag) : Y.CT Bool := ⟨false, .sh tBl, fun as P _ => ∃ (l : Lit) (ns : List Str), as = [.sh (tLit K) l, .sh (tTu K tStr) ns] ∧ l.1 ∈ ns ∧ ∀ os, P os true⟩
abbrev yIsRow (K : PySem.W.Frag) : Y.CT Bool := ⟨false, .sh tBl, fun as P _ => ∃ (r : Row) (ns : List Str), as = [.sh (tRow K) r, .sh (tTu K tStr) ns] ∧ (r.1.1 ∈ ns ∧ r.2.1 ∈ ns) ∧ ∀ os, P os true⟩
abbrev yRowF (K : PySem.W.Frag) : Y.CT (Option Int) := ⟨false, .sh (tOpt tInt), fun as P _ => ∃ rs ns, as = [.sh (tLs K (tRow K)) rs, .sh (tTu K tStr) ns] ∧ RowsOk ns rs ∧ ∀ os, P os none⟩
abbrev yNamesF (K : PySem.W.Frag) : Y.CT (Option Int) := ⟨false, .sh (tOpt tInt), fun as P _ => ∃ ns, as = [.sh (tTu K tStr) ns] ∧ NsOk ns ∧ ∀ os, P os none⟩
abbrev yJustT (K : PySem.W.Frag) : Y.CT Bool := ⟨true, .sh tBl, fun as P _ => ∃ (d : List (Str × Int)) (ns : List Str), as = [.sh (tDk kS tInt) d, .sh (tTu K tStr) ns] ∧ (d.length = ns.length ∧ ns.length ≤ 1000 ∧ ∀ x ∈ ns, hasK d x = true) ∧ ∀ os, P os true⟩
abbrev yPriceF0 (K : PySem.W.Frag) : Y.CT (Option Str) := ⟨true, .sh (tOpt tStr), fun as P _ => ∃ (d : List (Str × Int)) (ns : List Str), as = [.sh (tDk kS tInt) d, .sh (tTu K tStr) ns, .sh tInt 0] ∧ (d.length = ns.length ∧ ns.length ≤ 1000 ∧ ∀ x ∈ ns, ∃ p, lookK d x = some p ∧ 0 ≤ p ∧ p ≤ 10 ^ 30) ∧ ∀ os, P os none⟩
/-- these parts -/
structure ClPts (ns : List Str) (rs : List Row) (d : List (Str × Int)) : Prop where
  no : NsOk ns
  ro : RowsOk ns rs
  ln : d.length = ns.length
  po : ∀ x ∈ ns, lookK d x = some (gD d x) ∧ 0 ≤ gD d x ∧ gD d x ≤ 10 ^ 30
/-- the clauses of these parts -/
def ClOf (ns : List Str) (rs : List Row) (d : List (Str × Int)) (c : ClZ) : Prop := c.ns.Perm ns ∧ Own.AscS c.ns ∧ c.ps = atD c.ns (gD d) ∧ c.rs = rs
abbrev ctCl0 (K : PySem.W.Frag) (CC : Addr) : Y.CT Unit := ⟨true, .sh tNon, fun as P _ => ∃ ns rs d, as = [.ow (oIns CC []) (), .sh (tTu K tStr) ns, .sh (tLs K (tRow K)) rs, .sh (tDk kS tInt) d] ∧ ClPts ns rs d ∧ ∀ c, ClOf ns rs d c → ∀ os, P (.ow (oIns CC (flCl K c)) () :: os) ()⟩
abbrev ctCl (K : PySem.W.Frag) (CC : Addr) : Y.CT Unit := ⟨true, .sh tNon, fun as P _ => ∃ ns rs d, as = [.ow (oIns CC []) (), .sh (tTu K tStr) ns, .sh (tLs K (tRow K)) rs, .sh (tDk kS tInt) d] ∧ ClPts ns rs d ∧ ∀ c, ClOf ns rs d c → ∀ os, P (.ow (oCl K CC) c :: os) ()⟩
theorem to_cl {K : PySem.W.Frag} {CC : Addr} : CtTo (ctCl K CC) (ctCl0 K CC) := by
  refine ⟨fun h => h, rfl, ?_⟩
  rintro as P XP ⟨ns, rs, d, e, h, hp⟩
  refine ⟨as, fun os y => ∃ c r, os = .ow (oIns CC (flCl K c)) () :: r ∧ P (.ow (oCl K CC) c :: r) (), XP, .refl _, ⟨ns, rs, d, e, h, fun c R os => ⟨c, os, rfl, hp c R os⟩⟩, ?_, fun os e h => ⟨os, .refl _, h⟩⟩
  rintro os ⟨⟩ ⟨c, r, rfl, q⟩
  exact ⟨_, SlsTo.cons (s' := .ow (oCl K CC) c) (fun p W H v h => h) (.refl r), q⟩
theorem ClOf.wf {ns : List Str} {rs : List Row} {d : List (Str × Int)} {c : ClZ} (h : ClOf ns rs d c) (p : ClPts ns rs d) : WfC c := by
  obtain ⟨pm, am, ep, er⟩ := h
  refine ⟨⟨by rw [pm.length_eq]; exact p.no.lo, by rw [pm.length_eq]; exact p.no.hi, pm.nodup_iff.mpr p.no.nd, fun x hx => p.no.ok x (pm.mem_iff.mp hx)⟩, am, fun e he => ?_, ⟨by rw [er]; exact p.ro.hi, fun r hr => ?_⟩⟩
  · rw [ep] at he
    obtain ⟨x, hx, rfl⟩ := List.mem_map.mp he
    exact (p.po x (pm.mem_iff.mp hx)).2
  · rw [er] at hr
    exact ⟨pm.mem_iff.mpr (p.ro.ok r hr).1, pm.mem_iff.mpr (p.ro.ok r hr).2⟩
theorem ty_t2L {K : PySem.W.Frag} {α β : Type} {t : Y.Ty α} {u : Y.Ty β} {W : Wd} {H : Hp} {v : V} {x : α × β} (h : (tT2 K t u).R W H v x) : TyX K H v (.type "tuple") := by
  obtain ⟨a, p, q, rfl, ⟨_, h⟩ | ⟨_, od, h⟩, _⟩ := h
  · exact .base (.tup h)
  · exact .fTuple h
theorem ev_nul {α : Type} {X : Xw} {k : Bool} {G : Ct} {t : Y.Ty α} {P : Ct → Option α → Prop} (p : P G none) : Ev X k (tC .non) G (tOpt t) P :=
  Ev.as (t := tNon) (fun _ : Unit => none) (ev_c (t := tNon) (x := ()) (fun _ _ => rfl) p) fun W H v x r => r
theorem nnStr : ∀ W H v x, tStr.R W H v x → v ≠ .non := fun _ _ _ _ r e => by
  rw [show _ = _ from r] at e
  cases e
/-- a pair of like things, read as a tuple -/
theorem ev_asTu {α : Type} {X : Xw} {k : Bool} {te : TE} {G : Ct} {K : PySem.W.Frag} {t : Y.Ty α} {P : Ct → List α → Prop} (h : Ev X k te G (tT2 K t t) fun G x => P G [x.1, x.2]) : Ev X k te G (tTu K t) P :=
  Ev.as (t := tT2 K t t) (fun x : α × α => [x.1, x.2]) h fun W H v x r => by
    obtain ⟨a, p, q, e, sq, r1, r2⟩ := r
    exact ⟨a, [p, q], e, sq, .cons r1 (.cons r2 .nil)⟩
section
variable {P : Program} {w : World} {K : PySem.W.Frag} {mg : Str → Option Value} {base : Heap} {CC : Addr}
theorem cl_no {m : Str} (h : ¬ m ∈ [("_prices" : Str), "_rows"]) : Inst CC m (yCl K CC) := inst_box fun c => inst_t (fl := flCl K c) h
theorem fo_clp (c : ClC K CC) : FldOf K "_prices" (yCl K CC) (tDk kS tInt) ClZ.ps := fo_box (get := ClZ.ps) fun r => fo_sh (fl := flCl K r) (t := tDk kS tInt) 0 c.cl c.np
theorem fo_clr (c : ClC K CC) : FldOf K "_rows" (yCl K CC) (tLs K (tRow K)) ClZ.rs := fo_box (get := ClZ.rs) fun r => fo_sh (fl := flCl K r) (t := tLs K (tRow K)) 1 c.cl c.nr
abbrev NYisamongT : List Str := ["value", "names"]
theorem scYisamongT : FnScope NYisamongT ["value", "names"] (defScope s_is_among) := ⟨rfl, rfl, rfl, by decide +kernel, rfl, by decide +kernel, by decide +kernel⟩
theorem y_amongT (T : Blt mg) (F : Has K mg "is_among" s_is_among) : C8.Cal P w K mg base 1 "is_among" (Y.spZ (yAmongT K)) [] := by
  refine calF F (fun f fd F => F.binds (ps := ["value", "names"]) fun _ _ _ _ _ _ us hl => match us, hl with | [_, _], _ => rfl) scYisamongT (fun vs H Q E h => zlen (fun as P XP hc => by obtain ⟨_, _, rfl, _⟩ := hc; rfl) h) (fun f cdv A outer s H vs Q E hr h => ?_)
  have hu := hu_of hr
  refine ⟨_, (pss_one (ps_ret (pe_and (pe_callB (show CallR _ (.builtin "isinstance") (rIsi K) from call_isi) (by rfl) T.b_isinstance (by decide +kernel) (pa_cons (pv 0) (pa_cons (pe_bltn (v := .ty "str") (by rfl) T.b_str (by decide +kernel) rfl) pa_nil))) (pe_one (pe_cmpR op_in_seq (pv 0) (pv 1) (by rfl)))))), zrun h ?_⟩
  rintro as P XP ⟨x, ns, rfl, hp⟩ hl
  obtain ⟨p0, p1, rfl⟩ := len2 hl
  refine ⟨0, rfl, by decide, ?_⟩
  refine blk_ret (ev_and (ev_isi (A := "str") (b := true) (fun W H v x ok _ r => by cases r; exact .base (.str _)) (by decide +kernel) (ev_var rfl ⟨rfl, fun _ => ev_op (ro_inST false) (ev_var rfl (ev_var (t := tTu K tStr) (x := ns) rfl (fin0 [_, _] _ hp))), fun h => (nomatch h)⟩)))
abbrev NYisliteral : List Str := ["value", "names"]
theorem scYisliteral : FnScope NYisliteral ["value", "names"] (defScope s_is_literal) := ⟨rfl, rfl, rfl, by decide +kernel, rfl, by decide +kernel, by decide +kernel⟩
theorem y_islit (T : Blt mg) (F : Has K mg "is_literal" s_is_literal) (YAMONGT : C8.Cal P w K mg base 1 "is_among" (Y.spZ (yAmongT K)) []) : C8.Cal P w K mg base 2 "is_literal" (Y.spZ (yIsLit K)) [] := by
  refine calF F (fun f fd F => F.binds (ps := ["value", "names"]) fun _ _ _ _ _ _ us hl => match us, hl with | [_, _], _ => rfl) scYisliteral (fun vs H Q E h => zlen (fun as P XP hc => by obtain ⟨_, _, rfl, _⟩ := hc; rfl) h) (fun f cdv A outer s H vs Q E hr h => ?_)
  have hu := hu_of hr
  refine ⟨_, (pss_cons (ps_if (PW.pt (pw_or (pt_not (pt_val (pe_callB (show CallR _ (.builtin "isinstance") (rIsi K) from call_isi) (by rfl) T.b_isinstance (by decide +kernel) (pa_cons (pv 0) (pa_cons (pe_bltn (v := .ty "tuple") (by rfl) T.b_tuple (by decide +kernel) rfl) pa_nil))))) (pw_or1 (pt_cmpR op_ne (pe_callB call_len (by rfl) T.b_len PySem.boot_len (pa_cons (pv 0) pa_nil)) pe_int (nomark _))))) (pss_one (ps_ret pe_bl)) pss_nil)
      (pss_one (ps_ret (pe_and (C8.pe_c YAMONGT hr (by decide) rfl (pa_cons (pe_ix ix_tup (pv 0) pe_int (fun _ _ => rfl)) (pa_cons (pv 1) pa_nil))) (pe_one (pe_callB (show CallR _ (.builtin "isinstance") (rIsi K) from call_isi) (by rfl) T.b_isinstance (by decide +kernel) (pa_cons (pe_ix ix_tup (pv 0) pe_int (fun _ _ => rfl)) (pa_cons (pe_bltn (v := .ty "bool") (by rfl) T.b_bool (by decide +kernel) rfl) pa_nil)))))))), zrun h ?_⟩
  rintro as P XP ⟨l, ns, rfl, hm, hp⟩ hl
  obtain ⟨p0, p1, rfl⟩ := len2 hl
  refine ⟨0, rfl, by decide, ?_⟩
  refine blk_seq (blk_if (et_or (et_not (et_b (ev_isi (A := "tuple") (b := true) (fun W H v x ok _ r => ty_t2L r) (by decide +kernel) (ev_var rfl ⟨rfl, fun h => absurd h (by decide), fun _ => et_b (ev_op ro_neI (ev_cb rc_lenT2 (ev_var rfl ⟨fun h => (nomatch h), ev_c (t := tInt) (fun _ _ => rfl) ⟨fun h => absurd h (by decide), fun _ => blk_next ?_⟩⟩)))⟩))))))
  refine blk_ret (ev_and (ev_call0 (ea_cons (ev_op ro_t20 (ev_var rfl (ev_c (t := tInt) (fun _ _ => rfl) ⟨rfl, ea_cons (ev_var (t := tTu K tStr) (x := ns) rfl (ea_nil ⟨fun h => (nomatch h), allc trivial (all1 trivial), _, ns, rfl, fun _ => ⟨fun _ => ?_, fun h => ?_⟩⟩))⟩))))))
  · refine ev_isi (A := "bool") (b := true) (fun W H v x ok _ r => by cases r; exact .base (.bl _)) (by decide +kernel) (t := tBl) (ev_op ro_t21 (ev_var rfl (ev_c (t := tInt) (fun _ _ => rfl) ⟨rfl, rfl, fin0 [_, _] _ hp⟩)))
  · exact absurd hm (of_decide_eq_false h)
abbrev NYisrow : List Str := ["value", "names", "part"]
theorem scYisrow : FnScope NYisrow ["value", "names"] (defScope s_is_row) := ⟨rfl, rfl, rfl, by decide +kernel, rfl, by decide +kernel, by decide +kernel⟩
theorem y_isrow (T : Blt mg) (F : Has K mg "_is_row" s_is_row) (YISLIT : C8.Cal P w K mg base 2 "is_literal" (Y.spZ (yIsLit K)) []) : C8.Cal P w K mg base 3 "_is_row" (Y.spZ (yIsRow K)) [] := by
  refine calF F (fun f fd F => F.binds (ps := ["value", "names"]) fun _ _ _ _ _ _ us hl => match us, hl with | [_, _], _ => rfl) scYisrow (fun vs H Q E h => zlen (fun as P XP hc => by obtain ⟨_, _, rfl, _⟩ := hc; rfl) h) (fun f cdv A outer s H vs Q E hr h => ?_)
  have hu := hu_of hr
  refine ⟨_, (pss_one (ps_ret (pe_and (pe_callB (show CallR _ (.builtin "isinstance") (rIsi K) from call_isi) (by rfl) T.b_isinstance (by decide +kernel) (pa_cons (pv 0) (pa_cons (pe_bltn (v := .ty "tuple") (by rfl) T.b_tuple (by decide +kernel) rfl) pa_nil))) (pe_and (pe_cmpR op_eq (pe_callB call_len (by rfl) T.b_len PySem.boot_len (pa_cons (pv 0) pa_nil)) pe_int (nomark _)) (pe_one (pe_callB (cr_all rfl) (by rfl) T.b_all (by decide +kernel) (pa_cons (pe_lc (own := [("part", 2)]) (g := gName 2) (tt := tYes) rfl scYisrow.nd (pi_tup (pv 0)) (blkOk_by (own := [("part", 2)]) (N := NYisrow) (sc := defScope s_is_row) (by decide +kernel)) (fun _ _ _ _ _ => (pg_name (i := 2) scYisrow.nd rfl (Or.inl rfl))) (fun _ _ _ _ _ => pts_nil) (fun _ _ _ _ _ => (C8.pe_c YISLIT hr (by decide) rfl (pa_cons (pv 2) (pa_cons (pv 1) pa_nil))))) pa_nil))))))), zrun h ?_⟩
  rintro as P XP ⟨r, ns, rfl, ⟨h1, h2⟩, hp⟩ hl
  obtain ⟨p0, p1, rfl⟩ := len2 hl
  refine ⟨1, rfl, by decide, ?_⟩
  refine blk_ret (ev_and (ev_isi (A := "tuple") (b := true) (fun W H v x ok _ r => ty_t2L r) (by decide +kernel) (ev_var rfl ⟨rfl, fun _ => ?_, fun h => (nomatch h)⟩)))
  refine ev_and (ev_op ro_eqI (ev_cb rc_lenT2 (ev_var rfl ⟨fun h => (nomatch h), ev_c (t := tInt) (fun _ _ => rfl) ⟨fun _ => ?_, fun h => absurd h (by decide)⟩⟩)))
  refine ev_cb rc_all (EvR.share (O := oL K tBl) (ev_lc (K := K) (u := tBl) (vs := [2]) (ei_tup (ev_asTu (ev_var rfl ⟨(fun i ys => ys = ([r.1, r.2].take i).map fun _ => true), fits40 (by decide : 2 ≤ 1000), frees1 (free_of rfl), rfl, ?_, ?_⟩)))))
  · rintro i l ys hx rfl
    have hm : l.1 ∈ ns := by
      rcases List.mem_cons.mp (List.mem_of_getElem? hx) with e | e
      · rw [e]; exact h1
      · rw [List.mem_singleton] at e
        rw [e]; exact h2
    refine tg_name (by decide) (free_of rfl) (et_yes ⟨fun _ => ev_call0 (ea_cons (ev_var rfl (ea_cons (ev_var (t := tTu K tStr) (x := ns) rfl (ea_nil ⟨fun h => (nomatch h), allc trivial (all1 trivial), l, ns, rfl, hm, fun _ => ?_⟩))))), fun h => (nomatch h)⟩)
    show ([r.1, r.2].take i).map _ ++ [true] = ([r.1, r.2].take (i + 1)).map _
    rw [List.take_succ, hx, List.map_append]
    rfl
  · rintro ys rfl
    exact ⟨fun h => (nomatch h), fin0 [_, _] _ hp⟩
abbrev NYrowfault : List Str := ["rows", "names", "index", "row"]
theorem scYrowfault : FnScope NYrowfault ["rows", "names"] (defScope s_row_fault) := ⟨rfl, rfl, rfl, by decide +kernel, rfl, by decide +kernel, by decide +kernel⟩
theorem y_rowf (T : Blt mg) (G4 : ∃ t, mg "MOST_ROWS" = some (.int 400 t)) (F : Has K mg "_row_fault" s_row_fault) (YISROW : C8.Cal P w K mg base 3 "_is_row" (Y.spZ (yIsRow K)) []) : C8.Cal P w K mg base 4 "_row_fault" (Y.spZ (yRowF K)) [] := by
  obtain ⟨t4, g4⟩ := G4
  have G_MOST_ROWS : True ∧ mg "MOST_ROWS" = some (.int 400 t4) := ⟨trivial, g4⟩
  refine calF F (fun f fd F => F.binds (ps := ["rows", "names"]) fun _ _ _ _ _ _ us hl => match us, hl with | [_, _], _ => rfl) scYrowfault (fun vs H Q E h => zlen (fun as P XP hc => by obtain ⟨_, _, rfl, _⟩ := hc; rfl) h) (fun f cdv A outer s H vs Q E hr h => ?_)
  have hu := hu_of hr
  refine ⟨_, (pss_cons (ps_if (PW.pt (pw_or (pt_not (pt_val (pe_callB (show CallR _ (.builtin "isinstance") (rIsi K) from call_isi) (by rfl) T.b_isinstance (by decide +kernel) (pa_cons (pv 0) (pa_cons (pe_bltn (v := .ty "list") (by rfl) T.b_list (by decide +kernel) rfl) pa_nil))))) (pw_or1 (pt_cmpR op_gt (pe_callB call_len (by rfl) T.b_len PySem.boot_len (pa_cons (pv 0) pa_nil)) (pe_glob (v := .int 400) rfl G_MOST_ROWS.2 ⟨_, rfl⟩) (nomark _))))) (pss_one (ps_ret (pe_un un_neg pe_int))) pss_nil)
      (pss_cons (ps_for PassesOwn.never rfl (pi_enum (by rfl) T.b_enumerate (pa_cons (pv 0) pa_nil)) (pg_tup rfl (pgs_cons (pg_name (i := 2) scYrowfault.nd rfl (Or.inl rfl)) (pgs_cons (pg_name (i := 3) scYrowfault.nd rfl (Or.inl rfl)) pgs_nil)))
        (pss_one (ps_if (pt_not (pt_val (C8.pe_c YISROW hr (by decide) rfl (pa_cons (pv 3) (pa_cons (pv 1) pa_nil))))) (pss_one (ps_ret (pv 2))) pss_nil)))
      (pss_one (ps_ret pe_non)))), zrun h ?_⟩
  rintro as P XP ⟨rs, ns, rfl, R, hp⟩ hl
  obtain ⟨p0, p1, rfl⟩ := len2 hl
  refine ⟨2, rfl, by decide, ?_⟩
  have hi := R.hi
  refine blk_seq (blk_if (et_or (et_not (et_b (ev_isi (A := "list") (b := true) (fun W H v x ok _ r => by obtain ⟨a, vs, rfl, sq, _⟩ := r; exact .base (.lst sq.2)) (by decide +kernel) (ev_var rfl ⟨rfl, fun h => absurd h (by decide), fun _ => et_b (ev_op ro_B0 (ev_cb rc_lenL (ev_var rfl ⟨fun h => (nomatch h), ev_c (t := tInt) (fun _ _ => rfl) ⟨fun h => ?_, fun _ => blk_next ?_⟩⟩)))⟩))))))
  · have h := of_decide_eq_true h
    omega
  refine blk_seq (blk_for (vs := [2, 3]) (ei_enum (ev_var (t := tLs K (tRow K)) (x := rs) rfl ⟨(fun i G' => ∃ s2 s3, G' = ⟨false, [.sh (tLs K (tRow K)) rs, .sh (tTu K tStr) ns, s2, s3], [some p0, some p1]⟩), ⟨_, _, rfl⟩, ?_, ?_⟩)))
  · rintro i r _ hr ⟨s2, s3, rfl⟩
    rw [enumZ_get] at hr
    obtain ⟨y, hy, rfl⟩ := Option.map_eq_some_iff.mp hr
    have q := R.ok y (List.mem_of_getElem? hy)
    refine tg_tup2 (tg_name (by decide) (free_of rfl) (tg_name (by decide) (free_of rfl) ?_))
    refine blk_if (et_not (et_b (ev_call0 (ea_cons (ev_var (t := tRow K) (x := y) rfl (ea_cons (ev_var (t := tTu K tStr) (x := ns) rfl (ea_nil ⟨fun h => (nomatch h), allc trivial (all1 trivial), y, ns, rfl, q, fun _ => ⟨fun h => absurd h (by decide), fun _ => blk_next ⟨_, _, rfl⟩⟩⟩))))))))
  · rintro _ ⟨s2, s3, rfl⟩
    exact blk_ret (ev_nul (fin0 [_, _] _ hp))
theorem y_namesf (c : C8.Cal P w K mg base 2 "names_fault" (spNamesF K) []) : C8.Cal P w K mg base 2 "names_fault" (Y.spZ (yNamesF K)) [] := by
  obtain ⟨f, fd, ps, ds, F, hm, kp, b, d⟩ := c.ex
  refine ⟨f, fd, ps, ds, F.imp fun vs H Q E s => ?_, hm, kp, b, d⟩
  obtain ⟨W, as, P, XP, ok, nl, ha, ⟨ns, rfl, h1, hp⟩, q, _⟩ := s
  have h0 := ha.2 0
  match vs, ha.1 with
  | [v], _ =>
    have r := h0 v _ rfl rfl
    obtain ⟨a, us, rfl, sq, pp⟩ := id r
    have e := paired_f scS pp
    have hh := sq.at ok
    rw [e] at hh
    refine ⟨a, ns, rfl, hh, h1, fun H' s => ?_⟩
    obtain ⟨g, ok'⟩ := yok_same ok s
    refine q _ W H' [.sh (tTu K tStr) ns] none (hp _) g ok' ⟨rfl, fun k v s h1 h2 => ?_⟩ rfl
    match k, h1, h2 with
    | 0, h1, h2 =>
      cases h1
      cases h2
      exact (tTu K tStr).mv r g
abbrev NYhasjustT : List Str := ["value", "keys", "key"]
theorem scYhasjustT : FnScope NYhasjustT ["value", "keys"] (defScope s_has_just) := ⟨rfl, rfl, rfl, by decide +kernel, rfl, by decide +kernel, by decide +kernel⟩
theorem y_justT (T : Blt mg) (F : Has K mg "has_just" s_has_just) : C8.Cal P w K mg base 1 "has_just" (Y.spZ (yJustT K)) [] := by
  refine calF F (fun f fd F => F.binds (ps := ["value", "keys"]) fun _ _ _ _ _ _ us hl => match us, hl with | [_, _], _ => rfl) scYhasjustT (fun vs H Q E h => zlen (fun as P XP hc => by obtain ⟨_, _, rfl, _⟩ := hc; rfl) h) (fun f cdv A outer s H vs Q E hr h => ?_)
  have hu := hu_of hr
  refine ⟨_, (pss_one (ps_ret (pe_and (pe_callB (show CallR _ (.builtin "isinstance") (rIsi K) from call_isi) (by rfl) T.b_isinstance (by decide +kernel) (pa_cons (pv 0) (pa_cons (pe_bltn (v := .ty "dict") (by rfl) T.b_dict (by decide +kernel) rfl) pa_nil))) (pe_and (pe_cmpR op_eq (pe_callB call_lenD (by rfl) T.b_len PySem.boot_len (pa_cons (pv 0) pa_nil)) (pe_callB call_len (by rfl) T.b_len PySem.boot_len (pa_cons (pv 1) pa_nil)) (nomark _)) (pe_one (pe_callB (cr_all rfl) (by rfl) T.b_all (by decide +kernel) (pa_cons (pe_lc (own := [("key", 2)]) (g := gName 2) (tt := tYes) rfl scYhasjustT.nd (pi_tup (pv 1)) (blkOk_by (own := [("key", 2)]) (N := NYhasjustT) (sc := defScope s_has_just) (by decide +kernel)) (fun _ _ _ _ _ => (pg_name (i := 2) scYhasjustT.nd rfl (Or.inl rfl))) (fun _ _ _ _ _ => pts_nil) (fun _ _ _ _ _ => (pe_cmp (pc_din hu (pv 2) (pv 0)) rfl))) pa_nil))))))), zrun h ?_⟩
  rintro as P XP ⟨d, ns, rfl, ⟨hln, h1000, hh⟩, hp⟩ hl
  obtain ⟨p0, p1, rfl⟩ := len2 hl
  refine ⟨1, rfl, by decide, ?_⟩
  refine blk_ret (ev_and (ev_isi (A := "dict") (b := true) (fun W H v x ok _ r => ty_dK r) (by decide +kernel) (ev_var rfl ⟨rfl, fun _ => ?_, fun h => (nomatch h)⟩)))
  refine ev_and (ev_op ro_eqI (ev_cb rc_lenD (ev_var rfl ⟨fun _ => rfl, ev_cb rc_lenT (ev_var (t := tTu K tStr) (x := ns) rfl ⟨fun h => (nomatch h), fun _ => ?_, fun h => ?_⟩)⟩)))
  · refine ev_cb rc_all (EvR.share (O := oL K tBl) (ev_lc (K := K) (vs := [2]) (ei_tup (ev_var (t := tTu K tStr) (x := ns) rfl ⟨(fun i ys => ys = (ns.take i).map fun _ => true), fits40 h1000, ?_, rfl, ?_, ?_⟩))))
    · intro i hi
      rw [List.mem_singleton] at hi; subst hi; exact free_of rfl
    · rintro i x ys hx rfl
      refine tg_name (by decide) (free_of rfl) (et_yes ⟨fun _ => ev_din kyS (ev_var rfl (ev_var rfl ?_)), fun h => (nomatch h)⟩)
      show (ns.take i).map _ ++ [hasK d x] = (ns.take (i + 1)).map _
      rw [hh x (List.mem_of_getElem? hx), List.take_succ, hx, List.map_append]
      rfl
    · rintro ys rfl
      refine ⟨fun h => (nomatch h), ?_⟩
      rw [show (((ns.take ns.length).map fun _ => true).all id) = true from by simp]
      exact fin0 [_, _] _ hp
  · rw [hln] at h
    simp at h
abbrev NYpricefault0 : List Str := ["prices", "names", "least", "name"]
theorem scYpricefault0 : FnScope NYpricefault0 ["prices", "names", "least"] (defScope s_price_fault) := ⟨rfl, rfl, rfl, by decide +kernel, rfl, by decide +kernel, by decide +kernel⟩
theorem y_pricef0 (T : Blt mg) (G4 : ∃ t, mg "GREATEST_PRICE" = some (.int (10 ^ 30) t)) (F : Has K mg "price_fault" s_price_fault) (YJUST : C8.Cal P w K mg base 1 "has_just" (Y.spZ (yJustT K)) []) (YBET : C8.Cal P w K mg base 2 "is_between" (Y.spZ yBet) []) : C8.Cal P w K mg base 3 "price_fault" (Y.spZ (yPriceF0 K)) [] := by
  obtain ⟨t4, g4⟩ := G4
  have G_GREATEST_PRICE : True ∧ mg "GREATEST_PRICE" = some (.int (10 ^ 30) t4) := ⟨trivial, g4⟩
  refine calF F (fun f fd F => F.binds (ps := ["prices", "names", "least"]) fun _ _ _ _ _ _ us hl => match us, hl with | [_, _, _], _ => rfl) scYpricefault0 (fun vs H Q E h => zlen (fun as P XP hc => by obtain ⟨_, _, rfl, _⟩ := hc; rfl) h) (fun f cdv A outer s H vs Q E hr h => ?_)
  have hu := hu_of hr
  refine ⟨_, (pss_cons (ps_if (pt_not (pt_val (C8.pe_c YJUST hr (by decide) rfl (pa_cons (pv 0) (pa_cons (pv 1) pa_nil))))) (pss_one (ps_ret pe_str)) pss_nil)
      (pss_cons (ps_for PassesOwn.never rfl (pi_list (pe_callB Own.cr_sortS (by rfl) T.b_sorted (by decide +kernel) (pa_cons (pv 1) pa_nil))) (pg_name (i := 3) scYpricefault0.nd rfl (Or.inl rfl))
        (pss_one (ps_if (pt_not (pt_val (C8.pe_c YBET hr (by decide) rfl (pa_cons (pe_dget hu (pv 0) (pv 3) (fun _ _ => rfl)) (pa_cons (pv 2) (pa_cons (pe_glob (v := .int (10 ^ 30)) rfl G_GREATEST_PRICE.2 ⟨_, rfl⟩) pa_nil)))))) (pss_one (ps_ret (pv 3))) pss_nil)))
      (pss_one (ps_ret pe_non)))), zrun h ?_⟩
  rintro as P XP ⟨d, ns, rfl, ⟨hln, h1000, hh⟩, hp⟩ hl
  obtain ⟨p0, p1, p2, rfl⟩ := len3 hl
  refine ⟨1, rfl, by decide, ?_⟩
  refine blk_seq (blk_if (et_not (et_b (ev_call0 (ea_cons (ev_var rfl (ea_cons (ev_var (t := tTu K tStr) (x := ns) rfl (ea_nil ⟨fun _ => rfl, allc trivial (all1 trivial), d, ns, rfl, ⟨hln, h1000, fun x hx => ?_⟩, fun _ => ⟨fun h => absurd h (by decide), fun _ => blk_next ?_⟩⟩)))))))))
  · obtain ⟨p, h1, _⟩ := hh x hx
    unfold hasK
    rw [h1]
    rfl
  refine blk_seq (blk_for (vs := [3]) (ei_list (EvR.share (O := oL K tStr) (ev_cb rc_sortST (ev_var (t := tTu K tStr) (x := ns) rfl ⟨fun h => (nomatch h), fun os pm _ => ⟨(fun i G' => ∃ s3, G' = ⟨true, [.sh (tDk kS tInt) d, .sh (tTu K tStr) ns, .sh tInt 0, s3], [some p0, some p1, some p2]⟩), ⟨_, rfl⟩, ?_, ?_⟩⟩)))))
  · rintro i x _ hx ⟨s3, rfl⟩
    obtain ⟨p, h1, h2, h3⟩ := hh x (pm.mem_iff.mp (List.mem_of_getElem? hx))
    refine tg_name (by decide) (free_of rfl) (blk_if (et_not (et_b (ev_call0 (ea_cons (ev_dget kyS (ev_var (t := tDk kS tInt) (x := d) rfl (ev_var (t := tStr) (x := x) rfl ⟨p, h1, ea_cons (ev_var (t := tInt) (x := 0) rfl (ea_cons (ev_c (t := tInt) (fun _ _ => rfl) (ea_nil ⟨fun h => (nomatch h), allc trivial (allc trivial (all1 trivial)), p, 0, 10 ^ 30, rfl, fun _ => ?_⟩))))⟩))))))))
    rw [decide_eq_true h2, decide_eq_true h3]
    exact ⟨fun h => absurd h (by decide), fun _ => blk_next ⟨_, rfl⟩⟩
  · rintro _ ⟨s3, rfl⟩
    exact blk_ret (ev_nul (fin0 [_, _, _] _ hp))
abbrev NYClausesinit : List Str := ["self", "names", "rows", "prices", "wrong", "name"]
theorem scYClausesinit : FnScope NYClausesinit ["self", "names", "rows", "prices"] (defScope s_Clauses_init) := ⟨rfl, rfl, rfl, by decide +kernel, rfl, by decide +kernel, by decide +kernel⟩
theorem y_clauses (T : Blt mg) (CC' : ClC K CC) (F : (∃ f fd, Fun K "__init__" "Clauses.__init__" s_Clauses_init f fd ∧ Mk K CC f) ∧ mg "Clauses" = some (.ref CC)) (YNAMESFLT : C8.Cal P w K mg base 2 "names_fault" (Y.spZ (yNamesF K)) []) (YROWFLT : C8.Cal P w K mg base 4 "_row_fault" (Y.spZ (yRowF K)) []) (YPRICEFLT : C8.Cal P w K mg base 3 "price_fault" (Y.spZ (yPriceF0 K)) []) : C8.Mak P w K mg base 5 "Clauses" CC (Y.spZ (ctCl K CC)) [] := by
  refine mak_to ?_ to_cl
  refine makY F (fun f fd F => F.binds (ps := ["self", "names", "rows", "prices"]) fun _ _ _ _ _ _ us hl => match us, hl with | [_, _, _, _], _ => rfl) scYClausesinit (fun vs H Q E h => zlen (fun as P XP hc => by obtain ⟨_, _, _, rfl, _⟩ := hc; rfl) h) (fun f cdv A outer s H vs Q E hr h => ?_)
  have hu := hu_of hr
  refine ⟨_, (pss_cons (ps_set (i := 4) scYClausesinit.nd rfl (Or.inl rfl) (C8.pe_c YNAMESFLT hr (by decide) rfl (pa_cons (pv 1) pa_nil)))
      (pss_cons (ps_if (pt_cmpR op_notN (pv 4) pe_non (nomark _)) pss_never pss_nil)
      (pss_cons (ps_set (i := 4) scYClausesinit.nd rfl (Or.inl rfl) (C8.pe_c YROWFLT hr (by decide) rfl (pa_cons (pv 2) (pa_cons (pv 1) pa_nil))))
      (pss_cons (ps_if (pt_cmpR op_notN (pv 4) pe_non (nomark _)) pss_never pss_nil)
      (pss_cons (ps_set (i := 4) scYClausesinit.nd rfl (Or.inl rfl) (C8.pe_c YPRICEFLT hr (by decide) rfl (pa_cons (pv 3) (pa_cons (pv 1) (pa_cons pe_int pa_nil)))))
      (pss_cons (ps_if (pt_cmpR op_notN (pv 4) pe_non (nomark _)) pss_never pss_nil)
      (pss_cons (ps_fld (pv 0) (pe_dc (own := [("name", 5)]) (g := gName 5) rfl scYClausesinit.nd (pi_list (pe_callB Own.cr_sortS (by rfl) T.b_sorted (by decide +kernel) (pa_cons (pv 1) pa_nil))) (blkOk_by (own := [("name", 5)]) (N := NYClausesinit) (sc := defScope s_Clauses_init) (by decide +kernel)) (fun _ _ _ _ _ => (pg_name (i := 5) scYClausesinit.nd rfl (Or.inl rfl))) (fun _ _ _ _ _ => pts_nil) (fun _ _ _ _ _ => (pv 5)) (fun _ _ _ _ _ => (pe_dget hu (pv 3) (pv 5) (fun _ _ => rfl)))) rfl)
      (pss_one (ps_fld (pv 0) (pe_callTy call_list_of (by rfl) T.b_list (by decide +kernel) (pa_cons (pv 2) pa_nil)) rfl))))))))), zrun h ?_⟩
  rintro as P XP ⟨ns, rs, d, rfl, pC, hp⟩ hl
  obtain ⟨p0, p1, p2, p3, rfl⟩ := len4 hl
  refine ⟨2, rfl, by decide, ?_⟩
  refine blk_seq (blk_set (t := tOpt tInt) (ev_call0 (ea_cons (ev_var (t := tTu K tStr) (x := ns) rfl (ea_nil ⟨fun h => (nomatch h), all1 trivial, ns, rfl, pC.no, fun _ => ⟨rfl, ?_⟩⟩)))))
  refine blk_seq (blk_if (et_b (ev_op (ro_notO nnI) (ev_var (t := tOpt tInt) (x := none) rfl (ev_c (t := tNon) (x := ()) (fun _ _ => rfl) ⟨fun h => absurd h (by decide), fun _ => blk_next ?_⟩)))))
  refine blk_seq (blk_set (t := tOpt tInt) (ev_call0 (ea_cons (ev_var (t := tLs K (tRow K)) (x := rs) rfl (ea_cons (ev_var (t := tTu K tStr) (x := ns) rfl (ea_nil ⟨fun h => (nomatch h), allc trivial (all1 trivial), rs, ns, rfl, pC.ro, fun _ => ⟨rfl, ?_⟩⟩)))))))
  refine blk_seq (blk_if (et_b (ev_op (ro_notO nnI) (ev_var (t := tOpt tInt) (x := none) rfl (ev_c (t := tNon) (x := ()) (fun _ _ => rfl) ⟨fun h => absurd h (by decide), fun _ => blk_next ?_⟩)))))
  refine blk_seq (blk_set (t := tOpt tStr) (ev_call0 (ea_cons (ev_var (t := tDk kS tInt) (x := d) rfl (ea_cons (ev_var (t := tTu K tStr) (x := ns) rfl (ea_cons (ev_c (t := tInt) (fun _ _ => rfl) (ea_nil ⟨fun _ => rfl, allc trivial (allc trivial (all1 trivial)), d, ns, rfl, ⟨pC.ln, Nat.le_trans pC.no.hi (by decide), fun x hx => ⟨_, pC.po x hx⟩⟩, fun _ => ⟨rfl, ?_⟩⟩)))))))))
  refine blk_seq (blk_if (et_b (ev_op (ro_notO nnStr) (ev_var (t := tOpt tStr) (x := none) rfl (ev_c (t := tNon) (x := ()) (fun _ _ => rfl) ⟨fun h => absurd h (by decide), fun _ => blk_next ?_⟩)))))
  have hi := pC.no.hi
  refine blk_seq (blk_fld CC'.cl CC'.np (Nat.le_of_ble_eq_true rfl) (pw_var (i := 0) rfl (by decide)) (EvR.share (O := oD kS tInt) (ev_dc (vs := [5]) kyS (ei_list (EvR.share (O := oL K tStr) (ev_cb rc_sortST (ev_var (t := tTu K tStr) (x := ns) rfl ⟨fun h => (nomatch h), fun os pm asc => ⟨(fun i ys => ys = (os.take i).map fun x => (x, gD d x)), ?_, frees1 (free_of rfl), rfl, ?_, ?_⟩⟩)))))))
  · rw [pm.length_eq]
    exact fits40 (by omega)
  · rintro i x ys hx rfl
    refine tg_name (by decide) (free_of rfl) (et_yes ⟨fun _ => ev_var rfl (ev_dget kyS (ev_var (t := tDk kS tInt) (x := d) rfl (ev_var (t := tStr) (x := x) rfl ⟨_, (pC.po x (pm.mem_iff.mp (List.mem_of_getElem? hx))).1, ?_⟩))), fun h => (nomatch h)⟩)
    show (os.take i).map _ ++ [_] = (os.take (i + 1)).map _
    rw [List.take_succ, hx, List.map_append]
    rfl
  rintro ys rfl
  rw [List.take_length, mkD_nodup (by rw [List.map_map]; show (os.map fun x => x).Nodup; rw [List.map_id']; exact pm.nodup_iff.mpr pC.no.nd)]
  refine blk_fld CC'.cl CC'.nr (Nat.le_of_ble_eq_true rfl) (pw_var (i := 0) rfl (by decide)) (EvR.share (O := oL K (tRow K)) (ev_cb rc_listL (ev_var (t := tLs K (tRow K)) (x := rs) rfl ⟨fun h => (nomatch h), ?_⟩)))
  have ek : (os.map fun x => (x, gD d x)).map (·.1) = os := by rw [List.map_map]; show (os.map fun x => x) = os; rw [List.map_id']
  have := hp ⟨os.map fun x => (x, gD d x), rs⟩ ⟨by show ((os.map fun x => (x, gD d x)).map (·.1)).Perm ns; rw [ek]; exact pm, by show Own.AscS ((os.map fun x => (x, gD d x)).map (·.1)); rw [ek]; exact asc, by show _ = atD ((os.map fun x => (x, gD d x)).map (·.1)) _; rw [ek]; rfl, rfl⟩
  exact ⟨(), ⟨rfl, _, [_, _, _, _], _, rfl, rfl, .same (.same (.same (.same .nil))), this _⟩, fun _ _ => rfl⟩
abbrev yClNames (K : PySem.W.Frag) (CC : Addr) : Y.CT (List Str) := ⟨true, .ow (oL K tStr), fun as P _ => ∃ c, as = [.sh (yCl K CC) c] ∧ ∀ os, P os c.ns⟩
abbrev yClRows (K : PySem.W.Frag) (CC : Addr) : Y.CT (List Row) := ⟨false, .ow (oL K (tRow K)), fun as P _ => ∃ c, as = [.sh (yCl K CC) c] ∧ ∀ os, P os c.rs⟩
abbrev yClNeed (K : PySem.W.Frag) (CC : Addr) : Y.CT Unit := ⟨false, .sh tNon, fun as P _ => ∃ c x, as = [.sh (yCl K CC) c, .sh tStr x] ∧ hasK c.ps x = true ∧ ∀ os, P os ()⟩
abbrev yClPrice (K : PySem.W.Frag) (CC : Addr) : Y.CT Int := ⟨false, .sh tInt, fun as P _ => ∃ c x, as = [.sh (yCl K CC) c, .sh tStr x] ∧ x ∈ c.ns ∧ ∀ os, P os (gD c.ps x)⟩
abbrev yClLen (K : PySem.W.Frag) (CC : Addr) : Y.CT Int := ⟨false, .sh tInt, fun as P _ => ∃ c, as = [.sh (yCl K CC) c] ∧ ∀ os, P os (c.rs.length : Int)⟩
abbrev yClWith (K : PySem.W.Frag) (CC : Addr) : Y.CT ClZ := ⟨true, .sh (yCl K CC), fun as P _ => ∃ c r, as = [.sh (yCl K CC) c, .sh (tRow K) r] ∧ (WfC c ∧ c.rs.length < 400 ∧ r.1.1 ∈ c.ns ∧ r.2.1 ∈ c.ns) ∧ ∀ c', c' = ⟨c.ps, c.rs ++ [r]⟩ → WfC c' → ∀ os, P os c'⟩
abbrev NYClausesnames : List Str := ["self"]
theorem scYClausesnames : FnScope NYClausesnames ["self"] (defScope s_Clauses_names) := ⟨rfl, rfl, rfl, by decide +kernel, rfl, by decide +kernel, by decide +kernel⟩
theorem y_clnames (T : Blt mg) (CC' : ClC K CC) (F : HasM K CC "names" "Clauses.names" s_Clauses_names) : C8.Met P w K mg base 1 CC "names" (Y.spZ (yClNames K CC)) [] := by
  refine metF CC'.cl F (fun f fd F => F.binds (ps := ["self"]) fun _ _ _ _ _ _ us hl => match us, hl with | [_], _ => rfl) scYClausesnames (fun vs H Q E h => zlen (fun as P XP hc => by obtain ⟨_, rfl, _⟩ := hc; rfl) h) (fun f cdv A outer s H vs Q E hr h => ?_)
  have hu := hu_of hr
  refine ⟨_, (pss_one (ps_ret (pe_callTy (call_list_dK rfl) (by rfl) T.b_list (by decide +kernel) (pa_cons (pe_fld (pv 0) rfl) pa_nil)))), zrun h ?_⟩
  rintro as P XP ⟨c, rfl, hp⟩ hl
  obtain ⟨p0, rfl⟩ := len1 hl
  refine ⟨0, rfl, by decide, ?_⟩
  exact blk_ret (ev_cb (rc_listD kyS) (ev_fld (fo_clp CC') (ev_var rfl ⟨fun _ => rfl, fin0 [_] _ hp⟩)))
abbrev NYClausesrows : List Str := ["self"]
theorem scYClausesrows : FnScope NYClausesrows ["self"] (defScope s_Clauses_rows) := ⟨rfl, rfl, rfl, by decide +kernel, rfl, by decide +kernel, by decide +kernel⟩
theorem y_clrows (T : Blt mg) (CC' : ClC K CC) (F : HasM K CC "rows" "Clauses.rows" s_Clauses_rows) : C8.Met P w K mg base 1 CC "rows" (Y.spZ (yClRows K CC)) [] := by
  refine metF CC'.cl F (fun f fd F => F.binds (ps := ["self"]) fun _ _ _ _ _ _ us hl => match us, hl with | [_], _ => rfl) scYClausesrows (fun vs H Q E h => zlen (fun as P XP hc => by obtain ⟨_, rfl, _⟩ := hc; rfl) h) (fun f cdv A outer s H vs Q E hr h => ?_)
  have hu := hu_of hr
  refine ⟨_, (pss_one (ps_ret (pe_callTy call_list_of (by rfl) T.b_list (by decide +kernel) (pa_cons (pe_fld (pv 0) rfl) pa_nil)))), zrun h ?_⟩
  rintro as P XP ⟨c, rfl, hp⟩ hl
  obtain ⟨p0, rfl⟩ := len1 hl
  refine ⟨0, rfl, by decide, ?_⟩
  exact blk_ret (ev_cb rc_listL (ev_fld (fo_clr CC') (ev_var rfl ⟨fun h => (nomatch h), fin0 [_] _ hp⟩)))
abbrev NYClausesneed : List Str := ["self", "name"]
abbrev NYClausesprice : List Str := ["self", "name"]
abbrev NYClauseslen : List Str := ["self"]
end
end KK
end

section
set_option maxRecDepth 100000
set_option maxHeartbeats 4000000
/-! data in a list -/
namespace Own
open PySem PySem.Spec PyProof.Rows L2
def rInDL (K : PySem.W.Frag) (neg : Bool) : R2 := fun x y H Q => ∃ d ds, Dp K H x d ∧ Dp K H y (.list ds) ∧ SeqAt.shaped d = true ∧ SeqAt.shaped (.list ds) = true ∧ Q (.bl (if neg then !ds.any fun z => PyData.eqv z d else ds.any fun z => PyData.eqv z d)) H
theorem op_inDL {X : Cx} (hu : X.A.units + 65 < cLine) : OpR X (compareOp .In) (rInDL X.K false) := by
  intro pins s σ H x y v u Q I rx ry h
  obtain ⟨d, ds, hd, he, sd, se, q⟩ := h
  obtain ⟨as, r1⟩ := Dp.reads I d x v hd rx
  obtain ⟨bs, r2⟩ := Dp.reads I (.list ds) y u he ry
  exact SeqAt.in_list_reads r2 r1 (SeqAt.canLay_of_shaped se) (SeqAt.canLay_of_shaped sd) (PyProof.Rows.room_in_shaped sd hu) ⟨.bl _, H, I, rfl, q⟩
theorem op_notInDL {X : Cx} (hu : X.A.units + 65 < cLine) : OpR X (compareOp .NotIn) (rInDL X.K true) := by
  intro pins s σ H x y v u Q I rx ry h
  obtain ⟨d, ds, hd, he, sd, se, q⟩ := h
  obtain ⟨as, r1⟩ := Dp.reads I d x v hd rx
  obtain ⟨bs, r2⟩ := Dp.reads I (.list ds) y u he ry
  exact SeqAt.notIn_list_reads r2 r1 (SeqAt.canLay_of_shaped se) (SeqAt.canLay_of_shaped sd) (PyProof.Rows.room_in_shaped sd hu) ⟨.bl _, H, I, rfl, q⟩
end Own
end

section
set_option maxRecDepth 100000
set_option maxHeartbeats 4000000
/-! lists of tuples of texts compared; a tuple of texts in such a list -/
namespace Y
open PySem PySem.Spec PyProof.Rows L2
section
variable {K : PySem.W.Frag}
abbrev eLT : List (List Str) → PyData := fun xs => .list (xs.map eTS)
abbrev Oks (xs : List (List Str)) : Prop := ∀ x ∈ xs, ∀ s ∈ x, PyData.strOk s = true
end
end Y
end

section
set_option maxRecDepth 100000
set_option maxHeartbeats 4000000
/-! things of any shape compared by their data -/
namespace Y
open PySem PySem.Spec PyProof.Rows L2
structure EqE {α : Type} [DecidableEq α] (K : PySem.W.Frag) (t : Ty α) (e : α → PyData) (n : Nat) (Ok : α → Prop) : Prop where
  enc : Enc K t e
  lay : ∀ x, Ok x → PyData.canLay0 (e x) = true
  dep : ∀ x, (e x).depth ≤ n
  eqv : ∀ x y, PyData.eqv (e x) (e y) = decide (x = y)
section
variable {K : PySem.W.Frag} {α β : Type} [DecidableEq α] [DecidableEq β] {t : Ty α} {u : Ty β} {e : α → PyData} {f : β → PyData} {n m : Nat} {Ok : α → Prop} {Ok' : β → Prop}
theorem eqe_S : EqE K tStr PyData.str 0 fun x => PyData.strOk x = true := ⟨fun W H v x r => by cases r; exact .str _, fun _ h => h, fun _ => Nat.le_refl _, fun x y => by show (x == y) = _; by_cases h : x = y <;> simp [h]⟩
theorem eqe_B : EqE K tBl PyData.bool 0 fun _ => True := ⟨fun W H v x r => by cases r; exact .bl _, fun _ _ => rfl, fun _ => Nat.le_refl _, fun x y => by cases x <;> cases y <;> rfl⟩
theorem eqe_lay (h : EqE K t e n Ok) : ∀ {xs : List α}, (∀ x ∈ xs, Ok x) → PyData.canLayAll0 (xs.map e) = true
  | [], _ => rfl
  | x :: xs, o => by
    rw [List.map_cons, PyData.canLayAll0, eqe_lay h fun y hy => o y (List.mem_cons_of_mem _ hy), Bool.and_true]
    exact h.lay x (o x List.mem_cons_self)
theorem eqe_dep (h : EqE K t e n Ok) : ∀ xs : List α, PyData.depthAll (xs.map e) ≤ n
  | [] => Nat.zero_le _
  | x :: xs => by
    rw [List.map_cons, PyData.depthAll]
    exact Nat.max_le.mpr ⟨h.dep x, eqe_dep h xs⟩
theorem eqe_eqv (h : EqE K t e n Ok) : ∀ xs ys : List α, PyData.eqvAll (xs.map e) (ys.map e) = decide (xs = ys)
  | [], [] => rfl
  | [], _ :: _ => rfl
  | _ :: _, [] => rfl
  | x :: xs, y :: ys => by
    rw [List.map_cons, List.map_cons, PyData.eqvAll, eqe_eqv h xs ys, h.eqv]
    by_cases h1 : x = y <;> by_cases h2 : xs = ys <;> simp [h1, h2]
theorem eqe_L (h : EqE K t e n Ok) : EqE K (tLs K t) (fun xs => .list (xs.map e)) (n + 1) fun xs => ∀ x ∈ xs, Ok x := by
  refine ⟨fun W H v xs r => ?_, fun xs o => eqe_lay h o, fun xs => Nat.succ_le_succ (eqe_dep h xs), fun xs ys => eqe_eqv h xs ys⟩
  obtain ⟨a, vs, rfl, sq, p⟩ := r
  exact .lst sq.l (dpAll_enc h.enc p)
theorem eqe_T2 (h : EqE K t e n Ok) (h' : EqE K u f m Ok') : EqE K (tT2 K t u) (fun x => .tuple [e x.1, f x.2]) (max n m + 1) fun x => Ok x.1 ∧ Ok' x.2 := by
  refine ⟨fun W H v x r => ?_, fun x o => ?_, fun x => ?_, fun x y => ?_⟩
  · obtain ⟨a, p, q, rfl, sq, r1, r2⟩ := r
    exact .tup sq.t (.cons (h.enc _ _ _ _ r1) (.cons (h'.enc _ _ _ _ r2) .nil))
  · show PyData.canLayAll0 [e x.1, f x.2] = true
    rw [PyData.canLayAll0, PyData.canLayAll0, PyData.canLayAll0, h.lay _ o.1, h'.lay _ o.2]
    rfl
  · show PyData.depthAll [e x.1, f x.2] + 1 ≤ _
    rw [PyData.depthAll, PyData.depthAll, PyData.depthAll]
    have := h.dep x.1
    have := h'.dep x.2
    omega
  · show PyData.eqvAll [e x.1, f x.2] [e y.1, f y.2] = _
    rw [PyData.eqvAll, PyData.eqvAll, PyData.eqvAll, h.eqv, h'.eqv]
    obtain ⟨x1, x2⟩ := x
    obtain ⟨y1, y2⟩ := y
    by_cases h1 : x1 = y1 <;> by_cases h2 : x2 = y2 <;> simp [h1, h2]
theorem eqe_shp (h : EqE K t e n Ok) (hn : n ≤ 64) {x : α} (o : Ok x) : SeqAt.shaped (e x) = true := by
  unfold SeqAt.shaped
  rw [Bool.and_eq_true]
  exact ⟨h.lay x o, decide_eq_true (Nat.le_trans (h.dep x) hn)⟩
theorem ro_eqE (h : EqE K t e n Ok) (hn : n ≤ 64 := by decide) : RO (rEqD K) t t (.sh tBl) (fun x y P => (Ok x ∧ Ok y) ∧ P (decide (x = y))) := by
  rintro W H v w x y Q P ok r1 r2 ⟨⟨h1, h2⟩, c⟩ q
  refine ⟨_, _, h.enc _ _ _ _ r1, h.enc _ _ _ _ r2, eqe_shp h hn h1, eqe_shp h hn h2, ?_⟩
  rw [h.eqv]
  exact q _ W H _ c .refl ok rfl
theorem ro_neE (h : EqE K t e n Ok) (hn : n ≤ 64 := by decide) : RO (rNeD K) t t (.sh tBl) (fun x y P => (Ok x ∧ Ok y) ∧ P (!decide (x = y))) := by
  rintro W H v w x y Q P ok r1 r2 ⟨⟨h1, h2⟩, c⟩ q
  refine ⟨_, _, h.enc _ _ _ _ r1, h.enc _ _ _ _ r2, eqe_shp h hn h1, eqe_shp h hn h2, ?_⟩
  rw [h.eqv]
  exact q _ W H _ c .refl ok rfl
end
end Y
end

section
set_option maxRecDepth 100000
set_option maxHeartbeats 4000000
/-! range with a step -/
namespace Y
open PySem PySem.Spec PyProof.Rows L2
section
variable {X : Xw} {k : Bool} {G : Ct}
def rangeC (i c : Int) (n : Nat) : List Int := (List.range n).map fun (j : Nat) => i + (j : Int) * c
theorem rangeC_len (i c : Int) (n : Nat) : (rangeC i c n).length = n := by unfold rangeC; rw [List.length_map, List.length_range]
theorem rangeC_get {i c x : Int} {n j : Nat} (h : (rangeC i c n)[j]? = some x) : x = i + j * c ∧ j < n := by
  have hj := (List.getElem?_eq_some_iff.mp h).1
  rw [rangeC_len] at hj
  unfold rangeC at h
  rw [List.getElem?_map, List.getElem?_range hj] at h
  exact ⟨(Option.some.inj h).symm, hj⟩
theorem ei_range3 {ta tb tc : TE} {P : Ct → List Int → Prop} (h : Ev X k ta G tInt fun G i => Ev X k tb G tInt fun G j => Ev X k tc G tInt fun G c => ∃ n, RgC i j c n ∧ P G (rangeC i c n)) : Ei X k (iRng3 (tCons ta (tCons tb (tCons tc tNil)))) G tInt P := fun W H σ hs ex R q => h W H σ _ hs ex fun v W1 H1 G1 i p1 m r => p1 W1 H1 σ _ m.hs (ex.mv m.go) fun v2 W2 H2 G2 j p2 m2 r2 => p2 W2 H2 σ _ m2.hs ((ex.mv m.go).mv m2.go) fun v3 W3 H3 G3 c ⟨n, hb, p⟩ m3 r3 => by
  obtain rfl : v = .int i := r
  obtain rfl : v2 = .int j := r2
  obtain rfl : v3 = .int c := r3
  refine ⟨i, j, c, n, rfl, hb, q _ W3 H3 G3 _ _ _ p ((m.trans m2).trans m3) (by rw [rangeC_len]; exact walk_rangeC) (fun _ _ _ _ => trivial) fun W4 H4 l w H5 g4 ok4 hi hy => ?_⟩
  obtain ⟨rfl, rfl⟩ := hy
  refine ⟨i + l * c, W4, ?_, .refl, ok4, rfl⟩
  rw [rangeC_len] at hi
  unfold rangeC
  rw [List.getElem?_map, List.getElem?_range hi]
  rfl
theorem rg_two : ∀ n : Nat, n ≤ 40 → RgC 0 (n : Int) 2 ((n + 1) / 2) := by
  unfold RgC
  decide
end
end Y
end

section
set_option maxRecDepth 100000
set_option maxHeartbeats 4000000
/-! max of a list; the second of a pair as a place -/
namespace Y
open PySem PySem.Spec PyProof.Rows L2
section
variable {α γ : Type} {G : Ct} {K : PySem.W.Frag} {t : Ty α}
end
end Y
end

section
set_option maxRecDepth 100000
set_option maxHeartbeats 4000000
/-! dicts of flags as dicts of any values -/
namespace Y
open PySem PySem.Spec PyProof.Rows L2
def mapB (d : List (Str × Bool)) : List (Str × V) := d.map fun e => (e.1, V.bl e.2)
def unB (d : List (Str × V)) : List (Str × Bool) := d.map fun e => (e.1, match e.2 with | .bl b => b | _ => false)
section
variable {X : Xw} {k : Bool} {G : Ct} {K : PySem.W.Frag}
end
end Y
end

section
set_option maxRecDepth 100000
set_option maxHeartbeats 4000000
/-! dicts of flags compared -/
namespace Y
open PySem PySem.Spec PyProof.Rows L2
section
variable {K : PySem.W.Frag} {κ : Type} [DecidableEq κ] {ke : Ky κ}
def LikeF (xs ys : List (κ × Bool)) : Prop := xs.length = ys.length ∧ ∀ p ∈ xs, lookK ys p.1 = some p.2
end
end Y
end

section
set_option maxRecDepth 100000
set_option maxHeartbeats 4000000
/-! a list of two, both one's own -/
namespace Y
open PySem PySem.Spec PyProof.Rows L2
section
variable {α γ : Type}
def oLL (K : PySem.W.Frag) (A : OT α) (O : OT γ) : OT (α × γ) where
  R p W H v x := ∃ a v1 v2, v = .ref a ∧ W a = .ow p ∧ H a = some (.lst [v1, v2]) ∧ A.R (p ++ [0]) W H v1 x.1 ∧ O.R (p ++ [1]) W H v2 x.2
  sv := tL2 K A.sv O.sv
  mv := by
    rintro p p' W W' H H' v x ⟨a, v1, v2, e, w, h, r1, r2⟩ kk m
    obtain ⟨w1, h1⟩ := kk a _ [] (by rw [List.append_nil]; exact w) h
    refine ⟨a, v1, v2, e, by rw [List.append_nil] at w1; exact w1, h1, A.mv r1 (fun b o q w e => ?_) m, O.mv r2 (fun b o q w e => ?_) m⟩
    · have := kk b o ([0] ++ q) (by rw [← List.append_assoc]; exact w) e
      rwa [← List.append_assoc] at this
    · have := kk b o ([1] ++ q) (by rw [← List.append_assoc]; exact w) e
      rwa [← List.append_assoc] at this
  fz := by
    rintro p W W' H H' v x ⟨a, v1, v2, e, w, h, r1, r2⟩ kk m
    obtain ⟨w1, h1⟩ := kk a _ [] (by rw [List.append_nil]; exact w) h
    exact ⟨a, v1, v2, e, ⟨w1, h1⟩, A.fz r1 (fun b o q w e => kk b o ([0] ++ q) (by rw [← List.append_assoc]; exact w) e) m, O.fz r2 (fun b o q w e => kk b o ([1] ++ q) (by rw [← List.append_assoc]; exact w) e) m⟩
variable {G : Ct} {K : PySem.W.Frag} {X : Xw} {k : Bool}
end
end Y
end

section
set_option maxRecDepth 100000
set_option maxHeartbeats 4000000
/-! a for loop in a generator's body -/
namespace Own
open PySem PySem.Spec PyProof.Rows GenW L2
section
variable {prog : Program} {w : World} {A : Around} {R : GenEnd} {Y : Protocol} {n : Nat} {s₀ : Shared} {fs : List Frame} {s : Shared} {env : Env}
abbrev forK (target : Expr) (it : Value) (body : List Stmt) (env : Env) : Flow → Sem PySem.Fin := fun f => match f with
  | .next | .cont => .pure (.again (.forLoop target it body [] env))
  | .brk => .pure (.done .next)
  | .ret v => .pure (.done (.ret v))
abbrev forJ (env : Env) : Value → Sem PySem.Fin := fun e => (do noteFrame e env; theTreesLotGoes e : Sem Unit).wrap (fun _ => .raise e) .raise id id
end
section
variable {X : Cx}
def tGFor (wi : TI) (g : TG) (tb : TGn) : TGn := fun D ys σ H => wi σ H fun J H1 => ∃ W : Nat → Nat → List V → L2.St → Hp → Prop, (∃ m, W 0 m ys σ H1) ∧ ∀ i m ys σ H, W i m ys σ H →
  (J.stop i H ∧ D.nx ys σ H) ∨ (J.go i H ∧ ∃ N : List V → L2.St → Hp → Prop, (∀ ys' σ' H', N ys' σ' H' → ∃ m', m' < m ∧ W (i + 1) m' ys' σ' H') ∧ ∀ x H', J.yld i H x H' → g x σ H' fun σ2 H2 => tb { D with nx := N, ct := N, bk := D.nx } ys σ2 H2)
end
end Own
end

section
set_option maxRecDepth 100000
set_option maxHeartbeats 4000000
/-! dicts whose keys are tuples of flat things of any kinds (texts, flags, ints, None) -/
namespace Own
open PySem PySem.Spec PyProof.Rows L2
def vKey : V → Option NestedKey
  | .non => some .none
  | .bl b => some (.num (if b = true then 1 else 0))
  | .int i => some (.num i)
  | .str x => some (.text x)
  | _ => none
/-- at b stands a tuple that is the key k -/
def TupN (H : Hp) (b : Addr) (k : NestedKey) : Prop := ∃ vs ks, H b = some (.tup vs) ∧ vs.map vKey = ks.map some ∧ k = .tup ks
abbrev NEnt := NestedKey × Addr × V
def nAt (xs : List NEnt) (k : NestedKey) : Option V := (xs.find? fun e => decide (e.1 = k)).map (·.2.2)
def nPutAt (k : NestedKey) (v : V) (e : NEnt) : NEnt := if e.1 = k then (e.1, e.2.1, v) else e
def nPut (xs : List NEnt) (k : NestedKey) (b : Addr) (v : V) : List NEnt := if (nAt xs k).isSome then xs.map (nPutAt k v) else xs ++ [(k, b, v)]
def NRel (p : NEnt) (q : NestedKey × Addr × Value) : Prop := p.1 = q.1 ∧ p.2.1 = q.2.1 ∧ RelV p.2.2 q.2.2
def NRaw (P : Program) (w : World) (a : Addr) (xs : List NEnt) (h : Heap) : Prop := xs.length ≤ sizeLine ∧ (a == sysModules) = false ∧ ∃ ys, Paired NRel xs ys ∧ ∃ o es ep, h.get? a = some o ∧ o.ExactDict ∧ o.data = .dict es ep ∧ es.toList = ys.map (entryOfKey (nestedKind P w)) ∧ (ys.map (·.1)).Nodup
def dN (P : Program) (w : World) (a : Addr) (xs : List NEnt) : HO := .ext (NRaw P w a xs)
section
variable {P : Program} {w : World} {H : Hp} {h : Heap} {a b : Addr} {xs : List NEnt} {ys : List (NestedKey × Addr × Value)} {k : NestedKey}
theorem dN_ok (r : NRaw P w a xs h) : ObjOk P w H h a (dN P w a xs) := by
  have r2 := r
  obtain ⟨_, _, ys, _, o, es, ep, ho, _⟩ := r2
  refine ⟨r, ⟨o, ho⟩, fun h1 h2 r1 kk => ?_⟩
  obtain ⟨z, hd, ys, rel, o, es, ep, ho, rest⟩ := r1
  exact ⟨z, hd, ys, rel, o, es, ep, kk o ho, rest⟩
theorem dN_empty (h : Heap) (hb : sysModules < h.objs.size) : NRaw P w h.objs.size [] (h.push { cls := .type "dict", data := .dict #[] }) :=
  ⟨Nat.zero_le _, beq_eq_false_iff_ne.mpr (Ne.symm (Nat.ne_of_lt hb)), [], .nil, _, #[], 0, Heap.get?_push_size _ rfl, ⟨rfl, rfl, rfl⟩, rfl, rfl, List.nodup_nil⟩
theorem nestedAll_of : ∀ {vs : List V} {ks : List NestedKey} {us : List Value}, vs.map vKey = ks.map some → Vals vs us → NestedAll h ks us ∧ NestedKey.depthAll ks = 0
  | [], [], _, _, .nil => ⟨.nil, rfl⟩
  | [], k :: ks, _, e, _ => by simp at e
  | v :: vs, [], _, e, _ => by simp at e
  | v :: vs, k :: ks, _, e, .cons r rs => by
    rw [List.map_cons, List.map_cons, List.cons.injEq] at e
    obtain ⟨ih, d⟩ := nestedAll_of e.2 rs
    have e1 := e.1
    cases v with
    | non =>
      cases (show vKey .non = some k from e1)
      cases (show _ = Value.none from r)
      exact ⟨.cons .none ih, by show max 0 _ = 0; rw [d]; rfl⟩
    | bl b =>
      cases (show some (NestedKey.num (if b = true then 1 else 0)) = some k from e1)
      cases (show _ = Value.bool b from r)
      exact ⟨.cons (.bool rfl) ih, by show max 0 _ = 0; rw [d]; rfl⟩
    | int i =>
      cases (show some (NestedKey.num i) = some k from e1)
      obtain ⟨t, rfl⟩ := r
      exact ⟨.cons (.int _ _) ih, by show max 0 _ = 0; rw [d]; rfl⟩
    | str x =>
      cases (show some (NestedKey.text x) = some k from e1)
      obtain ⟨t, rfl⟩ := r
      exact ⟨.cons (.text _ _) ih, by show max 0 _ = 0; rw [d]; rfl⟩
    | _ => cases e1
theorem tupN_is (ok : HOk P w H h) (e : TupN H b k) : (nestedKind P w).is h k b := by
  obtain ⟨vs, ks, hb, em, rfl⟩ := e
  obtain ⟨_, us, r, o, h1, h2, n, h3⟩ := (show ObjOk P w H h b (.tup vs) from ok b _ hb)
  obtain ⟨na, d⟩ := nestedAll_of (h := h) em r
  refine ⟨.tup h1 h2 h3 (by simpa using na), ?_⟩
  show NestedKey.depthAll ks + 1 ≤ 8
  omega
theorem n_of (ok : HOk P w H h) (e : H a = some (dN P w a xs)) (ks : ∀ x ∈ xs, TupN H x.2.1 x.1) : xs.length ≤ sizeLine ∧ (a == sysModules) = false ∧ ∃ ys, Paired NRel xs ys ∧ h.DictOfH (nestedKind P w) a ys := by
  obtain ⟨⟨z, hd, ys, rel, o, es, ep, h1, h2, h3, h4, h5⟩, _⟩ := (show ObjOk P w H h a (dN P w a xs) from ok a _ e)
  refine ⟨z, hd, ys, rel, o, es, ep, h1, h2, h3, h4, fun y hy => ?_, h5⟩
  clear h4 h5 z e h1 h2 h3
  rename_i hyp
  clear hyp
  induction rel with
  | nil => cases hy
  | @cons p q ps qs r _ ih =>
    rcases List.mem_cons.mp hy with rfl | hy
    · have := tupN_is ok (ks p List.mem_cons_self)
      rwa [r.1, r.2.1] at this
    · exact ih (fun x hx => ks x (List.mem_cons_of_mem _ hx)) hy
theorem n_raw (e : h.DictOfH (nestedKind P w) a ys) (z : xs.length ≤ sizeLine) (hd : (a == sysModules) = false) (rel : Paired NRel xs ys) : NRaw P w a xs h := by
  obtain ⟨o, es, ep, h1, h2, h3, h4, _, h5⟩ := e
  exact ⟨z, hd, ys, rel, o, es, ep, h1, h2, h3, h4, h5⟩
theorem n_find (rel : Paired NRel xs ys) (k : NestedKey) : (nAt xs k = none ∧ atKey ys k = none) ∨ ∃ v p, nAt xs k = some v ∧ atKey ys k = some p ∧ RelV v p.2 := by
  unfold nAt atKey
  induction rel with
  | nil => exact .inl ⟨rfl, rfl⟩
  | @cons p q ps qs r _ ih =>
    by_cases c : p.1 = k
    · refine .inr ⟨p.2.2, q.2, ?_, ?_, r.2.2⟩
      · rw [List.find?_cons_of_pos (by exact decide_eq_true c)]; rfl
      · rw [List.find?_cons_of_pos (by exact decide_eq_true (r.1.symm.trans c))]; rfl
    · have c2 : ¬ q.1 = k := fun e => c (r.1.trans e)
      rw [List.find?_cons_of_neg (by simpa using c), List.find?_cons_of_neg (by simpa using c2)]
      exact ih
theorem n_put (rel : Paired NRel xs ys) (k : NestedKey) (b : Addr) {v : V} {u : Value} (rv : RelV v u) : Paired NRel (nPut xs k b v) (storedH ys k b u) := by
  have es : (nAt xs k).isSome = (atKey ys k).isSome := by
    rcases n_find rel k with ⟨e1, e2⟩ | ⟨v', p, e1, e2, _⟩ <;> rw [e1, e2] <;> rfl
  unfold nPut storedH
  rw [es]
  by_cases c : (atKey ys k).isSome = true
  · rw [if_pos c, if_pos c]
    clear es c
    induction rel with
    | nil => exact .nil
    | @cons p q ps qs r _ ih =>
      refine .cons ?_ ih
      unfold nPutAt putAt
      by_cases d : p.1 = k
      · rw [if_pos d, if_pos (r.1.symm.trans d)]
        exact ⟨r.1, r.2.1, rv⟩
      · rw [if_neg d, if_neg fun e => d (r.1.trans e)]
        exact r
  · rw [if_neg c, if_neg c]
    clear es c
    induction rel with
    | nil => exact .cons ⟨rfl, rfl, rv⟩ .nil
    | cons r _ ih => exact .cons r ih
theorem n_put_len (k : NestedKey) (b : Addr) (v : V) : (nPut xs k b v).length ≤ xs.length + 1 := by
  unfold nPut
  split
  · rw [List.length_map]; omega
  · rw [List.length_append]; exact Nat.le_refl _
end
section
variable {X : Cx} {pins : List (Addr × Obj)} {σ : L2.St} {H : Hp} {s : Shared} {a b : Addr} {xs : List NEnt} {k : NestedKey} {A : Around} {E : Value → Shared → Prop}
theorem n_getItem {v : V} {Q : Value → Shared → Prop} (hu : A.units + 64 < cLine) (I : Inv X pins σ H s) (e : H a = some (dN X.prog X.w a xs)) (ks : ∀ x ∈ xs, TupN H x.2.1 x.1) (eb : TupN H b k) (l : nAt xs k = some v) (h : ∀ w' s', Inv X pins σ H s' → RelV v w' → Q w' s') :
    wpAny (model X.prog X.w) A (getItem (.ref a) (.ref b)) Q E s := by
  obtain ⟨z, hd, ys, rel, dd⟩ := n_of I.hok e ks
  rcases n_find rel k with ⟨e1, _⟩ | ⟨v', p, e1, e2, r⟩
  · rw [e1] at l; cases l
  · rw [e1] at l
    cases l
    exact wpAny_getItem_heap (knd := nestedKind X.prog X.w) (show A.in1.units + 8 < cLine by rw [Around.in1_units]; omega) (tupN_is I.hok eb) dd e2 (h _ _ (I.tok _) r)
theorem n_notIn {Q : Value → Shared → Prop} (hu : A.units + 64 < cLine) (I : Inv X pins σ H s) (e : H a = some (dN X.prog X.w a xs)) (ks : ∀ x ∈ xs, TupN H x.2.1 x.1) (eb : TupN H b k) (h : ∀ s', Inv X pins σ H s' → Q (.bool (!(nAt xs k).isSome)) s') :
    wpAny (model X.prog X.w) A (compareOp .NotIn (.ref b) (.ref a)) Q E s := by
  obtain ⟨z, hd, ys, rel, dd⟩ := n_of I.hok e ks
  have es : (nAt xs k).isSome = (atKey ys k).isSome := by
    rcases n_find rel k with ⟨e1, e2⟩ | ⟨v', p, e1, e2, _⟩ <;> rw [e1, e2] <;> rfl
  refine notIn_keyed (knd := nestedKind X.prog X.w) (kvs := pairsH ys) (show A.in1.units + 8 < cLine by rw [Around.in1_units]; omega) (tupN_is I.hok eb) hd ⟨ys, dd, rfl⟩ ?_
  rw [valueAt_pairsH, Option.isSome_map, ← es]
  exact h _ (I.tok _)
theorem n_setItem {v : V} {r : Value} {Q : Unit → Shared → Prop} (hu : A.units + 64 < cLine) (I : Inv X pins σ H s) (e : H a = some (dN X.prog X.w a xs)) (ks : ∀ x ∈ xs, TupN H x.2.1 x.1) (eb : TupN H b k) (l : xs.length < sizeLine) (rv : RelV v r)
    (h : ∀ s', Inv X pins σ (upd H a (dN X.prog X.w a (nPut xs k b v))) s' → Q () s') : wpAny (model X.prog X.w) A (setItem (.ref a) (.ref b) r) Q E s := by
  obtain ⟨z, hd, ys, rel, dd⟩ := n_of I.hok e ks
  have hz : ys.length ≤ sizeLine := by rw [← Paired.length rel]; exact z
  have hl : (nPut xs k b v).length ≤ sizeLine := Nat.le_trans (n_put_len k b v) l
  refine wpAny_setItem_heap (knd := nestedKind X.prog X.w) (hsz := hz) (show A.in1.units + 8 < cLine by rw [Around.in1_units]; omega) (tupN_is I.hok eb) dd fun h' dd' hs => h _ ?_
  have he : ∃ q, h'.get? a = some q := let ⟨q, _, _, hq, _⟩ := dd'; ⟨q, hq⟩
  exact d_write I (by rw [e]; exact True.intro) hs he (dN_ok (n_raw dd' hl hd (n_put rel k b rv)))
/-- d[k] = v by a comprehension -/
theorem n_dictSet {v : V} {r : Value} {Q : Unit → Shared → Prop} (hu : A.units + 64 < cLine) (I : Inv X pins σ H s) (e : H a = some (dN X.prog X.w a xs)) (ks : ∀ x ∈ xs, TupN H x.2.1 x.1) (eb : TupN H b k) (l : xs.length < sizeLine) (rv : RelV v r)
    (h : ∀ s', Inv X pins σ (upd H a (dN X.prog X.w a (nPut xs k b v))) s' → Q () s') : wpAny (model X.prog X.w) A (dictSet a (.ref b) r) Q E s := by
  obtain ⟨z, hd, ys, rel, dd⟩ := n_of I.hok e ks
  have hz : ys.length ≤ sizeLine := by rw [← Paired.length rel]; exact z
  have hl : (nPut xs k b v).length ≤ sizeLine := Nat.le_trans (n_put_len k b v) l
  refine wpAny_dictSet_heap (knd := nestedKind X.prog X.w) (hsz := hz) (show A.units + 8 < cLine by omega) (tupN_is I.hok eb) dd (fun h' dd' hs => h _ ?_)
  have he : ∃ q, h'.get? a = some q := let ⟨q, _, _, hq, _⟩ := dd'; ⟨q, hq⟩
  exact d_write I (by rw [e]; exact True.intro) hs he (dN_ok (n_raw dd' hl hd (n_put rel k b rv)))
theorem n_typeIs (I : Inv X pins σ H s) (e : H a = some (dN X.prog X.w a xs)) (ks : ∀ x ∈ xs, TupN H x.2.1 x.1) : s.TypeIs (.ref a) "dict" := by
  obtain ⟨_, _, ys, _, dd⟩ := n_of I.hok e ks
  exact dd.typeIs
end
/-! ### words -/
/-- a dict that is such a one, its keys standing -/
def NAt (P : Program) (w : World) (H : Hp) (a : Addr) (xs : List NEnt) : Prop := H a = some (dN P w a xs) ∧ ∀ x ∈ xs, TupN H x.2.1 x.1
def tNGet (P : Program) (w : World) (td ty : TE) : TE := fun σ H Q => td σ H fun x H1 => ty σ H1 fun y H2 => ∃ a xs b k v, x = .ref a ∧ y = .ref b ∧ NAt P w H2 a xs ∧ TupN H2 b k ∧ nAt xs k = some v ∧ Q v H2
def tNIn (P : Program) (w : World) (ty td : TE) : TE := fun σ H Q => ty σ H fun y H1 => td σ H1 fun x H2 => ∃ a xs b k, x = .ref a ∧ y = .ref b ∧ NAt P w H2 a xs ∧ TupN H2 b k ∧ Q (.bl (nAt xs k).isSome) H2
def tNNotIn (P : Program) (w : World) (ty td : TE) : TE := fun σ H Q => ty σ H fun y H1 => td σ H1 fun x H2 => ∃ a xs b k, x = .ref a ∧ y = .ref b ∧ NAt P w H2 a xs ∧ TupN H2 b k ∧ Q (.bl (!(nAt xs k).isSome)) H2
def sNPut (P : Program) (w : World) (td ty tv : TE) : TS := fun D σ H => tv σ H fun v H1 => td σ H1 fun x H2 => ty σ H2 fun y H3 => ∃ a xs b k, x = .ref a ∧ y = .ref b ∧ NAt P w H3 a xs ∧ TupN H3 b k ∧ xs.length < sizeLine ∧ D.nx σ (upd H3 a (dN P w a (nPut xs k b v)))
section
variable {X : Cx} {o i e value : Expr} {pos pos' tpos : Pos} {td ty tv : TE}
theorem pe_nget (hu : X.A.units + 64 < cLine) (ho : PE X o td) (hi : PE X i ty) (hs : NoSl i) : PE X (.Subscript o i pos) (tNGet X.prog X.w td ty) := by
  refine ⟨fun pins s σ H Q I h => ?_⟩
  refine subD_of PySem.F.slot_dict_getitem.lookup hs (thn (ho.run pins s σ H _ I h) fun u s1 ⟨x, H1, I1, rx, q1⟩ => thn (hi.run pins s1 σ H1 _ I1 q1) fun iv s2 ⟨y, H2, I2, ry, a, xs, b, k, v, ex, ey, ⟨ea, ks⟩, eb, l, q2⟩ => ?_)
  subst ex ey
  obtain rfl : u = Value.ref a := rx
  obtain rfl : iv = Value.ref b := ry
  exact ⟨n_typeIs I2 ea ks, n_getItem hu I2 ea ks eb l fun w' s3 I3 rw' => ⟨v, H2, I3, rw', q2⟩⟩
theorem pc_nnotin (hu : X.A.units + 64 < cLine) (hi : PE X i ty) (ho : PE X o td) : PC X .NotIn i o (tNNotIn X.prog X.w ty td) := by
  refine ⟨fun pins s σ H Q I h => ?_⟩
  refine thn (hi.run pins s σ H _ I h) fun iv s1 ⟨y, H1, I1, ry, q1⟩ => thn (ho.run pins s1 σ H1 _ I1 q1) fun u s2 ⟨x, H2, I2, rx, a, xs, b, k, ex, ey, ⟨ea, ks⟩, eb, q2⟩ => ?_
  subst ex ey
  obtain rfl : u = Value.ref a := rx
  obtain rfl : iv = Value.ref b := ry
  exact n_notIn hu I2 ea ks eb fun s3 I3 => ⟨.bl _, H2, I3, rfl, q2⟩
theorem ps_nput (hu : X.A.units + 64 < cLine) (ho : PE X o td) (hi : PE X i ty) (hv : PE X value tv) (hs : swapsWith value (some (.Subscript o i pos')) pos.line X.env = pure false) :
    PS X (.Assign [.Subscript o i pos'] value pos) (sNPut X.prog X.w td ty tv) := by
  refine ⟨fun pins s σ H D I h => ?_⟩
  refine wpAny_Assign_Subscript (thn (hv.run pins s σ H _ I h) fun r s1 ⟨v, H1, I1, rv, q1⟩ => thn (ho.run pins s1 σ H1 _ I1 q1) fun u s2 ⟨x, H2, I2, rx, q2⟩ => thn (hi.run pins s2 σ H2 _ I2 q2) fun iv s3 ⟨y, H3, I3, ry, a, xs, b, k, ex, ey, ⟨ea, ks⟩, eb, l, q3⟩ => ?_) hs
  subst ex ey
  obtain rfl : u = Value.ref a := rx
  obtain rfl : iv = Value.ref b := ry
  exact n_setItem hu I3 ea ks eb l rv fun s4 I4 => ⟨σ, _, I4, q3⟩
end
theorem prd_at {α β : Type} {R : α → β → Prop} : ∀ {xs : List α} {ys : List β} {j : Nat} {x : α} {y : β}, Paired R xs ys → xs[j]? = some x → ys[j]? = some y → R x y
  | _, _, 0, _, _, .cons r _, h1, h2 => by simp at h1 h2; rw [← h1, ← h2]; exact r
  | _, _, j + 1, _, _, .cons _ p, h1, h2 => prd_at (j := j) p (by simpa using h1) (by simpa using h2)
  | _, _, _, _, _, .nil, h1, _ => by simp at h1
/-! ### list(d) -/
def rListN (P : Program) (w : World) : List V → Hp → VK → Prop := fun xs H Q => ∃ p es, xs = [.ref p] ∧ NAt P w H p es ∧ ∀ q, H q = none → Q (.ref q) (upd H q (.lst (es.map fun e => V.ref e.2.1)))
theorem call_list_dN {X : Cx} (hc : X.calm = true) : CallR X (.type "list") (rListN X.prog X.w) := by
  intro pins s σ H xs us Q I r h
  obtain ⟨p, kvs, e, ⟨hk, _⟩, q⟩ := h
  subst e
  obtain ⟨u, eu, rx⟩ := vals1 r
  subst eu
  obtain rfl : u = Value.ref p := rx
  obtain ⟨⟨z, lo, ys, rel, o, es, ep, h1, h2, h3, h4, h5⟩, _⟩ := (show ObjOk X.prog X.w H s.heap p (dN X.prog X.w p kvs) from I.hok p _ hk)
  have raw : s.heap.DictRaw p es ep := ⟨o, h1, h2, h3⟩
  have ls : es.size = kvs.length := by
    have := congrArg List.length h4
    rw [List.length_map, ← Paired.length rel] at this
    rw [← this, Array.length_toList]
  refine PySem.W.kdl_call (KdlSrc.rawDict (es := es) (ep := ep) lo) (I.ok.hd hc) raw (by rw [ls]; exact z) fun h' tk acc' c' hkeep hS hacc => ?_
  refine ⟨.ref s.heap.objs.size, upd H s.heap.objs.size (.lst (kvs.map fun e => V.ref e.2.1)), I.laid hkeep (Nat.le_refl _) (show ObjOk X.prog X.w _ _ _ (.lst (kvs.map fun e => V.ref e.2.1)) from ⟨?_, acc'.toList, c', ?_, ?_⟩), rfl, q _ (I.hok.fresh (Nat.le_refl _))⟩
  · rw [List.length_map]; exact z
  · have el : acc'.toList.length = acc'.size := by simp
    refine vals_of_at (by rw [List.length_map, el, hacc.1, ls]) fun j x w h1 h2 => ?_
    obtain ⟨hj, hi⟩ := hacc.2 j w (by rw [← Array.getElem?_toList]; exact h2)
    subst hi
    rw [List.getElem?_map] at h1
    obtain ⟨e, he, rfl⟩ := Option.map_eq_some_iff.mp h1
    obtain ⟨y, hy, hr⟩ : ∃ y, ys[j]? = some y ∧ NRel e y := by
      have hj2 : j < ys.length := by rw [← Paired.length rel, ← ls]; exact hj
      refine ⟨ys[j], List.getElem?_eq_getElem hj2, ?_⟩
      exact prd_at rel he (List.getElem?_eq_getElem hj2)
    have hen : es[j]? = some (entryOfKey (nestedKind X.prog X.w) y) := by rw [← Array.getElem?_toList, h4, List.getElem?_map, hy]; rfl
    have : es[j] = entryOfKey (nestedKind X.prog X.w) y := by
      rw [Array.getElem?_eq_getElem hj] at hen
      exact Option.some.inj hen
    rw [this]
    show RelV (V.ref e.2.1) (Value.ref y.2.1)
    rw [hr.2.1]
    rfl
  · exact hS
/-! ### {k: v} -/
def tNDisp1 (P : Program) (w : World) (ty tv : TE) : TE := fun σ H Q => ∀ p, H p = none → ty σ (upd H p (dN P w p [])) fun y H1 => tv σ H1 fun v H2 => ∃ b k, y = .ref b ∧ H2 p = some (dN P w p []) ∧ TupN H2 b k ∧ Q (.ref p) (upd H2 p (dN P w p [(k, b, v)]))
theorem pe_ndisp1 {X : Cx} {pos : Pos} {ke ve : Expr} {ty tv : TE} (hu : X.A.units + 64 < cLine) (hk : PE X ke ty) (hv : PE X ve tv) : PE X (.Dict [some ke] [ve] pos) (tNDisp1 X.prog X.w ty tv) := by
  refine ⟨fun pins s σ H Q I q => ?_⟩
  have hn := I.hok.fresh (Nat.le_refl s.heap.objs.size)
  have I1 := I.laid (a := s.heap.objs.size) (o := dN X.prog X.w s.heap.objs.size []) (h' := s.heap.push { cls := .type "dict", data := .dict #[] }) (t' := s.toks) (fun _ _ q => Heap.get?_push_of_some _ q) (Nat.le_refl _) (dN_ok (dN_empty s.heap I.big))
  rw [arm_eval_Dict, zip_pairTrees [some ke] [ve] X.env pos rfl rfl, dictDisplay_pairs (pairTrees [some ke] [ve] X.env pos) (by simp [pairTrees]) (show 1 < 17 by omega)]
  refine wpAny_bind (wpAny_standAt (wpAny_bind (wpAny_subDictH (knd := nestedKind X.prog X.w) (show X.A.units + 8 < cLine by omega) (show 1 ≤ 15 by omega) ?_)))
  refine pairTrees_cons_walk (thn (hk.run pins _ σ _ _ I1 (q _ hn)) fun u s1 ⟨y, H1, I2, ry, q1⟩ => thn (hv.run pins s1 σ H1 _ I2 q1) fun u2 s2 ⟨v, H2, I3, rv, b, k, ey, e2, eb, q2⟩ => pairTrees_nil_walk ?_)
  subst ey
  obtain rfl : u = Value.ref b := ry
  obtain ⟨z, hd, ys, rel, dd⟩ := n_of I3.hok e2 (fun _ h => by cases h)
  cases rel
  refine ⟨[(k, b, u2)], ⟨rfl, rfl, tupN_is I3.hok eb, trivial⟩, dd, fun h' tk dd' hs => wpAny_pure ⟨.ref s.heap.objs.size, _, ?_, rfl, q2⟩⟩
  have he : ∃ q, h'.get? s.heap.objs.size = some q := let ⟨q, _, _, hq, _⟩ := dd'; ⟨q, hq⟩
  exact d_write I3 (by rw [e2]; exact True.intro) hs he (dN_ok (n_raw dd' (by rw [sizeLine_eq]; show 1 ≤ _; omega) hd (.cons ⟨rfl, rfl, rv⟩ .nil)))
end Own
end

section
set_option maxRecDepth 100000
set_option maxHeartbeats 4000000
/-! {k: v for a in x for b in y}, keys tuples of flat things -/
namespace Own
open PySem PySem.Spec PyProof.Rows L2
section
variable {prog : Program} {w : World} {A : Around} {R : Result → Shared → Prop} {s : Shared} {kx vx t1 t2 it1 it2 : Expr} {scope : Scope} {pos : Pos} {D : Addr}
theorem compTurn_dict2_in (it : Value) (env : Env) :
    compTurn (.DictComp kx vx [⟨t1, it1, [], 0⟩, ⟨t2, it2, [], 0⟩] scope pos) 1 it (.ref D) env = (do
      standAt it2.pos
      match ← pyNext it with
      | none => pure (.done .next)
      | some v =>
        letOwnedTupleGo t2 it v
        assign t2 env v
        let mut ok := true
        for c in ([] : List Expr) do
          if ok then ok ← isTrue c env (eval c env)
        if ok then
          (do
            let kv ← eval kx env
            let vv ← holding [kv] (eval vx env)
            standAt { kx.pos with endLine := vx.pos.endLine, endCol := vx.pos.endCol }
            holding [kv, vv] (dictSet D kv vv))
        again (.compLoop (.DictComp kx vx [⟨t1, it1, [], 0⟩, ⟨t2, it2, [], 0⟩] scope pos) 1 it (.ref D) env)) := by rfl
theorem compTurn_dict2_out (it : Value) (env : Env) :
    compTurn (.DictComp kx vx [⟨t1, it1, [], 0⟩, ⟨t2, it2, [], 0⟩] scope pos) 0 it (.ref D) env = (do
      standAt it1.pos
      match ← pyNext it with
      | none => pure (.done .next)
      | some v =>
        letOwnedTupleGo t1 it v
        assign t1 env v
        let mut ok := true
        for c in ([] : List Expr) do
          if ok then ok ← isTrue c env (eval c env)
        if ok then
          let x ← eval it2 env
          standAt it2.pos
          let x ← foldedSetIterable it2 env x
          let _ ← runOwn (.compStart (.DictComp kx vx [⟨t1, it1, [], 0⟩, ⟨t2, it2, [], 0⟩] scope pos) 1 (← holding [x] (pyIter x)) (.ref D) env) env
        again (.compLoop (.DictComp kx vx [⟨t1, it1, [], 0⟩, ⟨t2, it2, [], 0⟩] scope pos) 0 it (.ref D) env)) := by rfl
theorem compStart_dict2_in {it acc : Value} {env : Env}
    (h0 : codeAny (model prog w) A (.compLoop (.DictComp kx vx [⟨t1, it1, [], 0⟩, ⟨t2, it2, [], 0⟩] scope pos) 1 it acc env) R s)
    (h : wpAny (model prog w) A (pyIter it) (fun it' s' => codeAny (model prog w) A (.compLoop (.DictComp kx vx [⟨t1, it1, [], 0⟩, ⟨t2, it2, [], 0⟩] scope pos) 1 it' acc env) R s')
      (notedBy (model prog w) A env fun x s' => R (.error x) s') s) :
    codeAny (model prog w) A (.compStart (.DictComp kx vx [⟨t1, it1, [], 0⟩, ⟨t2, it2, [], 0⟩] scope pos) 1 it acc env) R s := by
  refine codeAny_of_tree ?_
  show wpAny _ A ((compStart (.DictComp kx vx [⟨t1, it1, [], 0⟩, ⟨t2, it2, [], 0⟩] scope pos) 1 it acc env).onRaise (fun x => do noteFrame x env; standAt theWindowsPlace)) _ _ s
  refine wpAny_notedAt ?_
  unfold compStart
  show wpAny _ A (ask >>= _) _ _ s
  refine wpAny_bind (wpAny_askSetting (wpAny_ite ?_))
  split
  · first
      | exact wpAny_bind (wpAny_pure (wpAny_pure (And.intro rfl h0)))
      | exact wpAny_pure (And.intro rfl h0)
  · first
      | exact wpAny_bind (wpAny_rule (wpAny_bind (wpAny_standAt (wpAny_bind (wpAny_mono h (fun it' s' h' => wpAny_pure (And.intro rfl h')) fun _ _ x => x)))))
      | (refine wpAny_bind (wpAny_rule ?_); show wpAny _ _ (standAt it2.pos >>= _) _ _ s; exact wpAny_bind (wpAny_standAt (wpAny_bind (wpAny_mono h (fun it' s' h' => wpAny_pure (And.intro rfl h')) fun _ _ x => x))))
/-- the inner loop, nothing raised -/
theorem compLoop2_in {it : Value} {env : Env} (I : Nat → Shared → Prop)
    (turn : ∀ n s, I n s → wpAny (model prog w) A (pyNext it) (fun r s₁ => match r with
      | none => R (.ok .next) s₁
      | some v => wpAny (model prog w) A (letOwnedTupleGo t2 it v) (fun _ s₁' => wpAny (model prog w) A (assign t2 env v) (fun _ s₂ =>
          wpAny (model prog w) A (eval kx env) (fun kv s₄ => wpAny (model prog w) A (eval vx env) (fun vv s₅ =>
              wpAny (model prog w) A (dictSet D kv vv) (fun _ s₆ => ∃ m, m < n ∧ I m s₆) (fun _ _ => False) s₅) (fun _ _ => False) s₄) (fun _ _ => False) s₂) (fun _ _ => False) s₁') (fun _ _ => False) s₁) (fun _ _ => False) s)
    (n : Nat) (h : I n s) :
    codeAny (model prog w) A (.compLoop (.DictComp kx vx [⟨t1, it1, [], 0⟩, ⟨t2, it2, [], 0⟩] scope pos) 1 it (.ref D) env) R s := by
  refine codeAny_loop rfl I (fun n s hI => ?_) n h
  show wpAny _ A ((compTurn (.DictComp kx vx [⟨t1, it1, [], 0⟩, ⟨t2, it2, [], 0⟩] scope pos) 1 it (.ref D) env).onRaise (fun x => do noteFrame x env; theTreesLotGoes x)) _ _ s
  refine wpAny_noted ?_
  rw [compTurn_dict2_in]
  refine wpAny_bind (wpAny_standAt (wpAny_bind (wpAny_mono (turn n s hI) (fun r s₁ h₁ => ?_) fun _ _ h' => h'.elim)))
  cases r with
  | none => exact wpAny_pure h₁
  | some v =>
    refine wpAny_bind (wpAny_mono h₁ (fun _ s₁' h₁' => ?_) fun _ _ h' => h'.elim)
    refine wpAny_bind (wpAny_mono h₁' (fun _ s₂ h₂ => wpAny_bind (wpAny_pure ?_)) fun _ _ h' => h'.elim)
    exact wpAny_bind (wpAny_bind (wpAny_mono h₂ (fun kv s₄ h₄ => wpAny_bind (wpAny_holding (wpAny_mono h₄ (fun vv s₅ h₅ => wpAny_bind (wpAny_standAt (wpAny_holding (wpAny_mono h₅ (fun _ s₆ h₆ => wpAny_pure ⟨rfl, h₆⟩) fun _ _ h' => h'.elim)))) fun _ _ h' => h'.elim))) fun _ _ h' => h'.elim))
/-- the outer loop, nothing raised -/
theorem compLoop2_out {it : Value} {env : Env} (hs : ∀ x, foldedSetIterable it2 env x = pure x) (I : Nat → Shared → Prop)
    (turn : ∀ n s, I n s → wpAny (model prog w) A (pyNext it) (fun r s₁ => match r with
      | none => R (.ok .next) s₁
      | some v => wpAny (model prog w) A (letOwnedTupleGo t1 it v) (fun _ s₁' => wpAny (model prog w) A (assign t1 env v) (fun _ s₂ =>
          wpAny (model prog w) A (eval it2 env) (fun xv s₃ => wpAny (model prog w) A (pyIter xv) (fun iv s₄ =>
              ∀ R' : Result → Shared → Prop, (∀ s₅, (∃ m, m < n ∧ I m s₅) → R' (.ok .next) s₅) → codeAny (model prog w) A (.compStart (.DictComp kx vx [⟨t1, it1, [], 0⟩, ⟨t2, it2, [], 0⟩] scope pos) 1 iv (.ref D) env) R' s₄) (fun _ _ => False) s₃) (fun _ _ => False) s₂) (fun _ _ => False) s₁') (fun _ _ => False) s₁) (fun _ _ => False) s)
    (n : Nat) (h : I n s) :
    codeAny (model prog w) A (.compLoop (.DictComp kx vx [⟨t1, it1, [], 0⟩, ⟨t2, it2, [], 0⟩] scope pos) 0 it (.ref D) env) R s := by
  refine codeAny_loop rfl I (fun n s hI => ?_) n h
  show wpAny _ A ((compTurn (.DictComp kx vx [⟨t1, it1, [], 0⟩, ⟨t2, it2, [], 0⟩] scope pos) 0 it (.ref D) env).onRaise (fun x => do noteFrame x env; theTreesLotGoes x)) _ _ s
  refine wpAny_noted ?_
  rw [compTurn_dict2_out]
  refine wpAny_bind (wpAny_standAt (wpAny_bind (wpAny_mono (turn n s hI) (fun r s₁ h₁ => ?_) fun _ _ h' => h'.elim)))
  cases r with
  | none => exact wpAny_pure h₁
  | some v =>
    refine wpAny_bind (wpAny_mono h₁ (fun _ s₁' h₁' => ?_) fun _ _ h' => h'.elim)
    refine wpAny_bind (wpAny_mono h₁' (fun _ s₂ h₂ => wpAny_bind (wpAny_pure ?_)) fun _ _ h' => h'.elim)
    refine wpAny_bind (wpAny_mono h₂ (fun xv s₃ h₃ => ?_) fun _ _ h' => h'.elim)
    refine wpAny_bind (wpAny_standAt (wpAny_bind (wpAny_of_eq (hs xv) ?_)))
    refine wpAny_bind (wpAny_holding (wpAny_mono h₃ (fun iv s₄ h₄ => ?_) fun _ _ h' => h'.elim))
    refine wpAny_bind (wpAny_runOwn ?_)
    exact h₄ _ fun s₅ h₅ => wpAny_pure ⟨rfl, h₅⟩
end

def tDcN2 (P : Program) (w : World) (wi1 : TI) (g1 : TG) (wi2 : TI) (g2 : TG) (tk tv : TE) (vs vs2 : List Nat) : TE := fun σ H Q => wi1 σ H fun J H1 => ∀ D, H1 D = none → ∃ W : Nat → Nat → Hp → Prop, (∃ m, W 0 m (upd H1 D (dN P w D []))) ∧ ∀ i m H, W i m H →
  (J.stop i H ∧ Q (.ref D) H) ∨ (J.go i H ∧ ∃ Nx : Hp → Prop, (∀ H', Nx H' → ∃ m', m' < m ∧ W (i + 1) m' H') ∧ ∀ x H', J.yld i H x H' → g1 x (wipe σ vs) H' fun σ2 H2 => wipe σ2 vs = wipe σ vs ∧
    wi2 σ2 H2 fun J2 H3 => ∃ W2 : Nat → Nat → Hp → Prop, (∃ m, W2 0 m H3) ∧ ∀ j m H, W2 j m H →
      (J2.stop j H ∧ Nx H) ∨ (J2.go j H ∧ ∃ Nx2 : Hp → Prop, (∀ H', Nx2 H' → ∃ m', m' < m ∧ W2 (j + 1) m' H') ∧ ∀ x H', J2.yld j H x H' → g2 x (wipe σ2 vs2) H' fun σ3 H4 => wipe σ3 vs2 = wipe σ2 vs2 ∧
        tk σ3 H4 fun y H5 => tv σ3 H5 fun z H6 => ∃ xs b k, y = .ref b ∧ NAt P w H6 D xs ∧ TupN H6 b k ∧ xs.length < sizeLine ∧ Nx2 (upd H6 D (dN P w D (nPut xs k b z)))))
theorem wipe_sub {σ : L2.St} {vs vs2 : List Nat} (h : ∀ v ∈ vs2, v ∈ vs) {j : Nat} {v : V} (e : (wipe σ vs)[j]? = some (some v)) : (wipe σ vs2)[j]? = some (some v) := by
  obtain ⟨e1, n1⟩ := wipe_some e
  rw [wipe_out fun z => n1 (h _ z)]
  exact e1
section
variable {X : Cx}
theorem dcn2_core {pins : List (Addr × Obj)} {s : Shared} {σ : L2.St} {H : Hp} {Q : VK} {kx vx t1 t2 it1 it2 : Expr} {scope : Scope} {own : List (Str × Nat)} {vs2 : List Nat} {pos pos' : Pos} {wi1 wi2 : TI} {g1 g2 : TG} {tk tv : TE} {use : Option (Value → Sem Unit)} {Qf : Value → Shared → Prop}
    (hu : X.A.units + 64 < cLine) (hc : X.calm = true) (hN : X.N.Nodup) (I : Inv X pins σ H s) (hi : PI X t1 it1 wi1) (ok : BlkOk X.N X.env.scope scope own) (hv : ∀ v ∈ vs2, v ∈ own.map (·.2))
    (hg : ∀ (s : Shared) (H : Hp) (C : Addr) (cl : List (Str × Addr)) (fp : List Addr), PG (X.blk s H scope (compEnvC scope cl C X.env) fp) t1 g1)
    (hi2 : ∀ (s : Shared) (H : Hp) (C : Addr) (cl : List (Str × Addr)) (fp : List Addr), PI (X.blk s H scope (compEnvC scope cl C X.env) fp) t2 it2 wi2)
    (hg2 : ∀ (s : Shared) (H : Hp) (C : Addr) (cl : List (Str × Addr)) (fp : List Addr), PG (X.blk s H scope (compEnvC scope cl C X.env) fp) t2 g2)
    (hk : ∀ (s : Shared) (H : Hp) (C : Addr) (cl : List (Str × Addr)) (fp : List Addr), PE (X.blk s H scope (compEnvC scope cl C X.env) fp) kx tk)
    (he : ∀ (s : Shared) (H : Hp) (C : Addr) (cl : List (Str × Addr)) (fp : List Addr), PE (X.blk s H scope (compEnvC scope cl C X.env) fp) vx tv) (hs : ∀ x, foldedSetIterable it1 X.env x = pure x)
    (hs2 : ∀ (cl : List (Str × Addr)) (C : Addr) x, foldedSetIterable it2 (compEnvC scope cl C X.env) x = pure x)
    (h : tDcN2 X.prog X.w wi1 g1 wi2 g2 tk tv (own.map (·.2)) vs2 σ H Q)
    (hRR : ∀ D C s' m H', Inv X pins σ H' s' → Q (.ref D) H' → s'.heap.Ns C m → FpOk X pins H' C → compPost (model X.prog X.w) X.A X.xe use Qf (.ref D) C (.ok .next) s') :
    wpAny (model X.prog X.w) X.A (comprehension (.DictComp kx vx [⟨t1, it1, [], 0⟩, ⟨t2, it2, [], 0⟩] scope pos) scope X.env pos' newDict false (eval it1 X.env) use) Qf X.xe s := by
  have hfree : ∀ y ∈ scope.names, y.2 = .free → ∃ c, X.env.cells.lookup y.1 = some c := fun y hy e => by
    rcases ok.free y hy e with k | k
    · exact I.ok.has _ (.inl k)
    · exact I.ok.has _ (.inr k)
  refine wpAny_comprehension_free (use := use) rfl hs (closure_ok hfree) ok.kind (fun y hy e => by rw [ok.uniq y hy, e])
    (thn (hi.run pins s σ H _ I h) fun xv s1 hx => thn hx fun itv s2 h2 => ?_)
  obtain ⟨it, fp, tn, J, H2, e, I2, T, st2, f2, q⟩ := h2
  subst e
  refine wpAny_newObj_type (newEnv_comp ?_)
  generalize hD : s2.heap.objs.size = D
  have hDn : H2 D = none := I2.hok.fresh (Nat.le_of_eq hD)
  obtain ⟨W, ⟨m0, w0⟩, turn⟩ := q D hDn
  generalize hs3 : ({ s2 with heap := s2.heap.push { cls := .type "dict", data := .dict #[] } } : Shared) = s3
  have I3 : Inv X pins σ (upd H2 D (dN X.prog X.w D [])) s3 := by
    rw [← hs3]
    refine I2.laid (t' := s2.toks) (fun b o e => Heap.get?_push_of_some _ e) (Nat.le_of_eq hD) ?_
    rw [← hD]
    exact dN_ok (dN_empty s2.heap I2.big)
  have h3 : s3.heap = s2.heap.push { cls := .type "dict", data := .dict #[] } := by rw [← hs3]
  have sz : ∀ b ∈ fp, b < s2.heap.objs.size := fun b hb => by
    obtain ⟨o, e, _⟩ := T.obj _ _ st2 b hb
    exact Heap.lt_size e
  have f3 : ∀ b ∈ fp, FpOk X pins (upd H2 D (dN X.prog X.w D [])) b ∧ b < s3.heap.objs.size := fun b hb => by
    have hlt := sz b hb
    refine ⟨⟨?_, (f2 b hb).2⟩, by rw [h3, Heap.size_push]; exact Nat.lt_succ_of_lt hlt⟩
    rw [upd_ne (by rw [← hD]; exact Nat.ne_of_lt hlt)]
    exact (f2 b hb).1
  have st3 : tn 0 s3.heap := T.keep _ _ _ st2 fun b _ o e => by rw [h3]; exact Heap.get?_push_of_some _ e
  have I4 := block_start I3 ok hN f3
  have pg := hg s3 (upd H2 D (dN X.prog X.w D [])) s3.heap.objs.size (cellsFrom (s3.heap.objs.size + 1) scope.names (cloFrom X.env.cells scope.names [])) fp
  have pi2 := hi2 s3 (upd H2 D (dN X.prog X.w D [])) s3.heap.objs.size (cellsFrom (s3.heap.objs.size + 1) scope.names (cloFrom X.env.cells scope.names [])) fp
  have pg2 := hg2 s3 (upd H2 D (dN X.prog X.w D [])) s3.heap.objs.size (cellsFrom (s3.heap.objs.size + 1) scope.names (cloFrom X.env.cells scope.names [])) fp
  have pk := hk s3 (upd H2 D (dN X.prog X.w D [])) s3.heap.objs.size (cellsFrom (s3.heap.objs.size + 1) scope.names (cloFrom X.env.cells scope.names [])) fp
  have pe := he s3 (upd H2 D (dN X.prog X.w D [])) s3.heap.objs.size (cellsFrom (s3.heap.objs.size + 1) scope.names (cloFrom X.env.cells scope.names [])) fp
  have hs2 := hs2 (cellsFrom (s3.heap.objs.size + 1) scope.names (cloFrom X.env.cells scope.names [])) s3.heap.objs.size
  show codeAny _ _ (.compStart (.DictComp kx vx [⟨t1, it1, [], 0⟩, ⟨t2, it2, [], 0⟩] scope pos) 0 (.ref it) (.ref D) (compEnvC scope (cellsFrom (s3.heap.objs.size + 1) scope.names (cloFrom X.env.cells scope.names [])) s3.heap.objs.size X.env)) (compPost (model X.prog X.w) X.A X.xe use Qf (.ref D) s3.heap.objs.size) { s3 with heap := pushCells (s3.heap.push { cls := .type "dict", data := .dict #[] }) scope.names }
  have nfp : ∀ b ∈ fp, (upd H2 D (dN X.prog X.w D [])) b = none := fun b hb => (f3 b hb).1.1
  generalize hce : compEnvC scope (cellsFrom (s3.heap.objs.size + 1) scope.names (cloFrom X.env.cells scope.names [])) s3.heap.objs.size X.env = ce at I4 pg pi2 pg2 pk pe hs2 ⊢
  have cL : ce.locals = s3.heap.objs.size := by subst hce; rfl
  generalize hH3 : upd H2 D (dN X.prog X.w D []) = H3 at I3 I4 pg pi2 pg2 pk pe w0 nfp f3
  generalize hs4 : ({ s3 with heap := pushCells (s3.heap.push { cls := .type "dict", data := .dict #[] }) scope.names } : Shared) = s4 at I4 ⊢
  have st4 : tn 0 s4.heap := T.keep _ _ _ st3 fun b _ o e => by rw [← hs4]; exact pushCells_keeps _ _ _ _ (Heap.get?_push_of_some _ e)
  have stat : ∀ {σ' : L2.St} {H' : Hp} {s' : Shared}, Inv (X.blk s3 H3 scope ce fp) [] σ' H' s' → (∀ b ∈ fp, H' b = none) → ∀ b ∈ fp, FpOk (X.blk s3 H3 scope ce fp) [] H' b := fun {σ' H' s'} I' hn b hb =>
    ⟨hn b hb, (I'.ok.exf b hb).1, I'.ok.exfs b hb, .inl hb, fun x c e => (I'.ok.exf b hb).2 x c e, fun p hp => absurd (show p ∈ ([] : List (Addr × Obj)) ++ [] from hp) (by simp)⟩
  have loop : codeAny (model X.prog X.w) X.A (.compLoop (.DictComp kx vx [⟨t1, it1, [], 0⟩, ⟨t2, it2, [], 0⟩] scope pos) 0 (.ref it) (.ref D) ce) (compPost (model X.prog X.w) X.A X.xe use Qf (.ref D) s3.heap.objs.size) s4 := by
    refine compLoop2_out hs2 (fun n s' => ∃ i H', Inv (X.blk s3 H3 scope ce fp) [] (wipe σ (own.map (·.2))) H' s' ∧ tn i s'.heap ∧ (∀ b ∈ fp, H' b = none) ∧ W i n H') ?_ m0 ⟨0, H3, I4, st4, nfp, w0⟩
    rintro n s5 ⟨i, H5, I5, st5, n5, w5⟩
    rcases turn i n H5 w5 with ⟨stop, qq⟩ | ⟨go, Nx, hNx, step⟩
    · have td := T.done (X.blk s3 H3 scope ce fp) rfl rfl rfl hc i [] s5 _ H5 (fun _ _ => False) I5 (stat I5 n5) st5 stop
      refine thnF td fun r s6 ⟨hr, I6⟩ => ?_
      subst hr
      have I7 : Inv X pins σ H5 s6 := I3.call' (ch := fp) I6.os I6.base I6.hok I6.bare fun b hb => ⟨(f3 b hb).1.2.2.2.1, (f3 b hb).1.2.1, (f3 b hb).1.2.2.2.2.1, (f3 b hb).1.2.2.2.2.2⟩
      have nC : H5 s3.heap.objs.size = none := by
        have z : H5 ce.locals = none := I6.free
        rw [cL] at z
        exact z
      obtain ⟨m, hn, _⟩ := I6.loc
      have hn : s6.heap.Ns ce.locals m := hn
      rw [cL] at hn
      exact hRR D s3.heap.objs.size s6 m H5 I7 qq hn (I3.fpOk (Nat.le_refl _) nC)
    · have ti := T.item (X.blk s3 H3 scope ce fp) rfl rfl rfl hc i [] s5 _ H5 (fun _ _ => False) I5 (stat I5 n5) st5 go
      refine thnF ti fun r s6 ⟨u, hr, h6⟩ => ?_
      subst hr
      refine thnF h6 fun _ s7 ⟨x, H7, I7, r7, y7, st7, n7⟩ => ?_
      have I7' := I7.pinned (stat I7 n7) (T.obj _ _ st7)
      refine thnF (pg.run _ s7 _ H7 x u _ I7' r7 (step x H7 y7)) fun _ s8 ⟨σ8, H8, I8, hw8, q8⟩ => ?_
      refine thnF (pi2.run _ s8 σ8 H8 _ I8 q8) fun xv s9 h9 => thnF h9 fun iv s10 h10 => ?_
      obtain ⟨it', fp', tn', J', H10, e, I10, T', st10, f10, W2, ⟨m1, w10⟩, turn2⟩ := h10
      subst e
      intro R' hR'
      have hl : (wipe σ (own.map (·.2))).length = σ8.length := by rw [← hw8, wipe_length]
      -- the inner loop's end
      have fin : ∀ {s' : Shared} {H' : Hp}, Inv (X.blk s3 H3 scope ce fp) ([] ++ pinsAt fp s7.heap) (wipe σ8 vs2) H' s' → Nx H' → ∃ m, m < n ∧ ∃ i H', Inv (X.blk s3 H3 scope ce fp) [] (wipe σ (own.map (·.2))) H' s' ∧ tn i s'.heap ∧ (∀ b ∈ fp, H' b = none) ∧ W i m H' := fun {s' H'} I' nx => by
        obtain ⟨m', hm, w'⟩ := hNx H' nx
        have pin' : ∀ b ∈ fp, ∀ o, s7.heap.get? b = some o → s'.heap.get? b = some o ∧ H' b = none := fun b hb o e =>
          let z := I'.pin (b, o) (List.mem_append_right _ (List.mem_append_right _ (mem_pinsAt hb e)))
          ⟨z.1, z.2.1⟩
        refine ⟨m', hm, i + 1, H', (I'.unpinned (pins := [])).weak (by rw [hl, wipe_length]) (fun j v e => ?_), T.keep _ _ _ st7 fun b hb o e => (pin' b hb o e).1, fun b hb => ?_, w'⟩
        · rw [← hw8] at e
          exact wipe_sub hv e
        · obtain ⟨o, e, _⟩ := T.obj _ _ st7 b hb
          exact (pin' b hb o e).2
      have stat2 : ∀ {H' : Hp}, (∀ b ∈ fp', H' b = none) → ∀ b ∈ fp', FpOk (X.blk s3 H3 scope ce fp) ([] ++ pinsAt fp s7.heap) H' b := fun hn b hb => ⟨hn b hb, (f10 b hb).2⟩
      have loop2 : codeAny (model X.prog X.w) X.A (.compLoop (.DictComp kx vx [⟨t1, it1, [], 0⟩, ⟨t2, it2, [], 0⟩] scope pos) 1 (.ref it') (.ref D) ce) R' s10 := by
        refine compLoop2_in (fun n' s' => ∃ j H', Inv (X.blk s3 H3 scope ce fp) ([] ++ pinsAt fp s7.heap) (wipe σ8 vs2) H' s' ∧ tn' j s'.heap ∧ (∀ b ∈ fp', H' b = none) ∧ W2 j n' H') ?_ m1 ⟨0, H10, I10.weak (wipe_length _ _) (fun j v e => (wipe_some e).1), st10, fun b hb => (f10 b hb).1, w10⟩
        rintro n' s11 ⟨j, H11, I11, st11, n11, w11⟩
        rcases turn2 j n' H11 w11 with ⟨stop, qq⟩ | ⟨go, Nx2, hNx2, step2⟩
        · refine thnF (T'.done (X.blk s3 H3 scope ce fp) rfl rfl rfl hc j _ s11 _ H11 (fun _ _ => False) I11 (stat2 n11) st11 stop) fun r s12 ⟨hr, I12⟩ => ?_
          subst hr
          exact hR' _ (fin I12 qq)
        · refine thnF (T'.item (X.blk s3 H3 scope ce fp) rfl rfl rfl hc j _ s11 _ H11 (fun _ _ => False) I11 (stat2 n11) st11 go) fun r s12 ⟨u2, hr, h12⟩ => ?_
          subst hr
          refine thnF h12 fun _ s13 ⟨x2, H13, I13, r13, y13, st13, n13⟩ => ?_
          have I13' := I13.pinned (stat2 n13) (T'.obj _ _ st13)
          refine thnF (pg2.run _ s13 _ H13 x2 u2 _ I13' r13 (step2 x2 H13 y13)) fun _ s14 ⟨σ14, H14, I14, hw14, q14⟩ => ?_
          refine thnF (pk.run _ s14 σ14 H14 _ I14 q14) fun z s15 ⟨yk, H15, I15, r15, q15⟩ => ?_
          refine thnF (pe.run _ s15 σ14 H15 _ I15 q15) fun z2 s16 ⟨yv, H16, I16, r16, xs, b, k, ek, ⟨ea, ks⟩, eb, l16, nx⟩ => ?_
          subst ek
          obtain rfl : z = Value.ref b := r15
          refine n_dictSet (X := X.blk s3 H3 scope ce fp) hu I16 ea ks eb l16 r16 fun s17 I17 => ?_
          obtain ⟨m', hm, w'⟩ := hNx2 _ nx
          have pin' : ∀ b ∈ fp', ∀ o, s13.heap.get? b = some o → s17.heap.get? b = some o ∧ _ = none := fun b hb o e =>
            let z := I17.pin (b, o) (List.mem_append_right _ (List.mem_append_right _ (mem_pinsAt hb e)))
            ⟨z.1, z.2.1⟩
          have hl2 : (wipe σ8 vs2).length = σ14.length := by rw [← hw14, wipe_length]
          refine ⟨m', hm, j + 1, _, (I17.unpinned).weak hl2 (fun j v e => ?_), T'.keep _ _ _ st13 fun b hb o e => (pin' b hb o e).1, fun b hb => ?_, w'⟩
          · rw [← hw14] at e
            exact (wipe_some e).1
          · obtain ⟨o, e, _⟩ := T'.obj _ _ st13 b hb
            exact (pin' b hb o e).2
      exact compStart_dict2_in loop2 (T'.self X.A 0 _ _ _ st10 loop2)
  exact codeAny_compStart_dict loop (T.self X.A 0 _ _ _ st4 loop)
/-- as a value -/
theorem pe_dcN2 {kx vx t1 t2 it1 it2 : Expr} {scope : Scope} {own : List (Str × Nat)} {vs2 : List Nat} {pos : Pos} {wi1 wi2 : TI} {g1 g2 : TG} {tk tv : TE} (hu : X.A.units + 64 < cLine) (hc : X.calm = true) (hN : X.N.Nodup) (hi : PI X t1 it1 wi1) (ok : BlkOk X.N X.env.scope scope own) (hv : ∀ v ∈ vs2, v ∈ own.map (·.2))
    (hg : ∀ (s : Shared) (H : Hp) (C : Addr) (cl : List (Str × Addr)) (fp : List Addr), PG (X.blk s H scope (compEnvC scope cl C X.env) fp) t1 g1)
    (hi2 : ∀ (s : Shared) (H : Hp) (C : Addr) (cl : List (Str × Addr)) (fp : List Addr), PI (X.blk s H scope (compEnvC scope cl C X.env) fp) t2 it2 wi2)
    (hg2 : ∀ (s : Shared) (H : Hp) (C : Addr) (cl : List (Str × Addr)) (fp : List Addr), PG (X.blk s H scope (compEnvC scope cl C X.env) fp) t2 g2)
    (hk : ∀ (s : Shared) (H : Hp) (C : Addr) (cl : List (Str × Addr)) (fp : List Addr), PE (X.blk s H scope (compEnvC scope cl C X.env) fp) kx tk)
    (he : ∀ (s : Shared) (H : Hp) (C : Addr) (cl : List (Str × Addr)) (fp : List Addr), PE (X.blk s H scope (compEnvC scope cl C X.env) fp) vx tv) (hs : ∀ x, foldedSetIterable it1 X.env x = pure x := by intro _; rfl)
    (hs2 : ∀ (cl : List (Str × Addr)) (C : Addr) x, foldedSetIterable it2 (compEnvC scope cl C X.env) x = pure x := by intros; rfl) :
    PE X (.DictComp kx vx [⟨t1, it1, [], 0⟩, ⟨t2, it2, [], 0⟩] scope pos) (tDcN2 X.prog X.w wi1 g1 wi2 g2 tk tv (own.map (·.2)) vs2) := by
  refine ⟨fun pins s σ H Q I h => ?_⟩
  rw [arm_eval_DictComp]
  refine dcn2_core hu hc hN I hi ok hv hg hi2 hg2 hk he hs hs2 h fun D C s' m H' I' q hn f => ⟨m, hn, fun h'' sb => ?_⟩
  obtain ⟨f0, f1, f2, f3, f4, f5⟩ := f
  exact ⟨.ref D, H', I'.turned (t' := s'.toks) (fun b o hb e => (sb.2 b hb).trans e) f0 f1 f3 f4 f5, rfl, q⟩
end
end Own
end

section
set_option maxRecDepth 100000
set_option maxHeartbeats 4000000
/-! dicts by literals (a text and a flag) -/
namespace Y
open PySem PySem.Spec PyProof.Rows L2
def kL (k : Str × Bool) : NestedKey := .tup [.text k.1, .num (if k.2 = true then 1 else 0)]
theorem kL_inj {a b : Str × Bool} (h : kL a = kL b) : a = b := by
  obtain ⟨x, p⟩ := a
  obtain ⟨y, q⟩ := b
  injection h with h
  injection h with h1 h2
  injection h1 with h1
  injection h2 with h2
  injection h2 with h2
  have h1 : x = y := h1
  have h2 : (if p = true then (1 : Int) else 0) = (if q = true then 1 else 0) := h2
  rw [h1]
  congr 1
  cases p <;> cases q <;> simp at h2 <;> rfl
section
variable {P : Program} {w : World} {K : PySem.W.Frag} {X : Xw} {k : Bool} {G : Ct} {α ρ : Type} {t : Ty α}
abbrev tLt (K : PySem.W.Frag) : Ty (Str × Bool) := tT2 K tStr tBl
theorem tupN_of {W : Wd} {H : Hp} {b : Addr} {q : Str × Bool} (ok : OKW W H) (r : (tLt K).R W H (.ref b) q) : Own.TupN H b (kL q) := by
  obtain ⟨a, v1, v2, e, sq, r1, r2⟩ := r
  injection e with e
  subst e
  have h := sq.at ok
  rw [show v1 = V.str q.1 from r1, show v2 = V.bl q.2 from r2] at h
  exact ⟨_, [.text q.1, .num (if q.2 = true then 1 else 0)], h, rfl, rfl⟩
/-- an entry read -/
def EntL (K : PySem.W.Frag) (t : Ty α) (W : Wd) (H : Hp) (e : Own.NEnt) (q : (Str × Bool) × α) : Prop := e.1 = kL q.1 ∧ (tLt K).R W H (.ref e.2.1) q.1 ∧ t.R W H e.2.2 q.2
theorem EntL.mv {W W' : Wd} {H H' : Hp} {e : Own.NEnt} {q : (Str × Bool) × α} (h : EntL K t W H e q) (m : Mv W H W' H') : EntL K t W' H' e q := ⟨h.1, (tLt K).go h.2.1 m, t.go h.2.2 m⟩
def tDL (P : Program) (w : World) (K : PySem.W.Frag) (t : Ty α) : Ty (List ((Str × Bool) × α)) := ⟨fun W H v kvs => ∃ a xs, v = .ref a ∧ RdW W H a (Own.dN P w a xs) ∧ Paired (EntL K t W H) xs kvs, by
  rintro W W' H H' v kvs ⟨a, xs, e, h, p⟩ m
  exact ⟨a, xs, e, m.rd _ _ h, L2.Paired.mapP p fun u x r => r.mv m⟩⟩
def oDL (P : Program) (w : World) (K : PySem.W.Frag) (t : Ty α) : OT (List ((Str × Bool) × α)) where
  R p W H v kvs := ∃ a xs, v = .ref a ∧ W a = .ow p ∧ H a = some (Own.dN P w a xs) ∧ Paired (EntL K t W H) xs kvs
  sv := tDL P w K t
  mv := by
    rintro p p' W W' H H' v kvs ⟨a, xs, e, w, h, r⟩ k m
    obtain ⟨w1, h1⟩ := k a _ [] (by rw [List.append_nil]; exact w) h
    exact ⟨a, xs, e, by rw [List.append_nil] at w1; exact w1, h1, L2.Paired.mapP r fun u x r => r.mv m⟩
  fz := by
    rintro p W W' H H' v kvs ⟨a, xs, e, w, h, r⟩ k m
    obtain ⟨w1, h1⟩ := k a _ [] (by rw [List.append_nil]; exact w) h
    exact ⟨a, xs, e, .inl ⟨w1, h1⟩, L2.Paired.mapP r fun u x r => r.mv m⟩
theorem dN_rd {W : Wd} {H : Hp} {a : Addr} {xs : List Own.NEnt} (ok : OKW W H) (h : RdW W H a (Own.dN P w a xs)) : H a = some (Own.dN P w a xs) := ok.exact h (fun _ e => by cases e) (fun _ e => by cases e) (fun _ e => by cases e)
theorem nat_of {W : Wd} {H : Hp} {a : Addr} {xs : List Own.NEnt} {kvs : List ((Str × Bool) × α)} (ok : OKW W H) (h : H a = some (Own.dN P w a xs)) (p : Paired (EntL K t W H) xs kvs) : Own.NAt P w H a xs := ⟨h, fun x hx => by
  obtain ⟨q, _, r⟩ := prd_mem p x hx
  rw [r.1]
  exact tupN_of ok r.2.1⟩
theorem lAt_of {W : Wd} {H : Hp} {xs : List Own.NEnt} {kvs : List ((Str × Bool) × α)} (p : Paired (EntL K t W H) xs kvs) (k : Str × Bool) : (lookK kvs k = none ∧ Own.nAt xs (kL k) = none) ∨ ∃ x v, lookK kvs k = some x ∧ Own.nAt xs (kL k) = some v ∧ t.R W H v x := by
  unfold lookK Own.nAt
  induction p with
  | nil => exact .inl ⟨rfl, rfl⟩
  | @cons e q es qs r _ ih =>
    by_cases c : q.1 = k
    · refine .inr ⟨q.2, e.2.2, ?_, ?_, r.2.2⟩
      · rw [List.find?_cons_of_pos (by exact decide_eq_true c)]; rfl
      · rw [List.find?_cons_of_pos (by exact decide_eq_true (r.1.trans (by rw [c])))]; rfl
    · have c2 : ¬ e.1 = kL k := fun z => c (kL_inj (r.1.symm.trans z))
      rw [List.find?_cons_of_neg (by simpa using c), List.find?_cons_of_neg (by simpa using c2)]
      exact ih
theorem lHas_of {W : Wd} {H : Hp} {xs : List Own.NEnt} {kvs : List ((Str × Bool) × α)} (p : Paired (EntL K t W H) xs kvs) (k : Str × Bool) : (Own.nAt xs (kL k)).isSome = hasK kvs k := by
  unfold hasK
  rcases lAt_of p k with ⟨e1, e2⟩ | ⟨x', v', e1, e2, r'⟩ <;> rw [e1, e2] <;> rfl
theorem lPut_of {W : Wd} {H : Hp} {xs : List Own.NEnt} {kvs : List ((Str × Bool) × α)} {k : Str × Bool} {b : Addr} {v : V} {x : α} (p : Paired (EntL K t W H) xs kvs) (rk : (tLt K).R W H (.ref b) k) (r : t.R W H v x) : Paired (EntL K t W H) (Own.nPut xs (kL k) b v) (putZ kvs k x) := by
  unfold Own.nPut putZ
  rw [lHas_of p k]
  cases hasK kvs k with
  | false =>
    rw [if_neg Bool.false_ne_true, if_neg Bool.false_ne_true]
    exact paired_snoc' p ⟨rfl, rk, r⟩
  | true =>
    rw [if_pos rfl, if_pos rfl]
    induction p with
    | nil => exact .nil
    | @cons e q es qs r2 _ ih =>
      refine .cons ?_ ih
      show EntL K t W H (if e.1 = kL k then (e.1, e.2.1, v) else e) (if q.1 = k then (q.1, x) else q)
      by_cases c : q.1 = k
      · rw [if_pos (r2.1.trans (by rw [c])), if_pos c]
        exact ⟨r2.1, r2.2.1, r⟩
      · rw [if_neg (fun z => c (kL_inj (r2.1.symm.trans z))), if_neg c]
        exact r2
/-! ### expressions -/
theorem ref_of {W : Wd} {H : Hp} {v : V} {q : Str × Bool} (r : (tLt K).R W H v q) : ∃ b, v = .ref b := by
  obtain ⟨a, _, _, e, _⟩ := r
  exact ⟨a, e⟩
theorem ev_lget {td ty : TE} {Q' : Ct → α → Prop} (h : Ev X k td G (tDL P w K t) fun G kvs => Ev X k ty G (tLt K) fun G k => ∃ x, lookK kvs k = some x ∧ Q' G x) : Ev X k (Own.tNGet P w td ty) G t Q' := fun W H σ Q hs ex q =>
  h W H σ _ hs ex fun v W1 H1 G1 kvs p m r => p W1 H1 σ _ m.hs (ex.mv m.go) fun y W2 H2 G2 k ⟨x, hx, px⟩ m2 rk => by
    obtain ⟨a, xs, rfl, rd, pp⟩ := (tDL P w K t).mv r m2.go
    obtain ⟨b, rfl⟩ := ref_of rk
    rcases lAt_of pp k with ⟨e, _⟩ | ⟨x', v', e1, e2, r'⟩
    · rw [e] at hx; cases hx
    · rw [e1] at hx
      cases hx
      exact ⟨a, xs, b, kL k, v', rfl, rfl, nat_of m2.hs.ok (dN_rd m2.hs.ok rd) pp, tupN_of m2.hs.ok rk, e2, q v' W2 H2 G2 _ px (m.trans m2) r'⟩
theorem ev_lnotin {td ty : TE} {Q' : Ct → Bool → Prop} (h : Ev X k ty G (tLt K) fun G y => Ev X k td G (tDL P w K t) fun G kvs => Q' G (!hasK kvs y)) : Ev X k (Own.tNNotIn P w ty td) G tBl Q' := fun W H σ Q hs ex q =>
  h W H σ _ hs ex fun y W1 H1 G1 k p m rk => p W1 H1 σ _ m.hs (ex.mv m.go) fun v W2 H2 G2 kvs px m2 r => by
    obtain ⟨a, xs, rfl, rd, pp⟩ := r
    have rk := (tLt K).mv rk m2.go
    obtain ⟨b, rfl⟩ := ref_of rk
    refine ⟨a, xs, b, kL k, rfl, rfl, nat_of m2.hs.ok (dN_rd m2.hs.ok rd) pp, tupN_of m2.hs.ok rk, ?_⟩
    rw [lHas_of pp k]
    exact q _ W2 H2 G2 _ px (m.trans m2) rfl
theorem keysL_paired {W : Wd} {H : Hp} {xs : List Own.NEnt} {kvs : List ((Str × Bool) × α)} (p : Paired (EntL K t W H) xs kvs) : Paired ((tLt K).R W H) (xs.map fun e => V.ref e.2.1) (kvs.map (·.1)) := by
  induction p with
  | nil => exact .nil
  | cons r _ ih => exact .cons r.2.1 ih
theorem rc_listN : RC1 (Own.rListN P w) (tDL P w K t) (.ow (oL K (tLt K))) false (fun xs P => P (xs.map (·.1))) := by
  rintro W H v x Q P' ok _ ⟨a, xs, rfl, rd, p⟩ c q
  exact ⟨a, xs, rfl, nat_of ok (dN_rd ok rd) p, new_list ok c (keysL_paired p) q⟩
/-! ### statements -/
theorem Pt.dictL {te : TE} {q : List Nat} {xs : List ((Str × Bool) × α)} {up : List ((Str × Bool) × α) → Ct} (h : Pt te G q (oDL P w K t) xs up) {W : Wd} {H : Hp} {σ : L2.St} (hs : Holds G W H σ) : ∃ a ws, (∀ (Q : VK), Q (.ref a) H → te σ H Q) ∧ W a = .ow q ∧ H a = some (Own.dN P w a ws) ∧
    ∀ W1 H1, GoE W H W1 H1 → OKW W1 H1 → W1 a = .ow q ∧ H1 a = some (Own.dN P w a ws) ∧ Paired (EntL K t W1 H1) ws xs ∧ ∀ ws' ys, Paired (EntL K t W1 H1) ws' ys → Go W1 H1 W1 (upd H1 a (Own.dN P w a ws')) ∧ Holds (up ys) W1 (upd H1 a (Own.dN P w a ws')) σ := by
  obtain ⟨⟨i, r, rfl, ni⟩, h⟩ := h
  obtain ⟨v, ⟨a, ws, rfl, wa, ha, pp⟩, f, k⟩ := h W H σ hs
  refine ⟨a, ws, f, wa, ha, fun W1 H1 g ok1 => ?_⟩
  obtain ⟨h1, w1⟩ := g.own ha wa ni
  refine ⟨w1, h1, L2.Paired.mapP pp fun _ _ r => r.mv g.go.mv, fun ws' ys p2 => ?_⟩
  have mv := upd_mv (H := H1) (o := Own.dN P w a ws') w1
  exact ⟨upd_go w1, k W1 H1 g ok1 W1 _ ys (upd_ok ok1 w1 trivial) (upd_go w1) (out_upd w1) ⟨a, ws', rfl, w1, upd_same, L2.Paired.mapP p2 fun _ _ r => r.mv mv⟩⟩
variable {F : Fx ρ} {N B C : Ct → Prop}
theorem blk_lkput {td ty tv : TE} {q : List Nat} {xs : List ((Str × Bool) × α)} {up : List ((Str × Bool) × α) → Ct} (pt : Pt td G q (oDL P w K t) xs up) (h : Ev F.X true tv G t fun G x => Ev F.X true ty G (tLt K) fun _ k => xs.length < sizeLine ∧ N (up (putZ xs k x))) : Blk F (Own.sNPut P w td ty tv) G N B C := fun W0 H0 W H σ D g hs n _ _ _ ex =>
  h W H σ _ hs (exo ex g) fun v W1 H1 G1 x p m r => by
    obtain rfl : G1 = G := (m.kp rfl).2
    obtain ⟨a, ws, f, wa, ha, k⟩ := pt.dictL m.hs
    refine f _ (p W1 H1 σ _ m.hs ((exo ex g).mv m.go) fun y W2 H2 G2 kk ⟨hl, hn⟩ m2 rk => ?_)
    obtain ⟨b, rfl⟩ := ref_of rk
    obtain ⟨w2, h2, pp, k2⟩ := k W2 H2 (m2.kp rfl).1 m2.hs.ok
    obtain ⟨g2, hs2⟩ := k2 _ (putZ xs kk x) (lPut_of pp rk (t.mv r m2.go))
    exact ⟨a, ws, b, kL kk, rfl, rfl, nat_of m2.hs.ok h2 pp, tupN_of m2.hs.ok rk, by rw [pp.length]; exact hl, n _ _ _ _ hn (((g.trans m.go).trans m2.go).trans g2) hs2⟩
/-- {k: c}, k a variable -/
theorem ev_ldisp1 {i : Nat} {q : Str × Bool} {cv : V} {x : α} {Q' : Ct → List ((Str × Bool) × α) → Prop} (e1 : G.s[i]? = some (.sh (tLt K) q)) (rc : ∀ W H, t.R W H cv x) (p : Q' G [(q, x)]) : EvR X k (Own.tNDisp1 P w (tVar i) (tC cv)) G (.ow (oDL P w K t)) Q' := fun W H σ Q hs ex qq => fun d hd => by
  obtain ⟨v1, f1, r1⟩ := hs.var e1
  obtain ⟨b, rfl⟩ := ref_of r1
  obtain ⟨g0, ok0⟩ := newT hs.ok hd (o := Own.dN P w d []) trivial
  refine ⟨_, f1, b, kL q, rfl, upd_same, tupN_of ok0 ((tLt K).mvE r1 g0), ?_⟩
  show Q (.ref d) (upd (upd H d (Own.dN P w d [])) d (Own.dN P w d [(kL q, b, cv)]))
  rw [upd_upd]
  obtain ⟨g, ok⟩ := newT hs.ok hd (o := Own.dN P w d [(kL q, b, cv)]) trivial
  exact qq _ _ _ G [(q, x)] p (.goE hs g ok) ⟨d, _, rfl, setW_same, upd_same, .cons ⟨rfl, (tLt K).mvE r1 g, rc _ _⟩ .nil⟩
/-! ### dicts by literals whose values are one's own -/
def oDLO (P : Program) (w : World) (K : PySem.W.Frag) (O : OT α) : OT (List ((Str × Bool) × α)) where
  R p W H v kvs := ∃ a xs, v = .ref a ∧ W a = .ow p ∧ H a = some (Own.dN P w a xs) ∧ xs.length = kvs.length ∧ ∀ (j : Nat) e q, xs[j]? = some e → kvs[j]? = some q → e.1 = kL q.1 ∧ (tLt K).R W H (.ref e.2.1) q.1 ∧ O.R (p ++ [j]) W H e.2.2 q.2
  sv := tDL P w K O.sv
  mv := by
    rintro p p' W W' H H' v kvs ⟨a, xs, e, w, h, l, r⟩ kk m
    obtain ⟨w1, h1⟩ := kk a _ [] (by rw [List.append_nil]; exact w) h
    refine ⟨a, xs, e, by rw [List.append_nil] at w1; exact w1, h1, l, fun j e q he hq => ?_⟩
    obtain ⟨r1, r2, r3⟩ := r j e q he hq
    refine ⟨r1, (tLt K).go r2 m, O.mv r3 (fun b o s w e => ?_) m⟩
    have := kk b o ([j] ++ s) (by rw [← List.append_assoc]; exact w) e
    rwa [← List.append_assoc] at this
  fz := by
    rintro p W W' H H' v kvs ⟨a, xs, e, w, h, l, r⟩ kk m
    obtain ⟨w1, h1⟩ := kk a _ [] (by rw [List.append_nil]; exact w) h
    refine ⟨a, xs, e, .inl ⟨w1, h1⟩, ?_⟩
    have : ∀ (ys : List Own.NEnt) (zs : List ((Str × Bool) × α)) (n : Nat), ys.length = zs.length → (∀ (j : Nat) e q, ys[j]? = some e → zs[j]? = some q → e.1 = kL q.1 ∧ (tLt K).R W H (.ref e.2.1) q.1 ∧ O.R (p ++ [n + j]) W H e.2.2 q.2) → Paired (EntL K O.sv W' H') ys zs := by
      intro ys
      induction ys with
      | nil => intro zs n hl _; cases zs with
        | nil => exact .nil
        | cons _ _ => cases hl
      | cons y ys ih => intro zs n hl hr; cases zs with
        | nil => cases hl
        | cons z zs =>
          obtain ⟨r1, r2, r3⟩ := hr 0 y z rfl rfl
          refine .cons ⟨r1, (tLt K).go r2 m, O.fz r3 (fun b o q w e => kk b o ([n + 0] ++ q) (by rw [← List.append_assoc]; exact w) e) m⟩ (ih zs (n + 1) (Nat.succ.inj hl) fun j u x hu hx => ?_)
          have := hr (j + 1) u x hu hx
          rwa [show n + (j + 1) = n + 1 + j from by omega] at this
    exact this xs kvs 0 l fun j u x hu hx => by rw [Nat.zero_add]; exact r j u x hu hx
theorem nAt_ix {xs : List Own.NEnt} {kvs : List ((Str × Bool) × α)} (hl : xs.length = kvs.length) (hk : ∀ (j : Nat) e q, xs[j]? = some e → kvs[j]? = some q → e.1 = kL q.1) (nd : (kvs.map (·.1)).Nodup) {j : Nat} {e : Own.NEnt} {q : (Str × Bool) × α} (he : xs[j]? = some e) (hq : kvs[j]? = some q) : Own.nAt xs (kL q.1) = some e.2.2 := by
  unfold Own.nAt
  induction xs generalizing kvs j with
  | nil => simp at he
  | cons x xs ih =>
    cases kvs with
    | nil => cases hl
    | cons p kvs =>
      rw [List.map_cons, List.nodup_cons] at nd
      cases j with
      | zero =>
        simp at he hq
        subst he hq
        rw [List.find?_cons_of_pos (by exact decide_eq_true (hk 0 _ _ rfl rfl))]
        rfl
      | succ j =>
        have he : xs[j]? = some e := by simpa using he
        have hq : kvs[j]? = some q := by simpa using hq
        have n : ¬ x.1 = kL q.1 := fun z => nd.1 (by
          have := kL_inj ((hk 0 x p rfl rfl).symm.trans z)
          rw [this]
          exact List.mem_map_of_mem (List.mem_of_getElem? hq))
        rw [List.find?_cons_of_neg (by simpa using n)]
        exact ih (Nat.succ.inj hl) (fun j e q h1 h2 => hk (j + 1) e q (by simpa using h1) (by simpa using h2)) nd.2 he hq
/-- d[k].append(x), d a place -/
theorem blk_lapp {td ty ta : TE} {q : List Nat} {kvs : List ((Str × Bool) × List α)} {up : Sl → Ct} (pw : Pw td G q (oDLO P w K (oL K t)) kvs up) (nd : (kvs.map (·.1)).Nodup)
    (h : Ev F.X true ty G (tLt K) fun G k => ∃ j ys, kvs[j]? = some (k, ys) ∧ Ev F.X true ta G t fun _ x => ys.length < sizeLine ∧ N (up (.ow (oDLO P w K (oL K t)) (kvs.set j (k, ys ++ [x]))))) :
    Blk F (tDrop (tBM K "list" rAppend (Own.tNGet P w td ty) (tCons ta tNil))) G N B C := fun W0 H0 W H σ D g hs n _ _ _ ex => by
  obtain ⟨⟨i, r, rfl, ni⟩, pw⟩ := pw
  obtain ⟨v, ⟨a, xs, rfl, wa, ha, hl, fr⟩, ev, kk⟩ := pw W H σ hs
  refine ev _ (h W H σ _ hs (exo ex g) fun y W1 H1 G1 k ⟨j, ys, hj, p⟩ m rk => ?_)
  obtain rfl : G1 = G := (m.kp rfl).2
  obtain ⟨b, rfl⟩ := ref_of rk
  have g1 := (m.kp rfl).1
  obtain ⟨h1, w1⟩ := g1.own ha wa ni
  have jx : j < xs.length := by rw [hl]; exact (List.getElem?_eq_some_iff.mp hj).1
  have hx := List.getElem?_eq_getElem jx
  have ent : ∀ (m : Nat) e q, xs[m]? = some e → kvs[m]? = some q → e.1 = kL q.1 ∧ (tLt K).R W1 H1 (.ref e.2.1) q.1 ∧ (oL K t).R ((i :: r) ++ [m]) W1 H1 e.2.2 q.2 := fun m e q h2 h3 => by
    obtain ⟨r1, r2, r3⟩ := fr m e q h2 h3
    exact ⟨r1, (tLt K).mvE r2 g1, (oL K t).mv r3 (fun b o s w e => by
      obtain ⟨e1, e2⟩ := g1.own (i := i) (p := r ++ [m] ++ s) e (w.trans rfl) ni
      exact ⟨e2, e1⟩) g1.go.mv⟩
  obtain ⟨r1, r2, la, vs, ea, wl, hla, pl⟩ := ent j _ _ hx hj
  have nat : Own.NAt P w H1 a xs := ⟨h1, fun x hx2 => by
    obtain ⟨m2, hm⟩ := List.getElem?_of_mem hx2
    have hm2 : m2 < kvs.length := by rw [← hl]; exact (List.getElem?_eq_some_iff.mp hm).1
    obtain ⟨z1, z2, _⟩ := ent m2 x _ hm (List.getElem?_eq_getElem hm2)
    rw [z1]
    exact tupN_of m.hs.ok z2⟩
  refine ⟨a, xs, b, kL k, .ref la, rfl, rfl, nat, tupN_of m.hs.ok rk, ?_, ?_⟩
  · rw [← ea]
    exact nAt_ix hl (fun m e q h2 h3 => (ent m e q h2 h3).1) nd hx hj
  refine ⟨.inl ⟨rfl, _, SqL.of hla⟩, p W1 H1 σ _ m.hs ((exo ex g).mv m.go) fun u W2 H2 G2 x ⟨hz, hn⟩ m2 ru => ?_⟩
  have g2 := (m2.kp rfl).1
  obtain ⟨hl2, wl2⟩ := g2.own (i := i) (p := r ++ [j]) hla wl ni
  obtain ⟨h2, w2⟩ := g2.own h1 w1 ni
  have pl2 := L2.Paired.mapP pl fun _ _ r => t.mvE r g2
  refine ⟨la, vs, u, rfl, rfl, hl2, by rw [pl.length]; exact hz, ?_⟩
  have np : la ≠ a := fun e => by
    rw [e, w2] at wl2
    have := congrArg (fun m => match m with | Md.ow p => p.length | _ => 0) wl2
    simp at this
  have mv := upd_mv (H := H2) (o := .lst (vs ++ [u])) wl2
  have ok3 := upd_ok (o := .lst (vs ++ [u])) m2.hs.ok wl2 trivial
  have g3 := upd_go (H := H2) (o := .lst (vs ++ [u])) wl2
  have g12 := g1.trans g2
  have hh := kk W2 H2 g12 m2.hs.ok W2 (upd H2 la (.lst (vs ++ [u]))) (.ow (oDLO P w K (oL K t)) (kvs.set j (k, ys ++ [x]))) ok3 g3 (fun b p o w n e => ⟨w, by
    rw [upd_ne fun z => n (by rw [z, wl2] at w; injection w with w; rw [← w]; exact ⟨[j], rfl⟩)]; exact e⟩) ⟨a, xs, rfl, w2, by rw [upd_ne fun e => np e.symm]; exact h2, by rw [List.length_set]; exact hl, fun m' e q he hq => ?_⟩
  · exact n _ _ _ _ hn (((g.trans m.go).trans m2.go).trans g3) hh
  · rcases set_key hq with ⟨rfl, rfl⟩ | ⟨nm, hq⟩
    · rw [hx] at he
      cases he
      refine ⟨r1, (tLt K).go ((tLt K).mvE r2 g2) mv, la, vs ++ [u], ea, wl2, upd_same, paired_snoc' (L2.Paired.mapP pl2 fun _ _ r => t.go r mv) (t.go ru mv)⟩
    · obtain ⟨s1, s2, s3⟩ := ent m' e q he hq
      refine ⟨s1, (tLt K).go ((tLt K).mvE s2 g2) mv, (oL K t).mv s3 (fun b o s w e => ?_) (g2.go.mv.trans mv)⟩
      obtain ⟨e1, e2⟩ := g2.own (i := i) (p := r ++ [m'] ++ s) e (w.trans rfl) ni
      have hne : b ≠ la := fun z => nm (by
        rw [z, wl2] at e2
        injection e2 with e2
        have e2 : (i :: r) ++ [j] = (i :: r) ++ ([m'] ++ s) := by rw [← List.append_assoc]; exact e2
        have := List.append_cancel_left e2
        injection this with this
        exact this.symm)
      exact ⟨e2, by rw [upd_ne hne]; exact e1⟩
end
end Y
end

section
set_option maxRecDepth 100000
set_option maxHeartbeats 4000000
/-! {f(a, b): [] for a in x for b in y}: a dict by literals of new lists -/
namespace Y
open PySem PySem.Spec PyProof.Rows L2
def enL (L : List (Str × Bool)) (us : List (Addr × Addr)) : List Own.NEnt := (L.zip us).map fun p => (kL p.1, p.2.1, V.ref p.2.2)
theorem enL_get {L : List (Str × Bool)} {us : List (Addr × Addr)} {j : Nat} {e : Own.NEnt} (h : (enL L us)[j]? = some e) : ∃ l u, L[j]? = some l ∧ us[j]? = some u ∧ e = (kL l, u.1, V.ref u.2) := by
  unfold enL at h
  rw [List.getElem?_map] at h
  obtain ⟨p, hp, rfl⟩ := Option.map_eq_some_iff.mp h
  obtain ⟨h1, h2⟩ := List.getElem?_zip_eq_some.mp hp
  exact ⟨p.1, p.2, h1, h2, rfl⟩
structure Gr (Pg : Program) (w : World) (K : PySem.W.Frag) (W1 : Wd) (H1 : Hp) (D : Addr) (L : List (Str × Bool)) (W2 : Wd) (H2 : Hp) (us : List (Addr × Addr)) : Prop where
  ga : GoE W1 H1 W2 H2
  ok : OKW W2 H2
  wD : W2 D = .ow [tmq]
  hD : H2 D = some (Own.dN Pg w D (enL L us))
  ln : us.length = L.length
  el : ∀ (j : Nat) l u, L[j]? = some l → us[j]? = some u → (tLt K).R W2 H2 (.ref u.1) l ∧ W2 u.2 = .ow [tmq, j] ∧ H2 u.2 = some (.lst []) ∧ (H1 u.2 = none ∨ ∃ r, W1 u.2 = .ow (tmp :: r)) ∧ u.2 ≠ D
/-- what the slots tell stands -/
structure Sf (W : Wd) (H : Hp) (W' : Wd) (H' : Hp) : Prop where
  go : Go W H W' H'
  kp : ∀ b o i p, i < tmp → W b = .ow (i :: p) → H b = some o → W' b = .ow (i :: p) ∧ H' b = some o
theorem Sf.trans {W W1 W2 : Wd} {H H1 H2 : Hp} (a : Sf W H W1 H1) (b : Sf W1 H1 W2 H2) : Sf W H W2 H2 := ⟨a.go.trans b.go, fun c o i p hi w e => by
  obtain ⟨w1, e1⟩ := a.kp c o i p hi w e
  exact b.kp c o i p hi w1 e1⟩
theorem Sf.ofE {W W1 : Wd} {H H1 : Hp} (g : GoE W H W1 H1) : Sf W H W1 H1 := ⟨g.go, fun b o i p hi w e => by
  obtain ⟨e1, w1⟩ := g.own e w (Nat.ne_of_lt hi)
  exact ⟨w1, e1⟩⟩
theorem Sf.holds {G : Ct} {W W1 : Wd} {H H1 : Hp} {σ : L2.St} (f : Sf W H W1 H1) (h : Holds G W H σ) (ok : OKW W1 H1) : Holds G W1 H1 σ := ⟨h.len, ok, fun i s e a b => (h.sl i s e a b).mv (fun c o q w eo => f.kp c o i q (Nat.lt_of_lt_of_le (List.getElem?_eq_some_iff.mp a).1 h.sm) w eo) f.go.mv, fun n b w => h.nl n b (f.go.l b w), h.pn, h.sm⟩
section
variable {Pg : Program} {w : World} {K : PySem.W.Frag} {W1 W2 W3 : Wd} {H1 H2 H3 : Hp} {D : Addr} {L : List (Str × Bool)} {us : List (Addr × Addr)}
theorem Gr.go (g : Gr Pg w K W1 H1 D L W2 H2 us) (g3 : GoE W2 H2 W3 H3) (ok3 : OKW W3 H3) : Gr Pg w K W1 H1 D L W3 H3 us := by
  obtain ⟨wD3, hD3⟩ := grown g3 g.wD g.hD
  refine ⟨g.ga.trans g3, ok3, wD3, hD3, g.ln, fun j l u h1 h2 => ?_⟩
  obtain ⟨a1, a2, a3, a4, a5⟩ := g.el j l u h1 h2
  obtain ⟨b1, b2⟩ := g3.own a3 a2 tmq_ne
  exact ⟨(tLt K).mvE a1 g3, b2, b1, a4, a5⟩
theorem Gr.add (g : Gr Pg w K W1 H1 D L W2 H2 us) (hD1 : H1 D = none) {l : Str × Bool} {b p : Addr} (nl : l ∉ L) (rb : (tLt K).R W2 H2 (.ref b) l) (hp : H2 p = none) :
    ∃ W3, Gr Pg w K W1 H1 D (L ++ [l]) W3 (upd (upd H2 p (.lst [])) D (Own.dN Pg w D (Own.nPut (enL L us) (kL l) b (.ref p)))) (us ++ [(b, p)]) ∧ Sf W2 H2 W3 (upd (upd H2 p (.lst [])) D (Own.dN Pg w D (Own.nPut (enL L us) (kL l) b (.ref p)))) := by
  have pD : p ≠ D := fun e => by rw [e, g.hD] at hp; cases hp
  obtain ⟨gn, okn⟩ := newT g.ok hp (o := .lst []) trivial
  have w1 : setW W2 p (.ow [tmp]) p = .ow [tmp] := setW_same
  have gn2 : GoE W2 H2 (setW (setW W2 p (.ow [tmp])) p (.ow [tmq, L.length])) (upd H2 p (.lst [])) := setW_go gn hp (fun φ e => by rw [w1] at e; cases e) (fun e => by cases e)
  have okn2 : OKW (setW (setW W2 p (.ow [tmp])) p (.ow [tmq, L.length])) (upd H2 p (.lst [])) := re_ok okn w1
  have wD5 : setW (setW W2 p (.ow [tmp])) p (.ow [tmq, L.length]) D = .ow [tmq] := by rw [setW_ne (fun e => pD e.symm), setW_ne (fun e => pD e.symm)]; exact g.wD
  have hD5 : upd H2 p (HO.lst []) D = some (Own.dN Pg w D (enL L us)) := by rw [upd_ne (fun e => pD e.symm)]; exact g.hD
  have hp1 : H1 p = none ∨ ∃ r, W1 p = .ow (tmp :: r) := by
    cases e : H1 p with
    | none => exact .inl rfl
    | some o =>
      by_cases c : ∃ φ, W1 p = .st φ
      · obtain ⟨φ, c⟩ := c
        obtain ⟨o', ho', _⟩ := g.ok.st p φ (g.ga.s p φ c)
        rw [hp] at ho'; cases ho'
      · by_cases c2 : ∃ r, W1 p = .ow (tmp :: r)
        · exact .inr c2
        · have := (g.ga.k p o e (fun φ z => c ⟨φ, z⟩) (fun r z => c2 ⟨r, z⟩)).1
          rw [hp] at this; cases this
  have eP : Own.nPut (enL L us) (kL l) b (.ref p) = enL (L ++ [l]) (us ++ [(b, p)]) := by
    unfold Own.nPut
    have no : Own.nAt (enL L us) (kL l) = none := by
      unfold Own.nAt
      rw [Option.map_eq_none_iff, List.find?_eq_none]
      intro e he
      obtain ⟨j, hj⟩ := List.getElem?_of_mem he
      obtain ⟨l2, u, h1, _, rfl⟩ := enL_get hj
      simp only [decide_eq_true_eq]
      intro z
      exact nl (by rw [← kL_inj z]; exact List.mem_of_getElem? h1)
    rw [no, if_neg (by simp)]
    unfold enL
    rw [List.zip_append g.ln.symm, List.map_append]
    rfl
  refine ⟨_, ⟨upd_goE (g.ga.trans gn2) hD1, upd_ok okn2 wD5 trivial, wD5, by rw [upd_same, eP], by rw [List.length_append, List.length_append, g.ln]; rfl, fun j l' u h1 h2 => ?_⟩, (Sf.ofE gn2).trans ⟨upd_go wD5, fun b o i p hi w e => ⟨w, by
    rw [upd_ne fun z => by rw [z, wD5] at w; injection w with w; injection w with w; rw [← w] at hi; exact absurd hi (by unfold tmq; omega)]; exact e⟩⟩⟩
  have mv := upd_mv (H := upd H2 p (.lst [])) (o := Own.dN Pg w D (Own.nPut (enL L us) (kL l) b (.ref p))) wD5
  by_cases hj : j < L.length
  · rw [List.getElem?_append_left hj] at h1
    rw [List.getElem?_append_left (by rw [g.ln]; exact hj)] at h2
    obtain ⟨e0, e1, e2, e3, e4⟩ := g.el j l' u h1 h2
    have ap : u.2 ≠ p := fun e => by rw [e, hp] at e2; cases e2
    exact ⟨(tLt K).go ((tLt K).mvE e0 gn2) mv, by rw [setW_ne ap, setW_ne ap]; exact e1, by rw [upd_ne e4, upd_ne ap]; exact e2, e3, e4⟩
  · have hjl : j < (L ++ [l]).length := (List.getElem?_eq_some_iff.mp h1).1
    rw [List.length_append] at hjl
    have hjl : j < L.length + 1 := hjl
    obtain rfl : j = L.length := by omega
    rw [List.getElem?_append_right (Nat.le_refl _), Nat.sub_self] at h1
    rw [List.getElem?_append_right (by rw [g.ln]; exact Nat.le_refl _), g.ln, Nat.sub_self] at h2
    cases h1
    cases h2
    exact ⟨(tLt K).go ((tLt K).mvE rb gn2) mv, setW_same, by rw [upd_ne pD]; exact upd_same, hp1, pD⟩
variable {X : Xw} {k : Bool} {G : Ct} {α : Type} {t : Ty α}
theorem dcNew2_core {γ δ : Type} {z1 : Ty γ} {z2 : Ty δ} {wi1 wi2 : TI} {g1 g2 : TG} {tk tv : TE} {vs vs2 : List Nat} {W : Wd} {H : Hp} {σ : L2.St} {Q : VK} {P : Ct → List ((Str × Bool) × List α) → Prop} {f : γ → δ → Str × Bool} {ys : List δ}
    (hte : ∀ σ H (Q : VK), (∀ p, H p = none → Q (.ref p) (upd H p (.lst []))) → tv σ H Q)
    (h : EiAt k wi1 G W H σ z1 fun G1 (xs : List γ) => (xs.flatMap fun x => ys.map (f x)).length < sizeLine ∧ (xs.flatMap fun x => ys.map (f x)).Nodup ∧ G1.frees vs ∧
      (∀ (i : Nat) x, xs[i]? = some x → Tg g1 (G1.wipe vs) z1 x vs fun G2 => Ei x0 true wi2 G2 z2 fun G3 ys' => ys' = ys ∧ G3.frees vs2 ∧ ∀ (j : Nat) y, ys[j]? = some y → Tg g2 (G3.wipe vs2) z2 y vs2 fun G4 => Ev x0 true tk G4 (tLt K) fun _ l => l = f x y) ∧
      P G1 ((xs.flatMap fun x => ys.map (f x)).map fun l => (l, ([] : List α))))
    (q : ∀ v W' H' G' x, P G' x → Mo k σ G W H G' W' H' → (oDLO Pg w K (oL K t)).R [tmp] W' H' v x → Q v H') : Own.tDcN2 Pg w wi1 g1 wi2 g2 tk tv vs vs2 σ H Q :=
  h _ fun J W1 H1 G1 xs Gh Y ⟨hz, nd, fr, ht, he⟩ m wk st yd => fun D hD => by
    -- what is laid when i names have been walked, and j of the second
    let pre : Nat → Nat → List (Str × Bool) := fun i j => ((xs.take i).flatMap fun x => ys.map (f x)) ++ (match xs[i]? with | some x => (ys.take j).map (f x) | none => [])
    let Pv : Nat → Hp → Prop := fun i H2 => ∃ W2 us, Gr Pg w K W1 H1 D ((xs.take i).flatMap fun x => ys.map (f x)) W2 H2 us
    have gh : ∀ i H2, Pv i H2 → Gh H2 := fun i H2 ⟨W2, us, g⟩ => st W2 H2 g.ga.go g.ok
    refine ⟨fun i m H => m = xs.length - i ∧ i ≤ xs.length ∧ Pv i H, ⟨xs.length, by simp, Nat.zero_le _, ?_⟩, ?_⟩
    · obtain ⟨ga, ok1⟩ := newT m.hs.ok hD (o := Own.dN Pg w D []) trivial
      have w1 : setW W1 D (.ow [tmp]) D = .ow [tmp] := setW_same
      exact ⟨setW (setW W1 D (.ow [tmp])) D (.ow [tmq]), [], setW_go ga hD (fun φ e => by rw [w1] at e; cases e) (fun e => by cases e), re_ok ok1 w1, setW_same, upd_same, rfl, fun j l u h => by simp at h⟩
    rintro i m' H2 ⟨rfl, hi, pv⟩
    by_cases hlt : i < xs.length
    · refine .inr ⟨wk.goes i H2 hlt (gh i H2 pv), Pv (i + 1), fun H' p' => ⟨xs.length - (i + 1), by omega, rfl, hlt, p'⟩, fun v H3 y => ?_⟩
      obtain ⟨W2, us, g⟩ := pv
      obtain ⟨x, W3, hx, g3, ok3, r⟩ := yd W2 H2 i v H3 g.ga.go g.ok hlt (wk.yields i H2 v H3 hlt (st W2 H2 g.ga.go g.ok) y)
      have gg := g.go g3 ok3
      have hs3 := (m.hs.goE gg.ga ok3).wipe vs fr
      refine ht i x hx W3 H3 _ v _ hs3 r fun G2 σ2 hG2 hs4 hl2 hk2 => ⟨wipe_same hl2 hk2, ?_⟩
      refine hG2 W3 H3 σ2 hs4 x0_ok _ fun J' W5 H5 G5 ys' Gh' Y' ⟨hys, fr2, ht2⟩ m2 wk2 st2 yd2 => ?_
      subst hys
      have g5 := gg.go (m2.kp rfl).1 m2.hs.ok
      have e0 : (xs.take (i + 1)).flatMap (fun x => ys'.map (f x)) = (xs.take i).flatMap (fun x => ys'.map (f x)) ++ ys'.map (f x) := by rw [List.take_succ, hx, List.flatMap_append]; simp
      let P2 : Nat → Hp → Prop := fun j H6 => ∃ W6 us, Gr Pg w K W1 H1 D ((xs.take i).flatMap (fun x => ys'.map (f x)) ++ (ys'.take j).map (f x)) W6 H6 us ∧ Sf W5 H5 W6 H6
      refine ⟨fun j m H => m = ys'.length - j ∧ j ≤ ys'.length ∧ P2 j H, ⟨ys'.length, by simp, Nat.zero_le _, W5, us, by rw [List.take_zero, List.map_nil, List.append_nil]; exact g5, .ofE .refl⟩, ?_⟩
      rintro j m3 H6 ⟨rfl, hj, W6, us6, g6, g56⟩
      by_cases hlj : j < ys'.length
      · refine .inr ⟨wk2.goes j H6 hlj (st2 W6 H6 g56.go g6.ok), P2 (j + 1), fun H' p' => ⟨ys'.length - (j + 1), by omega, rfl, hlj, p'⟩, fun v2 H7 y2 => ?_⟩
        obtain ⟨yv, W7, hy, g7, ok7, r7⟩ := yd2 W6 H6 j v2 H7 g56.go g6.ok hlj (wk2.yields j H6 v2 H7 hlj (st2 W6 H6 g56.go g6.ok) y2)
        have gg7 := g6.go g7 ok7
        have hs7 := ((g56.trans (.ofE g7)).holds m2.hs ok7).wipe vs2 fr2
        refine ht2 j yv hy W7 H7 _ v2 _ hs7 r7 fun G8 σ8 hG8 hs8 hl8 hk8 => ⟨wipe_same hl8 hk8, ?_⟩
        refine hG8 W7 H7 σ8 _ hs8 x0_ok fun kv W9 H9 G9 l hl m9 rk => ?_
        subst hl
        obtain ⟨b, rfl⟩ := ref_of rk
        have g9 := gg7.go (m9.kp rfl).1 m9.hs.ok
        refine hte _ _ _ fun p hp => ?_
        have pD : p ≠ D := fun e => by rw [e, g9.hD] at hp; cases hp
        have ap : ∀ {a : Addr} {o : HO}, H9 a = some o → upd H9 p (.lst []) a = some o := fun {a o} e => by rw [upd_ne (ne_of_none e hp)]; exact e
        have tk0 : ∀ {W9 : Wd} {c : Addr} {l : Str × Bool}, OKW W9 H9 → (tLt K).R W9 H9 (.ref c) l → Own.TupN (upd H9 p (.lst [])) c (kL l) := fun {W9 c l} ok r => by
          obtain ⟨vs, ks, h1, h2⟩ := tupN_of ok r
          exact ⟨vs, ks, ap h1, h2⟩
        have nl : f x yv ∉ (xs.take i).flatMap (fun x => ys'.map (f x)) ++ (ys'.take j).map (f x) := by
          have e1 : xs.flatMap (fun x => ys'.map (f x)) = (xs.take i).flatMap (fun x => ys'.map (f x)) ++ (ys'.take j).map (f x) ++ ((ys'.drop j).map (f x) ++ (xs.drop (i + 1)).flatMap fun x => ys'.map (f x)) := by
            conv => lhs; rw [← List.take_append_drop (i + 1) xs, List.flatMap_append, e0]
            have e2 : ys'.map (f x) = (ys'.take j).map (f x) ++ (ys'.drop j).map (f x) := by rw [← List.map_append, List.take_append_drop]
            rw [show ∀ A B : List (Str × Bool), A ++ ys'.map (f x) ++ B = A ++ (ys'.take j).map (f x) ++ ((ys'.drop j).map (f x) ++ B) from fun A B => by rw [e2]; simp only [List.append_assoc]]
          rw [e1, List.nodup_append] at nd
          intro hm
          have hd : f x yv ∈ (ys'.drop j).map (f x) ++ (xs.drop (i + 1)).flatMap fun x => ys'.map (f x) := by
            refine List.mem_append_left _ (List.mem_map_of_mem (List.mem_of_getElem? (i := 0) ?_))
            rw [List.getElem?_drop]
            exact hy
          exact nd.2.2 _ hm _ hd rfl
        have ln9 : (enL ((xs.take i).flatMap (fun x => ys'.map (f x)) ++ (ys'.take j).map (f x)) us6).length < sizeLine := by
          unfold enL
          rw [List.length_map, List.length_zip, g9.ln, Nat.min_self]
          refine Nat.lt_of_le_of_lt ?_ hz
          have e1 : xs.flatMap (fun x => ys'.map (f x)) = (xs.take i).flatMap (fun x => ys'.map (f x)) ++ (ys'.take j).map (f x) ++ ((ys'.drop j).map (f x) ++ (xs.drop (i + 1)).flatMap fun x => ys'.map (f x)) := by
            conv => lhs; rw [← List.take_append_drop (i + 1) xs, List.flatMap_append, e0]
            have e2 : ys'.map (f x) = (ys'.take j).map (f x) ++ (ys'.drop j).map (f x) := by rw [← List.map_append, List.take_append_drop]
            rw [show ∀ A B : List (Str × Bool), A ++ ys'.map (f x) ++ B = A ++ (ys'.take j).map (f x) ++ ((ys'.drop j).map (f x) ++ B) from fun A B => by rw [e2]; simp only [List.append_assoc]]
          have e3 := congrArg List.length e1
          simp only [List.length_append] at e3 ⊢
          omega
        refine ⟨_, b, kL (f x yv), rfl, ⟨ap g9.hD, fun e he => ?_⟩, tk0 m9.hs.ok rk, ln9, ?_⟩
        · obtain ⟨j2, hj2⟩ := List.getElem?_of_mem he
          obtain ⟨l2, u2, h1, h2, rfl⟩ := enL_get hj2
          exact tk0 g9.ok (g9.el j2 l2 u2 h1 h2).1
        · obtain ⟨W10, g10, s10⟩ := g9.add hD nl rk hp
          refine ⟨W10, us6 ++ [(b, p)], ?_, (g56.trans (.ofE (g7.trans (m9.kp rfl).1))).trans s10⟩
          · rw [List.take_succ, hy, Option.toList_some, List.map_append, ← List.append_assoc]
            exact g10
      · have hj : j = ys'.length := by omega
        subst hj
        refine .inl ⟨wk2.stops H6 (st2 W6 H6 g56.go g6.ok), W6, us6, ?_⟩
        rw [e0]
        rw [List.take_length] at g6
        exact g6
    · have hi : i = xs.length := by omega
      subst hi
      refine .inl ⟨wk.stops H2 (gh _ H2 pv), ?_⟩
      obtain ⟨W2, us, g⟩ := pv
      rw [List.take_length] at g
      obtain ⟨ga, ok2, wD, hD2, ln, el⟩ := g
      have wT : ∀ {b : Addr} {i : Nat} {r : List Nat}, b = D ∨ b ∈ us.map (·.2) → W2 b = .ow (i :: r) → grownW W2 (fun b => b = D ∨ b ∈ us.map (·.2)) b = .ow (tmp :: r) := fun {b i r} s e => by
        unfold grownW
        rw [if_pos s, e]
      have wN : ∀ {b : Addr}, ¬ (b = D ∨ b ∈ us.map (·.2)) → grownW W2 (fun b => b = D ∨ b ∈ us.map (·.2)) b = W2 b := fun {b} s => by
        unfold grownW
        rw [if_neg s]
      have at_ : ∀ {b : Addr}, b ∈ us.map (·.2) → ∃ (j : Nat) (l : Str × Bool) (u : Addr × Addr), (xs.flatMap fun x => ys.map (f x))[j]? = some l ∧ us[j]? = some u ∧ u.2 = b := fun {b} hb => by
        obtain ⟨u, hu, rfl⟩ := List.mem_map.mp hb
        obtain ⟨j, hj⟩ := List.getElem?_of_mem hu
        have hj2 : j < (xs.flatMap fun x => ys.map (f x)).length := by rw [← ln]; exact (List.getElem?_eq_some_iff.mp hj).1
        exact ⟨j, _, u, List.getElem?_eq_getElem hj2, hj, rfl⟩
      have re : ∀ b, grownW W2 (fun b => b = D ∨ b ∈ us.map (·.2)) b = W2 b ∨ ∃ p p', W2 b = .ow p ∧ grownW W2 (fun b => b = D ∨ b ∈ us.map (·.2)) b = .ow p' := fun b => by
        by_cases s : b = D ∨ b ∈ us.map (·.2)
        · rcases s with s | s
          · subst s; exact .inr ⟨_, _, wD, wT (.inl rfl) wD⟩
          · obtain ⟨j, l, u, h1, h2, rfl⟩ := at_ s
            exact .inr ⟨_, _, (el j l u h1 h2).2.1, wT (.inr s) (el j l u h1 h2).2.1⟩
        · exact .inl (wN s)
      have g2 : GoE W1 H1 (grownW W2 (fun b => b = D ∨ b ∈ us.map (·.2))) H2 := by
        refine ⟨fun b o e n nt => ?_, fun b φ e => ?_, fun b e => ?_⟩
        · obtain ⟨e1, w1⟩ := ga.k b o e n nt
          refine ⟨e1, ?_⟩
          rw [wN fun s => ?_]
          · exact w1
          · rcases s with s | s
            · rw [s, hD] at e; cases e
            · obtain ⟨j, l, u, h1, h2, rfl⟩ := at_ s
              rcases (el j l u h1 h2).2.2.2.1 with z | ⟨r, z⟩
              · rw [z] at e; cases e
              · exact nt r z
        · have := ga.s b φ e
          rcases re b with z | ⟨p, p', z, _⟩
          · exact z.trans this
          · rw [z] at this; cases this
        · rcases re b with z | ⟨p, p', _, z⟩
          · exact ga.l b (z.symm.trans e)
          · rw [z] at e; cases e
      have mv := remap_mv (H := H2) re
      refine q _ _ H2 G1 _ he (m.thenE g2 (remap_ok ok2 re)) ⟨D, enL (xs.flatMap fun x => ys.map (f x)) us, rfl, wT (.inl rfl) wD, hD2, ?_, fun j e q' h1 h2 => ?_⟩
      · unfold enL
        rw [List.length_map, List.length_zip, ln, Nat.min_self, List.length_map]
      obtain ⟨l, u, h3, h4, rfl⟩ := enL_get h1
      rw [List.getElem?_map, h3] at h2
      cases h2
      obtain ⟨a1, a2, a3, _, _⟩ := el j l u h3 h4
      exact ⟨rfl, (tLt K).go a1 mv, u.2, [], rfl, wT (.inr (List.mem_map_of_mem (List.mem_of_getElem? h4))) a2, a3, .nil⟩
theorem ev_dcNew2 {γ δ : Type} {z1 : Ty γ} {z2 : Ty δ} {wi1 wi2 : TI} {g1 g2 : TG} {tk tv : TE} {vs vs2 : List Nat} {P : Ct → List ((Str × Bool) × List α) → Prop} {f : γ → δ → Str × Bool} {ys : List δ}
    (hte : ∀ σ H (Q : VK), (∀ p, H p = none → Q (.ref p) (upd H p (.lst []))) → tv σ H Q)
    (h : Ei X k wi1 G z1 fun G1 (xs : List γ) => (xs.flatMap fun x => ys.map (f x)).length < sizeLine ∧ (xs.flatMap fun x => ys.map (f x)).Nodup ∧ G1.frees vs ∧
      (∀ (i : Nat) x, xs[i]? = some x → Tg g1 (G1.wipe vs) z1 x vs fun G2 => Ei x0 true wi2 G2 z2 fun G3 ys' => ys' = ys ∧ G3.frees vs2 ∧ ∀ (j : Nat) y, ys[j]? = some y → Tg g2 (G3.wipe vs2) z2 y vs2 fun G4 => Ev x0 true tk G4 (tLt K) fun _ l => l = f x y) ∧
      P G1 ((xs.flatMap fun x => ys.map (f x)).map fun l => (l, ([] : List α)))) :
    EvR X k (Own.tDcN2 Pg w wi1 g1 wi2 g2 tk tv vs vs2) G (.ow (oDLO Pg w K (oL K t))) P := fun W H σ Q hs ex q => dcNew2_core hte (h W H σ hs ex) q
end
end Y
end

section
set_option maxRecDepth 100000
set_option maxHeartbeats 4000000
namespace KK
open PySem PySem.Spec PyProof.Rows L2 Y
/-! the class Steps -/
structure StpC (K : PySem.W.Frag) (C : Addr) : Prop where
  cl : Cls K C
  nh : NoAttr K C "_heads"
abbrev StepsC (K : PySem.W.Frag) (C : Addr) : Prop := StpC K C
def litsN (ns : List Str) : List Lit := ns.flatMap fun x => [false, true].map fun b => (x, b)
def headsR (r : Row) (l : Lit) : List Lit := (if opp r.1 = l then [r.2] else []) ++ (if opp r.2 = l then [r.1] else [])
def headsOf (rs : List Row) (l : Lit) : List Lit := rs.flatMap fun r => headsR r l
def headsD (c : ClZ) : List (Lit × List Lit) := (litsN c.ns).map fun l => (l, headsOf c.rs l)
theorem opp_opp (l : Lit) : opp (opp l) = l := by
  unfold opp
  simp
theorem mem_lits {ns : List Str} {l : Lit} : l ∈ litsN ns ↔ l.1 ∈ ns := by
  unfold litsN
  rw [List.mem_flatMap]
  constructor
  · rintro ⟨x, hx, hl⟩
    obtain ⟨b, _, rfl⟩ := List.mem_map.mp hl
    exact hx
  · intro h
    exact ⟨l.1, h, List.mem_map.mpr ⟨l.2, by cases l.2 <;> simp, rfl⟩⟩
theorem lits_len (ns : List Str) : (litsN ns).length = 2 * ns.length := by
  unfold litsN
  induction ns with
  | nil => rfl
  | cons x l ih => rw [List.flatMap_cons, List.length_append, ih, List.length_cons]; show 2 + _ = _; omega
theorem lits_nodup {ns : List Str} (nd : ns.Nodup) : (litsN ns).Nodup := by
  unfold litsN
  induction ns with
  | nil => exact List.nodup_nil
  | cons x l ih =>
    rw [List.nodup_cons] at nd
    rw [List.flatMap_cons, List.nodup_append]
    refine ⟨by simp, ih nd.2, fun a ha b hb e => ?_⟩
    obtain ⟨p, _, rfl⟩ := List.mem_map.mp ha
    subst e
    exact nd.1 (mem_lits.mp hb)
theorem heads_in {ns : List Str} {rs : List Row} (ro : ∀ r ∈ rs, r.1.1 ∈ ns ∧ r.2.1 ∈ ns) {l h : Lit} (hh : h ∈ headsOf rs l) : h.1 ∈ ns := by
  unfold headsOf at hh
  obtain ⟨r, hr, hh⟩ := List.mem_flatMap.mp hh
  unfold headsR at hh
  rcases List.mem_append.mp hh with hh | hh
  · split at hh
    · rw [List.mem_singleton] at hh; rw [hh]; exact (ro r hr).2
    · cases hh
  · split at hh
    · rw [List.mem_singleton] at hh; rw [hh]; exact (ro r hr).1
    · cases hh
/-- what follows -/
inductive Rch (rs : List Row) (s : Lit) : Lit → Prop where
  | refl : Rch rs s s
  | step {l h : Lit} : Rch rs s l → h ∈ headsOf rs l → Rch rs s h
structure BfsS (rs : List Row) (s : Lit) (B : List (Lit × Option Lit)) : Prop where
  nd : (B.map (·.1)).Nodup
  h0 : B[0]? = some (s, none)
  st : ∀ (j : Nat) l o, B[j + 1]? = some (l, o) → ∃ (i : Nat) (p : Lit), i ≤ j ∧ o = some p ∧ (B.map (·.1))[i]? = some p ∧ l ∈ headsOf rs p
  cl : ∀ l ∈ B.map (·.1), ∀ h ∈ headsOf rs l, h ∈ B.map (·.1)
theorem BfsS.rch {rs : List Row} {s : Lit} {B : List (Lit × Option Lit)} (b : BfsS rs s B) {l : Lit} : l ∈ B.map (·.1) ↔ Rch rs s l := by
  constructor
  · intro h
    obtain ⟨j, hj⟩ := List.getElem?_of_mem h
    induction j using Nat.strongRecOn generalizing l with
    | _ j ih =>
      rw [List.getElem?_map] at hj
      obtain ⟨e, he, rfl⟩ := Option.map_eq_some_iff.mp hj
      cases j with
      | zero => rw [b.h0] at he; cases he; exact .refl
      | succ j =>
        obtain ⟨i, p, hi, _, hp, hl⟩ := b.st j e.1 e.2 he
        exact .step (ih i (by omega) (List.mem_of_getElem? hp) hp) hl
  · intro h
    induction h with
    | refl => exact List.mem_map_of_mem (f := (·.1)) (List.mem_of_getElem? b.h0)
    | step _ hh ih => exact b.cl _ ih _ hh
abbrev flSt (P : Program) (w : World) (K : PySem.W.Frag) (c : ClZ) : List (Str × Sl) := [("_heads", .ow (oDLO P w K (oL K (tLit K))) (headsD c))]
abbrev oStp (P : Program) (w : World) (K : PySem.W.Frag) (CS : Addr) : OT ClZ := oBox fun c => oIns CS (flSt P w K c)
abbrev yStp (P : Program) (w : World) (K : PySem.W.Frag) (CS : Addr) : Y.Ty ClZ := tBox fun c => (oIns CS (flSt P w K c)).sv
abbrev ctStp0 (P : Program) (w : World) (K : PySem.W.Frag) (CS CC : Addr) : Y.CT Unit := ⟨true, .sh tNon, fun as Q _ => ∃ c, as = [.ow (oIns CS []) (), .sh (yCl K CC) c] ∧ WfC c ∧ ∀ os, Q (.ow (oIns CS (flSt P w K c)) () :: os) ()⟩
abbrev ctStp (P : Program) (w : World) (K : PySem.W.Frag) (CS CC : Addr) : Y.CT Unit := ⟨true, .sh tNon, fun as Q _ => ∃ c, as = [.ow (oIns CS []) (), .sh (yCl K CC) c] ∧ WfC c ∧ ∀ os, Q (.ow (oStp P w K CS) c :: os) ()⟩
theorem to_stp {P : Program} {w : World} {K : PySem.W.Frag} {CS CC : Addr} : CtTo (ctStp P w K CS CC) (ctStp0 P w K CS CC) := by
  refine ⟨fun h => h, rfl, ?_⟩
  rintro as Q XP ⟨c, e, h, hp⟩
  refine ⟨as, fun os y => ∃ r, os = .ow (oIns CS (flSt P w K c)) () :: r ∧ Q (.ow (oStp P w K CS) c :: r) (), XP, .refl _, ⟨c, e, h, fun os => ⟨os, rfl, hp os⟩⟩, ?_, fun os e h => ⟨os, .refl _, h⟩⟩
  rintro os ⟨⟩ ⟨r, rfl, q⟩
  exact ⟨_, SlsTo.cons (s' := .ow (oStp P w K CS) c) (fun p W H v h => h) (.refl r), q⟩
abbrev yLits (P : Program) (w : World) (K : PySem.W.Frag) (CS : Addr) : Y.CT (List Lit) := ⟨false, .ow (oL K (tLit K)), fun as Q _ => ∃ c, as = [.sh (yStp P w K CS) c] ∧ ∀ os, Q os (litsN c.ns)⟩
abbrev yReachS (P : Program) (w : World) (K : PySem.W.Frag) (CS : Addr) : Y.CT (List (Lit × Option Lit)) := ⟨false, .ow (oDL P w K (tOpt (tLit K))), fun as Q _ => ∃ c s, as = [.sh (yStp P w K CS) c, .sh (tLit K) s] ∧ (WfC c ∧ s.1 ∈ c.ns) ∧ ∀ B, BfsS c.rs s B → (∀ l ∈ B.map (·.1), l.1 ∈ c.ns) → ∀ os, Q os B⟩
section
variable {Pg : Program} {w : World} {K : PySem.W.Frag} {mg : Str → Option Value} {base : Heap} {CC CS : Addr}
theorem st_no {m : Str} (h : ¬ m ∈ [("_heads" : Str)]) : Inst CS m (yStp Pg w K CS) := inst_box fun c => inst_t (fl := flSt Pg w K c) h
theorem fo_heads_s (c : StpC K CS) : FldOf K "_heads" (yStp Pg w K CS) (tDL Pg w K (tLs K (tLit K))) headsD := fo_box (get := headsD) fun r => fo_ow (fl := flSt Pg w K r) (O := oDLO Pg w K (oL K (tLit K))) 0 c.cl c.nh
theorem heads_more {rs : List Row} {i : Nat} {r : Row} (h : rs[i]? = some r) (l : Lit) : headsOf (rs.take (i + 1)) l = headsOf (rs.take i) l ++ headsR r l := by
  unfold headsOf
  rw [take_more h, List.flatMap_append]
  simp
theorem set_mapL {κ α : Type} [DecidableEq κ] {L : List κ} {g : κ → α} {j : Nat} {a : κ} {v : α} (nd : L.Nodup) (h : L[j]? = some a) : (L.map fun l => (l, g l)).set j (a, v) = L.map fun l => (l, if a = l then v else g l) := by
  apply List.ext_getElem?
  intro i
  rw [List.getElem?_set, List.getElem?_map, List.getElem?_map, List.length_map]
  by_cases c : j = i
  · subst c
    rw [if_pos rfl, if_pos (List.getElem?_eq_some_iff.mp h).1, h]
    simp
  · rw [if_neg c]
    cases e : L[i]? with
    | none => rfl
    | some b =>
      have : ¬ a = b := fun z => c ((List.getElem?_inj (List.getElem?_eq_some_iff.mp h).1 nd).mp (by rw [h, e, z]))
      simp [this]
theorem heads_len (rs : List Row) (l : Lit) : (headsOf rs l).length ≤ 2 * rs.length := by
  unfold headsOf
  induction rs with
  | nil => exact Nat.le_refl _
  | cons r rs ih =>
    rw [List.flatMap_cons, List.length_append, List.length_cons]
    have : (headsR r l).length ≤ 2 := by
      unfold headsR
      rw [List.length_append]
      split <;> split <;> simp
    omega
abbrev NYStepsinit : List Str := ["self", "clauses", "one", "two", "name", "flag"]
theorem scYStepsinit : FnScope NYStepsinit ["self", "clauses"] (defScope s_Steps_init) := ⟨rfl, rfl, rfl, by decide +kernel, rfl, by decide +kernel, by decide +kernel⟩
theorem y_steps (T : Blt mg) (CC' : StpC K CS) (F : (∃ f fd, Fun K "__init__" "Steps.__init__" s_Steps_init f fd ∧ Mk K CS f) ∧ mg "Steps" = some (.ref CS)) (YCLNAMES : C8.Met Pg w K mg base 1 CC "names" (Y.spZ (yClNames K CC)) []) (YCLROWS : C8.Met Pg w K mg base 1 CC "rows" (Y.spZ (yClRows K CC)) []) (YOPP : C8.Cal Pg w K mg base 1 "opposite" (Y.spZ (ctOpp K)) []) : C8.Mak Pg w K mg base 2 "Steps" CS (Y.spZ (ctStp Pg w K CS CC)) [] := by
  refine mak_to ?_ to_stp
  refine makY F (fun f fd F => F.binds (ps := ["self", "clauses"]) fun _ _ _ _ _ _ us hl => match us, hl with | [_, _], _ => rfl) scYStepsinit (fun vs H Q E h => zlen (fun as P XP hc => by obtain ⟨_, rfl, _⟩ := hc; rfl) h) (fun f cdv A outer s H vs Q E hr h => ?_)
  have hu := hu_of hr
  refine ⟨_, (pss_cons (ps_fld (pv 0) (Own.pe_dcN2 (own := [("name", 4), ("flag", 5)]) (vs2 := [5]) (g1 := gName 4) (g2 := gName 5) hr.units rfl scYStepsinit.nd (pi_list (C8.pe_mt0 YCLNAMES hr (by decide) (pv 1))) (blkOk_by (own := [("name", 4), ("flag", 5)]) (N := NYStepsinit) (sc := defScope s_Steps_init) (by decide +kernel)) (by decide) (fun _ _ _ _ _ => (pg_name (i := 4) scYStepsinit.nd rfl (Or.inl rfl))) (fun _ _ _ _ _ => (show PI _ _ _ (iTup K _) from pi_tup (pe_tup (pa_cons pe_bl (pa_cons pe_bl pa_nil))))) (fun _ _ _ _ _ => (pg_name (i := 5) scYStepsinit.nd rfl (Or.inl rfl))) (fun _ _ _ _ _ => (pe_tup (pa_cons (pv 4) (pa_cons (pv 5) pa_nil)))) (fun _ _ _ _ _ => (pe_lst pa_nil))) rfl)
      (pss_one (ps_for PassesOwn.never rfl (pi_list (C8.pe_mt0 YCLROWS hr (by decide) (pv 1))) (pg_tup rfl (pgs_cons (pg_name (i := 2) scYStepsinit.nd rfl (Or.inl rfl)) (pgs_cons (pg_name (i := 3) scYStepsinit.nd rfl (Or.inl rfl)) pgs_nil)))
        (pss_cons (ps_expr (pe_bm PySem.F.plainAttrs_list PySem.F.slot_list_append PySem.F.type_list_append mt_append (Own.pe_nget hr.units (pe_fld (pv 0) rfl) (C8.pe_c YOPP hr (by decide) rfl (pa_cons (pv 2) pa_nil)) (fun _ _ => rfl)) (pa_cons (pv 3) pa_nil)))
      (pss_one (ps_expr (pe_bm PySem.F.plainAttrs_list PySem.F.slot_list_append PySem.F.type_list_append mt_append (Own.pe_nget hr.units (pe_fld (pv 0) rfl) (C8.pe_c YOPP hr (by decide) rfl (pa_cons (pv 3) pa_nil)) (fun _ _ => rfl)) (pa_cons (pv 2) pa_nil)))))))), zrun h ?_⟩
  rintro as P XP ⟨c, rfl, wc, hp⟩ hl
  obtain ⟨p0, p1, rfl⟩ := len2 hl
  refine ⟨4, rfl, by decide, ?_⟩
  have no := wc.no
  have ro := wc.ro
  have n40 := no.hi
  have nd := lits_nodup no.nd
  have kl : (litsN c.ns).length ≤ 80 := by rw [lits_len]; omega
  refine blk_seq (blk_fldO (O := oDLO Pg w K (oL K (tLit K))) CC'.cl CC'.nh (Nat.le_of_ble_eq_true rfl) (pw_var (i := 0) rfl (by decide)) (ev_dcNew2 (Pg := Pg) (w := w) (K := K) (t := tLit K) (z1 := tStr) (z2 := tBl) (f := fun x b => (x, b)) (ys := [false, true]) (fun σ H Q h => ⟨small (show 0 ≤ 1000 by decide), h⟩) (ei_list (EvR.share (O := oL K tStr) (ev_meth0 (cl_no (by decide)) (ev_var rfl (ea_nil ⟨fun _ => rfl, all1 trivial, c, rfl, fun _ => ⟨?_, ?_, ?_, ?_, ?_⟩⟩)))))))
  · exact fits40 (show (litsN c.ns).length ≤ 1000 by omega)
  · exact nd
  · intro i hi
    simp at hi
    rcases hi with rfl | rfl <;> exact free_of rfl
  · rintro i x hx
    refine tg_name (by decide) (free_of rfl) (ei_tup (ev_tuple (K := K) (t := tBl) (es_cons (ev_c (t := tBl) (x := false) (fun _ _ => rfl) (es_cons (ev_c (t := tBl) (x := true) (fun _ _ => rfl) (es_nil ⟨Nat.le_of_ble_eq_true rfl, rfl, frees1 (free_of rfl), fun j y hy => tg_name (by decide) (free_of rfl) (ev_t2 (ev_var rfl (ev_var rfl rfl)))⟩)))))))
  refine blk_for (vs := [2, 3]) (ei_list (EvR.share (O := oL K (tRow K)) (ev_meth0 (cl_no (by decide)) (ev_var rfl (ea_nil ⟨fun _ => rfl, all1 trivial, c, rfl, fun _ => ⟨(fun i G' => ∃ s2 s3, G' = ⟨true, [.ow (oIns CS [("_heads", .ow (oDLO Pg w K (oL K (tLit K))) ((litsN c.ns).map fun l => (l, headsOf (c.rs.take i) l)))]) (), .sh (yCl K CC) c, s2, s3, .un, .un], [some p0, some p1]⟩), ⟨_, _, rfl⟩, ?_, ?_⟩⟩)))))
  · rintro i r _ hr ⟨s2, s3, rfl⟩
    have q := ro.ok r (List.mem_of_getElem? hr)
    have hi := (List.getElem?_eq_some_iff.mp hr).1
    have h400 := ro.hi
    obtain ⟨j1, hj1⟩ := List.getElem?_of_mem (mem_lits.mpr (show (opp r.1).1 ∈ c.ns from q.1))
    obtain ⟨j2, hj2⟩ := List.getElem?_of_mem (mem_lits.mpr (show (opp r.2).1 ∈ c.ns from q.2))
    have kn : ∀ g : Lit → List Lit, (((litsN c.ns).map fun l => (l, g l)).map (·.1)).Nodup := fun g => by rw [List.map_map]; show ((litsN c.ns).map fun l => l).Nodup; rw [List.map_id']; exact nd
    refine tg_tup2 (tg_name (by decide) (free_of rfl) (tg_name (by decide) (free_of rfl) (blk_seq (blk_lapp (P := Pg) (w := w) (K := K) (t := tLit K) (pw_fld (j := 0) CC'.cl CC'.nh rfl rfl (pw_var (i := 0) rfl (by decide))) (kn _) (ev_call0 (ea_cons (ev_var (t := tLit K) (x := r.1) rfl (ea_nil ⟨fun h => (nomatch h), all1 trivial, r.1, rfl, fun _ => ⟨j1, headsOf (c.rs.take i) (opp r.1), ?_, ev_var (t := tLit K) (x := r.2) rfl ⟨?_, ?_⟩⟩⟩))))))))
    · rw [List.getElem?_map, hj1]
      rfl
    · exact fits40 (by have := heads_len (c.rs.take i) (opp r.1); rw [List.length_take] at this; omega)
    rw [set_mapL nd hj1]
    refine blk_lapp (P := Pg) (w := w) (K := K) (t := tLit K) (pw_fld (j := 0) CC'.cl CC'.nh rfl rfl (pw_var (i := 0) rfl (by decide))) (kn _) (ev_call0 (ea_cons (ev_var (t := tLit K) (x := r.2) rfl (ea_nil ⟨fun h => (nomatch h), all1 trivial, r.2, rfl, fun _ => ⟨j2, if opp r.1 = opp r.2 then headsOf (c.rs.take i) (opp r.1) ++ [r.2] else headsOf (c.rs.take i) (opp r.2), ?_, ev_var (t := tLit K) (x := r.1) rfl ⟨?_, .sh (tLit K) r.1, .sh (tLit K) r.2, ?_⟩⟩⟩))))
    · rw [List.getElem?_map, hj2]
      rfl
    · refine fits40 ?_
      have h1 := heads_len (c.rs.take i) (opp r.1)
      have h2 := heads_len (c.rs.take i) (opp r.2)
      rw [List.length_take] at h1 h2
      split
      · rw [List.length_append]
        show _ + 1 ≤ _
        omega
      · omega
    rw [set_mapL nd hj2, show (litsN c.ns).map (fun l => (l, if opp r.2 = l then (if opp r.1 = opp r.2 then headsOf (c.rs.take i) (opp r.1) ++ [r.2] else headsOf (c.rs.take i) (opp r.2)) ++ [r.1] else if opp r.1 = l then headsOf (c.rs.take i) (opp r.1) ++ [r.2] else headsOf (c.rs.take i) l)) = (litsN c.ns).map fun l => (l, headsOf (c.rs.take (i + 1)) l) from List.map_congr_left fun l _ => by
      rw [heads_more hr]
      unfold headsR
      by_cases h2 : opp r.2 = l
      · subst h2
        rw [if_pos rfl, if_pos rfl]
        by_cases h1 : opp r.1 = opp r.2
        · rw [if_pos h1, if_pos h1, h1, List.append_assoc]
        · rw [if_neg h1, if_neg h1, List.nil_append]
      · rw [if_neg h2, if_neg h2]
        by_cases h1 : opp r.1 = l
        · subst h1
          rw [if_pos rfl, if_pos rfl, List.append_nil]
        · rw [if_neg h1, if_neg h1, List.append_nil, List.append_nil]]
    rfl
  · rintro _ ⟨s2, s3, rfl⟩
    rw [List.take_length]
    exact ⟨(), ⟨rfl, _, [_, _], _, rfl, rfl, .same (.same .nil), hp _⟩, fun _ _ => rfl⟩
end
end KK
end

section
set_option maxRecDepth 100000
set_option maxHeartbeats 4000000
namespace KK
open PySem PySem.Spec PyProof.Rows L2 Y
/-! Steps: what follows, chains -/
theorem look_mapL {κ α : Type} [DecidableEq κ] {g : κ → α} {l : κ} : ∀ {L : List κ}, l ∈ L → lookK (L.map fun l => (l, g l)) l = some (g l)
  | [], h => by cases h
  | a :: L, h => by
    unfold lookK
    rw [List.map_cons]
    by_cases e : a = l
    · rw [List.find?_cons_of_pos (by exact decide_eq_true e), e]
      rfl
    · rw [List.find?_cons_of_neg (by simpa using e)]
      rcases List.mem_cons.mp h with h | h
      · exact absurd h.symm e
      · exact look_mapL h
theorem heads_look {c : ClZ} {l : Lit} (h : l.1 ∈ c.ns) : lookK (headsD c) l = some (headsOf c.rs l) := look_mapL (mem_lits.mpr h)
theorem sub_lenS {α : Type} [DecidableEq α] : ∀ {l m : List α}, l.Nodup → (∀ x ∈ l, x ∈ m) → l.length ≤ m.length
  | [], _, _, _ => Nat.zero_le _
  | a :: l, m, nd, h => by
    rw [List.nodup_cons] at nd
    have ha := h a (by simp)
    have := sub_lenS (l := l) (m := m.erase a) nd.2 fun x hx => (List.mem_erase_of_ne fun e => nd.1 (by rw [← e]; exact hx)).mpr (h x (List.mem_cons_of_mem _ hx))
    rw [List.length_erase_of_mem ha] at this
    have := List.length_pos_of_mem ha
    rw [List.length_cons]
    omega
theorem keys_snoc {α : Type} {B : List (Lit × α)} {l : Lit} {o : α} : (B ++ [(l, o)]).map (·.1) = B.map (·.1) ++ [l] := by rw [List.map_append]; rfl
/-- the state of a walk: what has been found, what is still to be looked at -/
structure Wk (c : ClZ) (s : Lit) (B : List (Lit × Option Lit)) (S : List Lit) : Prop where
  nd : (B.map (·.1)).Nodup
  h0 : B[0]? = some (s, none)
  st : ∀ (j : Nat) l o, B[j + 1]? = some (l, o) → ∃ (i : Nat) (p : Lit), i ≤ j ∧ o = some p ∧ (B.map (·.1))[i]? = some p ∧ l ∈ headsOf c.rs p
  cl : ∀ l ∈ B.map (·.1), l ∈ S ∨ ∀ h ∈ headsOf c.rs l, h ∈ B.map (·.1)
  ns : ∀ l ∈ B.map (·.1), l.1 ∈ c.ns
  sb : ∀ l ∈ S, l ∈ B.map (·.1)
theorem Wk.add {c : ClZ} {s : Lit} {B : List (Lit × Option Lit)} {S : List Lit} (k : Wk c s B S) {p h : Lit} (hp : p ∈ B.map (·.1)) (hh : h ∈ headsOf c.rs p) (n : h ∉ B.map (·.1)) (hn : h.1 ∈ c.ns) : Wk c s (B ++ [(h, some p)]) (S ++ [h]) := by
  refine ⟨?_, ?_, ?_, ?_, ?_, ?_⟩
  · rw [keys_snoc, List.nodup_append]
    exact ⟨k.nd, by simp, fun a ha b hb e => by rw [List.mem_singleton] at hb; exact n (by rw [← hb, ← e]; exact ha)⟩
  · rw [List.getElem?_append_left (by have := (List.getElem?_eq_some_iff.mp k.h0).1; exact this)]
    exact k.h0
  · intro j l o e
    by_cases hj : j + 1 < B.length
    · rw [List.getElem?_append_left hj] at e
      obtain ⟨i, q, h1, h2, h3, h4⟩ := k.st j l o e
      refine ⟨i, q, h1, h2, ?_, h4⟩
      rw [keys_snoc, List.getElem?_append_left (by rw [List.length_map]; omega)]
      exact h3
    · have hl := (List.getElem?_eq_some_iff.mp e).1
      rw [List.length_append] at hl
      have hl : j + 1 < B.length + 1 := hl
      have ej : j + 1 = B.length := by omega
      rw [List.getElem?_append_right (by omega), ej, Nat.sub_self] at e
      cases e
      obtain ⟨i, hi⟩ := List.getElem?_of_mem hp
      have hi2 := (List.getElem?_eq_some_iff.mp hi).1
      rw [List.length_map] at hi2
      refine ⟨i, p, by omega, rfl, ?_, hh⟩
      rw [keys_snoc, List.getElem?_append_left (by rw [List.length_map]; omega)]
      exact hi
  · intro l hl
    rw [keys_snoc] at hl ⊢
    rcases List.mem_append.mp hl with hl | hl
    · rcases k.cl l hl with q | q
      · exact .inl (List.mem_append_left _ q)
      · exact .inr fun x hx => List.mem_append_left _ (q x hx)
    · exact .inl (List.mem_append_right _ hl)
  · intro l hl
    rw [keys_snoc] at hl
    rcases List.mem_append.mp hl with hl | hl
    · exact k.ns l hl
    · rw [List.mem_singleton] at hl
      rw [hl]
      exact hn
  · intro l hl
    rw [keys_snoc]
    rcases List.mem_append.mp hl with hl | hl
    · exact List.mem_append_left _ (k.sb l hl)
    · exact List.mem_append_right _ hl
theorem Wk.len {c : ClZ} {s : Lit} {B : List (Lit × Option Lit)} {S : List Lit} (k : Wk c s B S) (wc : WfC c) : B.length ≤ 2 * c.ns.length := by
  have : (B.map (·.1)).length ≤ (litsN c.ns).length := sub_lenS k.nd fun l hl => mem_lits.mpr (k.ns l hl)
  rwa [List.length_map, lits_len] at this
theorem Wk.done {c : ClZ} {s l : Lit} {B : List (Lit × Option Lit)} {S : List Lit} (k : Wk c s B (l :: S)) (h : ∀ x ∈ headsOf c.rs l, x ∈ B.map (·.1)) : Wk c s B S := ⟨k.nd, k.h0, k.st, fun q hq => by
  rcases k.cl q hq with z | z
  · rcases List.mem_cons.mp z with rfl | z
    · exact .inr h
    · exact .inl z
  · exact .inr z, k.ns, fun q hq => k.sb q (List.mem_cons_of_mem _ hq)⟩
section
variable {Pg : Program} {w : World} {K : PySem.W.Frag} {mg : Str → Option Value} {base : Heap} {CC CS : Addr}
abbrev NYStepsliterals : List Str := ["self"]
abbrev NYStepsreach : List Str := ["self", "start", "before", "border", "found", "literal", "head"]
theorem scYStepsreach : FnScope NYStepsreach ["self", "start"] (defScope s_Steps_reach) := ⟨rfl, rfl, rfl, by decide +kernel, rfl, by decide +kernel, by decide +kernel⟩
theorem y_reachs (T : Blt mg) (CC' : StpC K CS) (F : HasM K CS "reach" "Steps.reach" s_Steps_reach) : C8.Met Pg w K mg base 1 CS "reach" (Y.spZ (yReachS Pg w K CS)) [] := by
  refine metF CC'.cl F (fun f fd F => F.binds (ps := ["self", "start"]) fun _ _ _ _ _ _ us hl => match us, hl with | [_, _], _ => rfl) scYStepsreach (fun vs H Q E h => zlen (fun as P XP hc => by obtain ⟨_, _, rfl, _⟩ := hc; rfl) h) (fun f cdv A outer s H vs Q E hr h => ?_)
  have hu := hu_of hr
  refine ⟨_, (pss_cons (ps_set (i := 2) scYStepsreach.nd rfl (Or.inl rfl) (Own.pe_ndisp1 hr.units (pv 1) pe_non))
      (pss_cons (ps_set (i := 3) scYStepsreach.nd rfl (Or.inl rfl) (pe_lst (pa_cons (pv 1) pa_nil)))
      (pss_cons (ps_while PassesOwn.never (pt_truth (pv 3) (by intro _; rfl))
        (pss_cons (ps_set (i := 4) scYStepsreach.nd rfl (Or.inl rfl) (pe_lst pa_nil))
      (pss_cons (ps_for PassesOwn.never rfl (pi_list (pv 3)) (pg_name (i := 5) scYStepsreach.nd rfl (Or.inl rfl))
        (pss_one (ps_for PassesOwn.never rfl (pi_list (Own.pe_nget hr.units (pe_fld (pv 0) rfl) (pv 5) (fun _ _ => rfl))) (pg_name (i := 6) scYStepsreach.nd rfl (Or.inl rfl))
        (pss_one (ps_if (pt_cmp (Own.pc_nnotin hr.units (pv 6) (pv 2))) (pss_cons (Own.ps_nput hr.units (pv 2) (pv 6) (pv 5) rfl)
      (pss_one (ps_expr (pe_bm PySem.F.plainAttrs_list PySem.F.slot_list_append PySem.F.type_list_append mt_append (pv 4) (pa_cons (pv 6) pa_nil))))) pss_nil)))))
      (pss_one (ps_set (i := 3) scYStepsreach.nd rfl (Or.inl rfl) (pv 4))))))
      (pss_one (ps_ret (pv 2)))))), zrun h ?_⟩
  rintro as P XP ⟨c, s, rfl, ⟨wc, hs⟩, hp⟩ hl
  obtain ⟨p0, p1, rfl⟩ := len2 hl
  refine ⟨5, rfl, by decide, ?_⟩
  have n40 := wc.no.hi
  refine blk_seq (blk_setO (O := oDL Pg w K (tOpt (tLit K))) (ev_ldisp1 (t := tOpt (tLit K)) (x := none) (q := s) rfl (fun _ _ => rfl) ⟨rfl, ?_⟩))
  refine blk_seq (blk_set (t := tLs K (tLit K)) (EvR.share (O := oL K (tLit K)) (ev_list (K := K) (t := tLit K) (es_cons (ev_var (t := tLit K) (x := s) rfl (es_nil ⟨Nat.le_of_ble_eq_true rfl, rfl, ?_⟩))))))
  refine blk_seq (blk_while (fun m G' => ∃ B bd s4 s5 s6, (Wk c s B bd ∧ m = 2 * c.ns.length - B.length + (if bd = [] then 0 else 1)) ∧ G' = ⟨false, [.sh (yStp Pg w K CS) c, .sh (tLit K) s, .ow (oDL Pg w K (tOpt (tLit K))) B, .sh (tLs K (tLit K)) bd, s4, s5, s6], [some p0, some p1]⟩) _ ⟨[(s, none)], [s], _, _, _, ⟨⟨by simp, rfl, fun j l o e => by simp at e, fun l hl => .inl hl, fun l hl => by simp at hl; rw [hl]; exact hs, fun l hl => hl⟩, rfl⟩, rfl⟩ ?_)
  rintro m _ ⟨B, bd, s4, s5, s6, ⟨k0, rfl⟩, rfl⟩
  refine et_truth trL (ev_var (t := tLs K (tLit K)) (x := bd) rfl ⟨fun hb => ?_, fun hb => ?_⟩)
  · have bne : bd ≠ [] := fun e => by rw [e] at hb; cases hb
    refine blk_seq (blk_setO (O := oL K (tLit K)) (ev_list (K := K) (t := tLit K) (es_nil ⟨Nat.le_of_ble_eq_true rfl, rfl, ?_⟩)))
    refine blk_seq (blk_for (vs := [5]) (ei_list (ev_var (t := tLs K (tLit K)) (x := bd) rfl ⟨(fun i G' => ∃ B' fd s5 s6, (Wk c s B' (bd.drop i ++ fd) ∧ B'.length = B.length + fd.length) ∧ G' = ⟨false, [.sh (yStp Pg w K CS) c, .sh (tLit K) s, .ow (oDL Pg w K (tOpt (tLit K))) B', .sh (tLs K (tLit K)) bd, .ow (oL K (tLit K)) fd, s5, s6], [some p0, some p1]⟩), ⟨B, [], _, _, ⟨by rw [List.drop_zero, List.append_nil]; exact k0, rfl⟩, rfl⟩, ?_, ?_⟩)))
    · rintro i l _ hl ⟨B', fd, s5, s6, ⟨k1, e1⟩, rfl⟩
      have hlb : l ∈ bd.drop i ++ fd := List.mem_append_left _ (by rw [List.drop_eq_getElem_cons (List.getElem?_eq_some_iff.mp hl).1, (List.getElem?_eq_some_iff.mp hl).2]; exact List.mem_cons_self)
      have hlk := k1.sb l hlb
      have hln := k1.ns l hlk
      refine tg_name (by decide) (free_of rfl) (blk_wipe [5, 6] (blk_for (vs := [6]) (ei_list (ev_lget (ev_fld (fo_heads_s CC') (ev_var rfl (ev_var (t := tLit K) (x := l) rfl ⟨_, heads_look hln, (fun j G' => ∃ B2 fd2 s6, (Wk c s B2 (bd.drop i ++ fd2) ∧ B2.length = B.length + fd2.length ∧ ∀ h ∈ (headsOf c.rs l).take j, h ∈ B2.map (·.1)) ∧ G' = ⟨false, [.sh (yStp Pg w K CS) c, .sh (tLit K) s, .ow (oDL Pg w K (tOpt (tLit K))) B2, .sh (tLs K (tLit K)) bd, .ow (oL K (tLit K)) fd2, .sh (tLit K) l, s6], [some p0, some p1]⟩), ⟨B', fd, _, ⟨k1, e1, fun h hh => by simp at hh⟩, rfl⟩, ?_, ?_⟩)))))))
      · rintro j hd _ hhd ⟨B2, fd2, s6', ⟨k2, e2, c2⟩, rfl⟩
        have hhm := List.mem_of_getElem? hhd
        have hns : hd.1 ∈ c.ns := heads_in wc.ro.ok hhm
        have l2 := k2.len wc
        have hlk2 : l ∈ B2.map (·.1) := k2.sb l (List.mem_append_left _ (by rw [List.drop_eq_getElem_cons (List.getElem?_eq_some_iff.mp hl).1, (List.getElem?_eq_some_iff.mp hl).2]; exact List.mem_cons_self))
        have more : ∀ B3 : List (Lit × Option Lit), (∀ x ∈ B2.map (·.1), x ∈ B3.map (·.1)) → hd ∈ B3.map (·.1) → ∀ h ∈ (headsOf c.rs l).take (j + 1), h ∈ B3.map (·.1) := fun B3 h1 h2 h hh => by
          rw [take_more hhd] at hh
          rcases List.mem_append.mp hh with hh | hh
          · exact h1 _ (c2 h hh)
          · rw [List.mem_singleton] at hh
            rw [hh]
            exact h2
        refine tg_name (by decide) (free_of rfl) (blk_wipe [6] (blk_if (et_view (et_b (ev_lnotin (ev_var (t := tLit K) (x := hd) rfl (ev_var (t := tDL Pg w K (tOpt (tLit K))) (x := B2) rfl ⟨fun h => ?_, fun h => blk_next ⟨B2, fd2, .un, ⟨k2, e2, more B2 (fun _ h => h) ?_⟩, rfl⟩⟩)))))))
        · have n : hd ∉ B2.map (·.1) := fun z => by rw [Y.hasK_mem] at h; simp at h; obtain ⟨o, ho⟩ := List.mem_map.mp z; exact absurd ho.1 (by intro q; exact h o.2 (by rw [← ho.2]; exact q))
          refine blk_seq (blk_lkput (pt_var (i := 2) rfl (by decide)) (Ev.as (t := tLit K) (fun x => some x) (ev_var (t := tLit K) (x := l) rfl (ev_var (t := tLit K) (x := hd) rfl ⟨fits40 (by omega), ?_⟩)) fun W H v x r => r))
          rw [Y.putZ_new n]
          refine blk_append (pt_var (i := 4) rfl (by decide)) (ev_var (t := tLit K) (x := hd) rfl ⟨fits40 (by omega), B2 ++ [(hd, some l)], fd2 ++ [hd], .un, ⟨by rw [← List.append_assoc]; exact k2.add hlk2 hhm n hns, by rw [List.length_append, List.length_append, e2]; show _ + 1 = _ + (_ + 1); omega, more _ (fun x hx => by rw [keys_snoc]; exact List.mem_append_left _ hx) (by rw [keys_snoc]; simp)⟩, rfl⟩)
        · have h : (!hasK B2 hd) = false := h
          rw [Y.hasK_mem] at h
          simpa using h
      · rintro _ ⟨B2, fd2, s6', ⟨k2, e2, c2⟩, rfl⟩
        rw [List.take_length] at c2
        rw [List.drop_eq_getElem_cons (List.getElem?_eq_some_iff.mp hl).1, (List.getElem?_eq_some_iff.mp hl).2] at k2
        exact ⟨B2, fd2, _, _, ⟨k2.done c2, e2⟩, rfl⟩
    · rintro _ ⟨B', fd, s5, s6, ⟨k1, e1⟩, rfl⟩
      rw [List.drop_length, List.nil_append] at k1
      have l1 := k1.len wc
      have lB := k0.len wc
      refine blk_frz 4 rfl (blk_set (t := tLs K (tLit K)) (ev_var (t := tLs K (tLit K)) (x := fd) rfl ⟨rfl, 2 * c.ns.length - B'.length + (if fd = [] then 0 else 1), ?_, B', fd, .sh (tLs K (tLit K)) fd, s5, s6, ⟨k1, rfl⟩, rfl⟩))
      rw [if_neg bne]
      by_cases e : fd = []
      · rw [if_pos e]
        rw [e] at e1
        have e1 : B'.length = B.length := e1
        omega
      · rw [if_neg e]
        have := List.length_pos_iff.mpr e
        omega
  · have be : bd = [] := by
      cases bd with
      | nil => rfl
      | cons a l => cases hb
    rw [be] at k0
    exact blk_ret (ev_give (i := 2) rfl (fin0 [_, _] _ (hp B ⟨k0.nd, k0.h0, k0.st, fun l hl => (k0.cl l hl).resolve_left (by simp)⟩ k0.ns)))
end
end KK
end

section
set_option maxRecDepth 100000
set_option maxHeartbeats 4000000
/-! list(d.values()) -/
namespace Own
open PySem PySem.Spec PyProof.Rows L2
def VuO (v d : Addr) : HO := .ext fun h => h.IsValuesView v d
def rVals : V → List V → Hp → VK → Prop := fun x vs H Q => ∃ a kvs, x = .ref a ∧ vs = [] ∧ Rd H a (.dK kvs) ∧ ∀ q, H q = none → Q (.ref q) (upd H q (VuO q a))
def rListVu : List V → Hp → VK → Prop := fun xs H Q => ∃ v p kvs, xs = [.ref v] ∧ H v = some (VuO v p) ∧ Rd H p (.dK kvs) ∧ ∀ q, H q = none → Q (.ref q) (upd H q (.lst (kvs.map (·.2))))
end Own
end

section
set_option maxRecDepth 100000
set_option maxHeartbeats 4000000
/-! list(d.values()) -/
namespace Y
open PySem PySem.Spec PyProof.Rows L2
section
variable {α β κ : Type} {t : Ty α} {ke : Ky κ} {X : Xw} {k : Bool} {G : Ct} {K : PySem.W.Frag}
end
end Y
end

section
set_option maxRecDepth 100000
set_option maxHeartbeats 4000000
/-! o[k], o[k] = v by the class's own __getitem__, __setitem__, which may raise -/
namespace Own
open PySem PySem.Spec PyProof.Rows L2
structure ItX (P : Program) (w : World) (K : PySem.W.Frag) (mg : Str → Option Value) (base : Heap) (k : Nat) (C : Addr) (m : Str) (sp : Sp) : Prop where
  ex : ∃ (f : Addr) (fd : FuncData) (ps : List Str), PySem.W.noSeq K C = true ∧ Meth K C m f ∧ PySem.W.fnIn K f = true ∧ FnOk P w K mg base (L2.CX P w) k f fd ps sp ∧ L2.Binds K fd ps []
def rSubO (C : Addr) (sp : Sp) (E : XK) : R2 := fun x y H Q => ∃ a dx fs, x = .ref a ∧ H a = some (.ins C dx fs) ∧ sp [.ref a, y] H Q E
def tSubO (C : Addr) (sp : Sp) (E : L2.St → XK) (ta tb : TE) : TE := fun σ H Q => tOp (rSubO C sp (E σ)) ta tb σ H Q
def sSubO (C : Addr) (sp : Sp) (E : L2.St → XK) (td ty tv : TE) : TS := fun D σ H => tv σ H fun v H1 => td σ H1 fun x H2 => ty σ H2 fun y H3 => ∃ a dx fs, x = .ref a ∧ H3 a = some (.ins C dx fs) ∧ sp [.ref a, y, v] H3 (fun _ H4 => D.nx σ H4) (E σ)
section
variable {X : Cx} {k j : Nat} {C : Addr} {sp : Sp} {W : WX} {e i o value : Expr} {ta tb td ty tv : TE} {pos pos' : Pos}
end
end Own
end

section
set_option maxRecDepth 100000
set_option maxHeartbeats 4000000
/-! a method without arguments that may raise; an own instance at a variable: its methods (that may raise), its properties, o[k], o[k] = v -/
namespace Y
open PySem PySem.Spec PyProof.Rows L2
section
variable {X : Cx} {k j : Nat} {C : Addr} {m : Str} {sp : Sp} {o : Expr} {ta : TE} {apos pos : Pos}
end
section
variable {ρ α β γ : Type} {c : CT ρ} {X : Xw} {k : Bool} {G : Ct} {t : Ty β} {u : Ty γ}
/-- what such a call asks: the own instance at slot i, the other arguments shared -/
def CoP (X : Xw) (c : CT ρ) (G : Ct) (i : Nat) (O : OT α) (x : α) (P : Ct → ρ → Prop) (as : List Ar) : Prop :=
  (c.n = true → G.n = true) ∧ (∀ a ∈ as, a.plain) ∧ ∃ P' XP, c.ct (.ow O x :: as.map Ar.sl) P' XP ∧ (∀ os y, P' os y → ∃ s r, os = s :: r ∧ P (G.set i s) y) ∧ ∀ os e, XP os e → ∃ s r, os = s :: r ∧ X.xp (G.set i s) e
/-- an item of an own list at a place -/
theorem ev_ixO {K : PySem.W.Frag} {q : List Nat} {te ti : TE} {xs : List β} {up : List β → Ct} {P : Ct → β → Prop} (pt : Pt te G q (oL K t) xs up) (h : Ev X true ti G tInt fun _ i => ∃ x, atI xs i = some x ∧ P G x) : Ev X k (tOp (rIxL K) te ti) G t P := fun W H σ Q hs ex q2 => by
  obtain ⟨⟨j, r, rfl, nj⟩, pt⟩ := pt
  obtain ⟨v, rv, ev, _⟩ := pt W H σ hs
  obtain ⟨a, vs, rfl, wa, ha, pr⟩ := rv
  refine ev _ (h W H σ _ hs ex fun y W2 H2 G2 i ⟨x, hx, p⟩ m2 ry => ?_)
  obtain ⟨ge, rfl⟩ := m2.kp rfl
  obtain ⟨h2, w2⟩ := ge.own ha wa nj
  obtain rfl : y = .int i := ry
  have pr2 : Paired (t.R W2 H2) vs xs := L2.Paired.mapP pr fun u x r => t.mvE r ge
  unfold atI at hx
  cases hj : ixN xs.length i with
  | none => rw [hj] at hx; cases hx
  | some n =>
    rw [hj] at hx
    have hl : vs.length = xs.length := pr2.length
    obtain ⟨u, e1, r1⟩ := paired_get pr2 hx
    refine ⟨a, vs, i, u, rfl, rfl, .inl (.inl h2), ?_, q2 u W2 H2 G2 x p (.goE hs ge m2.hs.ok) r1⟩
    unfold atI
    rw [hl, hj]
    exact e1
end
end Y
end

section
set_option maxRecDepth 100000
set_option maxHeartbeats 4000000
namespace KK
open PySem PySem.Spec PyProof.Rows L2 Y
/-! a web without its kernel, and the kernel alone -/
structure PartW (z : WebZ) (ns : List Str) (r : WebZ) : Prop where
  wf : WfZ r
  pm : r.ms.Perm ns
  pu : r.us.Perm (z.us.filter fun e => decide (e.1 ∈ ns) && decide (e.2 ∈ ns))
  pr : ∀ x ∈ ns, prW r x = prW z x
section
variable {z : WebZ} {v : Int} {g : Str → Int}
end
end KK
end

section
set_option maxRecDepth 100000
set_option maxHeartbeats 4000000
namespace KK
open PySem PySem.Spec PyProof.Rows L2 Z
abbrev ctPartZ (K : PySem.W.Frag) (C : Addr) : CT WebZ := ⟨true, tWeb K C, fun as P _ => ∃ z ns, as = [.sh (tWeb K C) z, .sh (tLs K tStr) ns] ∧ (ns ≠ [] ∧ (∀ s ∈ ns, s ∈ z.ms) ∧ ns.length ≤ 1000) ∧ ∀ r, (WfZ r ∧ WebOk (firsts ns) ((firsts ns).map (prF z.ms z.qs)) (z.us.filter (within (firsts ns))) r.ms r.qs r.us) → P r⟩
section
variable {P : Program} {w : World} {K : PySem.W.Frag} {mg : Str → Option Value} {base : Heap} {C : Addr}
end
end KK
end

section
set_option maxRecDepth 100000
set_option maxHeartbeats 4000000
namespace KK
open PySem PySem.Spec PyProof.Rows L2 Y
abbrev yWPart (K : PySem.W.Frag) (CW : Addr) : Y.CT WebZ := ⟨true, .sh (yWeb K CW), fun as P _ => ∃ z ns, as = [.sh (yWeb K CW) z, .sh (tLs K tStr) ns] ∧ (WfZ z ∧ ns ≠ [] ∧ ns.Nodup ∧ (∀ s ∈ ns, s ∈ z.ms) ∧ ns.length ≤ 1000) ∧ ∀ r, PartW z ns r → ∀ os, P os r⟩
abbrev yInside (K : PySem.W.Frag) (CW : Addr) : Y.CT WebZ := ⟨true, .sh (yWeb K CW), fun as P _ => ∃ z ns, as = [.sh (yWeb K CW) z, .sh (tLs K tStr) ns] ∧ (WfZ z ∧ ns ≠ [] ∧ ns.Nodup ∧ ∀ s ∈ ns, s ∈ z.ms) ∧ ∀ r, PartW z ns r → ∀ os, P os r⟩
abbrev yLenW (K : PySem.W.Frag) (CW : Addr) : Y.CT Int := ⟨true, .sh tInt, fun as P _ => ∃ z, as = [.sh (yWeb K CW) z] ∧ WfZ z ∧ ∀ os, P os (z.ms.length : Int)⟩
abbrev yAllHalf (K : PySem.W.Frag) (CW : Addr) : Y.CT Bool := ⟨true, .sh tBl, fun as P _ => ∃ z, as = [.sh (yWeb K CW) z] ∧ WfZ z ∧ ∀ v, Opt z v → ∀ os, P os (decide (((kerL z v).length : Int) = z.ms.length))⟩
abbrev yWhole (K : PySem.W.Frag) (CW : Addr) : Y.CT Bool := ⟨true, .sh tBl, fun as P _ => ∃ z, as = [.sh (yWeb K CW) z] ∧ WfZ z ∧ ∀ v, Opt z v → ∀ os, P os (kerL z v).isEmpty⟩
section
variable {P : Program} {w : World} {K : PySem.W.Frag} {mg : Str → Option Value} {base : Heap} {C CS CW : Addr}
end
end KK
end

section
set_option maxRecDepth 100000
set_option maxHeartbeats 4000000
/-! promises of with_tie, without_tie, without_place, where they raise nothing; the new web is told to be one -/
namespace KK
open PySem PySem.Spec PyProof.Rows L2 Z
section
variable {P : Program} {w : World} {K : PySem.W.Frag} {mg : Str → Option Value} {base : Heap} {C : Addr}
abbrev ctWithTieC (K : PySem.W.Frag) (C : Addr) : CT WebZ := ⟨true, tWeb K C, fun as P _ => ∃ z x y, as = [.sh (tWeb K C) z, .sh tStr x, .sh tStr y] ∧ (x ∈ z.ms ∧ y ∈ z.ms ∧ x ≠ y ∧ ordP (x, y) ∉ z.us ∧ z.us.length < 400) ∧ ∀ r, (WfZ r ∧ WfZ z ∧ WebOk z.ms z.qs (z.us ++ [ordP (x, y)]) r.ms r.qs r.us) → P r⟩
abbrev ctCutC (K : PySem.W.Frag) (C : Addr) : CT WebZ := ⟨true, tWeb K C, fun as P _ => ∃ z x y, as = [.sh (tWeb K C) z, .sh tStr x, .sh tStr y] ∧ (x ∈ z.ms ∧ y ∈ z.ms ∧ ordP (x, y) ∈ z.us) ∧ ∀ r, (WfZ r ∧ WfZ z ∧ WebOk z.ms z.qs (z.us.filter fun p => !decide (p = ordP (x, y))) r.ms r.qs r.us) → P r⟩
abbrev ctWithoutC (K : PySem.W.Frag) (C : Addr) : CT WebZ := ⟨true, tWeb K C, fun as P _ => ∃ z x, as = [.sh (tWeb K C) z, .sh tStr x] ∧ (x ∈ z.ms ∧ 1 < z.ms.length) ∧ ∀ r, (WfZ r ∧ WfZ z ∧ WebOk (z.ms.filter fun y => !decide (y = x)) ((z.ms.filter fun y => !decide (y = x)).map (prF z.ms z.qs)) (z.us.filter (within (z.ms.filter fun y => !decide (y = x)))) r.ms r.qs r.us) → P r⟩
end
end KK
end

section
set_option maxRecDepth 100000
set_option maxHeartbeats 4000000
namespace KK
open PySem PySem.Spec PyProof.Rows L2 Y
/-! a web with a tie more, a place less; parts of a web and their worths -/
structure TieW (z : WebZ) (x y : Str) (r : WebZ) : Prop where
  wf : WfZ r
  pm : r.ms.Perm z.ms
  pu : r.us.Perm (z.us ++ [ordP (x, y)])
  pr : ∀ x ∈ z.ms, prW r x = prW z x
abbrev yWithTie (K : PySem.W.Frag) (C : Addr) : Y.CT WebZ := ⟨true, .sh (yWeb K C), fun as P _ => ∃ z x y, as = [.sh (yWeb K C) z, .sh tStr x, .sh tStr y] ∧ (x ∈ z.ms ∧ y ∈ z.ms ∧ x ≠ y ∧ ordP (x, y) ∉ z.us ∧ z.us.length < 400) ∧ ∀ r, TieW z x y r → ∀ os, P os r⟩
abbrev yDropW (K : PySem.W.Frag) (C : Addr) : Y.CT WebZ := ⟨true, .sh (yWeb K C), fun as P _ => ∃ z x, as = [.sh (yWeb K C) z, .sh tStr x] ∧ (x ∈ z.ms ∧ 1 < z.ms.length) ∧ ∀ r, PartW z (z.ms.filter fun y => !decide (y = x)) r → ∀ os, P os r⟩
def nearL (z : WebZ) (x : Str) : List Str := (z.us.filter fun e => decide (e.2 = x)).map (·.1) ++ (z.us.filter fun e => decide (e.1 = x)).map (·.2)
abbrev yNear (K : PySem.W.Frag) (C : Addr) : Y.CT (List Str) := ⟨true, .ow (oL K tStr), fun as P _ => ∃ z x, as = [.sh (yWeb K C) z, .sh tStr x] ∧ (WfZ z ∧ x ∈ z.ms) ∧ ∀ os, P os (nearL z x)⟩
/-! sums -/
/-! parts -/
section
variable {z r r1 r2 : WebZ} {n1 n2 ns : List Str} {v a b : Int}
def chE (z : WebZ) (q : Str × Str) : Str := if prW z q.2 < prW z q.1 then q.2 else q.1
end
section
variable {P : Program} {w : World} {K : PySem.W.Frag} {mg : Str → Option Value} {base : Heap} {C CS CW : Addr}
end
end KK
end

section
set_option maxRecDepth 100000
set_option maxHeartbeats 4000000
namespace KK
open PySem PySem.Spec PyProof.Rows L2 Y
/-! distances from a place, sides, rings -/
def Adj (z : WebZ) (x y : Str) : Prop := ordP (x, y) ∈ z.us
/-- the distances from r -/
structure DistB (z : WebZ) (r : Str) (L : Int) (d : List (Str × Int)) : Prop where
  nd : (d.map (·.1)).Nodup
  sub : ∀ x n, lookK d x = some n → x ∈ z.ms ∧ 0 ≤ n ∧ n ≤ L
  rt : lookK d r = some 0
  zr : ∀ x, lookK d x = some 0 → x = r
  dn : ∀ x n, lookK d x = some n → 0 < n → ∃ y m, Adj z x y ∧ lookK d y = some m ∧ m < n
/-- whoever is nearer than L has been looked around from -/
def DoneB (z : WebZ) (L : Int) (d : List (Str × Int)) : Prop := ∀ x n, lookK d x = some n → n < L → ∀ y, Adj z x y → ∃ m, lookK d y = some m ∧ m ≤ n + 1
structure DistR (z : WebZ) (r : Str) (d : List (Str × Int)) : Prop where
  b : ∃ L, DistB z r L d
  clo : ∀ x n, lookK d x = some n → ∀ y, Adj z x y → ∃ m, lookK d y = some m ∧ m ≤ n + 1
/-- where the outer loop stands -/
structure BfsO (z : WebZ) (r : Str) (L : Int) (d : List (Str × Int)) (bd : List Str) : Prop where
  b : DistB z r L d
  l0 : 0 ≤ L
  o : DoneB z L d
  bd1 : ∀ x, lookK d x = some L → x ∈ bd
  bd2 : ∀ x ∈ bd, lookK d x = some L
/-- where the inner loops stand: dn so far, what is found, the places looked around from, the neighbours looked at -/
structure BfsI (z : WebZ) (r : Str) (L : Int) (d d2 : List (Str × Int)) (fd ps ys : List Str) : Prop where
  b : DistB z r (L + 1) d2
  old : ∀ x n, lookK d x = some n → lookK d2 x = some n
  nw : ∀ x n, lookK d2 x = some n → lookK d x = some n ∨ (n = L + 1 ∧ x ∈ fd)
  fdl : ∀ x ∈ fd, lookK d2 x = some (L + 1)
  ln : d2.length = d.length + fd.length
  ps : ∀ x ∈ ps, ∀ y, Adj z x y → ∃ m, lookK d2 y = some m ∧ m ≤ L + 1
  ys : ∀ y ∈ ys, ∃ m, lookK d2 y = some m ∧ m ≤ L + 1
section
variable {z : WebZ} {r x0 y : Str} {L : Int} {d d2 : List (Str × Int)} {fd ps ys bd : List Str}
end
section
variable {z : WebZ} {r : Str} {d : List (Str × Int)}
end
/-- a ring with an odd number of places -/
structure RingR (z : WebZ) (rg : List Str) : Prop where
  nd : rg.Nodup
  lo : 3 ≤ rg.length
  odd : rg.length % 2 = 1
  ch : ∀ i x y, rg[i]? = some x → rg[i + 1]? = some y → Adj z x y
  cl : ∀ x y, rg[0]? = some x → rg[rg.length - 1]? = some y → Adj z y x
  sub : ∀ x ∈ rg, x ∈ z.ms
end KK
end

section
set_option maxRecDepth 100000
set_option maxHeartbeats 4000000
namespace KK
open PySem PySem.Spec PyProof.Rows L2 Y
section
variable {K : PySem.W.Frag} {mg : Str → Option Value} {CW : Addr}
end
abbrev yParted (K : PySem.W.Frag) : Y.CT (List Str × List Str) := ⟨false, .sh (tL2 K (tLs K tStr) (tLs K tStr)), fun as P _ => ∃ ps, as = [.sh tStm (), .sh (tTu K tStr) ps] ∧ (2 ≤ ps.length ∧ ps.length ≤ 40) ∧ ∀ n1 n2, (n1 ++ n2).Perm ps → n1 ≠ [] → n2 ≠ [] → ∀ os, P os (n1, n2)⟩
section
variable {P : Program} {w : World} {K : PySem.W.Frag} {mg : Str → Option Value} {base : Heap} {C CS CW : Addr}
end
end KK
end

section
set_option maxRecDepth 100000
set_option maxHeartbeats 4000000
namespace KK
open PySem PySem.Spec PyProof.Rows L2 Y
/-! parts, level ties, rings -/
/-- the parts of a web with their least places -/
structure PartsR (z : WebZ) (ds : List (List (Str × Int))) : Prop where
  rs : ∃ rs : List Str, rs.Sublist z.ms ∧ rs.length = ds.length ∧ ∀ (i : Nat) (r : Str) (d : List (Str × Int)), rs[i]? = some r → ds[i]? = some d → DistR z r d
  all : ∀ x ∈ z.ms, ∃ d ∈ ds, hasK d x = true
  fs : ∀ (i : Nat) (d : List (Str × Int)), ds[i]? = some d → ∃ r n, DistR z r d ∧ z.ms[n]? = some r ∧ ∀ x ∈ z.ms.take n, ∃ d2 ∈ ds.take i, hasK d2 x = true
structure PartI (z : WebZ) (sn : List (Str × Int)) (ds : List (List (Str × Int))) (i : Nat) : Prop where
  rs : ∃ rs : List Str, rs.Sublist (z.ms.take i) ∧ rs.length = ds.length ∧ ∀ (i : Nat) (r : Str) (d : List (Str × Int)), rs[i]? = some r → ds[i]? = some d → DistR z r d
  all : ∀ x ∈ z.ms.take i, ∃ d ∈ ds, hasK d x = true
  fs : ∀ (i : Nat) (d : List (Str × Int)), ds[i]? = some d → ∃ r n, DistR z r d ∧ z.ms[n]? = some r ∧ ∀ x ∈ z.ms.take n, ∃ d2 ∈ ds.take i, hasK d2 x = true
  ss : ∀ x, hasK sn x = true ↔ ∃ d ∈ ds, hasK d x = true
  ln : sn.length ≤ 40 * i
  dl : ds.length ≤ i
inductive LevelR (z : WebZ) (d : List (Str × Int)) : Option (Str × Str) → Prop where
  | no : (∀ e ∈ z.us, hasK d e.1 = true → gD d e.1 ≠ gD d e.2) → LevelR z d none
  | yes (e : Str × Str) (n : Int) : e ∈ z.us → lookK d e.1 = some n → lookK d e.2 = some n → LevelR z d (some e)
abbrev yDists (K : PySem.W.Frag) (CW : Addr) : Y.CT (List (Str × Int)) := ⟨true, .ow (oD kS tInt), fun as P _ => ∃ z r, as = [.sh (yWeb K CW) z, .sh tStr r] ∧ (WfZ z ∧ r ∈ z.ms) ∧ ∀ d, DistR z r d → ∀ os, P os d⟩
abbrev yPartsF (K : PySem.W.Frag) (CW : Addr) : Y.CT (List (List (Str × Int))) := ⟨true, .ow (oL K (tDk kS tInt)), fun as P _ => ∃ z, as = [.sh (yWeb K CW) z] ∧ WfZ z ∧ ∀ ds, PartsR z ds → ∀ os, P os ds⟩
abbrev yLevel (K : PySem.W.Frag) (CW : Addr) : Y.CT (Option (Str × Str)) := ⟨true, .sh (tOpt (tPr K)), fun as P _ => ∃ z d, as = [.sh (yWeb K CW) z, .sh (tDk kS tInt) d] ∧ (WfZ z ∧ ∃ r, DistR z r d) ∧ ∀ o, LevelR z d o → ∀ os, P os o⟩
abbrev yNearer (K : PySem.W.Frag) (CW : Addr) : Y.CT Str := ⟨true, .sh tStr, fun as P _ => ∃ z d x, as = [.sh (yWeb K CW) z, .sh (tDk kS tInt) d, .sh tStr x] ∧ (WfZ z ∧ (∃ r, DistR z r d) ∧ ∃ n, lookK d x = some n ∧ 0 < n) ∧ ∀ y, (Adj z x y ∧ lookK d y = some (gD d x - 1)) → ∀ os, P os y⟩
abbrev yRingC (K : PySem.W.Frag) (CW : Addr) : Y.CT (List Str) := ⟨true, .ow (oL K tStr), fun as P _ => ∃ z d e, as = [.sh (yWeb K CW) z, .sh (tDk kS tInt) d, .sh (tPr K) e] ∧ (WfZ z ∧ (∃ r, DistR z r d) ∧ e ∈ z.us ∧ ∃ n, lookK d e.1 = some n ∧ lookK d e.2 = some n) ∧ ∀ rg, RingR z rg → ∀ os, P os rg⟩
section
variable {P : Program} {w : World} {K : PySem.W.Frag} {mg : Str → Option Value} {base : Heap} {C CS CW CC : Addr}
end
end KK
end

section
set_option maxRecDepth 100000
set_option maxHeartbeats 4000000
namespace KK
open PySem PySem.Spec PyProof.Rows L2 Y
/-! odd rings and two sides -/
structure RgI (z : WebZ) (d : List (Str × Int)) (a b : Str) (m : Int) (k : Nat) (lf rt : List Str) : Prop where
  ll : lf.length = k + 1
  lr : rt.length = k + 1
  dl : ∀ (i : Nat) x, lf[i]? = some x → lookK d x = some (m - (i : Int))
  dr : ∀ (i : Nat) x, rt[i]? = some x → lookK d x = some (m - (i : Int))
  al : ∀ (i : Nat) x y, lf[i]? = some x → lf[i + 1]? = some y → Adj z x y
  ar : ∀ (i : Nat) x y, rt[i]? = some x → rt[i + 1]? = some y → Adj z x y
  la : lf[0]? = some a
  ra : rt[0]? = some b
  ne : ∀ (i : Nat) x y, i < k → lf[i]? = some x → rt[i]? = some y → x ≠ y
/-- two sides such that each tie joins them -/
def TwoC (z : WebZ) : Prop := ∃ c : Str → Int, (∀ x, c x = 0 ∨ c x = 1) ∧ ∀ x y, Adj z x y → c x ≠ c y
inductive OddR (z : WebZ) : Option (List Str) → Prop where
  | no : TwoC z → OddR z none
  | yes (rg : List Str) : RingR z rg → OddR z (some rg)
end KK
end

section
set_option maxRecDepth 100000
set_option maxHeartbeats 4000000
namespace KK
open PySem PySem.Spec PyProof.Rows L2 Y
abbrev yOddR (K : PySem.W.Frag) (CW : Addr) : Y.CT (Option (List Str)) := ⟨true, .ow (oOpt (oL K tStr)), fun as P _ => ∃ z, as = [.sh (yWeb K CW) z] ∧ WfZ z ∧ ∀ o, OddR z o → ∀ os, P os o⟩
section
variable {P : Program} {w : World} {K : PySem.W.Frag} {mg : Str → Option Value} {base : Heap} {C CS CW CC : Addr}
end
end KK
end

section
set_option maxRecDepth 100000
set_option maxHeartbeats 4000000
/-! x in a list, by data -/
namespace Y
open PySem PySem.Spec PyProof.Rows L2
section
variable {K : PySem.W.Frag} {α : Type} [DecidableEq α] {t : Ty α} {e : α → PyData} {n : Nat} {Ok : α → Prop}
theorem any_E (h : EqE K t e n Ok) (x : α) : ∀ ys : List α, ((ys.map e).any fun z => PyData.eqv z (e x)) = decide (x ∈ ys)
  | [] => rfl
  | y :: ys => by
    rw [List.map_cons, List.any_cons, any_E h x ys, h.eqv]
    by_cases c : y = x
    · subst c; simp
    · have c2 : ¬ x = y := fun z => c z.symm
      by_cases d : x ∈ ys <;> simp [c, c2, d]
theorem ro_inE (h : EqE K t e n Ok) (neg : Bool) (hn : n ≤ 60 := by decide) : RO (Own.rInDL K neg) t (tLs K t) (.sh tBl) (fun x ys P => (Ok x ∧ ∀ y ∈ ys, Ok y) ∧ P (if neg then !decide (x ∈ ys) else decide (x ∈ ys))) := by
  rintro W H v w x ys Q P ok r1 r2 ⟨⟨h1, h2⟩, c⟩ q
  refine ⟨_, _, h.enc _ _ _ _ r1, (eqe_L h).enc _ _ _ _ r2, eqe_shp h (by omega) h1, eqe_shp (eqe_L h) (by omega) h2, ?_⟩
  rw [any_E h]
  exact q _ W H _ c .refl ok rfl
end
end Y
end

section
set_option maxRecDepth 100000
set_option maxHeartbeats 4000000
namespace KK
open PySem PySem.Spec PyProof.Rows L2 Y
/-! Steps: chains, what is harmless -/
/-- what may be None and is not -/
theorem ev_ofO {α : Type} {X : Y.Xw} {k : Bool} {te : TE} {G : Ct} {t : Y.Ty α} {P : Ct → α → Prop} (h : Ev X k te G (tOpt t) fun G x => ∃ y, x = some y ∧ P G y) : Ev X k te G t P := fun W H σ Q hs ex q => h W H σ _ hs ex fun v W1 H1 G1 x p m r => by
  obtain ⟨y, rfl, p⟩ := p
  exact q v W1 H1 G1 y p m r
theorem look_ixT {κ α : Type} [DecidableEq κ] {k : κ} {v : α} : ∀ {d : List (κ × α)}, (d.map (·.1)).Nodup → (k, v) ∈ d → lookK d k = some v
  | [], _, h => by cases h
  | a :: d, nd, h => by
    rw [List.map_cons, List.nodup_cons] at nd
    unfold lookK
    rcases List.mem_cons.mp h with rfl | h
    · rw [List.find?_cons_of_pos (by exact decide_eq_true rfl)]
      rfl
    · rw [List.find?_cons_of_neg (by
        have : a.1 ≠ k := fun e => nd.1 (by rw [e]; exact List.mem_map_of_mem (f := (·.1)) h)
        simpa using this)]
      exact look_ixT nd.2 h
theorem no_has {κ α : Type} [DecidableEq κ] {k : κ} {d : List (κ × α)} (h : (!hasK d k) = true) : k ∉ d.map (·.1) := fun z => by
  rw [Y.hasK_mem, decide_eq_true z] at h
  cases h
theorem yes_has {κ α : Type} [DecidableEq κ] {k : κ} {d : List (κ × α)} (h : (!hasK d k) = false) : k ∈ d.map (·.1) := by
  rw [Y.hasK_mem] at h
  exact of_decide_eq_true (by simpa using h)
structure ChainOk (rs : List Row) (s g : Lit) (L : List Lit) : Prop where
  h0 : L[0]? = some s
  hl : L.getLast? = some g
  nd : L.Nodup
  st : ∀ (i : Nat) a b, L[i]? = some a → L[i + 1]? = some b → b ∈ headsOf rs a
/-- the way back -/
structure Bak (rs : List Row) (ks : List Lit) (g l : Lit) (R : List Lit) : Prop where
  h0 : R[0]? = some g
  hl : R.getLast? = some l
  pw : R.Pairwise fun a b => ks.idxOf b < ks.idxOf a
  st : ∀ (i : Nat) a b, R[i]? = some a → R[i + 1]? = some b → a ∈ headsOf rs b
  ks : ∀ a ∈ R, a ∈ ks
theorem Bak.add {rs : List Row} {ks : List Lit} {g l p : Lit} {R : List Lit} (b : Bak rs ks g l R) (hp : p ∈ ks) (hi : ks.idxOf p < ks.idxOf l) (hl : l ∈ headsOf rs p) : Bak rs ks g p (R ++ [p]) := by
  have ne : R ≠ [] := fun e => by rw [e] at b; have := b.h0; cases this
  refine ⟨?_, by simp, ?_, ?_, ?_⟩
  · rw [List.getElem?_append_left (List.length_pos_iff.mpr ne)]
    exact b.h0
  · rw [List.pairwise_append]
    refine ⟨b.pw, List.pairwise_singleton _ _, fun a ha c hc => ?_⟩
    rw [List.mem_singleton] at hc
    subst hc
    by_cases e : a = l
    · rw [e]; exact hi
    · obtain ⟨pre, e2⟩ : ∃ pre, R = pre ++ [l] := List.getLast?_eq_some_iff.mp b.hl
      have pw := b.pw
      rw [e2] at ha pw
      rw [List.pairwise_append] at pw
      rcases List.mem_append.mp ha with ha | ha
      · have := pw.2.2 a ha l (by simp)
        omega
      · rw [List.mem_singleton] at ha
        exact absurd ha e
  · intro i x y h1 h2
    by_cases c : i + 1 < R.length
    · rw [List.getElem?_append_left (by omega)] at h1
      rw [List.getElem?_append_left c] at h2
      exact b.st i x y h1 h2
    · have hlen := (List.getElem?_eq_some_iff.mp h2).1
      rw [List.length_append] at hlen
      have hlen : i + 1 < R.length + 1 := hlen
      have e : i + 1 = R.length := by omega
      rw [List.getElem?_append_right (by omega), e, Nat.sub_self] at h2
      cases h2
      rw [List.getElem?_append_left (by omega)] at h1
      have : R[R.length - 1]? = some l := by rw [← List.getLast?_eq_getElem?]; exact b.hl
      rw [show R.length - 1 = i from by omega, h1] at this
      cases this
      exact hl
  · intro a ha
    rcases List.mem_append.mp ha with ha | ha
    · exact b.ks a ha
    · rw [List.mem_singleton] at ha
      rw [ha]
      exact hp
theorem Bak.chain {rs : List Row} {ks : List Lit} {g s : Lit} {R : List Lit} (b : Bak rs ks g s R) : ChainOk rs s g R.reverse := by
  have ne : R ≠ [] := fun e => by rw [e] at b; have := b.h0; cases this
  have pos := List.length_pos_iff.mpr ne
  refine ⟨?_, ?_, ?_, ?_⟩
  · rw [List.getElem?_reverse pos]
    have := b.hl
    rw [List.getLast?_eq_getElem?] at this
    exact this
  · rw [List.getLast?_reverse, List.head?_eq_getElem?]
    exact b.h0
  · unfold List.Nodup
    rw [List.pairwise_reverse]
    refine b.pw.imp fun h e => ?_
    rw [e] at h
    omega
  · intro i x y h1 h2
    have l2 := (List.getElem?_eq_some_iff.mp h2).1
    rw [List.length_reverse] at l2
    rw [List.getElem?_reverse (by omega)] at h1
    rw [List.getElem?_reverse l2] at h2
    exact b.st (R.length - 1 - (i + 1)) y x h2 (by rw [show R.length - 1 - (i + 1) + 1 = R.length - 1 - i from by omega]; exact h1)
theorem ChainOk.rch {rs : List Row} {s g : Lit} {L : List Lit} (c : ChainOk rs s g L) : Rch rs s g := by
  have : ∀ (i : Nat) a, L[i]? = some a → Rch rs s a := by
    intro i
    induction i with
    | zero => intro a h; rw [c.h0] at h; cases h; exact .refl
    | succ i ih =>
      intro a h
      have hi : i < L.length := by have := (List.getElem?_eq_some_iff.mp h).1; omega
      exact .step (ih _ (List.getElem?_eq_getElem hi)) (c.st i _ a (List.getElem?_eq_getElem hi) h)
  have h := c.hl
  rw [List.getLast?_eq_getElem?] at h
  exact this _ g h
theorem idx_of {ks : List Lit} (nd : ks.Nodup) {i : Nat} {a : Lit} (h : ks[i]? = some a) : ks.idxOf a = i := by
  obtain ⟨hi, e⟩ := List.getElem?_eq_some_iff.mp h
  rw [← e]
  exact List.Nodup.idxOf_getElem nd i hi
theorem BfsS.before {rs : List Row} {s : Lit} {B : List (Lit × Option Lit)} (b : BfsS rs s B) {l : Lit} (h : l ∈ B.map (·.1)) (n : l ≠ s) : ∃ p, lookK B l = some (some p) ∧ p ∈ B.map (·.1) ∧ l ∈ headsOf rs p ∧ (B.map (·.1)).idxOf p < (B.map (·.1)).idxOf l := by
  obtain ⟨j, hj⟩ := List.getElem?_of_mem h
  have hj0 := hj
  rw [List.getElem?_map] at hj
  obtain ⟨⟨l', o⟩, he, el⟩ := Option.map_eq_some_iff.mp hj
  have el : l' = l := el
  subst el
  cases j with
  | zero => rw [b.h0] at he; cases he; exact absurd rfl n
  | succ j =>
    obtain ⟨i, p, hi, rfl, hp, hh⟩ := b.st j l' o he
    refine ⟨p, look_ixT b.nd (List.mem_of_getElem? he), List.mem_of_getElem? hp, hh, ?_⟩
    rw [idx_of b.nd hp, idx_of b.nd hj0]
    omega
abbrev yChainS (P : Program) (w : World) (K : PySem.W.Frag) (CS : Addr) : Y.CT (Option (List Lit)) := ⟨false, .ow (oOpt (oL K (tLit K))), fun as Q _ => ∃ c s g, as = [.sh (yStp P w K CS) c, .sh (tLit K) s, .sh (tLit K) g] ∧ (WfC c ∧ s.1 ∈ c.ns ∧ g.1 ∈ c.ns) ∧ (¬ Rch c.rs s g → ∀ os, Q os none) ∧ ∀ L, ChainOk c.rs s g L → (∀ l ∈ L, l.1 ∈ c.ns) → ∀ os, Q os (some L)⟩
abbrev yHarm (P : Program) (w : World) (K : PySem.W.Frag) (CS : Addr) : Y.CT (Option (List Lit)) := ⟨false, .ow (oOpt (oL K (tLit K))), fun as Q _ => ∃ c s, as = [.sh (yStp P w K CS) c, .sh (tLit K) s] ∧ (WfC c ∧ s.1 ∈ c.ns) ∧ (Rch c.rs s (opp s) → ∀ os, Q os none) ∧ (¬ Rch c.rs s (opp s) → ∀ ks, ks.Nodup → (∀ l, l ∈ ks ↔ Rch c.rs s l) → (∀ l ∈ ks, l.1 ∈ c.ns) → ∀ os, Q os (some ks))⟩
theorem eqe_Lit {K : PySem.W.Frag} : EqE K (tLit K) (fun x => .tuple [.str x.1, .bool x.2]) 1 (fun x => PyData.strOk x.1 = true ∧ True) := eqe_T2 (K := K) eqe_S eqe_B
section
variable {Pg : Program} {w : World} {K : PySem.W.Frag} {mg : Str → Option Value} {base : Heap} {CC CS : Addr}
abbrev NYStepschain : List Str := ["self", "start", "goal", "before", "chain"]
theorem scYStepschain : FnScope NYStepschain ["self", "start", "goal"] (defScope s_Steps_chain) := ⟨rfl, rfl, rfl, by decide +kernel, rfl, by decide +kernel, by decide +kernel⟩
theorem y_schain (T : Blt mg) (CC' : StpC K CS) (F : HasM K CS "chain" "Steps.chain" s_Steps_chain) (YREACHS : C8.Met Pg w K mg base 1 CS "reach" (Y.spZ (yReachS Pg w K CS)) []) : C8.Met Pg w K mg base 2 CS "chain" (Y.spZ (yChainS Pg w K CS)) [] := by
  refine metF CC'.cl F (fun f fd F => F.binds (ps := ["self", "start", "goal"]) fun _ _ _ _ _ _ us hl => match us, hl with | [_, _, _], _ => rfl) scYStepschain (fun vs H Q E h => zlen (fun as P XP hc => by obtain ⟨_, _, _, rfl, _⟩ := hc; rfl) h) (fun f cdv A outer s H vs Q E hr h => ?_)
  have hu := hu_of hr
  refine ⟨_, (pss_cons (ps_set (i := 3) scYStepschain.nd rfl (Or.inl rfl) (C8.pe_mt YREACHS hr (by decide) (pv 0) (pa_cons (pv 1) pa_nil)))
      (pss_cons (ps_if (pt_cmp (Own.pc_nnotin hr.units (pv 2) (pv 3))) (pss_one (ps_ret pe_non)) pss_nil)
      (pss_cons (ps_set (i := 4) scYStepschain.nd rfl (Or.inl rfl) (pe_lst (pa_cons (pv 2) pa_nil)))
      (pss_cons (ps_while PassesOwn.never (pt_cmpR (op_neD hr.units) (pe_ix ix_list (pv 4) (pe_un un_neg pe_int) (fun _ _ => rfl)) (pv 1) (nomark _))
        (pss_one (ps_expr (pe_bm PySem.F.plainAttrs_list PySem.F.slot_list_append PySem.F.type_list_append mt_append (pv 4) (pa_cons (Own.pe_nget hr.units (pv 3) (pe_ix ix_list (pv 4) (pe_un un_neg pe_int) (fun _ _ => rfl)) (fun _ _ => rfl)) pa_nil)))))
      (pss_one (ps_ret (pe_revL (pv 4)))))))), zrun h ?_⟩
  rintro as P XP ⟨c, s, g, rfl, ⟨wc, hs, hg⟩, hpn, hp⟩ hl
  obtain ⟨p0, p1, p2, rfl⟩ := len3 hl
  refine ⟨2, rfl, by decide, ?_⟩
  have n40 := wc.no.hi
  have sok : ∀ l : Lit, l.1 ∈ c.ns → PyData.strOk l.1 = true ∧ True := fun l h => ⟨strOk_name (wc.no.ok _ h), trivial⟩
  refine blk_seq (blk_setO (O := oDL Pg w K (tOpt (tLit K))) (ev_meth0 (st_no (by decide)) (ev_var rfl (ea_cons (ev_var (t := tLit K) (x := s) rfl (ea_nil ⟨fun h => (nomatch h), allc trivial (all1 trivial), c, s, rfl, ⟨wc, hs⟩, fun B bf nsB _ => ⟨rfl, blk_frz 3 rfl ?_⟩⟩))))))
  have bl : B.length ≤ 80 := by
    have : (B.map (·.1)).length ≤ (litsN c.ns).length := sub_lenS bf.nd fun l hl => mem_lits.mpr (nsB l hl)
    rw [List.length_map, lits_len] at this
    omega
  refine blk_seq (blk_if (et_b (ev_lnotin (ev_var (t := tLit K) (x := g) rfl (ev_var (t := tDL Pg w K (tOpt (tLit K))) (x := B) rfl ⟨fun h => ?_, fun h => blk_next ?_⟩)))))
  · exact blk_ret (ev_nonO (fin0 [_, _, _] _ (hpn fun z => no_has h (bf.rch.mpr z))))
  have hgk : g ∈ B.map (·.1) := yes_has h
  refine blk_seq (blk_setO (O := oL K (tLit K)) (ev_list (K := K) (t := tLit K) (es_cons (ev_var (t := tLit K) (x := g) rfl (es_nil ⟨Nat.le_of_ble_eq_true rfl, rfl, ?_⟩)))))
  refine blk_seq (blk_while (fun m G' => ∃ R l, (Bak c.rs (B.map (·.1)) g l R ∧ m = (B.map (·.1)).idxOf l) ∧ G' = ⟨false, [.sh (yStp Pg w K CS) c, .sh (tLit K) s, .sh (tLit K) g, .sh (tDL Pg w K (tOpt (tLit K))) B, .ow (oL K (tLit K)) R], [some p0, some p1, some p2]⟩) _ ⟨[g], g, ⟨⟨rfl, rfl, List.pairwise_singleton _ _, fun i a b _ h => by simp at h, fun a ha => by rw [List.mem_singleton] at ha; rw [ha]; exact hgk⟩, rfl⟩, rfl⟩ ?_)
  rintro m _ ⟨R, l, ⟨bk, rfl⟩, rfl⟩
  have ne : R ≠ [] := fun e => by rw [e] at bk; have := bk.h0; cases this
  have hat : atI R (-1) = some l := by
    have pos := List.length_pos_iff.mpr ne
    unfold atI ixN
    rw [if_neg (by decide), if_pos (by omega)]
    show R[(-1 + (R.length : Int)).toNat]? = some l
    rw [show (-1 + (R.length : Int)).toNat = R.length - 1 from by omega, ← List.getLast?_eq_getElem?]
    exact bk.hl
  have hlk : l ∈ B.map (·.1) := bk.ks l (List.mem_of_getLast? bk.hl)
  have rl : R.length ≤ 80 := by
    have nd : R.Nodup := bk.pw.imp fun h e => by rw [e] at h; omega
    have := sub_lenS nd bk.ks
    rw [List.length_map] at this
    omega
  refine et_b (ev_op (ro_neE eqe_Lit) (ev_ixO (pt_var (i := 4) rfl (by decide)) (ev_neg (ev_c (t := tInt) (fun _ _ => rfl) ⟨l, hat, ev_var (t := tLit K) (x := s) rfl ⟨⟨sok l (nsB l hlk), sok s hs⟩, fun h => ?_, fun h => ?_⟩⟩))))
  · have n : l ≠ s := fun e => by rw [decide_eq_true e] at h; cases h
    obtain ⟨p, e1, e2, e3, e4⟩ := bf.before hlk n
    refine blk_append (pt_var (i := 4) rfl (by decide)) (ev_ofO (ev_lget (ev_var (t := tDL Pg w K (tOpt (tLit K))) (x := B) rfl (ev_ixO (pt_var (i := 4) rfl (by decide)) (ev_neg (ev_c (t := tInt) (fun _ _ => rfl) ⟨l, hat, some p, e1, p, rfl, fits40 (by omega), _, e4, R ++ [p], p, ⟨bk.add e2 e4 e3, rfl⟩, rfl⟩))))))
  · have e : l = s := by simpa using h
    subst e
    have ch := bk.chain
    refine blk_frz 4 rfl (blk_ret (ev_someO (ev_rev (ev_var (t := tLs K (tLit K)) (x := R) rfl (fin0 [_, _, _] _ (hp _ ch fun q hq => nsB q (bk.ks q (List.mem_reverse.mp hq))))))))
end
end KK
end

section
set_option maxRecDepth 100000
set_option maxHeartbeats 4000000
namespace KK
open PySem PySem.Spec PyProof.Rows L2 Y
/-! half readings: values of a least cut -/
def valL (g : Str → Int) (l : Lit) : Int := if l.2 then g l.1 else 2 - g l.1
/-- a half reading -/
structure HalfV (c : ClZ) (g : Str → Int) : Prop where
  r : ∀ x ∈ c.ns, 0 ≤ g x ∧ g x ≤ 2
  t : ∀ r ∈ c.rs, 2 ≤ valL g r.1 + valL g r.2
def costH (c : ClZ) (g : Str → Int) : Int := (c.ns.map fun x => gD c.ps x * g x).sum
/-- v is the least half cost -/
def LowH (c : ClZ) (v : Int) : Prop := (∃ g, HalfV c g ∧ costH c g = v) ∧ ∀ g, HalfV c g → v ≤ costH c g
structure BestH (c : ClZ) (v : Int) (g : Str → Int) : Prop where
  h : HalfV c g
  c : costH c g = v
structure SofH (c : ClZ) (d : SD) : Prop where
  ns : d.ns = c.ns
  ar : d.arcs = arcL c.ns.length c.rs.length
  sd : ∃ rs0 lv, SidesR c.ns c.ps c.ps c.rs d.hs rs0 d.rs d.ls d.tot lv
section
variable {ns : List Str} {pr : List (Str × Int)} {rows : List Row} {hs rs0 rs lv : List Int} {ls : List (List Int)} {tot : Int}
end
abbrev yHSides (K : PySem.W.Frag) (CC CS C : Addr) : Y.CT SD := ⟨true, .sh (tSd K CS C), fun as P _ => ∃ c, as = [.sh (yCl K CC) c] ∧ WfC c ∧ ∀ d, SofH c d → ∀ os, P os d⟩
abbrev yHWorth (K : PySem.W.Frag) (CC : Addr) : Y.CT Int := ⟨true, .sh tInt, fun as P _ => ∃ c, as = [.sh (yCl K CC) c] ∧ WfC c ∧ ∀ v, LowH c v → ∀ os, P os v⟩
def webRows (z : WebZ) : List Row := z.us.map tieRow
def webC (z : WebZ) : ClZ := ⟨prD z, webRows z⟩
abbrev yOfWeb (K : PySem.W.Frag) (CW CC : Addr) : Y.CT ClZ := ⟨true, .sh (yCl K CC), fun as P _ => ∃ z, as = [.sh (yWeb K CW) z] ∧ WfZ z ∧ (WfC (webC z) → ∀ os, P os (webC z))⟩
section
variable {P : Program} {w : World} {K : PySem.W.Frag} {mg : Str → Option Value} {base : Heap} {CC C CS CW : Addr}
end
end KK
end

section
set_option maxRecDepth 100000
set_option maxHeartbeats 4000000
namespace KK
open PySem PySem.Spec PyProof.Rows L2 Y
/-! half readings: what least cuts can give a name -/
inductive AwH (c : ClZ) (v : Int) (x : Str) (i : Int) : Option (List (Str × Int)) → Prop where
  | no : (∀ g, BestH c v g → g x ≠ i) → AwH c v x i none
  | yes (g : Str → Int) : BestH c v g → g x = i → AwH c v x i (some (atD c.ns g))
abbrev ctAwH (K : PySem.W.Frag) (CS C : Addr) : Y.CT (Option (List (Str × Int))) := ⟨false, .sh (tOpt (tDk kS tInt)), fun as P _ => ∃ (c : ClZ) (d : SD) (x : Str) (i : Int), as = [.sh (tSides K CS C d.ns d.hs d.rs d.ls d.arcs d.tot) (), .sh tStr x, .sh tInt i] ∧ (WfC c ∧ SofH c d ∧ x ∈ c.ns ∧ 0 ≤ i ∧ i ≤ 2) ∧ ∀ o, AwH c d.tot x i o → ∀ os, P os o⟩
abbrev yAwH (K : PySem.W.Frag) (CS C : Addr) : Y.CT (Option (List (Str × Int))) := ⟨false, .sh (tOpt (tDk kS tInt)), fun as P _ => ∃ (c : ClZ) (d : SD) (x : Str) (i : Int), as = [.sh (tSd K CS C) d, .sh tStr x, .sh tInt i] ∧ (WfC c ∧ SofH c d ∧ x ∈ c.ns ∧ 0 ≤ i ∧ i ≤ 2) ∧ ∀ o, AwH c d.tot x i o → ∀ os, P os o⟩
/-- some best answer gives x the value i -/
noncomputable def canH (c : ClZ) (v : Int) (x : Str) (i : Int) : Bool := @decide (∃ g, BestH c v g ∧ g x = i) (Classical.propDecidable _)
noncomputable def possH (c : ClZ) (v : Int) (x : Str) : List Int := [0, 1, 2].filter (canH c v x)
noncomputable def possHD (c : ClZ) (v : Int) : List (Str × List Int) := c.ns.map fun x => (x, possH c v x)
noncomputable def kerH (c : ClZ) (v : Int) : List Str := c.ns.filter fun x => decide (possH c v x = [1])
noncomputable def fixH (c : ClZ) (v : Int) : List (Str × Int) := (c.ns.filter fun x => decide (possH c v x ∈ [[0], [2]])).map fun x => (x, (possH c v x).headD 0)
noncomputable def looH (c : ClZ) (v : Int) : List Str := c.ns.filter fun x => canH c v x 0 && canH c v x 2
abbrev yPossH (K : PySem.W.Frag) (CS C : Addr) : Y.CT (List (Str × List Int)) := ⟨false, .ow (oD kS (tLs K tInt)), fun as P _ => ∃ (c : ClZ) (d : SD), as = [.sh (tSd K CS C) d] ∧ (WfC c ∧ SofH c d) ∧ ∀ os, P os (possHD c d.tot)⟩
abbrev yHalvesH (K : PySem.W.Frag) (CS C : Addr) : Y.CT (List Str) := ⟨false, .ow (oL K tStr), fun as P _ => ∃ (c : ClZ) (d : SD), as = [.sh (tSd K CS C) d] ∧ (WfC c ∧ SofH c d) ∧ ∀ os, P os (kerH c d.tot)⟩
abbrev yFixMH (K : PySem.W.Frag) (CS C : Addr) : Y.CT (List (Str × Int)) := ⟨false, .ow (oD kS tInt), fun as P _ => ∃ (c : ClZ) (d : SD), as = [.sh (tSd K CS C) d] ∧ (WfC c ∧ SofH c d) ∧ ∀ os, P os (fixH c d.tot)⟩
section
variable {P : Program} {w : World} {K : PySem.W.Frag} {mg : Str → Option Value} {base : Heap} {C CS : Addr}
end
/-! operations on half readings that turn with the flags -/
structure SelfD (f : Int → Int → Int) : Prop where
  r : ∀ a b, 0 ≤ a → a ≤ 2 → 0 ≤ b → b ≤ 2 → 0 ≤ f a b ∧ f a b ≤ 2 ∧ f (2 - a) (2 - b) = 2 - f a b
  t : ∀ a b c d, 0 ≤ a → a ≤ 2 → 0 ≤ b → b ≤ 2 → 0 ≤ c → c ≤ 2 → 0 ≤ d → d ≤ 2 → 2 ≤ a + b → 2 ≤ c + d → 2 ≤ f a c + f b d
def fMt (a b : Int) : Int := if a + b ≤ 1 then 0 else if a + b ≤ 3 then a + b - 1 else 2
def fJn (a b : Int) : Int := if a + b ≤ 1 then a + b else if a + b ≤ 3 then 1 else 2
def fMg (a b : Int) : Int := if a = 1 then b else a
def fTt (a b : Int) : Int := a + fMt a b - fMg a b
abbrev yHLeastM (K : PySem.W.Frag) (CS C : Addr) : Y.CT (List (Str × Int)) := ⟨false, .ow (oD kS tInt), fun as P _ => ∃ (c : ClZ) (d : SD), as = [.sh (tSd K CS C) d] ∧ (WfC c ∧ SofH c d) ∧ ∀ g, BestH c d.tot g → (∀ x ∈ c.ns, canH c d.tot x 0 = true ∨ canH c d.tot x 2 = true → g x ≠ 1) → ∀ os, P os (atD c.ns g)⟩
section
variable {P : Program} {w : World} {K : PySem.W.Frag} {mg : Str → Option Value} {base : Heap} {CC C CS CW : Addr}
end
end KK
end

section
set_option maxRecDepth 100000
set_option maxHeartbeats 4000000
namespace KK
open PySem PySem.Spec PyProof.Rows L2 Y
/-! the second family of draws: names, places, prices, ties -/
abbrev yName2 (K : PySem.W.Frag) : Y.CT Str := ⟨false, .sh tStr, fun as P _ => ∃ ys, as = [.sh tStm (), .sh (tLs K tStr) ys] ∧ ys.length ≤ 59 ∧ ∀ x, (NameOk x ∧ x ∉ ys) → ∀ os, P os x⟩
def nmk (k : Nat) : Str := (⟨#[97 + k / 26]⟩ : Str) ++ ⟨#[97 + k % 26]⟩
theorem nmk_cps (k : Nat) : (nmk k).cps.toList = [97 + k / 26, 97 + k % 26] := by
  unfold nmk
  rw [cps_app] <;> rfl
theorem nmk_ok {k : Nat} (h : k < 60) : NameOk (nmk k) := by
  refine ⟨by rw [nmk_cps]; show 1 ≤ 2; decide, by rw [nmk_cps]; show 2 ≤ 8; decide, ?_⟩
  rw [nmk_cps]
  intro c hc
  rcases List.mem_cons.mp hc with rfl | hc
  · omega
  · rcases List.mem_cons.mp hc with rfl | hc
    · omega
    · simp at hc
theorem nmk_inj {i j : Nat} (h : nmk i = nmk j) : i = j := by
  have e := congrArg (fun x : Str => x.cps.toList) h
  simp only [nmk_cps] at e
  injection e with e1 e2
  injection e2 with e2 _
  omega
abbrev yPlaces2 (K : PySem.W.Frag) : Y.CT (List Str) := ⟨false, .ow (oL K tStr), fun as P _ => ∃ n, as = [.sh tStm (), .sh tInt n] ∧ (0 ≤ n ∧ n ≤ 59) ∧ ∀ ns, ((ns.length : Int) = n ∧ ns.Nodup ∧ ∀ x ∈ ns, NameOk x) → ∀ os, P os ns⟩
abbrev yPrices2 (K : PySem.W.Frag) : Y.CT (List (Str × Int)) := ⟨true, .ow (oD kS tInt), fun as P _ => ∃ ns j, as = [.sh tStm (), .sh (tLs K tStr) ns, .sh tInt j] ∧ (ns.length ≤ 59 ∧ ns.Nodup) ∧ ∀ ps, (ps.map (·.1) = ns ∧ ∀ e ∈ ps, 1 ≤ e.2 ∧ e.2 ≤ 10 ^ 30) → ∀ os, P os ps⟩
abbrev yTies2 (K : PySem.W.Frag) : Y.CT (List (Str × Str)) := ⟨true, .ow (oL K (tPr K)), fun as P _ => ∃ ns j, as = [.sh tStm (), .sh (tLs K tStr) ns, .sh tInt j] ∧ (ns.length ≤ 40 ∧ ns.Nodup ∧ 0 < j ∧ j < 2 ^ 200) ∧ ∀ ts, ((∀ p ∈ ts, TieOk ns p) ∧ (ts.map ordP).Nodup ∧ 2 * ts.length ≤ ns.length * ns.length) → ∀ os, P os ts⟩
abbrev yParts2 (K : PySem.W.Frag) : Y.Ty (List Str × List (Str × Str) × List (Str × Int)) := tL3 K (tLs K tStr) (tLs K (tPr K)) (tDk kS tInt)
abbrev yFarWeb (K : PySem.W.Frag) : Y.CT (List Str × List (Str × Str) × List (Str × Int)) := ⟨true, .sh (yParts2 K), fun as P _ => ∃ xs, as = [.sh (tScr K) xs] ∧ xs.length ≤ 1000 ∧ ∀ r, (PtsZ r ∧ r.2.2.map (·.1) = r.1 ∧ r.2.1.length ≤ 60) → ∀ os, P os r⟩
section
variable {P : Program} {w : World} {K : PySem.W.Frag} {mg : Str → Option Value} {base : Heap} {CW : Addr}
abbrev NYLname2 : List Str := ["_law_stream_here", "_law_taken", "_law_letters", "_law_name_here", "_law_k"]
theorem scYLname2 : FnScope NYLname2 ["_law_stream_here", "_law_taken"] (defScope s_law_name) := ⟨rfl, rfl, rfl, by decide +kernel, rfl, by decide +kernel, by decide +kernel⟩
theorem y_name2 (T : Blt mg) (F : Has K mg "_law_name" s_law_name) (YDRAW : C8.Cal P w K mg base 1 "_law_draw" (Y.spZ yDraw) []) : C8.Cal P w K mg base 2 "_law_name" (Y.spZ (yName2 K)) [] := by
  refine calF F (fun f fd F => F.binds (ps := ["_law_stream_here", "_law_taken"]) fun _ _ _ _ _ _ us hl => match us, hl with | [_, _], _ => rfl) scYLname2 (fun vs H Q E h => zlen (fun as P XP hc => by obtain ⟨_, rfl, _⟩ := hc; rfl) h) (fun f cdv A outer s H vs Q E hr h => ?_)
  have hu := hu_of hr
  refine ⟨_, (pss_cons (ps_set (i := 2) scYLname2.nd rfl (Or.inl rfl) pe_str)
      (pss_cons (ps_set (i := 3) scYLname2.nd rfl (Or.inl rfl) pe_str)
      (pss_cons (ps_for PassesOwn.never rfl (pi_range1 rfl T.b_range (pa_cons (pe_op op_add pe_int (C8.pe_c YDRAW hr (by decide) rfl (pa_cons (pv 0) (pa_cons pe_int pa_nil)))) pa_nil)) (pg_name (i := 4) scYLname2.nd rfl (Or.inl rfl))
        (pss_one (ps_set (i := 3) scYLname2.nd rfl (Or.inl rfl) (pe_op op_add_str (pv 3) (pe_ix ix_str (pv 2) (C8.pe_c YDRAW hr (by decide) rfl (pa_cons (pv 0) (pa_cons pe_int pa_nil))) (fun _ _ => rfl))))))
      (pss_cons (ps_if (pt_cmpR op_notIn_seq (pv 3) (pv 1) (by rfl)) (pss_one (ps_ret (pv 3))) pss_nil)
      (pss_cons (ps_for PassesOwn.never rfl (pi_range1 rfl T.b_range (pa_cons pe_int pa_nil)) (pg_name (i := 4) scYLname2.nd rfl (Or.inl rfl))
        (pss_cons (ps_set (i := 3) scYLname2.nd rfl (Or.inl rfl) (pe_op op_add_str (pe_ix ix_str (pv 2) (pe_op op_fdivW (pv 4) pe_int) (fun _ _ => rfl)) (pe_ix ix_str (pv 2) (pe_op op_modN (pv 4) pe_int) (fun _ _ => rfl))))
      (pss_one (ps_if (pt_cmpR op_notIn_seq (pv 3) (pv 1) (by rfl)) (pss_one ps_break) pss_nil))))
      (pss_one (ps_ret (pv 3)))))))), zrun h ?_⟩
  rintro as P XP ⟨ys, rfl, hlen, hp⟩ hl
  obtain ⟨p0, p1, rfl⟩ := len2 hl
  refine ⟨3, rfl, by decide, ?_⟩
  have sl : (PySem.Str.ofString "abcdefghijklmnopqrstuvwxyz").length ≤ sizeLine := Nat.le_of_lt (fits40 (by decide +kernel))
  refine blk_seq (blk_set (t := tStr) (ev_c (t := tStr) (fun _ _ => rfl) ⟨rfl, ?_⟩))
  refine blk_seq (blk_set (t := tStr) (ev_c (t := tStr) (fun _ _ => rfl) ⟨rfl, ?_⟩))
  refine blk_seq (blk_for (vs := [4]) (ei_range1 (ev_op ro_I0 (ev_c (t := tInt) (fun _ _ => rfl) (ev_draw rfl (ev_c (t := tInt) (fun _ _ => rfl) ⟨⟨by decide, by decide⟩, fun r1 a1 b1 => ⟨⟨by omega, ?_⟩, (fun i G' => ∃ z : Str, (z.cps.toList.length = i ∧ CsOk z.cps.toList) ∧ G' = ⟨false, [.sh tStm (), .sh (tLs K tStr) ys, .sh tStr "abcdefghijklmnopqrstuvwxyz", .sh tStr z, .un], [some p0, some p1]⟩), ⟨"", ⟨rfl, fun c hc => ?_⟩, rfl⟩, ?_, ?_⟩⟩))))))
  · have b1 : r1 < 8 := b1
    show 1 + r1 < 2 ^ 62
    omega
  · have e : (PySem.Str.ofString "").cps.toList = [] := by decide +kernel
    rw [e] at hc
    simp at hc
  · rintro i x _ hx ⟨z, ⟨hl, hc⟩, rfl⟩
    have b1 : r1 < 8 := b1
    obtain ⟨rfl, hi⟩ := rangeZ_get hx
    refine tg_name (by decide) (free_of rfl) (blk_wipe [4] (blk_set (ev_op ro_addS (ev_var rfl (ev_op ro_ixS (ev_var rfl (ev_draw rfl (ev_c (t := tInt) (fun _ _ => rfl) ⟨⟨by decide, by decide⟩, fun r2 a2 b2 => ⟨sl, 97 + r2.toNat, ?_, ?_, rfl, ?_⟩⟩))))))))
    · exact at_ofN (z := r2) (j := r2.toNat) (by omega) (abc_all r2.toNat (by have b2 : r2 < 26 := b2; omega))
    · refine Nat.le_of_lt (fits40 ?_)
      rw [len_cps, hl]
      show i + 1 ≤ 1000
      omega
    · have b2 : r2 < 26 := b2
      refine ⟨z ++ ⟨#[97 + r2.toNat]⟩, ⟨by rw [cps_app, List.length_append, hl]; rfl, ?_⟩, rfl⟩
      rw [cps_app]
      intro c h
      rcases List.mem_append.mp h with h | h
      · exact hc c h
      · have e2 : c = 97 + r2.toNat := by simpa using h
        omega
  rintro _ ⟨z, ⟨hl, hc⟩, rfl⟩
  have b1 : r1 < 8 := b1
  rw [rangeZ_len] at hl
  have hz : NameOk z := ⟨by omega, by omega, hc⟩
  refine blk_seq (blk_if (et_b (ev_op (ro_inSL true) (ev_var rfl (ev_var (t := tLs K tStr) (x := ys) rfl ⟨fun h => blk_ret (ev_var rfl (fin0 [_, _] _ (hp z ⟨hz, by simpa using h⟩))), fun _ => blk_next ?_⟩)))))
  refine blk_seq (blk_for (vs := [4]) (ei_range1 (ev_c (t := tInt) (fun _ _ => rfl) ⟨⟨by decide, by decide⟩, (fun i G' => (∀ j < i, nmk j ∈ ys) ∧ ∃ z : Str, G' = ⟨false, [.sh tStm (), .sh (tLs K tStr) ys, .sh tStr "abcdefghijklmnopqrstuvwxyz", .sh tStr z, .un], [some p0, some p1]⟩), ⟨fun j hj => absurd hj (Nat.not_lt_zero _), z, rfl⟩, ?_, ?_⟩)))
  · rintro i x _ hx ⟨hall, z, rfl⟩
    obtain ⟨rfl, hi⟩ := rangeZ_get hx
    have hi : i < 60 := hi
    have e0 : (0 + (i : Int)) / 26 = ((i / 26 : Nat) : Int) := by omega
    have e1 : (0 + (i : Int)).fmod 26 = ((i % 26 : Nat) : Int) := by
      rw [Int.fmod_eq_emod_of_nonneg _ (by decide)]
      omega
    refine tg_name (by decide) (free_of rfl) (blk_wipe [4] (blk_seq (blk_set (ev_op ro_addS (ev_op ro_ixS (ev_var rfl (ev_op ro_I (ev_var rfl (ev_c (t := tInt) (fun _ _ => rfl) ⟨⟨by decide, by decide +kernel⟩, sl, 97 + i / 26, ?_, ?_⟩)))))))))
    · rw [e0]
      exact atI_nat (abc_all (i / 26) (by omega))
    refine ev_op ro_ixS (ev_var rfl (ev_op ro_I (ev_var rfl (ev_c (t := tInt) (fun _ _ => rfl) ⟨by decide, sl, 97 + i % 26, ?_, Nat.le_of_lt (fits40 (by show 1 + 1 ≤ 1000; decide)), rfl, ?_⟩))))
    · rw [e1]
      exact atI_nat (abc_all (i % 26) (by omega))
    refine blk_if (et_b (ev_op (ro_inSL true) (ev_var rfl (ev_var (t := tLs K tStr) (x := ys) rfl ⟨fun h => blk_break ?_, fun h => blk_next ?_⟩))))
    · have h2 : (!decide (nmk i ∈ ys)) = true := h
      exact blk_ret (ev_var (x := nmk i) rfl (fin0 [_, _] _ (hp (nmk i) ⟨nmk_ok hi, by simpa using h2⟩)))
    · refine ⟨fun j hj => ?_, nmk i, ?_⟩
      · by_cases c : j = i
        · rw [c]
          have h2 : (!decide (nmk i ∈ ys)) = false := h
          simpa using h2
        · exact hall j (by omega)
      · rfl
  rintro _ ⟨hall, z, rfl⟩
  exfalso
  have nd : ((List.range 60).map nmk).Nodup := by
    refine List.Pairwise.map _ (fun a b h e => h (nmk_inj e)) List.nodup_range
  have := pigeon nd (ys := ys) fun x hx => by
    obtain ⟨j, hj, rfl⟩ := List.mem_map.mp hx
    exact hall j (List.mem_range.mp hj)
  rw [List.length_map, List.length_range] at this
  omega
abbrev NYLplaces : List Str := ["_law_stream_here", "_law_many", "_law_places_here", "_law_k"]
theorem scYLplaces : FnScope NYLplaces ["_law_stream_here", "_law_many"] (defScope s_law_places) := ⟨rfl, rfl, rfl, by decide +kernel, rfl, by decide +kernel, by decide +kernel⟩
theorem y_places2 (T : Blt mg) (F : Has K mg "_law_places" s_law_places) (YNAME : C8.Cal P w K mg base 2 "_law_name" (Y.spZ (yName2 K)) []) : C8.Cal P w K mg base 3 "_law_places" (Y.spZ (yPlaces2 K)) [] := by
  refine calF F (fun f fd F => F.binds (ps := ["_law_stream_here", "_law_many"]) fun _ _ _ _ _ _ us hl => match us, hl with | [_, _], _ => rfl) scYLplaces (fun vs H Q E h => zlen (fun as P XP hc => by obtain ⟨_, rfl, _⟩ := hc; rfl) h) (fun f cdv A outer s H vs Q E hr h => ?_)
  have hu := hu_of hr
  refine ⟨_, (pss_cons (ps_set (i := 2) scYLplaces.nd rfl (Or.inl rfl) (pe_lst pa_nil))
      (pss_cons (ps_for PassesOwn.never rfl (pi_range1 rfl T.b_range (pa_cons (pv 1) pa_nil)) (pg_name (i := 3) scYLplaces.nd rfl (Or.inl rfl))
        (pss_one (ps_expr (pe_bm PySem.F.plainAttrs_list PySem.F.slot_list_append PySem.F.type_list_append mt_append (pv 2) (pa_cons (C8.pe_c YNAME hr (by decide) rfl (pa_cons (pv 0) (pa_cons (pv 2) pa_nil))) pa_nil)))))
      (pss_one (ps_ret (pv 2))))), zrun h ?_⟩
  rintro as P XP ⟨n, rfl, ⟨h0, h59⟩, hp⟩ hl
  obtain ⟨p0, p1, rfl⟩ := len2 hl
  refine ⟨2, rfl, by decide, ?_⟩
  refine blk_seq (blk_setO (O := oL K tStr) (ev_list (K := K) (t := tStr) (es_nil ⟨Nat.le_of_ble_eq_true rfl, rfl, ?_⟩)))
  refine blk_seq (blk_for (vs := [3]) (ei_range1 (ev_var rfl ⟨⟨?_, ?_⟩, (fun i G' => ∃ ns : List Str, (ns.length = i ∧ ns.Nodup ∧ ∀ x ∈ ns, NameOk x) ∧ G' = ⟨false, [.sh tStm (), .sh tInt n, .ow (oL K tStr) ns, .un], [some p0, some p1]⟩), ⟨[], ⟨rfl, List.nodup_nil, fun x hx => absurd hx (by simp)⟩, rfl⟩, ?_, ?_⟩)))
  · omega
  · omega
  · rintro i x _ hx ⟨ns, ⟨hl, hnd, hok⟩, rfl⟩
    obtain ⟨rfl, hi'⟩ := rangeZ_get hx
    refine tg_name (by decide) (free_of rfl) (blk_wipe [3] (blk_append (pt_var (i := 2) rfl (by decide)) (ev_view (r := .sh tStr) flS (ev_call0 (ea_cons (ev_var rfl (ea_cons (ev_var rfl (ea_nil ⟨fun h => (nomatch h), allc trivial (all1 trivial), ns, rfl, ?_, fun x hx _ => ⟨fits40 ?_, _, ⟨?_, ?_, ?_⟩, rfl⟩⟩)))))))))
    · omega
    · omega
    · rw [List.length_append, hl]; rfl
    · rw [List.nodup_append]
      exact ⟨hnd, List.nodup_cons.mpr ⟨by simp, List.nodup_nil⟩, fun y hy z hz e => by
        have : z = x := by simpa using hz
        subst this
        subst e
        exact hx.2 hy⟩
    · intro y hy
      rcases List.mem_append.mp hy with hy | hy
      · exact hok y hy
      · have : y = x := by simpa using hy
        rw [this]
        exact hx.1
  rintro _ ⟨ns, ⟨hl, hnd, hok⟩, rfl⟩
  rw [rangeZ_len] at hl
  exact blk_ret (ev_give (i := 2) rfl (fin0 [_, _] _ (hp ns ⟨by omega, hnd, hok⟩)))
abbrev NYLprices : List Str := ["_law_stream_here", "_law_places_here", "_law_kind", "_law_prices_here", "_law_place"]
theorem scYLprices : FnScope NYLprices ["_law_stream_here", "_law_places_here", "_law_kind"] (defScope s_law_prices) := ⟨rfl, rfl, rfl, by decide +kernel, rfl, by decide +kernel, by decide +kernel⟩
theorem y_prices2 (T : Blt mg) (F : Has K mg "_law_prices" s_law_prices) (YDRAW : C8.Cal P w K mg base 1 "_law_draw" (Y.spZ yDraw) []) : C8.Cal P w K mg base 2 "_law_prices" (Y.spZ (yPrices2 K)) [] := by
  refine calF F (fun f fd F => F.binds (ps := ["_law_stream_here", "_law_places_here", "_law_kind"]) fun _ _ _ _ _ _ us hl => match us, hl with | [_, _, _], _ => rfl) scYLprices (fun vs H Q E h => zlen (fun as P XP hc => by obtain ⟨_, _, rfl, _⟩ := hc; rfl) h) (fun f cdv A outer s H vs Q E hr h => ?_)
  have hu := hu_of hr
  refine ⟨_, (pss_cons (ps_set (i := 3) scYLprices.nd rfl (Or.inl rfl) pe_dnewK)
      (pss_cons (ps_for PassesOwn.never rfl (pi_list (pv 1)) (pg_name (i := 4) scYLprices.nd rfl (Or.inl rfl))
        (pss_one (ps_if (pt_cmpR op_eq (pv 2) pe_int (nomark _)) (pss_one (ps_dput hu (pv 3) (pv 4) (pe_op op_add pe_int (C8.pe_c YDRAW hr (by decide) rfl (pa_cons (pv 0) (pa_cons pe_int pa_nil)))) rfl)) (pss_one (ps_if (pt_cmpR op_eq (pv 2) pe_int (nomark _)) (pss_one (ps_dput hu (pv 3) (pv 4) (pe_op op_add pe_int (C8.pe_c YDRAW hr (by decide) rfl (pa_cons (pv 0) (pa_cons pe_int pa_nil)))) rfl)) (pss_one (ps_if (pt_cmpR op_eq (pv 2) pe_int (nomark _)) (pss_one (ps_dput hu (pv 3) (pv 4) (pe_op op_add pe_int (C8.pe_c YDRAW hr (by decide) rfl (pa_cons (pv 0) (pa_cons (pe_op op_pow pe_int pe_int) pa_nil)))) rfl)) (pss_one (ps_dput hu (pv 3) (pv 4) (pe_op op_sub (pe_op op_pow pe_int pe_int) (C8.pe_c YDRAW hr (by decide) rfl (pa_cons (pv 0) (pa_cons pe_int pa_nil)))) rfl)))))))))
      (pss_one (ps_ret (pv 3))))), zrun h ?_⟩
  rintro as P XP ⟨ns, j, rfl, ⟨h59, hnd⟩, hp⟩ hl
  obtain ⟨p0, p1, p2, rfl⟩ := len3 hl
  refine ⟨2, rfl, by decide, ?_⟩
  refine blk_seq (blk_setO (ev_dnew kS tInt ⟨rfl, ?_⟩))
  refine blk_seq (blk_for (vs := [4]) (ei_list (ev_var (t := tLs K tStr) (x := ns) rfl ⟨(fun i G' => ∃ ps : List (Str × Int), (ps.map (·.1) = ns.take i ∧ ∀ e ∈ ps, 1 ≤ e.2 ∧ e.2 ≤ 10 ^ 30) ∧ G' = ⟨true, [.sh tStm (), .sh (tLs K tStr) ns, .sh tInt j, .ow (oD kS tInt) ps, .un], [some p0, some p1, some p2]⟩), ⟨[], ⟨rfl, fun e he => absurd he (by simp)⟩, rfl⟩, ?_, ?_⟩)))
  · rintro i x _ hx ⟨ps, ⟨hk, hpo⟩, rfl⟩
    have hin : i < ns.length := (List.getElem?_eq_some_iff.mp hx).1
    have hlen : ps.length = i := by
      have := congrArg List.length hk
      rw [List.length_map, List.length_take] at this
      omega
    have go : ∀ r : Int, 1 ≤ r ∧ r ≤ 10 ^ 30 → ∃ ps' : List (Str × Int), (ps'.map (·.1) = ns.take (i + 1) ∧ ∀ e ∈ ps', 1 ≤ e.2 ∧ e.2 ≤ 10 ^ 30) ∧ (⟨true, [.sh tStm (), .sh (tLs K tStr) ns, .sh tInt j, .ow (oD kS tInt) (putZ ps x r), .un], [some p0, some p1, some p2]⟩ : Ct) = ⟨true, [.sh tStm (), .sh (tLs K tStr) ns, .sh tInt j, .ow (oD kS tInt) ps', .un], [some p0, some p1, some p2]⟩ := fun r hr => by
      refine ⟨_, ⟨?_, ?_⟩, rfl⟩
      · rw [putZ_new (by rw [hk]; exact not_taken hnd hx), List.map_append, hk, take_more hx]
        rfl
      · rw [putZ_new (by rw [hk]; exact not_taken hnd hx)]
        intro e he
        rcases List.mem_append.mp he with he | he
        · exact hpo e he
        · have : e = (x, r) := by simpa using he
          rw [this]
          exact hr
    have e30 : (10 : Int) ^ 30 = 1000000000000000000000000000000 := by decide
    refine tg_name (by decide) (free_of rfl) (blk_wipe [4] ?_)
    refine blk_if (et_b (ev_op ro_eqI (ev_var rfl (ev_c (t := tInt) (fun _ _ => rfl) ⟨fun _ => ?_, fun _ => ?_⟩))))
    · refine blk_dput kyS (pt_var (i := 3) rfl (by decide)) (ev_op ro_I0 (ev_c (t := tInt) (fun _ _ => rfl) (ev_draw rfl (ev_c (t := tInt) (fun _ _ => rfl) ⟨⟨by decide, by decide⟩, fun r a b => ev_var rfl ⟨fits40 (by omega), go _ ⟨by omega, ?_⟩⟩⟩))))
      have b : r < 3 := b
      omega
    refine blk_if (et_b (ev_op ro_eqI (ev_var rfl (ev_c (t := tInt) (fun _ _ => rfl) ⟨fun _ => ?_, fun _ => ?_⟩))))
    · refine blk_dput kyS (pt_var (i := 3) rfl (by decide)) (ev_op ro_I0 (ev_c (t := tInt) (fun _ _ => rfl) (ev_draw rfl (ev_c (t := tInt) (fun _ _ => rfl) ⟨⟨by decide, by decide⟩, fun r a b => ev_var rfl ⟨fits40 (by omega), go _ ⟨by omega, ?_⟩⟩⟩))))
      have b : r < 9 := b
      omega
    refine blk_if (et_b (ev_op ro_eqI (ev_var rfl (ev_c (t := tInt) (fun _ _ => rfl) ⟨fun _ => ?_, fun _ => ?_⟩))))
    · refine blk_dput kyS (pt_var (i := 3) rfl (by decide)) (ev_op ro_I0 (ev_c (t := tInt) (fun _ _ => rfl) (ev_draw rfl (ev_op ro_I (ev_c (t := tInt) (fun _ _ => rfl) (ev_c (t := tInt) (fun _ _ => rfl) ⟨⟨by decide, by decide, by decide⟩, ⟨by decide, by decide⟩, fun r a b => ev_var rfl ⟨fits40 (by omega), go _ ⟨by omega, ?_⟩⟩⟩))))))
      have b : r < 10 ^ 30 := b
      omega
    · refine blk_dput kyS (pt_var (i := 3) rfl (by decide)) (ev_op ro_I0 (ev_op ro_I (ev_c (t := tInt) (fun _ _ => rfl) (ev_c (t := tInt) (fun _ _ => rfl) ⟨⟨by decide, by decide, by decide⟩, ?_⟩))))
      refine ev_draw rfl (ev_c (t := tInt) (fun _ _ => rfl) ⟨⟨by decide, by decide⟩, fun r a b => ev_var rfl ⟨fits40 (by omega), go _ ?_⟩⟩)
      have b : r < 3 := b
      show 1 ≤ (10 : Int) ^ 30 - r ∧ (10 : Int) ^ 30 - r ≤ 10 ^ 30
      omega
  rintro _ ⟨ps, ⟨hk, hpo⟩, rfl⟩
  rw [List.take_of_length_le (Nat.le_refl _)] at hk
  exact blk_ret (ev_give (i := 3) rfl (fin0 [_, _, _] _ (hp ps ⟨hk, hpo⟩)))
end
end KK
end

section
set_option maxRecDepth 100000
set_option maxHeartbeats 4000000
namespace KK
open PySem PySem.Spec PyProof.Rows L2 Y
/-! the laws' own look at an answer -/
def ansK (ns : List Str) (ts : List (Str × Str)) (d : List (Str × Int)) : Bool := decide (d.length = ns.length) && (ns.all (fun x => hasK d x && (decide (0 ≤ gD d x) && decide (gD d x ≤ 2))) && ts.all fun e => decide (2 ≤ gD d e.1 + gD d e.2))
abbrev yLisans (K : PySem.W.Frag) : Y.CT Bool := ⟨true, .sh tBl, fun as P _ => ∃ d ns ts, as = [.sh (tDk kS tInt) d, .sh (tLs K tStr) ns, .sh (tLs K (tPr K)) ts] ∧ (∀ e ∈ ts, e.1 ∈ ns ∧ e.2 ∈ ns) ∧ ∀ os, P os (ansK ns ts d)⟩
section
variable {P : Program} {w : World} {K : PySem.W.Frag} {mg : Str → Option Value} {base : Heap} {C CS CW CC : Addr}
end
end KK
end

section
set_option maxRecDepth 100000
set_option maxHeartbeats 4000000
namespace KK
open PySem PySem.Spec PyProof.Rows L2 Y
/-! covers and answers, changed by each other -/
structure CovOk (z : WebZ) (cv : List Str) : Prop where
  sub : ∀ x ∈ cv, x ∈ z.ms
  asc : cv.Pairwise fun a b => Own.ltS a b = true
  cov : ∀ e ∈ z.us, e.1 ∈ cv ∨ e.2 ∈ cv
def menB (d : List (Str × Int)) (cv : List Str) (x : Str) : Bool := decide (gD d x = 2) || (decide (gD d x = 1) && decide (x ∈ cv))
def menL (z : WebZ) (d : List (Str × Int)) (cv : List Str) : List Str := z.ms.filter (menB d cv)
def sofV (d : List (Str × Int)) (cv : List Str) (x : Str) : Int := if gD d x = (if x ∈ cv then 0 else 2) then 1 else gD d x
def sofL (d : List (Str × Int)) (cv : List Str) : List (Str × Int) := (d.map (·.1)).map fun x => (x, sofV d cv x)
abbrev yIsCover (K : PySem.W.Frag) (CW : Addr) : Y.CT Bool := ⟨true, .sh tBl, fun as P _ => ∃ z cv, as = [.sh (yWeb K CW) z, .sh (tTu K tStr) cv] ∧ (WfZ z ∧ CovOk z cv) ∧ ∀ os, P os true⟩
abbrev yNeedBoth (K : PySem.W.Frag) (CW : Addr) : Y.CT Unit := ⟨true, .sh tNon, fun as P _ => ∃ z d cv, as = [.sh (yWeb K CW) z, .sh (tDk kS tInt) d, .sh (tTu K tStr) cv] ∧ (WfZ z ∧ AnsD z d ∧ CovOk z cv) ∧ ∀ os, P os ()⟩
abbrev yMended (K : PySem.W.Frag) (CW : Addr) : Y.CT (List Str) := ⟨true, .sh (tTu K tStr), fun as P _ => ∃ z d cv, as = [.sh (yWeb K CW) z, .sh (tDk kS tInt) d, .sh (tTu K tStr) cv] ∧ (WfZ z ∧ AnsD z d ∧ CovOk z cv) ∧ ∀ os, P os (menL z d cv)⟩
abbrev ySoftened (K : PySem.W.Frag) (CW : Addr) : Y.CT (List (Str × Int)) := ⟨true, .ow (oD kS tInt), fun as P _ => ∃ z d cv, as = [.sh (yWeb K CW) z, .sh (tDk kS tInt) d, .sh (tTu K tStr) cv] ∧ (WfZ z ∧ AnsD z d ∧ CovOk z cv) ∧ ∀ os, P os (sofL d cv)⟩
section
variable {P : Program} {w : World} {K : PySem.W.Frag} {mg : Str → Option Value} {base : Heap} {C CS CW CC : Addr}
end
end KK
end

section
set_option maxRecDepth 100000
set_option maxHeartbeats 4000000
namespace KK
open PySem PySem.Spec PyProof.Rows L2 Y
/-! half readings told: kernel, fixed, least; readings -/
abbrev yHKern (K : PySem.W.Frag) (CC : Addr) : Y.CT (List Str) := ⟨true, .ow (oL K tStr), fun as P _ => ∃ c, as = [.sh (yCl K CC) c] ∧ WfC c ∧ ∀ v, LowH c v → ∀ os, P os (kerH c v)⟩
abbrev yHFix (K : PySem.W.Frag) (CC : Addr) : Y.CT (List (Str × Int)) := ⟨true, .ow (oD kS tInt), fun as P _ => ∃ c, as = [.sh (yCl K CC) c] ∧ WfC c ∧ ∀ v, LowH c v → ∀ os, P os (fixH c v)⟩
abbrev yHRead (K : PySem.W.Frag) (CC : Addr) : Y.CT (List (Str × Int)) := ⟨true, .ow (oD kS tInt), fun as P _ => ∃ c, as = [.sh (yCl K CC) c] ∧ WfC c ∧ ∀ v g, LowH c v → BestH c v g → ∀ os, P os (atD c.ns g)⟩
abbrev yHLeast (K : PySem.W.Frag) (CC : Addr) : Y.CT (List (Str × Int)) := ⟨true, .ow (oD kS tInt), fun as P _ => ∃ c, as = [.sh (yCl K CC) c] ∧ WfC c ∧ ∀ v g, LowH c v → BestH c v g → (∀ x ∈ c.ns, canH c v x 0 = true ∨ canH c v x 2 = true → g x ≠ 1) → ∀ os, P os (atD c.ns g)⟩
/-- a dict that is a half reading -/
structure HalfD (c : ClZ) (d : List (Str × Int)) : Prop where
  pm : (d.map (·.1)).Perm c.ns
  r : ∀ x ∈ c.ns, lookK d x = some (gD d x) ∧ 0 ≤ gD d x ∧ gD d x ≤ 2
  t : ∀ q ∈ c.rs, 2 ≤ valL (gD d) q.1 + valL (gD d) q.2
abbrev yHVal (K : PySem.W.Frag) : Y.CT Int := ⟨false, .sh tInt, fun as P _ => ∃ (d : List (Str × Int)) (l : Lit), as = [.sh (tDk kS tInt) d, .sh (tLit K) l] ∧ (lookK d l.1 = some (gD d l.1) ∧ 0 ≤ gD d l.1 ∧ gD d l.1 ≤ 2) ∧ ∀ os, P os (valL (gD d) l)⟩
abbrev yIsHalf (K : PySem.W.Frag) (CC : Addr) : Y.CT Bool := ⟨true, .sh tBl, fun as P _ => ∃ c d, as = [.sh (yCl K CC) c, .sh (tDk kS tInt) d] ∧ (WfC c ∧ HalfD c d) ∧ ∀ os, P os true⟩
abbrev yHCost (K : PySem.W.Frag) (CC : Addr) : Y.CT Int := ⟨true, .sh tInt, fun as P _ => ∃ c d, as = [.sh (yCl K CC) c, .sh (tDk kS tInt) d] ∧ (WfC c ∧ HalfD c d) ∧ ∀ os, P os (costH c (gD d))⟩
abbrev yHBest (K : PySem.W.Frag) (CC : Addr) : Y.CT Bool := ⟨true, .sh tBl, fun as P _ => ∃ c d, as = [.sh (yCl K CC) c, .sh (tDk kS tInt) d] ∧ (WfC c ∧ HalfD c d) ∧ ∀ v, LowH c v → ∀ os, P os (decide (costH c (gD d) = v))⟩
/-! readings -/
def gBd (d : List (Str × Bool)) (x : Str) : Bool := (lookK d x).getD false
/-- a reading of these names -/
structure ReadD (ns : List Str) (d : List (Str × Bool)) : Prop where
  pm : (d.map (·.1)).Perm ns
  l : ∀ x ∈ ns, lookK d x = some (gBd d x)
def rowB (f : Str → Bool) (r : Row) : Bool := decide (f r.1.1 = r.1.2) || decide (f r.2.1 = r.2.2)
def trueB (c : ClZ) (f : Str → Bool) : Bool := c.rs.all (rowB f)
def costR (c : ClZ) (f : Str → Bool) : Int := ((c.ns.filter f).map (gD c.ps)).sum
abbrev yJustB (K : PySem.W.Frag) : Y.CT Bool := ⟨true, .sh tBl, fun as P _ => ∃ (d : List (Str × Bool)) (ns : List Str), as = [.sh (tDk kS tBl) d, .sh (tLs K tStr) ns] ∧ (d.length = ns.length ∧ ns.length ≤ 1000 ∧ ∀ x ∈ ns, hasK d x = true) ∧ ∀ os, P os true⟩
abbrev yNeedR (K : PySem.W.Frag) (CC : Addr) : Y.CT Unit := ⟨true, .sh tNon, fun as P _ => ∃ c d, as = [.sh (yCl K CC) c, .sh (tDk kS tBl) d] ∧ (WfC c ∧ ReadD c.ns d) ∧ ∀ os, P os ()⟩
abbrev yIsTrue (K : PySem.W.Frag) (CC : Addr) : Y.CT Bool := ⟨true, .sh tBl, fun as P _ => ∃ c d, as = [.sh (yCl K CC) c, .sh (tDk kS tBl) d] ∧ (WfC c ∧ ReadD c.ns d) ∧ ∀ os, P os (trueB c (gBd d))⟩
abbrev yRCost (K : PySem.W.Frag) (CC : Addr) : Y.CT Int := ⟨true, .sh tInt, fun as P _ => ∃ c d, as = [.sh (yCl K CC) c, .sh (tDk kS tBl) d] ∧ (WfC c ∧ ReadD c.ns d) ∧ ∀ os, P os (costR c (gBd d))⟩
def menHV (d : List (Str × Int)) (f : Str → Bool) (x : Str) : Bool := if gD d x = 1 then f x else decide (gD d x = 2)
def sofHV (d : List (Str × Int)) (f : Str → Bool) (x : Str) : Int := if gD d x = (if f x = true then 0 else 2) then 1 else gD d x
abbrev yNeedBR (K : PySem.W.Frag) (CC : Addr) : Y.CT Unit := ⟨true, .sh tNon, fun as P _ => ∃ c d b, as = [.sh (yCl K CC) c, .sh (tDk kS tInt) d, .sh (tDk kS tBl) b] ∧ (WfC c ∧ HalfD c d ∧ ReadD c.ns b ∧ trueB c (gBd b) = true) ∧ ∀ os, P os ()⟩
abbrev yMendR (K : PySem.W.Frag) (CC : Addr) : Y.CT (List (Str × Bool)) := ⟨true, .ow (oD kS tBl), fun as P _ => ∃ c d b, as = [.sh (yCl K CC) c, .sh (tDk kS tInt) d, .sh (tDk kS tBl) b] ∧ (WfC c ∧ HalfD c d ∧ ReadD c.ns b ∧ trueB c (gBd b) = true) ∧ ∀ os, P os ((d.map (·.1)).map fun x => (x, menHV d (gBd b) x))⟩
abbrev ySoftH (K : PySem.W.Frag) (CC : Addr) : Y.CT (List (Str × Int)) := ⟨true, .ow (oD kS tInt), fun as P _ => ∃ c d b, as = [.sh (yCl K CC) c, .sh (tDk kS tInt) d, .sh (tDk kS tBl) b] ∧ (WfC c ∧ HalfD c d ∧ ReadD c.ns b ∧ trueB c (gBd b) = true) ∧ ∀ os, P os ((d.map (·.1)).map fun x => (x, sofHV d (gBd b) x))⟩
section
variable {P : Program} {w : World} {K : PySem.W.Frag} {mg : Str → Option Value} {base : Heap} {CC C CS CW : Addr}
abbrev NYhasjustB : List Str := ["value", "keys", "key"]
end
end KK
end

section
set_option maxRecDepth 100000
set_option maxHeartbeats 4000000
/-! dict([(k, v), ..]) -/
namespace Own
open PySem PySem.Spec PyProof.Rows L2
def rDictPs (K : PySem.W.Frag) : List V → Hp → VK → Prop := fun xs H Q => ∃ (l : Addr) (ts : List (Addr × L2.Key × V)), xs = [.ref l] ∧ SqL K H l (ts.map fun e => V.ref e.1) ∧ (∀ e ∈ ts, SqT K H e.1 [kV e.2.1, e.2.2]) ∧ ∀ p, H p = none → Q (.ref p) (upd H p (.dK (mergeK [] (ts.map (·.2)))))
end Own
end

section
set_option maxRecDepth 100000
set_option maxHeartbeats 4000000
/-! dict of a list of pairs -/
namespace Y
open PySem PySem.Spec PyProof.Rows L2
section
variable {K : PySem.W.Frag} {α : Type} {u : Ty α}
end
end Y
end

section
set_option maxRecDepth 100000
set_option maxHeartbeats 4000000
namespace KK
open PySem PySem.Spec PyProof.Rows L2 Y
/-! truth -/
theorem mem_headsR {r : Row} {l h : Lit} : h ∈ headsR r l ↔ (opp r.1 = l ∧ h = r.2) ∨ (opp r.2 = l ∧ h = r.1) := by
  unfold headsR
  rw [List.mem_append]
  constructor
  · rintro (q | q)
    · split at q
      · rename_i e; rw [List.mem_singleton] at q; exact .inl ⟨e, q⟩
      · cases q
    · split at q
      · rename_i e; rw [List.mem_singleton] at q; exact .inr ⟨e, q⟩
      · cases q
  · rintro (⟨e, q⟩ | ⟨e, q⟩)
    · left; rw [if_pos e, q]; exact List.mem_singleton.mpr rfl
    · right; rw [if_pos e, q]; exact List.mem_singleton.mpr rfl
theorem mem_heads {rs : List Row} {l h : Lit} : h ∈ headsOf rs l ↔ ∃ r ∈ rs, (opp r.1 = l ∧ h = r.2) ∨ (opp r.2 = l ∧ h = r.1) := by
  unfold headsOf
  rw [List.mem_flatMap]
  exact ⟨fun ⟨r, hr, q⟩ => ⟨r, hr, mem_headsR.mp q⟩, fun ⟨r, hr, q⟩ => ⟨r, hr, mem_headsR.mpr q⟩⟩
theorem heads_back {rs : List Row} {l h : Lit} (q : h ∈ headsOf rs l) : opp l ∈ headsOf rs (opp h) := by
  obtain ⟨r, hr, ⟨e, rfl⟩ | ⟨e, rfl⟩⟩ := mem_heads.mp q
  · exact mem_heads.mpr ⟨r, hr, .inr ⟨rfl, by rw [← e, opp_opp]⟩⟩
  · exact mem_heads.mpr ⟨r, hr, .inl ⟨rfl, by rw [← e, opp_opp]⟩⟩
theorem Rch.trans {rs : List Row} {a b c : Lit} (h : Rch rs a b) (g : Rch rs b c) : Rch rs a c := by
  induction g with
  | refl => exact h
  | step _ hh ih => exact .step ih hh
theorem Rch.head {rs : List Row} {a b c : Lit} (h : b ∈ headsOf rs a) (g : Rch rs b c) : Rch rs a c := (Rch.step .refl h).trans g
theorem Rch.back {rs : List Row} {a b : Lit} (h : Rch rs a b) : Rch rs (opp b) (opp a) := by
  induction h with
  | refl => exact .refl
  | step _ hh ih => exact .head (heads_back hh) ih
theorem Rch.ns {rs : List Row} {ns : List Str} (ro : ∀ r ∈ rs, r.1.1 ∈ ns ∧ r.2.1 ∈ ns) {a b : Lit} (ha : a.1 ∈ ns) (h : Rch rs a b) : b.1 ∈ ns := by
  induction h with
  | refl => exact ha
  | step _ hh _ => exact heads_in ro hh
/-- a literal in a reading -/
def litB (f : Str → Bool) (l : Lit) : Bool := f l.1 == l.2
def Both (c : ClZ) (x : Str) : Prop := Rch c.rs (x, true) (x, false) ∧ Rch c.rs (x, false) (x, true)
/-- what has been read so far -/
structure Tr (c : ClZ) (R : List Lit) (done : List Lit) : Prop where
  nd : (R.map (·.1)).Nodup
  cl : ∀ l ∈ R, ∀ h ∈ headsOf c.rs l, h ∈ R
  ns : ∀ l ∈ R, l.1 ∈ c.ns
  dn : ∀ l ∈ done, l.1 ∈ R.map (·.1) ∨ Rch c.rs l (opp l)
abbrev yTruthC (P : Program) (w : World) (K : PySem.W.Frag) (CC : Addr) : Y.CT (Option (List (Str × Bool))) := ⟨true, .ow (oOpt (oD kS tBl)), fun as Q _ => ∃ c, as = [.sh (yCl K CC) c] ∧ WfC c ∧ (∀ R, ReadD c.ns R → trueB c (gBd R) = true → ∀ os, Q os (some R)) ∧ ∀ x ∈ c.ns, Both c x → ∀ os, Q os none⟩
section
variable {Pg : Program} {w : World} {K : PySem.W.Frag} {mg : Str → Option Value} {base : Heap} {CC CS : Addr}
end
end KK
end

section
set_option maxRecDepth 100000
set_option maxHeartbeats 4000000
namespace KK
open PySem PySem.Spec PyProof.Rows L2 Y
/-! defs that raise -/
theorem fnY {P : Program} {w : World} {K : PySem.W.Frag} {mg : Str → Option Value} {base : Heap} {x : Str} {st : Stmt} {N ps : List Str} {k : Nat} {sp : Sp} (F : Has K mg x st) (b : ∀ f fd, Fun K x x st f fd → Binds K fd ps []) (S : FnScope N ps (defScope st)) (len : ∀ vs H Q E, sp vs H Q E → vs.length = ps.length)
    (hbody : ∀ (f : Addr) (cdv : Value) (A : Around) (outer : List Env) (s : Shared) (H : Hp) (vs : List V) (Q : VK) (E : XK), Room k (A.deeper (envOfC x (defScope st) s.heap.objs.size f cdv)) → sp vs H Q E →
      ∃ t, PSs (cxOf (L2.CX P w) P w K mg base N x (defScope st) f cdv A outer s H E) (defBody st) t ∧ t { nx := fun _ H' => Q .non H', rt := Q } (start N vs) H) : Own.CalX P w K mg base (k + 1) x sp := by
  obtain ⟨f, fd, F, hm⟩ := F
  exact ⟨f, fd, ps, F.okX S len (hbody f), hm, F.kp, b f fd F⟩
end KK
end

section
set_option maxRecDepth 100000
set_option maxHeartbeats 4000000
namespace KK
open PySem PySem.Spec PyProof.Rows L2 Y
/-! is_among, is_integer, is_between, can: of values of any kind -/
def isI : V → Bool
  | .int _ => true
  | _ => false
def inMs : V → List Str → Bool
  | .str s, ms => decide (s ∈ ms)
  | _, _ => false
def inLH : V → Int → Int → Bool
  | .int i, lo, hi => decide (lo ≤ i) && decide (i ≤ hi)
  | _, _, _ => false
theorem isStr_ex {v : V} (h : isStrV v = true) : ∃ s, v = .str s := by
  cases v with
  | str s => exact ⟨s, rfl⟩
  | _ => cases h
abbrev yAmongV (K : PySem.W.Frag) : Y.CT Bool := ⟨false, .sh tBl, fun as P _ => ∃ x d, as = [.sh (tV K) x, .sh (tDk kS tInt) d] ∧ ∀ os, P os (inMs x (d.map (·.1)))⟩
abbrev yIntV (K : PySem.W.Frag) : Y.CT Bool := ⟨false, .sh tBl, fun as P _ => ∃ x, as = [.sh (tV K) x] ∧ ∀ os, P os (isI x)⟩
abbrev yBetV (K : PySem.W.Frag) : Y.CT Bool := ⟨false, .sh tBl, fun as P _ => ∃ x lo hi, as = [.sh (tV K) x, .sh tInt lo, .sh tInt hi] ∧ ∀ os, P os (inLH x lo hi)⟩
abbrev yHasV (K : PySem.W.Frag) (CW : Addr) : Y.CT Bool := ⟨false, .sh tBl, fun as P _ => ∃ z x, as = [.sh (yWeb K CW) z, .sh (tV K) x] ∧ WfZ z ∧ ∀ os, P os (inMs x z.ms)⟩
abbrev yNameU (K : PySem.W.Frag) : Y.CT Str := ⟨false, .sh tStr, fun as P _ => ∃ ys, as = [.sh tStm (), .sh (tTu K tStr) ys] ∧ ys.length ≤ 60 ∧ ∀ x, (NameOk x ∧ x ∉ ys) → ∀ os, P os x⟩
section
variable {P : Program} {w : World} {K : PySem.W.Frag} {mg : Str → Option Value} {base : Heap} {C CS CW CN CB f1 f2 : Addr} {e1 e2 : PySem.Err1.EP}
end
end KK
end

section
set_option maxRecDepth 100000
set_option maxHeartbeats 4000000
namespace KK
open PySem PySem.Spec PyProof.Rows L2 Y
/-! must -/
noncomputable def mB (c : ClZ) (l : Lit) : Bool := @decide (Rch c.rs (opp l) l) (Classical.propDecidable _)
noncomputable def mustL (c : ClZ) : List Lit := (litsN c.ns).filter (mB c)
abbrev yMust (P : Program) (w : World) (K : PySem.W.Frag) (CC CB : Addr) : Y.CT (List Lit) := ⟨true, .ow (oL K (tLit K)), fun as Q XP => ∃ c, as = [.sh (yCl K CC) c] ∧ WfC c ∧ (∀ f, trueB c f = true → ∀ os, Q os (mustL c)) ∧ ∀ x ∈ c.ns, Both c x → ∀ os, XP os ⟨CB, none⟩⟩
section
variable {Pg : Program} {w : World} {K : PySem.W.Frag} {mg : Str → Option Value} {base : Heap} {CC CS CB : Addr}
end
end KK
end

section
set_option maxRecDepth 100000
set_option maxHeartbeats 4000000
/-! dicts of flags compared within lists; dicts of texts to anything as anything -/
namespace Y
open PySem PySem.Spec PyProof.Rows L2
section
variable {K : PySem.W.Frag} {κ : Type} [DecidableEq κ] {ke : Ky κ}
def eqDZB (x y : List (κ × Bool)) : Bool := x.length == y.length && x.all fun p => decide (lookK y p.1 = some p.2)
end
def keyD (d : List (Str × V)) : List (Key × V) := d.map fun e => (Sum.inr e.1, e.2)
section
variable {X : Xw} {k : Bool} {G : Ct} {K : PySem.W.Frag}
end
end Y
end

section
set_option maxRecDepth 100000
set_option maxHeartbeats 4000000
/-! pairs of a text and a flag in order -/
namespace Y
open PySem PySem.Spec PyProof.Rows L2
abbrev eTB : Str × Bool → PyData := fun x => .tuple [.str x.1, .bool x.2]
def ltT (p q : Str × Bool) : Bool := if p.1 = q.1 then (!p.2 && q.2) else Own.ltS p.1 q.1
theorem lt_TB (p q : Str × Bool) : PySem.W.dataLt (eTB p) (eTB q) = ltT p q := PySem.W.DatumOrd.lt_eq p q
theorem ltT_tri {p q : Str × Bool} (h1 : ltT p q = false) (h2 : ltT q p = false) : p = q := by
  unfold ltT at h1 h2
  by_cases e : p.1 = q.1
  · rw [if_pos e] at h1
    rw [if_pos e.symm] at h2
    refine Prod.ext e ?_
    revert h1 h2
    cases p.2 <;> cases q.2 <;> decide
  · rw [if_neg e] at h1
    rw [if_neg fun z => e z.symm] at h2
    exact absurd (Own.ltS_tri h1 h2) e
def AscT (l : List (Str × Bool)) : Prop := l.Pairwise fun x y => ltT y x = false
theorem asc_uniqT {a b : List (Str × Bool)} (hp : a.Perm b) (ha : AscT a) (hb : AscT b) : a = b :=
  List.Perm.eq_of_pairwise (le := fun x y => ltT y x = false) (fun x y _ _ h1 h2 => ltT_tri h2 h1) ha hb hp
section
variable {K : PySem.W.Frag}
theorem enc_TB : Enc K (tT2 K tStr tBl) eTB := by
  rintro W H v x ⟨a, p, q, rfl, sq, h1, h2⟩
  obtain rfl : p = .str x.1 := h1
  obtain rfl : q = .bl x.2 := h2
  exact .tup sq.t (.cons (.str _) (.cons (.bl _) .nil))
theorem rc_sortTB : RC1 (Own.rSortD K eTB) (tLs K (tT2 K tStr tBl)) (.ow (oL K (tT2 K tStr tBl))) false (fun xs P => ∀ ys, ys.Perm xs → AscT ys → P ys) := by
  intro W H v xs Q P ok nl r c q
  refine rc_sortE (e := eTB) enc_TB W H v xs Q P ok nl r ⟨⟨.inr ⟨?_, .inl fun d hd => ?_⟩, fun x _ => ?_⟩, fun ys h1 h2 => c ys h1 (h2.imp fun {a b} h => by rw [← lt_TB]; exact h)⟩ q
  · intro d hd d' hd'
    obtain ⟨x, _, rfl⟩ := List.mem_map.mp hd
    obtain ⟨y, _, rfl⟩ := List.mem_map.mp hd'
    exact PySem.W.DatumOrd.alike x y
  · obtain ⟨x, hx, rfl⟩ := List.mem_map.mp hd
    exact ⟨_, _, rfl⟩
  · show PyData.depthAll [.str x.1, .bool x.2] + 1 ≤ 60
    simp [PyData.depthAll, PyData.depth]
end
end Y
end

section
set_option maxRecDepth 100000
set_option maxHeartbeats 4000000
namespace KK
open PySem PySem.Spec PyProof.Rows L2 Y
/-! follows, chain, ring -/
theorem ChainOk.len {rs : List Row} {ns : List Str} {s g : Lit} {L : List Lit} (c : ChainOk rs s g L) (h : ∀ l ∈ L, l.1 ∈ ns) : L.length ≤ 2 * ns.length := by
  rw [← lits_len]
  exact c.nd.length_le_of_subset fun l hl => mem_lits.mpr (h l hl)
/-- there and back -/
structure RingCl (c : ClZ) (L : List Lit) (x : Str) : Prop where
  hx : x ∈ c.ns
  bt : Both c x
  h0 : L[0]? = some (x, true)
  hl : L.getLast? = some (x, true)
  op : (x, false) ∈ L
  st : ∀ (i : Nat) a b, L[i]? = some a → L[i + 1]? = some b → b ∈ headsOf c.rs a
  ns : ∀ l ∈ L, l.1 ∈ c.ns
  hi : L.length ≤ 160
  lo : 3 ≤ L.length
abbrev yAmongL (K : PySem.W.Frag) : Y.CT Bool := ⟨true, .sh tBl, fun as P _ => ∃ x ns, as = [.sh tStr x, .sh (tLs K tStr) ns] ∧ ∀ os, P os (decide (x ∈ ns))⟩
abbrev yIsLitL (K : PySem.W.Frag) : Y.CT Bool := ⟨true, .sh tBl, fun as P _ => ∃ (l : Lit) (ns : List Str), as = [.sh (tLit K) l, .sh (tLs K tStr) ns] ∧ l.1 ∈ ns ∧ ∀ os, P os true⟩
abbrev yNeedL (K : PySem.W.Frag) (CC : Addr) : Y.CT Unit := ⟨true, .sh tNon, fun as P _ => ∃ c l, as = [.sh (yCl K CC) c, .sh (tLit K) l] ∧ (WfC c ∧ l.1 ∈ c.ns) ∧ ∀ os, P os ()⟩
abbrev yFollows (K : PySem.W.Frag) (CC : Addr) : Y.CT (List Lit) := ⟨true, .ow (oL K (tLit K)), fun as P _ => ∃ c s, as = [.sh (yCl K CC) c, .sh (tLit K) s] ∧ (WfC c ∧ s.1 ∈ c.ns) ∧ ∀ ks, ks.Nodup → (∀ l, l ∈ ks ↔ Rch c.rs s l) → AscT ks → (∀ l ∈ ks, l.1 ∈ c.ns) → ∀ os, P os ks⟩
abbrev yChainC (K : PySem.W.Frag) (CC : Addr) : Y.CT (Option (List Lit)) := ⟨true, .ow (oOpt (oL K (tLit K))), fun as Q _ => ∃ c s g, as = [.sh (yCl K CC) c, .sh (tLit K) s, .sh (tLit K) g] ∧ (WfC c ∧ s.1 ∈ c.ns ∧ g.1 ∈ c.ns) ∧ (¬ Rch c.rs s g → ∀ os, Q os none) ∧ ∀ L, ChainOk c.rs s g L → (∀ l ∈ L, l.1 ∈ c.ns) → ∀ os, Q os (some L)⟩
abbrev yRingCl (K : PySem.W.Frag) (CC : Addr) : Y.CT (Option (List Lit)) := ⟨true, .ow (oOpt (oL K (tLit K))), fun as Q _ => ∃ c, as = [.sh (yCl K CC) c] ∧ WfC c ∧ ((∀ x ∈ c.ns, ¬ Both c x) → ∀ os, Q os none) ∧ ∀ L x, RingCl c L x → ∀ os, Q os (some L)⟩
section
variable {Pg : Program} {w : World} {K : PySem.W.Frag} {mg : Str → Option Value} {base : Heap} {CC CS CB : Addr}
abbrev NYisamongL : List Str := ["value", "names"]
theorem scYisamongL : FnScope NYisamongL ["value", "names"] (defScope s_is_among) := ⟨rfl, rfl, rfl, by decide +kernel, rfl, by decide +kernel, by decide +kernel⟩
theorem y_amongL (T : Blt mg) (F : Has K mg "is_among" s_is_among) : C8.Cal Pg w K mg base 1 "is_among" (Y.spZ (yAmongL K)) [] := by
  refine calF F (fun f fd F => F.binds (ps := ["value", "names"]) fun _ _ _ _ _ _ us hl => match us, hl with | [_, _], _ => rfl) scYisamongL (fun vs H Q E h => zlen (fun as P XP hc => by obtain ⟨_, _, rfl, _⟩ := hc; rfl) h) (fun f cdv A outer s H vs Q E hr h => ?_)
  have hu := hu_of hr
  refine ⟨_, (pss_one (ps_ret (pe_and (pe_callB (show CallR _ (.builtin "isinstance") (rIsi K) from call_isi) (by rfl) T.b_isinstance (by decide +kernel) (pa_cons (pv 0) (pa_cons (pe_bltn (v := .ty "str") (by rfl) T.b_str (by decide +kernel) rfl) pa_nil))) (pe_one (pe_cmpR op_in_seq (pv 0) (pv 1) (by rfl)))))), zrun h ?_⟩
  rintro as P XP ⟨x, ns, rfl, hp⟩ hl
  obtain ⟨p0, p1, rfl⟩ := len2 hl
  refine ⟨0, rfl, by decide, ?_⟩
  refine blk_ret (ev_and (ev_isi (A := "str") (b := true) (fun W H v x ok _ r => by cases r; exact .base (.str _)) (by decide +kernel) (ev_var rfl ⟨rfl, fun _ => ev_op (ro_inSL false) (ev_var rfl (ev_var (t := tLs K tStr) (x := ns) rfl (fin0 [_, _] _ hp))), fun h => (nomatch h)⟩)))
abbrev NYisliteralL : List Str := ["value", "names"]
theorem scYisliteralL : FnScope NYisliteralL ["value", "names"] (defScope s_is_literal) := ⟨rfl, rfl, rfl, by decide +kernel, rfl, by decide +kernel, by decide +kernel⟩
theorem y_islitL (T : Blt mg) (F : Has K mg "is_literal" s_is_literal) (YAMONGL : C8.Cal Pg w K mg base 1 "is_among" (Y.spZ (yAmongL K)) []) : C8.Cal Pg w K mg base 2 "is_literal" (Y.spZ (yIsLitL K)) [] := by
  refine calF F (fun f fd F => F.binds (ps := ["value", "names"]) fun _ _ _ _ _ _ us hl => match us, hl with | [_, _], _ => rfl) scYisliteralL (fun vs H Q E h => zlen (fun as P XP hc => by obtain ⟨_, _, rfl, _⟩ := hc; rfl) h) (fun f cdv A outer s H vs Q E hr h => ?_)
  have hu := hu_of hr
  refine ⟨_, (pss_cons (ps_if (PW.pt (pw_or (pt_not (pt_val (pe_callB (show CallR _ (.builtin "isinstance") (rIsi K) from call_isi) (by rfl) T.b_isinstance (by decide +kernel) (pa_cons (pv 0) (pa_cons (pe_bltn (v := .ty "tuple") (by rfl) T.b_tuple (by decide +kernel) rfl) pa_nil))))) (pw_or1 (pt_cmpR op_ne (pe_callB call_len (by rfl) T.b_len PySem.boot_len (pa_cons (pv 0) pa_nil)) pe_int (nomark _))))) (pss_one (ps_ret pe_bl)) pss_nil)
      (pss_one (ps_ret (pe_and (C8.pe_c YAMONGL hr (by decide) rfl (pa_cons (pe_ix ix_tup (pv 0) pe_int (fun _ _ => rfl)) (pa_cons (pv 1) pa_nil))) (pe_one (pe_callB (show CallR _ (.builtin "isinstance") (rIsi K) from call_isi) (by rfl) T.b_isinstance (by decide +kernel) (pa_cons (pe_ix ix_tup (pv 0) pe_int (fun _ _ => rfl)) (pa_cons (pe_bltn (v := .ty "bool") (by rfl) T.b_bool (by decide +kernel) rfl) pa_nil)))))))), zrun h ?_⟩
  rintro as P XP ⟨l, ns, rfl, hm, hp⟩ hl
  obtain ⟨p0, p1, rfl⟩ := len2 hl
  refine ⟨0, rfl, by decide, ?_⟩
  refine blk_seq (blk_if (et_or (et_not (et_b (ev_isi (A := "tuple") (b := true) (fun W H v x ok _ r => ty_t2L r) (by decide +kernel) (ev_var rfl ⟨rfl, fun h => absurd h (by decide), fun _ => et_b (ev_op ro_neI (ev_cb rc_lenT2 (ev_var rfl ⟨fun h => (nomatch h), ev_c (t := tInt) (fun _ _ => rfl) ⟨fun h => absurd h (by decide), fun _ => blk_next ?_⟩⟩)))⟩))))))
  refine blk_ret (ev_and (ev_call0 (ea_cons (ev_op ro_t20 (ev_var rfl (ev_c (t := tInt) (fun _ _ => rfl) ⟨rfl, ea_cons (ev_var (t := tLs K tStr) (x := ns) rfl (ea_nil ⟨fun _ => rfl, allc trivial (all1 trivial), _, ns, rfl, fun _ => ⟨fun _ => ?_, fun h => ?_⟩⟩))⟩))))))
  · refine ev_isi (A := "bool") (b := true) (fun W H v x ok _ r => by cases r; exact .base (.bl _)) (by decide +kernel) (t := tBl) (ev_op ro_t21 (ev_var rfl (ev_c (t := tInt) (fun _ _ => rfl) ⟨rfl, rfl, fin0 [_, _] _ hp⟩)))
  · exact absurd hm (of_decide_eq_false h)
abbrev NYneedliteral : List Str := ["clauses", "literal"]
theorem scYneedliteral : FnScope NYneedliteral ["clauses", "literal"] (defScope s_need_literal) := ⟨rfl, rfl, rfl, by decide +kernel, rfl, by decide +kernel, by decide +kernel⟩
theorem y_needl (T : Blt mg) (F : Has K mg "_need_literal" s_need_literal) (YCLNAMES : C8.Met Pg w K mg base 1 CC "names" (Y.spZ (yClNames K CC)) []) (YISLITL : C8.Cal Pg w K mg base 2 "is_literal" (Y.spZ (yIsLitL K)) []) : C8.Cal Pg w K mg base 3 "_need_literal" (Y.spZ (yNeedL K CC)) [] := by
  refine calF F (fun f fd F => F.binds (ps := ["clauses", "literal"]) fun _ _ _ _ _ _ us hl => match us, hl with | [_, _], _ => rfl) scYneedliteral (fun vs H Q E h => zlen (fun as P XP hc => by obtain ⟨_, _, rfl, _⟩ := hc; rfl) h) (fun f cdv A outer s H vs Q E hr h => ?_)
  have hu := hu_of hr
  refine ⟨_, (pss_one (ps_if (pt_not (pt_val (C8.pe_c YISLITL hr (by decide) rfl (pa_cons (pv 1) (pa_cons (C8.pe_mt0 YCLNAMES hr (by decide) (pv 0)) pa_nil))))) pss_never pss_nil)), zrun h ?_⟩
  rintro as P XP ⟨c, l, rfl, ⟨wc, hm⟩, hp⟩ hl
  obtain ⟨p0, p1, rfl⟩ := len2 hl
  refine ⟨0, rfl, by decide, ?_⟩
  exact blk_if (et_not (et_b (ev_call0 (ea_cons (ev_var (t := tLit K) (x := l) rfl (ea_cons (EvR.share (O := oL K tStr) (ev_meth0 (cl_no (by decide)) (ev_var rfl (ea_nil ⟨fun _ => rfl, all1 trivial, c, rfl, fun _ => ea_nil ⟨fun _ => rfl, allc trivial (all1 trivial), l, c.ns, rfl, hm, fun _ => ⟨fun h => absurd h (by decide), fun _ => blk_next ⟨(), fin0 [_, _] _ hp, fun _ _ => rfl⟩⟩⟩⟩))))))))))
abbrev NYchain : List Str := ["clauses", "literal", "goal"]
theorem scYchain : FnScope NYchain ["clauses", "literal", "goal"] (defScope s_chain) := ⟨rfl, rfl, rfl, by decide +kernel, rfl, by decide +kernel, by decide +kernel⟩
theorem y_chainC (T : Blt mg) (F : Has K mg "chain" s_chain) (YNEEDL : C8.Cal Pg w K mg base 3 "_need_literal" (Y.spZ (yNeedL K CC)) []) (YSTEPS : C8.Mak Pg w K mg base 2 "Steps" CS (Y.spZ (ctStp Pg w K CS CC)) []) (YSCHAIN : C8.Met Pg w K mg base 2 CS "chain" (Y.spZ (yChainS Pg w K CS)) []) : C8.Cal Pg w K mg base 4 "chain" (Y.spZ (yChainC K CC)) [] := by
  refine calF F (fun f fd F => F.binds (ps := ["clauses", "literal", "goal"]) fun _ _ _ _ _ _ us hl => match us, hl with | [_, _, _], _ => rfl) scYchain (fun vs H Q E h => zlen (fun as P XP hc => by obtain ⟨_, _, _, rfl, _⟩ := hc; rfl) h) (fun f cdv A outer s H vs Q E hr h => ?_)
  have hu := hu_of hr
  refine ⟨_, (pss_cons (ps_expr (C8.pe_c YNEEDL hr (by decide) rfl (pa_cons (pv 0) (pa_cons (pv 1) pa_nil))))
      (pss_cons (ps_expr (C8.pe_c YNEEDL hr (by decide) rfl (pa_cons (pv 0) (pa_cons (pv 2) pa_nil))))
      (pss_one (ps_ret (C8.pe_mt YSCHAIN hr (by decide) (C8.pe_mk YSTEPS hr (by decide) rfl (pa_cons (pv 0) pa_nil)) (pa_cons (pv 1) (pa_cons (pv 2) pa_nil))))))), zrun h ?_⟩
  rintro as P XP ⟨c, s, g, rfl, ⟨wc, hs, hg⟩, hpn, hp⟩ hl
  obtain ⟨p0, p1, p2, rfl⟩ := len3 hl
  refine ⟨0, rfl, by decide, ?_⟩
  refine blk_seq (blk_drop (ev_call0 (ea_cons (ev_var rfl (ea_cons (ev_var (t := tLit K) (x := s) rfl (ea_nil ⟨fun _ => rfl, allc trivial (all1 trivial), c, s, rfl, ⟨wc, hs⟩, fun _ => ?_⟩)))))))
  refine blk_seq (blk_drop (ev_call0 (ea_cons (ev_var rfl (ea_cons (ev_var (t := tLit K) (x := g) rfl (ea_nil ⟨fun _ => rfl, allc trivial (all1 trivial), c, g, rfl, ⟨wc, hg⟩, fun _ => ?_⟩)))))))
  refine blk_ret (ev_meth0 (st_no (by decide)) (EvR.share (O := oStp Pg w K CS) (ev_make0 (O := oStp Pg w K CS) rfl (ea_cons (ev_var rfl (ea_nil ⟨fun _ => rfl, all1 trivial, (fun os _ => ∃ r', os = .ow (oStp Pg w K CS) c :: r'), ⟨c, rfl, wc, fun os => ⟨os, rfl⟩⟩, fun os y ⟨r', e⟩ => ⟨c, r', e, ?_⟩⟩))))))
  exact ea_cons (ev_var (t := tLit K) (x := s) rfl (ea_cons (ev_var (t := tLit K) (x := g) rfl (ea_nil ⟨fun h => (nomatch h), allc trivial (allc trivial (all1 trivial)), c, s, g, rfl, ⟨wc, hs, hg⟩, fun n _ => fin0 [_, _, _] _ (hpn n), fun L ok nl _ => fin0 [_, _, _] _ (hp L ok nl)⟩))))
abbrev NYfollows : List Str := ["clauses", "literal"]
theorem scYfollows : FnScope NYfollows ["clauses", "literal"] (defScope s_follows) := ⟨rfl, rfl, rfl, by decide +kernel, rfl, by decide +kernel, by decide +kernel⟩
theorem y_follows (T : Blt mg) (F : Has K mg "follows" s_follows) (YNEEDL : C8.Cal Pg w K mg base 3 "_need_literal" (Y.spZ (yNeedL K CC)) []) (YSTEPS : C8.Mak Pg w K mg base 2 "Steps" CS (Y.spZ (ctStp Pg w K CS CC)) []) (YREACHS : C8.Met Pg w K mg base 1 CS "reach" (Y.spZ (yReachS Pg w K CS)) []) : C8.Cal Pg w K mg base 4 "follows" (Y.spZ (yFollows K CC)) [] := by
  refine calF F (fun f fd F => F.binds (ps := ["clauses", "literal"]) fun _ _ _ _ _ _ us hl => match us, hl with | [_, _], _ => rfl) scYfollows (fun vs H Q E h => zlen (fun as P XP hc => by obtain ⟨_, _, rfl, _⟩ := hc; rfl) h) (fun f cdv A outer s H vs Q E hr h => ?_)
  have hu := hu_of hr
  refine ⟨_, (pss_cons (ps_expr (C8.pe_c YNEEDL hr (by decide) rfl (pa_cons (pv 0) (pa_cons (pv 1) pa_nil))))
      (pss_one (ps_ret (pe_callB (Own.cr_sortD (e := Y.eTB) hr.units) (by rfl) T.b_sorted (by decide +kernel) (pa_cons (pe_callTy (Own.call_list_dN rfl) (by rfl) T.b_list (by decide +kernel) (pa_cons (C8.pe_mt YREACHS hr (by decide) (C8.pe_mk YSTEPS hr (by decide) rfl (pa_cons (pv 0) pa_nil)) (pa_cons (pv 1) pa_nil)) pa_nil)) pa_nil))))), zrun h ?_⟩
  rintro as P XP ⟨c, s, rfl, ⟨wc, hs⟩, hp⟩ hl
  obtain ⟨p0, p1, rfl⟩ := len2 hl
  refine ⟨0, rfl, by decide, ?_⟩
  refine blk_seq (blk_drop (ev_call0 (ea_cons (ev_var rfl (ea_cons (ev_var (t := tLit K) (x := s) rfl (ea_nil ⟨fun _ => rfl, allc trivial (all1 trivial), c, s, rfl, ⟨wc, hs⟩, fun _ => ?_⟩)))))))
  refine blk_ret (ev_cb rc_sortTB (EvR.share (O := oL K (tLit K)) (ev_cb rc_listN (EvR.share (O := oDL Pg w K (tOpt (tLit K))) (ev_meth0 (st_no (by decide)) (EvR.share (O := oStp Pg w K CS) (ev_make0 (O := oStp Pg w K CS) rfl (ea_cons (ev_var rfl (ea_nil ⟨fun _ => rfl, all1 trivial, (fun os _ => ∃ r', os = .ow (oStp Pg w K CS) c :: r'), ⟨c, rfl, wc, fun os => ⟨os, rfl⟩⟩, fun os y ⟨r', e⟩ => ⟨c, r', e, ?_⟩⟩))))))))))
  refine ea_cons (ev_var (t := tLit K) (x := s) rfl (ea_nil ⟨fun h => (nomatch h), allc trivial (all1 trivial), c, s, rfl, ⟨wc, hs⟩, fun B b nb _ => ⟨fun h => (nomatch h), fun h => (nomatch h), fun ys py ay => ?_⟩⟩))
  exact fin0 [_, _] _ (hp ys (py.nodup_iff.mpr b.nd) (fun l => (py.mem_iff.trans b.rch)) ay fun l hl => nb l (py.mem_iff.mp hl))
end
end KK
end

section
set_option maxRecDepth 100000
set_option maxHeartbeats 4000000
/-! xs.index(x), by data -/
namespace Own
open PySem PySem.Spec PyProof.Rows L2
def rIdxD {α : Type} [DecidableEq α] [PySem.W.Datum α] (K : PySem.W.Frag) : V → List V → Hp → VK → Prop := fun x vs H Q => ∃ l v, ∃ (ys : List α) (y : α), x = .ref l ∧ vs = [v] ∧ Dp K H (.ref l) (.list (ys.map PySem.W.Datum.toD)) ∧ Dp K H v (PySem.W.Datum.toD y) ∧ y ∈ ys ∧ ys.length ≤ sizeLine ∧ Q (.int (ys.idxOf y : Nat)) H
theorem mtd_index {α : Type} [DecidableEq α] [PySem.W.Datum α] {X : Cx} (hu : X.A.units + 1 + PySem.W.Datum.depth α < cLine) : MtR X "list.index" (rIdxD (α := α) X.K) := by
  intro pins s σ H x vs v us Q I rx rv h
  obtain ⟨l, z, ys, y, ex, ev, hl, hz, hy, hn, q⟩ := h
  subst ex
  subst ev
  obtain rfl : v = Value.ref l := rx
  obtain ⟨u, eu, rb⟩ := vals1 rv
  subst eu
  obtain ⟨as, r1⟩ := Dp.reads I _ _ _ hl (show RelV (.ref l) (Value.ref l) from rfl)
  obtain ⟨bs, r2⟩ := Dp.reads I _ _ u hz rb
  cases r1 with
  | list ho hc hd r =>
    refine PySem.W.index_list_datum (α := α) ⟨_, ho, hc, _, hd⟩ ⟨_, r⟩ ⟨_, r2⟩ hu hn hy ?_
    exact ⟨.int _, H, I.tok _, ⟨_, rfl⟩, q⟩
theorem mtd_indexTB {X : Cx} (hu : X.A.units + 64 < cLine) : MtR X "list.index" (rIdxD (α := Str × Bool) X.K) := mtd_index (Nat.lt_of_le_of_lt (by
  have : PySem.W.Datum.depth (Str × Bool) ≤ 60 := by decide
  omega) hu)
end Own
end

section
set_option maxRecDepth 100000
set_option maxHeartbeats 4000000
/-! xs.index(x); a tuple of anything, or no tuple -/
namespace Y
open PySem PySem.Spec PyProof.Rows L2
theorem idx_at {α : Type} [DecidableEq α] {y : α} {xs : List α} (h : y ∈ xs) : xs[xs.idxOf y]? = some y := by
  have hj : xs.idxOf y < xs.length := List.idxOf_lt_length_iff.mpr h
  rw [List.getElem?_eq_getElem hj, List.getElem_idxOf hj]
section
variable {X : Xw} {k : Bool} {G : Ct} {K : PySem.W.Frag} {α β : Type} {t : Ty α} {u : Ty β}
theorem ev_indexTB {to ty : TE} {P : Ct → Int → Prop} (h : Ev X k to G (tLs K (tT2 K tStr tBl)) fun G1 xs => Ev X k ty G1 (tT2 K tStr tBl) fun G2 y => (y ∈ xs ∧ xs.length ≤ sizeLine) ∧ ∀ j : Nat, xs[j]? = some y → P G2 (j : Int)) : Ev X k (tBM K "list" (Own.rIdxD (α := Str × Bool) K) to (tCons ty tNil)) G tInt P := fun W H σ Q hs ex q =>
  h W H σ _ hs ex fun v W1 H1 G1 xs p m rv => by
    have rv0 := rv
    obtain ⟨a, vs, rfl, sq, pp⟩ := rv0
    refine ⟨.inl ⟨rfl, vs, sq.l⟩, p W1 H1 σ _ m.hs (ex.mv m.go) fun w W2 H2 G2 y ⟨⟨hy, hl⟩, c⟩ m2 rw => ?_⟩
    have r2 := (tLs K (tT2 K tStr tBl)).mv rv m2.go
    have hg := idx_at (α := Str × Bool) hy
    exact ⟨a, w, xs, y, rfl, rfl, (eqe_L (eqe_T2 (K := K) eqe_S eqe_B)).enc _ _ _ _ r2, enc_TB _ _ _ _ rw, hy, hl, q (.int (@List.idxOf (Str × Bool) instBEqOfDecidableEq y xs : Nat)) W2 H2 G2 _ (c _ hg) (m.trans m2) (show V.int _ = V.int _ from rfl)⟩
def tTV (K : PySem.W.Frag) : Ty (Option (List V)) := ⟨fun W H v o => match o with
  | some vs => (tTu K (tV K)).R W H v vs
  | none => flatV v = true ∨ ∃ a vs, v = .ref a ∧ SqW K W H a vs, by
  rintro W W' H H' v (_ | d) r m
  · rcases r with h | ⟨a, vs, e, sq⟩
    · exact .inl h
    · exact .inr ⟨a, vs, e, sq.mv m⟩
  · exact (tTu K (tV K)).go (x := d) r m⟩
theorem tv_ty {W : Wd} {H : Hp} {v : V} {o : Option (List V)} (ok : OKW W H) (r : (tTV K).R W H v o) : ∃ A, TyX K H v (.type A) ∧ kitB A "tuple" = some o.isSome := by
  cases o with
  | some d =>
    obtain ⟨a, vs, rfl, sq, _⟩ : (tTu K (tV K)).R W H v d := r
    exact ⟨_, .base (.tup (sq.at ok)), show kitB "tuple" "tuple" = some true by decide +kernel⟩
  | none =>
    rcases r with h | ⟨a, vs, rfl, sq⟩
    · cases v with
      | non => exact ⟨_, .base .non, by decide +kernel⟩
      | bl b => exact ⟨_, .base (.bl b), by decide +kernel⟩
      | int b => exact ⟨_, .base (.int b), by decide +kernel⟩
      | str b => exact ⟨_, .base (.str b), by decide +kernel⟩
      | _ => cases h
    · exact ⟨_, .base (.lst sq.2), by decide +kernel⟩
theorem ev_isTV {te : TE} {P : Ct → Bool → Prop} (h : Ev X k te G (tTV K) fun G1 o => P G1 o.isSome) : Ev X k (tCB (rIsi K) (tCons te (tCons (tC (.ty "tuple")) tNil))) G tBl P := fun W H σ Q hs ex q =>
  h W H σ _ hs ex fun v W1 H1 G1 o p m r => by
    obtain ⟨A, t, kb⟩ := tv_ty m.hs.ok r
    exact ⟨v, .ty "tuple", .type A, .type "tuple", _, rfl, .ty "tuple", t, kit_ty kb, q _ W1 H1 G1 _ p m rfl⟩
theorem ev_varTV {i : Nat} {d : List V} {P : Ct → List V → Prop} (e : G.s[i]? = some (.sh (tTV K) (some d))) (p : P G d) : Ev X k (tVar i) G (tTu K (tV K)) P := fun W H σ Q hs ex q => by
  obtain ⟨v, e1, r⟩ := hs.var e
  exact ⟨v, e1, q v W H G d p (.refl hs) r⟩
theorem ev_tuTV {te : TE} {P : Ct → Option (List V) → Prop} (h : Ev X k te G (tTu K (tV K)) fun G d => P G (some d)) : Ev X k te G (tTV K) P := Ev.as some h fun _ _ _ _ r => r
theorem ev_flatTV {te : TE} {P : Ct → Option (List V) → Prop} (c : ∀ W H v x, t.R W H v x → flatV v = true) (h : Ev X k te G t fun G _ => P G none) : Ev X k te G (tTV K) P := Ev.as (fun _ => none) h fun W H v x r => .inl (c W H v x r)
theorem ev_lsTV {te : TE} {P : Ct → Option (List V) → Prop} (h : Ev X k te G (tLs K t) fun G _ => P G none) : Ev X k te G (tTV K) P := Ev.as (fun _ => none) h fun W H v x ⟨a, vs, e, sq, _⟩ => .inr ⟨a, vs, e, sq⟩
/-- a literal as a tuple of anything -/
theorem ev_litT {te : TE} {P : Ct → List V → Prop} (h : Ev X k te G (tT2 K tStr tBl) fun G x => P G [.str x.1, .bl x.2]) : Ev X k te G (tTu K (tV K)) P := Ev.as (t := tT2 K tStr tBl) (u := tTu K (tV K)) (fun x => [V.str x.1, V.bl x.2]) h fun W H v x ⟨a, p, q, e, sq, r1, r2⟩ => by
  obtain rfl : p = .str x.1 := r1
  obtain rfl : q = .bl x.2 := r2
  exact ⟨a, _, e, sq, .cons ⟨rfl, .inl rfl⟩ (.cons ⟨rfl, .inl rfl⟩ .nil)⟩
end
end Y
end

section
set_option maxRecDepth 100000
set_option maxHeartbeats 4000000
namespace KK
open PySem PySem.Spec PyProof.Rows L2 Y
/-! what is no literal -/
def BadL (ns : List Str) (o : Option (List V)) : Prop := ∀ a b, o = some [a, b] → inMs a ns = false ∨ isBlV b = false
abbrev yAmongLV (K : PySem.W.Frag) : Y.CT Bool := ⟨true, .sh tBl, fun as P _ => ∃ v ns, as = [.sh (tV K) v, .sh (tLs K tStr) ns] ∧ ∀ os, P os (inMs v ns)⟩
abbrev yIsLitN (K : PySem.W.Frag) : Y.CT Bool := ⟨true, .sh tBl, fun as P _ => ∃ o ns, as = [.sh (tTV K) o, .sh (tLs K tStr) ns] ∧ BadL ns o ∧ ∀ os, P os false⟩
abbrev yNeedLN (K : PySem.W.Frag) (CC CB : Addr) : Y.CT Unit := ⟨true, .sh tNon, fun as P XP => ∃ c o, as = [.sh (yCl K CC) c, .sh (tTV K) o] ∧ (WfC c ∧ BadL c.ns o) ∧ ∀ os, XP os ⟨CB, none⟩⟩
abbrev yFollowsN (K : PySem.W.Frag) (CC CB : Addr) : Y.CT (List Lit) := ⟨true, .ow (oL K (tLit K)), fun as P XP => ∃ c o, as = [.sh (yCl K CC) c, .sh (tTV K) o] ∧ (WfC c ∧ BadL c.ns o) ∧ ∀ os, XP os ⟨CB, none⟩⟩
abbrev yChainN1 (K : PySem.W.Frag) (CC CB : Addr) : Y.CT (Option (List Lit)) := ⟨true, .ow (oOpt (oL K (tLit K))), fun as P XP => ∃ c o g, as = [.sh (yCl K CC) c, .sh (tTV K) o, .sh (tLit K) g] ∧ (WfC c ∧ BadL c.ns o) ∧ ∀ os, XP os ⟨CB, none⟩⟩
abbrev yChainN2 (K : PySem.W.Frag) (CC CB : Addr) : Y.CT (Option (List Lit)) := ⟨true, .ow (oOpt (oL K (tLit K))), fun as P XP => ∃ c g o, as = [.sh (yCl K CC) c, .sh (tLit K) g, .sh (tTV K) o] ∧ (WfC c ∧ g.1 ∈ c.ns ∧ BadL c.ns o) ∧ ∀ os, XP os ⟨CB, none⟩⟩
section
variable {Pg : Program} {w : World} {K : PySem.W.Frag} {mg : Str → Option Value} {base : Heap} {CC CS CB : Addr}
abbrev NYisamongLV : List Str := ["value", "names"]
theorem scYisamongLV : FnScope NYisamongLV ["value", "names"] (defScope s_is_among) := ⟨rfl, rfl, rfl, by decide +kernel, rfl, by decide +kernel, by decide +kernel⟩
theorem y_amongLV (T : Blt mg) (F : Has K mg "is_among" s_is_among) : C8.Cal Pg w K mg base 1 "is_among" (Y.spZ (yAmongLV K)) [] := by
  refine calF F (fun f fd F => F.binds (ps := ["value", "names"]) fun _ _ _ _ _ _ us hl => match us, hl with | [_, _], _ => rfl) scYisamongLV (fun vs H Q E h => zlen (fun as P XP hc => by obtain ⟨_, _, rfl, _⟩ := hc; rfl) h) (fun f cdv A outer s H vs Q E hr h => ?_)
  have hu := hu_of hr
  refine ⟨_, (pss_one (ps_ret (pe_and (pe_callB (show CallR _ (.builtin "isinstance") (rIsi K) from call_isi) (by rfl) T.b_isinstance (by decide +kernel) (pa_cons (pv 0) (pa_cons (pe_bltn (v := .ty "str") (by rfl) T.b_str (by decide +kernel) rfl) pa_nil))) (pe_one (pe_cmpR op_in_seq (pv 0) (pv 1) (by rfl)))))), zrun h ?_⟩
  rintro as P XP ⟨x, ns, rfl, hp⟩ hl
  obtain ⟨p0, p1, rfl⟩ := len2 hl
  refine ⟨0, rfl, by decide, ?_⟩
  refine blk_ret (ev_and (ev_isVs (ev_var (t := tV K) (x := x) rfl ⟨fun h => ?_, fun h => ?_⟩)))
  · obtain ⟨s, rfl⟩ := isStr_ex h
    exact ev_op (ro_inSL false) (ev_asS (ev_var (t := tV K) (x := V.str s) rfl ⟨s, rfl, ev_var (t := tLs K tStr) (x := ns) rfl (fin0 [_, _] _ hp)⟩))
  · refine fin0 [_, _] _ fun os => ?_
    have := hp os
    cases x with
    | str s => cases h
    | _ => exact this
abbrev NYisliteralN : List Str := ["value", "names"]
theorem scYisliteralN : FnScope NYisliteralN ["value", "names"] (defScope s_is_literal) := ⟨rfl, rfl, rfl, by decide +kernel, rfl, by decide +kernel, by decide +kernel⟩
theorem y_islitN (T : Blt mg) (F : Has K mg "is_literal" s_is_literal) (YAMONGLV : C8.Cal Pg w K mg base 1 "is_among" (Y.spZ (yAmongLV K)) []) : C8.Cal Pg w K mg base 2 "is_literal" (Y.spZ (yIsLitN K)) [] := by
  refine calF F (fun f fd F => F.binds (ps := ["value", "names"]) fun _ _ _ _ _ _ us hl => match us, hl with | [_, _], _ => rfl) scYisliteralN (fun vs H Q E h => zlen (fun as P XP hc => by obtain ⟨_, _, rfl, _⟩ := hc; rfl) h) (fun f cdv A outer s H vs Q E hr h => ?_)
  have hu := hu_of hr
  refine ⟨_, (pss_cons (ps_if (PW.pt (pw_or (pt_not (pt_val (pe_callB (show CallR _ (.builtin "isinstance") (rIsi K) from call_isi) (by rfl) T.b_isinstance (by decide +kernel) (pa_cons (pv 0) (pa_cons (pe_bltn (v := .ty "tuple") (by rfl) T.b_tuple (by decide +kernel) rfl) pa_nil))))) (pw_or1 (pt_cmpR op_ne (pe_callB call_len (by rfl) T.b_len PySem.boot_len (pa_cons (pv 0) pa_nil)) pe_int (nomark _))))) (pss_one (ps_ret pe_bl)) pss_nil)
      (pss_one (ps_ret (pe_and (C8.pe_c YAMONGLV hr (by decide) rfl (pa_cons (pe_ix ix_tup (pv 0) pe_int (fun _ _ => rfl)) (pa_cons (pv 1) pa_nil))) (pe_one (pe_callB (show CallR _ (.builtin "isinstance") (rIsi K) from call_isi) (by rfl) T.b_isinstance (by decide +kernel) (pa_cons (pe_ix ix_tup (pv 0) pe_int (fun _ _ => rfl)) (pa_cons (pe_bltn (v := .ty "bool") (by rfl) T.b_bool (by decide +kernel) rfl) pa_nil)))))))), zrun h ?_⟩
  rintro as P XP ⟨o, ns, rfl, hb, hp⟩ hl
  obtain ⟨p0, p1, rfl⟩ := len2 hl
  refine ⟨0, rfl, by decide, ?_⟩
  refine blk_seq (blk_if (et_or (et_not (et_b (ev_isTV (ev_var (t := tTV K) (x := o) rfl ⟨fun h => ?_, fun h => ?_⟩))))))
  · exact ⟨fun _ => blk_ret (ev_c (t := tBl) (fun _ _ => rfl) (fin0 [_, _] _ hp)), fun h => (nomatch h)⟩
  cases o with
  | none => cases h
  | some vs =>
  refine et_b (ev_op ro_neI (ev_cb rc_lenT (ev_varTV (d := vs) rfl ⟨fun h => (nomatch h), ev_c (t := tInt) (fun _ _ => rfl) ⟨fun _ => blk_ret (ev_c (t := tBl) (fun _ _ => rfl) (fin0 [_, _] _ hp)), fun h => blk_next ?_⟩⟩)))
  have h : (vs.length : Int) = 2 := by simpa using h
  obtain ⟨a, b, rfl⟩ : ∃ a b, vs = [a, b] := by
    match vs, h with
    | [a, b], _ => exact ⟨a, b, rfl⟩
    | [], h => exact absurd h (by decide)
    | [_], h => exact absurd h (by simp only [List.length_cons, List.length_nil]; omega)
    | _ :: _ :: _ :: l, h => exact absurd h (by simp only [List.length_cons]; omega)
  have hb := hb a b rfl
  refine blk_ret (ev_and (ev_call0 (ea_cons (ev_op ro_ixT (ev_varTV (d := [a, b]) rfl (ev_c (t := tInt) (fun _ _ => rfl) ⟨a, rfl, ea_cons (ev_var (t := tLs K tStr) (x := ns) rfl (ea_nil ⟨fun _ => rfl, allc trivial (all1 trivial), a, ns, rfl, fun _ => ⟨fun h => ?_, fun h => fin0 [_, _] _ hp⟩⟩))⟩))))))
  refine ev_isVb (ev_op ro_ixT (ev_varTV (d := [a, b]) rfl (ev_c (t := tInt) (fun _ _ => rfl) ⟨b, rfl, ?_⟩)))
  rcases hb with q | q
  · rw [q] at h; cases h
  · rw [q]
    exact fin0 [_, _] _ hp
abbrev NYneedliteralN : List Str := ["clauses", "literal"]
theorem scYneedliteralN : FnScope NYneedliteralN ["clauses", "literal"] (defScope s_need_literal) := ⟨rfl, rfl, rfl, by decide +kernel, rfl, by decide +kernel, by decide +kernel⟩
theorem y_needlN (T : Blt mg) (F : Has K mg "_need_literal" s_need_literal) (YCLNAMES : C8.Met Pg w K mg base 1 CC "names" (Y.spZ (yClNames K CC)) []) (YISLITN : C8.Cal Pg w K mg base 2 "is_literal" (Y.spZ (yIsLitN K)) []) (EBadLiteral : ErrN K mg "BadLiteral" CB) : Own.CalX Pg w K mg base 3 "_need_literal" (Y.spZ (yNeedLN K CC CB)) := by
  refine fnY F (fun f fd F => F.binds (ps := ["clauses", "literal"]) fun _ _ _ _ _ _ us hl => match us, hl with | [_, _], _ => rfl) scYneedliteralN (fun vs H Q E h => zlen (fun as P XP hc => by obtain ⟨_, _, rfl, _⟩ := hc; rfl) h) (fun f cdv A outer s H vs Q E hr h => ?_)
  have hu := hu_of hr
  refine ⟨_, (pss_one (ps_if (pt_not (pt_val (C8.pe_c YISLITN hr (by decide) rfl (pa_cons (pv 1) (pa_cons (C8.pe_mt0 YCLNAMES hr (by decide) (pv 0)) pa_nil))))) (pss_one (Own.ps_raise0 rfl EBadLiteral.q EBadLiteral.gC EBadLiteral.kC EBadLiteral.exC EBadLiteral.tyC (takes_of rfl rfl rfl rfl))) pss_nil)), zrun h ?_⟩
  rintro as P XP ⟨c, o, rfl, ⟨wc, hm⟩, hx⟩ hl
  obtain ⟨p0, p1, rfl⟩ := len2 hl
  refine ⟨0, rfl, by decide, ?_⟩
  exact blk_if (et_not (et_b (ev_call0 (ea_cons (ev_var (t := tTV K) (x := o) rfl (ea_cons (EvR.share (O := oL K tStr) (ev_meth0 (cl_no (by decide)) (ev_var rfl (ea_nil ⟨fun _ => rfl, all1 trivial, c, rfl, fun _ => ea_nil ⟨fun _ => rfl, allc trivial (all1 trivial), o, c.ns, rfl, hm, fun _ => ⟨fun _ => blk_raise0 (fin0 [_, _] _ hx), fun h => (nomatch h)⟩⟩⟩))))))))))
abbrev NYfollowsN : List Str := ["clauses", "literal"]
theorem scYfollowsN : FnScope NYfollowsN ["clauses", "literal"] (defScope s_follows) := ⟨rfl, rfl, rfl, by decide +kernel, rfl, by decide +kernel, by decide +kernel⟩
theorem y_followsN (T : Blt mg) (F : Has K mg "follows" s_follows) (YNEEDLN : Own.CalX Pg w K mg base 3 "_need_literal" (Y.spZ (yNeedLN K CC CB))) (YSTEPS : C8.Mak Pg w K mg base 2 "Steps" CS (Y.spZ (ctStp Pg w K CS CC)) []) (YREACHS : C8.Met Pg w K mg base 1 CS "reach" (Y.spZ (yReachS Pg w K CS)) []) : Own.CalX Pg w K mg base 4 "follows" (Y.spZ (yFollowsN K CC CB)) := by
  refine fnY F (fun f fd F => F.binds (ps := ["clauses", "literal"]) fun _ _ _ _ _ _ us hl => match us, hl with | [_, _], _ => rfl) scYfollowsN (fun vs H Q E h => zlen (fun as P XP hc => by obtain ⟨_, _, rfl, _⟩ := hc; rfl) h) (fun f cdv A outer s H vs Q E hr h => ?_)
  have hu := hu_of hr
  refine ⟨_, (pss_cons (ps_expr (Own.pe_cxS YNEEDLN hr (by decide) (takes_of rfl rfl rfl rfl) rfl (pa_cons (pv 0) (pa_cons (pv 1) pa_nil))))
      (pss_one (ps_ret (pe_callB (Own.cr_sortD (e := Y.eTB) hr.units) (by rfl) T.b_sorted (by decide +kernel) (pa_cons (pe_callTy (Own.call_list_dN rfl) (by rfl) T.b_list (by decide +kernel) (pa_cons (C8.pe_mt YREACHS hr (by decide) (C8.pe_mk YSTEPS hr (by decide) rfl (pa_cons (pv 0) pa_nil)) (pa_cons (pv 1) pa_nil)) pa_nil)) pa_nil))))), zrun h ?_⟩
  rintro as P XP ⟨c, o, rfl, hq, hx⟩ hl
  obtain ⟨p0, p1, rfl⟩ := len2 hl
  refine ⟨0, rfl, by decide, ?_⟩
  exact blk_seq (blk_drop (r := .sh tNon) (ev_void (ev_call (ea_cons (ev_var rfl (ea_cons (ev_var (t := tTV K) (x := o) rfl (ea_nil ⟨fun _ => rfl, allc trivial (all1 trivial), (fun _ _ => False), (fun _ e => e = ⟨CB, none⟩), ⟨c, o, rfl, hq, fun _ => rfl⟩, fun _ _ h => h, fun _ e he => by rw [he]; exact fin0 [_, _] _ hx⟩))))))))
abbrev NYchainN1 : List Str := ["clauses", "literal", "goal"]
theorem scYchainN1 : FnScope NYchainN1 ["clauses", "literal", "goal"] (defScope s_chain) := ⟨rfl, rfl, rfl, by decide +kernel, rfl, by decide +kernel, by decide +kernel⟩
theorem y_chainN1 (T : Blt mg) (F : Has K mg "chain" s_chain) (YNEEDLN : Own.CalX Pg w K mg base 3 "_need_literal" (Y.spZ (yNeedLN K CC CB))) (YNEEDL : C8.Cal Pg w K mg base 3 "_need_literal" (Y.spZ (yNeedL K CC)) []) (YSTEPS : C8.Mak Pg w K mg base 2 "Steps" CS (Y.spZ (ctStp Pg w K CS CC)) []) (YSCHAIN : C8.Met Pg w K mg base 2 CS "chain" (Y.spZ (yChainS Pg w K CS)) []) : Own.CalX Pg w K mg base 4 "chain" (Y.spZ (yChainN1 K CC CB)) := by
  refine fnY F (fun f fd F => F.binds (ps := ["clauses", "literal", "goal"]) fun _ _ _ _ _ _ us hl => match us, hl with | [_, _, _], _ => rfl) scYchainN1 (fun vs H Q E h => zlen (fun as P XP hc => by obtain ⟨_, _, _, rfl, _⟩ := hc; rfl) h) (fun f cdv A outer s H vs Q E hr h => ?_)
  have hu := hu_of hr
  refine ⟨_, (pss_cons (ps_expr (Own.pe_cxS YNEEDLN hr (by decide) (takes_of rfl rfl rfl rfl) rfl (pa_cons (pv 0) (pa_cons (pv 1) pa_nil))))
      (pss_cons (ps_expr (C8.pe_c YNEEDL hr (by decide) rfl (pa_cons (pv 0) (pa_cons (pv 2) pa_nil))))
      (pss_one (ps_ret (C8.pe_mt YSCHAIN hr (by decide) (C8.pe_mk YSTEPS hr (by decide) rfl (pa_cons (pv 0) pa_nil)) (pa_cons (pv 1) (pa_cons (pv 2) pa_nil))))))), zrun h ?_⟩
  rintro as P XP ⟨c, o, g, rfl, hq, hx⟩ hl
  obtain ⟨p0, p1, p2, rfl⟩ := len3 hl
  refine ⟨0, rfl, by decide, ?_⟩
  exact blk_seq (blk_drop (r := .sh tNon) (ev_void (ev_call (ea_cons (ev_var rfl (ea_cons (ev_var (t := tTV K) (x := o) rfl (ea_nil ⟨fun _ => rfl, allc trivial (all1 trivial), (fun _ _ => False), (fun _ e => e = ⟨CB, none⟩), ⟨c, o, rfl, hq, fun _ => rfl⟩, fun _ _ h => h, fun _ e he => by rw [he]; exact fin0 [_, _, _] _ hx⟩))))))))
abbrev NYchainN2 : List Str := ["clauses", "literal", "goal"]
theorem scYchainN2 : FnScope NYchainN2 ["clauses", "literal", "goal"] (defScope s_chain) := ⟨rfl, rfl, rfl, by decide +kernel, rfl, by decide +kernel, by decide +kernel⟩
theorem y_chainN2 (T : Blt mg) (F : Has K mg "chain" s_chain) (YNEEDLN : Own.CalX Pg w K mg base 3 "_need_literal" (Y.spZ (yNeedLN K CC CB))) (YNEEDL : C8.Cal Pg w K mg base 3 "_need_literal" (Y.spZ (yNeedL K CC)) []) (YSTEPS : C8.Mak Pg w K mg base 2 "Steps" CS (Y.spZ (ctStp Pg w K CS CC)) []) (YSCHAIN : C8.Met Pg w K mg base 2 CS "chain" (Y.spZ (yChainS Pg w K CS)) []) : Own.CalX Pg w K mg base 4 "chain" (Y.spZ (yChainN2 K CC CB)) := by
  refine fnY F (fun f fd F => F.binds (ps := ["clauses", "literal", "goal"]) fun _ _ _ _ _ _ us hl => match us, hl with | [_, _, _], _ => rfl) scYchainN2 (fun vs H Q E h => zlen (fun as P XP hc => by obtain ⟨_, _, _, rfl, _⟩ := hc; rfl) h) (fun f cdv A outer s H vs Q E hr h => ?_)
  have hu := hu_of hr
  refine ⟨_, (pss_cons (ps_expr (C8.pe_c YNEEDL hr (by decide) rfl (pa_cons (pv 0) (pa_cons (pv 1) pa_nil))))
      (pss_cons (ps_expr (Own.pe_cxS YNEEDLN hr (by decide) (takes_of rfl rfl rfl rfl) rfl (pa_cons (pv 0) (pa_cons (pv 2) pa_nil))))
      (pss_one (ps_ret (C8.pe_mt YSCHAIN hr (by decide) (C8.pe_mk YSTEPS hr (by decide) rfl (pa_cons (pv 0) pa_nil)) (pa_cons (pv 1) (pa_cons (pv 2) pa_nil))))))), zrun h ?_⟩
  rintro as P XP ⟨c, g, o, rfl, ⟨wc, hg, hb⟩, hx⟩ hl
  obtain ⟨p0, p1, p2, rfl⟩ := len3 hl
  refine ⟨0, rfl, by decide, ?_⟩
  refine blk_seq (blk_drop (ev_call0 (ea_cons (ev_var rfl (ea_cons (ev_var (t := tLit K) (x := g) rfl (ea_nil ⟨fun _ => rfl, allc trivial (all1 trivial), c, g, rfl, ⟨wc, hg⟩, fun _ => ?_⟩)))))))
  exact blk_seq (blk_drop (r := .sh tNon) (ev_void (ev_call (ea_cons (ev_var rfl (ea_cons (ev_var (t := tTV K) (x := o) rfl (ea_nil ⟨fun _ => rfl, allc trivial (all1 trivial), (fun _ _ => False), (fun _ e => e = ⟨CB, none⟩), ⟨c, o, rfl, ⟨wc, hb⟩, fun _ => rfl⟩, fun _ _ h => h, fun _ e he => by rw [he]; exact fin0 [_, _, _] _ hx⟩))))))))
end
end KK
end

section
set_option maxRecDepth 100000
set_option maxHeartbeats 4000000
namespace KK
open PySem PySem.Spec PyProof.Rows L2 Y
/-! chains: their last literal, the row of a step -/
theorem at_lastL {α : Type} {L : List α} {l : α} (h : L.getLast? = some l) : atI L (-1) = some l := by
  have pos : 0 < L.length := List.length_pos_iff.mpr fun e => by rw [e] at h; cases h
  unfold atI ixN
  rw [if_neg (by decide), if_pos (by omega)]
  show L[(-1 + (L.length : Int)).toNat]? = some l
  rw [show (-1 + (L.length : Int)).toNat = L.length - 1 from by omega, ← List.getLast?_eq_getElem?]
  exact h
abbrev eqe_Row {K : PySem.W.Frag} := eqe_T2 (K := K) (eqe_Lit (K := K)) (eqe_Lit (K := K))
/-- a step's row, one way or the other -/
theorem step_row {rs : List Row} {a b : Lit} (h : b ∈ headsOf rs a) : (opp a, b) ∈ rs ∨ (b, opp a) ∈ rs := by
  obtain ⟨r, hr, ⟨e, rfl⟩ | ⟨e, rfl⟩⟩ := mem_heads.mp h
  · left
    rw [← e, opp_opp]
    exact hr
  · right
    rw [← e, opp_opp]
    exact hr
end KK
end

section
set_option maxRecDepth 100000
set_option maxHeartbeats 4000000
namespace KK
open PySem PySem.Spec PyProof.Rows L2 Y
/-! what follows, by hand (k52) -/
theorem opp_iff {a b : Lit} : opp a = b ↔ a = opp b := ⟨fun e => by rw [← e, opp_opp], fun e => by rw [e, opp_opp]⟩
abbrev yLClos (K : PySem.W.Frag) : Y.CT (List Lit) := ⟨true, .ow (oL K (tLit K)), fun as P _ => ∃ (l : Lit) (rs : List Row) (ns : List Str), as = [.sh (tLit K) l, .sh (tLs K (tRow K)) rs] ∧ (l.1 ∈ ns ∧ ns.Nodup ∧ ns.length ≤ 12 ∧ (∀ x ∈ ns, PyData.strOk x = true) ∧ ∀ r ∈ rs, r.1.1 ∈ ns ∧ r.2.1 ∈ ns) ∧ ∀ ks, ks.Nodup → (∀ m, m ∈ ks ↔ Rch rs l m) → AscT ks → ∀ os, P os ks⟩
abbrev yLChain4 (K : PySem.W.Frag) : Y.CT Bool := ⟨true, .sh tBl, fun as P _ => ∃ (L : List Lit) (s g : Lit) (rs : List Row), as = [.sh (tLs K (tLit K)) L, .sh (tLit K) s, .sh (tLit K) g, .sh (tLs K (tRow K)) rs] ∧ (ChainOk rs s g L ∧ L.length ≤ 1000 ∧ (∀ l ∈ L, PyData.strOk l.1 = true ∧ True) ∧ ∀ r ∈ rs, (PyData.strOk r.1.1 = true ∧ True) ∧ (PyData.strOk r.2.1 = true ∧ True)) ∧ ∀ os, P os true⟩
abbrev yLRefL (K : PySem.W.Frag) (CC : Addr) : Y.CT Bool := ⟨true, .sh tBl, fun as P _ => ∃ c o g, as = [.sh (yCl K CC) c, .sh (tTV K) o, .sh (tLit K) g] ∧ (WfC c ∧ g.1 ∈ c.ns ∧ BadL c.ns o) ∧ ∀ os, P os true⟩
/-- while it is being listed -/
structure ClsI (ns : List Str) (rs : List Row) (l : Lit) (i : Nat) (R : List Lit) : Prop where
  nd : R.Nodup
  h0 : l ∈ R
  rc : ∀ m ∈ R, Rch rs l m
  ns : ∀ m ∈ R, m.1 ∈ ns
  cl : ∀ j m, j < i → R[j]? = some m → ∀ h ∈ headsOf rs m, h ∈ R
  hi : i ≤ R.length
theorem ClsI.fin {ns : List Str} {rs : List Row} {l : Lit} {R : List Lit} (c : ClsI ns rs l R.length R) (m : Lit) : m ∈ R ↔ Rch rs l m := by
  constructor
  · exact c.rc m
  · intro h
    induction h with
    | refl => exact c.h0
    | step _ hh ih =>
      obtain ⟨j, hj⟩ := List.getElem?_of_mem ih
      exact c.cl j _ (List.getElem?_eq_some_iff.mp hj).1 hj _ hh
theorem ClsI.len {ns : List Str} {rs : List Row} {l : Lit} {i : Nat} {R : List Lit} (c : ClsI ns rs l i R) (h : ns.length ≤ 12) : R.length ≤ 24 := by
  have := sub_lenS c.nd fun m hm => mem_lits.mpr (c.ns m hm)
  rw [lits_len] at this
  omega
section
variable {Pg : Program} {w : World} {K : PySem.W.Frag} {mg : Str → Option Value} {base : Heap} {CC CB : Addr}
abbrev NYLclosure : List Str := ["_law_literal", "_law_rows", "_law_found", "_law_k", "_law_left", "_law_one", "_law_other"]
theorem scYLclosure : FnScope NYLclosure ["_law_literal", "_law_rows"] (defScope s_law_closure) := ⟨rfl, rfl, rfl, by decide +kernel, rfl, by decide +kernel, by decide +kernel⟩
theorem y_lclos (T : Blt mg) (F : Has K mg "_law_closure" s_law_closure) : C8.Cal Pg w K mg base 1 "_law_closure" (Y.spZ (yLClos K)) [] := by
  refine calF F (fun f fd F => F.binds (ps := ["_law_literal", "_law_rows"]) fun _ _ _ _ _ _ us hl => match us, hl with | [_, _], _ => rfl) scYLclosure (fun vs H Q E h => zlen (fun as P XP hc => by obtain ⟨_, _, _, rfl, _⟩ := hc; rfl) h) (fun f cdv A outer s H vs Q E hr h => ?_)
  have hu := hu_of hr
  refine ⟨_, (pss_cons (ps_set (i := 2) scYLclosure.nd rfl (Or.inl rfl) (pe_lst (pa_cons (pv 0) pa_nil)))
      (pss_cons (ps_for PassesOwn.never rfl (pi_range1 rfl T.b_range (pa_cons pe_int pa_nil)) (pg_name (i := 3) scYLclosure.nd rfl (Or.inl rfl))
        (pss_cons (ps_if (pt_cmpR op_eq (pv 3) (pe_callB call_len (by rfl) T.b_len PySem.boot_len (pa_cons (pv 2) pa_nil)) (nomark _)) (pss_one ps_break) pss_nil)
      (pss_cons (ps_set (i := 4) scYLclosure.nd rfl (Or.inl rfl) (pe_tup (pa_cons (pe_ix ix_tup (pe_ix ix_list (pv 2) (pv 3) (fun _ _ => rfl)) pe_int (fun _ _ => rfl)) (pa_cons (pe_not (pe_ix ix_tup (pe_ix ix_list (pv 2) (pv 3) (fun _ _ => rfl)) pe_int (fun _ _ => rfl))) pa_nil))))
      (pss_one (ps_for PassesOwn.never rfl (pi_list (pv 1)) (pg_tup rfl (pgs_cons (pg_name (i := 5) scYLclosure.nd rfl (Or.inl rfl)) (pgs_cons (pg_name (i := 6) scYLclosure.nd rfl (Or.inl rfl)) pgs_nil)))
        (pss_cons (ps_if (PW.pt (pw_and (pt_cmpR (op_eqD hr.units) (pv 5) (pv 4) (nomark _)) (pw_and1 (pt_cmpR (Own.op_notInDL (room65 hr)) (pv 6) (pv 2) (by rfl))))) (pss_one (ps_expr (pe_bm PySem.F.plainAttrs_list PySem.F.slot_list_append PySem.F.type_list_append mt_append (pv 2) (pa_cons (pv 6) pa_nil)))) pss_nil)
      (pss_one (ps_if (PW.pt (pw_and (pt_cmpR (op_eqD hr.units) (pv 6) (pv 4) (nomark _)) (pw_and1 (pt_cmpR (Own.op_notInDL (room65 hr)) (pv 5) (pv 2) (by rfl))))) (pss_one (ps_expr (pe_bm PySem.F.plainAttrs_list PySem.F.slot_list_append PySem.F.type_list_append mt_append (pv 2) (pa_cons (pv 5) pa_nil)))) pss_nil))))))))
      (pss_one (ps_ret (pe_callB (Own.cr_sortD (e := Y.eTB) hr.units) (by rfl) T.b_sorted (by decide +kernel) (pa_cons (pv 2) pa_nil)))))), zrun h ?_⟩
  rintro as P XP ⟨l, rs, ns, rfl, ⟨hln, nd, n12, sok, ro⟩, hp⟩ hl
  obtain ⟨p0, p1, rfl⟩ := len2 hl
  refine ⟨5, rfl, by decide, ?_⟩
  have okR : ∀ {m : Lit}, m.1 ∈ ns → PyData.strOk m.1 = true ∧ True := fun h => ⟨sok _ h, trivial⟩
  refine blk_seq (blk_setO (O := oL K (tLit K)) (ev_list (K := K) (t := tLit K) (es_cons (ev_var (t := tLit K) (x := l) rfl (es_nil ⟨Nat.le_of_ble_eq_true rfl, rfl, ?_⟩)))))
  refine blk_cut (fun G => ∃ R s3 s4 s5 s6, ClsI ns rs l R.length R ∧ G = ⟨true, [.sh (tLit K) l, .sh (tLs K (tRow K)) rs, .ow (oL K (tLit K)) R, s3, s4, s5, s6], [some p0, some p1]⟩) ?_ ?_
  · refine blk_for (vs := [3]) (ei_range1 (ev_c (t := tInt) (fun _ _ => rfl) ⟨⟨by decide, by decide⟩, (fun i G' => ∃ R s3 s4 s5 s6, ClsI ns rs l i R ∧ G' = ⟨true, [.sh (tLit K) l, .sh (tLs K (tRow K)) rs, .ow (oL K (tLit K)) R, s3, s4, s5, s6], [some p0, some p1]⟩), ⟨[l], _, _, _, _, ⟨by simp, by simp, ?_, ?_, fun j m h => absurd h (by omega), Nat.zero_le _⟩, rfl⟩, ?_, ?_⟩))
    · intro m hm
      rw [List.mem_singleton] at hm
      rw [hm]
      exact .refl
    · intro m hm
      rw [List.mem_singleton] at hm
      rw [hm]
      exact hln
    rotate_left
    · rintro _ ⟨R, s3, s4, s5, s6, I, rfl⟩
      have h1 := I.hi
      have h2 := I.len n12
      rw [rangeZ_len] at h1
      exact absurd h1 (by omega)
    rintro i k _ hk ⟨R, s3, s4, s5, s6, I, rfl⟩
    obtain ⟨rfl, hi25⟩ := rangeZ_get hk
    have r24 := I.len n12
    refine tg_name (by decide) (free_of rfl) (blk_wipe [3, 4, 5, 6] ?_)
    refine blk_seq (blk_if (et_view (et_b (ev_op ro_eqI (ev_var rfl (ev_cb rc_lenL (ev_var (t := tLs K (tLit K)) (x := R) rfl ⟨fun h => (nomatch h), fun h => blk_break ?_, fun h => blk_next ?_⟩)))))))
    · have h : (0 : Int) + (i : Int) = R.length := of_decide_eq_true h
      have e : i = R.length := by omega
      subst e
      exact ⟨R, _, _, _, _, I, rfl⟩
    have h : ¬ (0 : Int) + (i : Int) = R.length := of_decide_eq_false h
    have hiR : i < R.length := by
      have := I.hi
      omega
    obtain ⟨a, ha⟩ : ∃ a, R[i]? = some a := ⟨_, List.getElem?_eq_getElem hiR⟩
    have haR := List.mem_of_getElem? ha
    refine blk_seq (blk_set (t := tLit K) (ev_t2 (ev_op ro_t20 (ev_ixO (pt_var (i := 2) rfl (by decide)) (ev_var rfl ⟨a, at_ofN (j := i) (by omega) ha, ev_c (t := tInt) (fun _ _ => rfl) ⟨rfl, ev_not (ev_op ro_t21 (ev_ixO (pt_var (i := 2) rfl (by decide)) (ev_var rfl ⟨a, at_ofN (j := i) (by omega) ha, ev_c (t := tInt) (fun _ _ => rfl) ⟨rfl, rfl, ?_⟩⟩)))⟩⟩)))))
    refine blk_norm ⟨true, [.sh (tLit K) l, .sh (tLs K (tRow K)) rs, .ow (oL K (tLit K)) R, .sh tInt (0 + (i : Int)), .sh (tLit K) (opp a), s5, s6], [some p0, some p1]⟩ rfl ?_
    refine blk_for (vs := [5, 6]) (ei_list (ev_var (t := tLs K (tRow K)) (x := rs) rfl ⟨(fun q G' => ∃ E s5 s6, ((R ++ E).Nodup ∧ (∀ m ∈ R ++ E, Rch rs l m ∧ m.1 ∈ ns) ∧ ∀ h ∈ headsOf (rs.take q) a, h ∈ R ++ E) ∧ G' = ⟨true, [.sh (tLit K) l, .sh (tLs K (tRow K)) rs, .ow (oL K (tLit K)) (R ++ E), .sh tInt (0 + (i : Int)), .sh (tLit K) (opp a), s5, s6], [some p0, some p1]⟩), ⟨[], _, _, ⟨by rw [List.append_nil]; exact I.nd, fun m hm => ?_, fun h hh => by simp [headsOf] at hh⟩, by rw [List.append_nil]⟩, ?_, ?_⟩))
    · rw [List.append_nil] at hm
      exact ⟨I.rc m hm, I.ns m hm⟩
    · rintro q r _ hr ⟨E, s5, s6, ⟨nE, rE, cE⟩, rfl⟩
      have hrm := List.mem_of_getElem? hr
      obtain ⟨n1, n2⟩ := ro r hrm
      have ea : Rch rs l a := I.rc a haR
      have nE24 : (R ++ E).length ≤ 24 := by
        have := sub_lenS nE fun m hm => mem_lits.mpr (rE m hm).2
        rw [lits_len] at this
        omega
      -- one more
      have more : ∀ {S : List Lit} {x : Lit}, S.Nodup → (∀ m ∈ S, Rch rs l m ∧ m.1 ∈ ns) → x ∉ S → x ∈ headsOf rs a → (S ++ [x]).Nodup ∧ ∀ m ∈ S ++ [x], Rch rs l m ∧ m.1 ∈ ns := fun {S x} h1 h2 h3 h4 => by
        refine ⟨?_, fun m hm => ?_⟩
        · rw [List.nodup_append]
          refine ⟨h1, by simp, fun a ha b hb e => ?_⟩
          rw [List.mem_singleton] at hb
          rw [e, hb] at ha
          exact h3 ha
        · rcases List.mem_append.mp hm with hm | hm
          · exact h2 m hm
          · rw [List.mem_singleton] at hm
            rw [hm]
            exact ⟨.step ea h4, heads_in ro h4⟩
      have okE : ∀ {S : List Lit}, (∀ m ∈ S, Rch rs l m ∧ m.1 ∈ ns) → ∀ y ∈ S, PyData.strOk y.1 = true ∧ True := fun h y hy => okR (h y hy).2
      have oa : PyData.strOk (opp a).1 = true ∧ True := okR (I.ns a haR)
      refine tg_tup2 (tg_name (by decide) (free_of rfl) (tg_name (by decide) (free_of rfl) (blk_wipe [5, 6] ?_)))
      refine blk_norm ⟨true, [.sh (tLit K) l, .sh (tLs K (tRow K)) rs, .ow (oL K (tLit K)) (R ++ E), .sh tInt (0 + (i : Int)), .sh (tLit K) (opp a), .sh (tLit K) r.1, .sh (tLit K) r.2], [some p0, some p1]⟩ rfl ?_
      refine blk_cut (fun G => ∃ E2, ((R ++ E2).Nodup ∧ (∀ m ∈ R ++ E2, Rch rs l m ∧ m.1 ∈ ns) ∧ (∀ h ∈ R ++ E, h ∈ R ++ E2) ∧ (opp r.1 = a → r.2 ∈ R ++ E2) ∧ (R ++ E2).length ≤ 24) ∧ G = ⟨true, [.sh (tLit K) l, .sh (tLs K (tRow K)) rs, .ow (oL K (tLit K)) (R ++ E2), .sh tInt (0 + (i : Int)), .sh (tLit K) (opp a), .sh (tLit K) r.1, .sh (tLit K) r.2], [some p0, some p1]⟩) (blk_if (et_view (et_and (et_b (ev_op (ro_eqE eqe_Lit) (ev_var (t := tLit K) (x := r.1) rfl (ev_var (t := tLit K) (x := opp a) rfl ⟨⟨okR n1, oa⟩, fun h => ?_, fun h => ?_⟩))))))) ?_
      · have h : r.1 = opp a := of_decide_eq_true h
        have h4 : r.2 ∈ headsOf rs a := mem_heads.mpr ⟨r, hrm, .inl ⟨opp_iff.mpr h, rfl⟩⟩
        refine et_b (ev_op (ro_inE eqe_Lit true) (ev_var (t := tLit K) (x := r.2) rfl (ev_var (t := tLs K (tLit K)) (x := R ++ E) rfl ⟨⟨okR n2, okE rE⟩, fun h3 => ?_, fun h3 => blk_next ?_⟩)))
        · have h3 : r.2 ∉ R ++ E := by simpa using h3
          obtain ⟨m1, m2⟩ := more nE rE h3 h4
          refine blk_append (pt_var (i := 2) rfl (by decide)) (ev_var (t := tLit K) (x := r.2) rfl ⟨fits40 (by omega), E ++ [r.2], ⟨by rw [← List.append_assoc]; exact m1, by rw [← List.append_assoc]; exact m2, fun h hh => by rw [← List.append_assoc]; exact List.mem_append_left _ hh, fun _ => by rw [← List.append_assoc]; simp, ?_⟩, by rw [← List.append_assoc]; rfl⟩)
          have := sub_lenS m1 fun m hm => mem_lits.mpr (m2 m hm).2
          rw [lits_len] at this
          rw [← List.append_assoc]
          omega
        · have h3 : r.2 ∈ R ++ E := by
            rw [if_pos rfl] at h3
            simp only [Bool.not_eq_false', decide_eq_true_eq] at h3
            exact h3
          exact ⟨E, ⟨nE, rE, fun _ h => h, fun _ => h3, nE24⟩, rfl⟩
      · have h : ¬ r.1 = opp a := of_decide_eq_false h
        exact ⟨fun h => (nomatch h), fun _ => blk_next ⟨E, ⟨nE, rE, fun _ h => h, fun z => absurd (opp_iff.mp z) h, nE24⟩, rfl⟩⟩
      rintro _ ⟨E2, ⟨nE2, rE2, sE, s1, l2⟩, rfl⟩
      have fin : ∀ {E3 : List Lit}, (∀ h ∈ R ++ E2, h ∈ R ++ E3) → (opp r.2 = a → r.1 ∈ R ++ E3) → ∀ h ∈ headsOf (rs.take (q + 1)) a, h ∈ R ++ E3 := fun {E3} h1 h2 h hh => by
        rw [heads_more hr] at hh
        rcases List.mem_append.mp hh with hh | hh
        · exact h1 _ (sE _ (cE h hh))
        · rcases mem_headsR.mp hh with ⟨e, rfl⟩ | ⟨e, rfl⟩
          · exact h1 _ (s1 e)
          · exact h2 e
      refine blk_if (et_view (et_and (et_b (ev_op (ro_eqE eqe_Lit) (ev_var (t := tLit K) (x := r.2) rfl (ev_var (t := tLit K) (x := opp a) rfl ⟨⟨okR n2, oa⟩, fun h => ?_, fun h => ?_⟩))))))
      · have h : r.2 = opp a := of_decide_eq_true h
        have h4 : r.1 ∈ headsOf rs a := mem_heads.mpr ⟨r, hrm, .inr ⟨opp_iff.mpr h, rfl⟩⟩
        refine et_b (ev_op (ro_inE eqe_Lit true) (ev_var (t := tLit K) (x := r.1) rfl (ev_var (t := tLs K (tLit K)) (x := R ++ E2) rfl ⟨⟨okR n1, okE rE2⟩, fun h3 => ?_, fun h3 => blk_next ?_⟩)))
        · have h3 : r.1 ∉ R ++ E2 := by simpa using h3
          obtain ⟨m1, m2⟩ := more nE2 rE2 h3 h4
          exact blk_append (pt_var (i := 2) rfl (by decide)) (ev_var (t := tLit K) (x := r.1) rfl ⟨fits40 (by omega), E2 ++ [r.1], .un, .un, ⟨by rw [← List.append_assoc]; exact m1, by rw [← List.append_assoc]; exact m2, fin (fun h hh => by rw [← List.append_assoc]; exact List.mem_append_left _ hh) fun _ => by rw [← List.append_assoc]; simp⟩, by rw [← List.append_assoc]; rfl⟩)
        · have h3 : r.1 ∈ R ++ E2 := by
            rw [if_pos rfl] at h3
            simp only [Bool.not_eq_false', decide_eq_true_eq] at h3
            exact h3
          exact ⟨E2, .un, .un, ⟨nE2, rE2, fin (fun _ h => h) fun _ => h3⟩, rfl⟩
      · have h : ¬ r.2 = opp a := of_decide_eq_false h
        exact ⟨fun h => (nomatch h), fun _ => blk_next ⟨E2, .un, .un, ⟨nE2, rE2, fin (fun _ h => h) fun z => absurd (opp_iff.mp z) h⟩, rfl⟩⟩
    rintro _ ⟨E, s5, s6, ⟨nE, rE, cE⟩, rfl⟩
    rw [List.take_length] at cE
    refine ⟨R ++ E, .un, .un, .un, .un, ⟨nE, List.mem_append_left _ I.h0, fun m hm => (rE m hm).1, fun m hm => (rE m hm).2, fun j m hj hm u hu => ?_, ?_⟩, rfl⟩
    · rcases Nat.lt_or_ge j i with c | c
      · rw [List.getElem?_append_left (by omega)] at hm
        exact List.mem_append_left _ (I.cl j m c hm u hu)
      · have : j = i := by omega
        subst this
        rw [List.getElem?_append_left hiR, ha] at hm
        cases hm
        exact cE u hu
    · rw [List.length_append]
      omega
  rintro _ ⟨R, s3, s4, s5, s6, I, rfl⟩
  refine blk_frz 2 rfl (blk_ret (ev_cb rc_sortTB (ev_var (t := tLs K (tLit K)) (x := R) rfl ⟨fun h => (nomatch h), fun ys py ay => ?_⟩)))
  exact fin0 [_, _] _ (hp ys (py.nodup_iff.mpr I.nd) (fun m => py.mem_iff.trans (I.fin m)) ay)
abbrev NYLischain4 : List Str := ["_law_literals", "_law_first", "_law_last", "_law_rows", "_law_k", "_law_left"]
theorem scYLischain4 : FnScope NYLischain4 ["_law_literals", "_law_first", "_law_last", "_law_rows"] (defScope s_law_is_chain) := ⟨rfl, rfl, rfl, by decide +kernel, rfl, by decide +kernel, by decide +kernel⟩
theorem y_lchain4 (T : Blt mg) (F : Has K mg "_law_is_chain" s_law_is_chain) : C8.Cal Pg w K mg base 1 "_law_is_chain" (Y.spZ (yLChain4 K)) [] := by
  refine calF F (fun f fd F => F.binds (ps := ["_law_literals", "_law_first", "_law_last", "_law_rows"]) fun _ _ _ _ _ _ us hl => match us, hl with | [_, _, _, _], _ => rfl) scYLischain4 (fun vs H Q E h => zlen (fun as P XP hc => by obtain ⟨_, _, _, _, rfl, _⟩ := hc; rfl) h) (fun f cdv A outer s H vs Q E hr h => ?_)
  have hu := hu_of hr
  refine ⟨_, (pss_cons (ps_if (PW.pt (pw_or (pt_not (pt_val (pe_callB (show CallR _ (.builtin "isinstance") (rIsi K) from call_isi) (by rfl) T.b_isinstance (by decide +kernel) (pa_cons (pv 0) (pa_cons (pe_bltn (v := .ty "list") (by rfl) T.b_list (by decide +kernel) rfl) pa_nil))))) (pw_or (pt_cmpR op_lt (pe_callB call_len (by rfl) T.b_len PySem.boot_len (pa_cons (pv 0) pa_nil)) pe_int (nomark _)) (pw_or (pt_cmpR (op_neD hr.units) (pe_ix ix_list (pv 0) pe_int (fun _ _ => rfl)) (pv 1) (nomark _)) (pw_or1 (pt_cmpR (op_neD hr.units) (pe_ix ix_list (pv 0) (pe_un un_neg pe_int) (fun _ _ => rfl)) (pv 2) (nomark _))))))) (pss_one (ps_ret pe_bl)) pss_nil)
      (pss_cons (ps_for PassesOwn.never rfl (pi_range1 rfl T.b_range (pa_cons (pe_callB call_len (by rfl) T.b_len PySem.boot_len (pa_cons (pv 0) pa_nil)) pa_nil)) (pg_name (i := 4) scYLischain4.nd rfl (Or.inl rfl))
        (pss_cons (ps_if (PW.pt (pw_or (pt_cmpR (Own.op_inDL (room65 hr)) (pe_ix ix_list (pv 0) (pv 4) (fun _ _ => rfl)) (pe_slice sl_list (pv 0) po_none (po_some (pv 4))) (by rfl)) (pw_or (pt_not (pt_val (pe_callB (show CallR _ (.builtin "isinstance") (rIsi K) from call_isi) (by rfl) T.b_isinstance (by decide +kernel) (pa_cons (pe_ix ix_list (pv 0) (pv 4) (fun _ _ => rfl)) (pa_cons (pe_bltn (v := .ty "tuple") (by rfl) T.b_tuple (by decide +kernel) rfl) pa_nil))))) (pw_or1 (pt_cmpR op_ne (pe_callB call_len (by rfl) T.b_len PySem.boot_len (pa_cons (pe_ix ix_list (pv 0) (pv 4) (fun _ _ => rfl)) pa_nil)) pe_int (nomark _)))))) (pss_one (ps_ret pe_bl)) pss_nil)
      (pss_one (ps_if (pt_cmpR op_gt (pv 4) pe_int (nomark _)) (pss_cons (ps_set (i := 5) scYLischain4.nd rfl (Or.inl rfl) (pe_tup (pa_cons (pe_ix ix_tup (pe_ix ix_list (pv 0) (pe_op op_sub (pv 4) pe_int) (fun _ _ => rfl)) pe_int (fun _ _ => rfl)) (pa_cons (pe_not (pe_ix ix_tup (pe_ix ix_list (pv 0) (pe_op op_sub (pv 4) pe_int) (fun _ _ => rfl)) pe_int (fun _ _ => rfl))) pa_nil))))
      (pss_one (ps_if (PW.pt (pw_and (pt_cmpR (op_notInD (room65 hr)) (pe_tup (pa_cons (pv 5) (pa_cons (pe_ix ix_list (pv 0) (pv 4) (fun _ _ => rfl)) pa_nil))) (pv 3) (by rfl)) (pw_and1 (pt_cmpR (op_notInD (room65 hr)) (pe_tup (pa_cons (pe_ix ix_list (pv 0) (pv 4) (fun _ _ => rfl)) (pa_cons (pv 5) pa_nil))) (pv 3) (by rfl))))) (pss_one (ps_ret pe_bl)) pss_nil))) pss_nil))))
      (pss_one (ps_ret pe_bl)))), zrun h ?_⟩
  rintro as P XP ⟨L, s, g, rs, rfl, ⟨ch, l1000, okL, okR⟩, hp⟩ hl
  obtain ⟨p0, p1, p2, p3, rfl⟩ := len4 hl
  refine ⟨2, rfl, by decide, ?_⟩
  have pos : 0 < L.length := (List.getElem?_eq_some_iff.mp ch.h0).1
  have os := okL s (List.mem_of_getElem? ch.h0)
  have og := okL g (List.mem_of_getLast? ch.hl)
  refine blk_seq (blk_if (et_or (et_not (et_b (ev_isi (A := "list") (b := true) (fun W H v x ok _ r => by obtain ⟨a, vs, rfl, sq, _⟩ := r; exact .base (.lst sq.2)) (by decide +kernel) (ev_var (t := tLs K (tLit K)) (x := L) rfl ⟨rfl, fun h => absurd h (by decide), fun _ => ?_⟩))))))
  refine et_or (et_b (ev_op ro_B0 (ev_cb rc_lenL (ev_var (t := tLs K (tLit K)) (x := L) rfl ⟨fun h => (nomatch h), ev_c (t := tInt) (fun _ _ => rfl) ⟨fun h => absurd (of_decide_eq_true h) (by omega), fun _ => ?_⟩⟩))))
  refine et_or (et_b (ev_op (ro_neE eqe_Lit) (ev_op ro_ixL (ev_var (t := tLs K (tLit K)) (x := L) rfl (ev_c (t := tInt) (fun _ _ => rfl) ⟨s, at_ofN (j := 0) rfl ch.h0, ev_var (t := tLit K) (x := s) rfl ⟨⟨os, os⟩, fun h => absurd h (by simp), fun _ => ?_⟩⟩)))))
  refine et_b (ev_op (ro_neE eqe_Lit) (ev_op ro_ixL (ev_var (t := tLs K (tLit K)) (x := L) rfl (ev_neg (ev_c (t := tInt) (fun _ _ => rfl) ⟨g, at_lastL ch.hl, ev_var (t := tLit K) (x := g) rfl ⟨⟨og, og⟩, fun h => absurd h (by simp), fun _ => blk_next ?_⟩⟩)))))
  refine blk_seq (blk_for (vs := [4]) (ei_range1 (ev_cb rc_lenL (ev_var (t := tLs K (tLit K)) (x := L) rfl ⟨fun h => (nomatch h), ⟨by omega, by omega⟩, (fun i G' => ∃ s4 s5, G' = ⟨true, [.sh (tLs K (tLit K)) L, .sh (tLit K) s, .sh (tLit K) g, .sh (tLs K (tRow K)) rs, s4, s5], [some p0, some p1, some p2, some p3]⟩), ⟨_, _, rfl⟩, ?_, ?_⟩))))
  · rintro j k _ hk ⟨s4, s5, rfl⟩
    obtain ⟨rfl, hj⟩ := rangeZ_get hk
    have hj : j < L.length := by omega
    obtain ⟨b, hb⟩ : ∃ b, L[j]? = some b := ⟨_, List.getElem?_eq_getElem hj⟩
    have ob := okL b (List.mem_of_getElem? hb)
    refine tg_name (by decide) (free_of rfl) (blk_wipe [4, 5] ?_)
    refine blk_seq (blk_if (et_or (et_b (ev_op (ro_inE eqe_Lit false) (ev_op ro_ixL (ev_var (t := tLs K (tLit K)) (x := L) rfl (ev_var rfl ⟨b, at_ofN (j := j) (by omega) hb, EvR.share (O := oL K (tLit K)) (ev_sl sl_to (ev_var (t := tLs K (tLit K)) (x := L) rfl (eo_none (eo_some (ev_var rfl ⟨j, rfl, by simp, ⟨ob, fun l hl => okL l (List.mem_of_mem_take hl)⟩, fun h => ?_, fun _ => ?_⟩)))))⟩)))))))
    · have h : b ∈ L.take j := by simpa using h
      exfalso
      obtain ⟨i, hi⟩ := List.getElem?_of_mem h
      have il := (List.getElem?_eq_some_iff.mp hi).1
      rw [List.length_take] at il
      rw [List.getElem?_take_of_lt (by omega)] at hi
      have := (List.getElem?_inj (by omega) ch.nd).mp (hi.trans hb.symm)
      omega
    refine et_or (et_not (et_b (ev_isi (A := "tuple") (b := true) (fun W H v x ok _ r => ty_t2L r) (by decide +kernel) (t := tLit K) (ev_op ro_ixL (ev_var (t := tLs K (tLit K)) (x := L) rfl (ev_var rfl ⟨b, at_ofN (j := j) (by omega) hb, rfl, fun h => absurd h (by decide), fun _ => ?_⟩))))))
    refine et_b (ev_op ro_neI (ev_cb rc_lenT2 (ev_op ro_ixL (ev_var (t := tLs K (tLit K)) (x := L) rfl (ev_var rfl ⟨b, at_ofN (j := j) (by omega) hb, fun h => (nomatch h), ev_c (t := tInt) (fun _ _ => rfl) ⟨fun h => absurd h (by decide), fun _ => blk_next ?_⟩⟩)))))
    refine blk_if (et_b (ev_op ro_B0 (ev_var rfl (ev_c (t := tInt) (fun _ _ => rfl) ⟨fun h => ?_, fun _ => blk_next ⟨.un, .un, rfl⟩⟩))))
    have h : (0 : Int) + (j : Int) > 0 := of_decide_eq_true h
    obtain ⟨j, rfl⟩ : ∃ j', j = j' + 1 := ⟨j - 1, by omega⟩
    obtain ⟨a, ha⟩ : ∃ a, L[j]? = some a := ⟨_, List.getElem?_eq_getElem (by omega)⟩
    have oa := okL a (List.mem_of_getElem? ha)
    have hr := step_row (ch.st j a b ha hb)
    refine blk_seq (blk_set (t := tLit K) (ev_t2 (ev_op ro_t20 (ev_op ro_ixL (ev_var (t := tLs K (tLit K)) (x := L) rfl (ev_op ro_I0 (ev_var rfl (ev_c (t := tInt) (fun _ _ => rfl) ⟨a, at_ofN (j := j) (by omega) ha, ev_c (t := tInt) (fun _ _ => rfl) ⟨rfl, ev_not (ev_op ro_t21 (ev_op ro_ixL (ev_var (t := tLs K (tLit K)) (x := L) rfl (ev_op ro_I0 (ev_var rfl (ev_c (t := tInt) (fun _ _ => rfl) ⟨a, at_ofN (j := j) (by omega) ha, ev_c (t := tInt) (fun _ _ => rfl) ⟨rfl, rfl, ?_⟩⟩))))))⟩⟩))))))))
    refine blk_norm ⟨true, [.sh (tLs K (tLit K)) L, .sh (tLit K) s, .sh (tLit K) g, .sh (tLs K (tRow K)) rs, .sh tInt (0 + ((j + 1 : Nat) : Int)), .sh (tLit K) (opp a)], [some p0, some p1, some p2, some p3]⟩ rfl ?_
    refine blk_if (et_and (et_b (ev_op (ro_inE eqe_Row true) (ev_t2 (ev_var (t := tLit K) (x := opp a) rfl (ev_op ro_ixL (ev_var (t := tLs K (tLit K)) (x := L) rfl (ev_var rfl ⟨b, at_ofN (j := j + 1) (by omega) hb, ev_var (t := tLs K (tRow K)) (x := rs) rfl ⟨⟨⟨oa, ob⟩, okR⟩, fun h => ?_, fun h => ⟨fun h => (nomatch h), fun _ => blk_next ⟨.un, .un, rfl⟩⟩⟩⟩))))))))
    refine et_b (ev_op (ro_inE eqe_Row true) (ev_t2 (ev_op ro_ixL (ev_var (t := tLs K (tLit K)) (x := L) rfl (ev_var rfl ⟨b, at_ofN (j := j + 1) (by omega) hb, ev_var (t := tLit K) (x := opp a) rfl (ev_var (t := tLs K (tRow K)) (x := rs) rfl ⟨⟨⟨ob, oa⟩, okR⟩, fun h2 => ?_, fun h => blk_next ⟨.un, .un, rfl⟩⟩)⟩)))))
    exfalso
    have h : (opp a, b) ∉ rs := by simpa using h
    have h2 : (b, opp a) ∉ rs := by simpa using h2
    exact hr.elim h h2
  rintro _ ⟨s4, s5, rfl⟩
  exact blk_ret (ev_c (t := tBl) (fun _ _ => rfl) (fin0 [_, _, _, _] _ hp))
abbrev NYLrefusedL : List Str := ["_law_clauses", "_law_bad", "_law_good", "_law_found"]
theorem scYLrefusedL : FnScope NYLrefusedL ["_law_clauses", "_law_bad", "_law_good"] (defScope s_law_refused) := ⟨rfl, rfl, rfl, by decide +kernel, rfl, by decide +kernel, by decide +kernel⟩
theorem y_lrefL (T : Blt mg) (F : Has K mg "_law_refused" s_law_refused) (EBadLiteral : ErrN K mg "BadLiteral" CB) (H1 : PySem.W.exmOne K (.ref CB) (.ref CB) = some true) (YFOLLOWSN : Own.CalX Pg w K mg base 4 "follows" (Y.spZ (yFollowsN K CC CB))) (YCHAINN1 : Own.CalX Pg w K mg base 4 "chain" (Y.spZ (yChainN1 K CC CB))) (YCHAINN2 : Own.CalX Pg w K mg base 4 "chain" (Y.spZ (yChainN2 K CC CB))) : C8.Cal Pg w K mg base 5 "_law_refused" (Y.spZ (yLRefL K CC)) [] := by
  refine calF F (fun f fd F => F.binds (ps := ["_law_clauses", "_law_bad", "_law_good"]) fun _ _ _ _ _ _ us hl => match us, hl with | [_, _, _], _ => rfl) scYLrefusedL (fun vs H Q E h => zlen (fun as P XP hc => by obtain ⟨_, _, _, rfl, _⟩ := hc; rfl) h) (fun f cdv A outer s H vs Q E hr h => ?_)
  have hu := hu_of hr
  refine ⟨_, (pss_cons (ps_set (i := 3) scYLrefusedL.nd rfl (Or.inl rfl) pe_int)
      (pss_cons (Own.ps_try_ap (Wo := fun _ _ _ _ => False) rfl rfl scYLrefusedL.nd takes0 (fun W pn xe tk _ => (pss_one (ps_expr (Own.pe_cxS YFOLLOWSN hr (by decide) tk rfl (pa_cons (pv 0) (pa_cons (pv 1) pa_nil))))))
        (.bare ⟨rfl, by decide, Or.inl EBadLiteral.gC⟩ (fun a oe cls d pn hz hf => (pss_one (ps_set (i := 3) scYLrefusedL.nd rfl (Or.inl rfl) (pe_op op_add (pv 3) pe_int))))
        .nil))
      (pss_cons (Own.ps_try_ap (Wo := fun _ _ _ _ => False) rfl rfl scYLrefusedL.nd takes0 (fun W pn xe tk _ => (pss_one (ps_expr (Own.pe_cxS YCHAINN1 hr (by decide) tk rfl (pa_cons (pv 0) (pa_cons (pv 1) (pa_cons (pv 2) pa_nil)))))))
        (.bare ⟨rfl, by decide, Or.inl EBadLiteral.gC⟩ (fun a oe cls d pn hz hf => (pss_one (ps_set (i := 3) scYLrefusedL.nd rfl (Or.inl rfl) (pe_op op_add (pv 3) pe_int))))
        .nil))
      (pss_cons (Own.ps_try_ap (Wo := fun _ _ _ _ => False) rfl rfl scYLrefusedL.nd takes0 (fun W pn xe tk _ => (pss_one (ps_expr (Own.pe_cxS YCHAINN2 hr (by decide) tk rfl (pa_cons (pv 0) (pa_cons (pv 2) (pa_cons (pv 1) pa_nil)))))))
        (.bare ⟨rfl, by decide, Or.inl EBadLiteral.gC⟩ (fun a oe cls d pn hz hf => (pss_one (ps_set (i := 3) scYLrefusedL.nd rfl (Or.inl rfl) (pe_op op_add (pv 3) pe_int))))
        .nil))
      (pss_one (ps_ret (pe_cmpR op_eq (pv 3) pe_int (nomark _)))))))), zrun h ?_⟩
  rintro as P XP ⟨c, o, g, rfl, ⟨wc, hg, hb⟩, hp⟩ hl
  obtain ⟨p0, p1, p2, rfl⟩ := len3 hl
  refine ⟨1, rfl, by decide, ?_⟩
  refine blk_seq (blk_set (t := tInt) (ev_c (t := tInt) (fun _ _ => rfl) ⟨rfl, ?_⟩))
  refine blk_cut (fun G => G = ⟨true, [.sh (yCl K CC) c, .sh (tTV K) o, .sh (tLit K) g, .sh tInt 1], [some p0, some p1, some p2]⟩) (blk_try (xp := fun G e => e = ⟨CB, none⟩ ∧ G = ⟨true, [.sh (yCl K CC) c, .sh (tTV K) o, .sh (tLit K) g, .sh tInt 0], [some p0, some p1, some p2]⟩) (fun E => ?_) ?_) ?_
  · exact blk_drop (r := .ow (oL K (tLit K))) (ev_void (ev_call (ea_cons (ev_var rfl (ea_cons (ev_var (t := tTV K) (x := o) rfl (ea_nil ⟨fun _ => rfl, allc trivial (all1 trivial), (fun _ _ => False), _, ⟨c, o, rfl, ⟨wc, hb⟩, fun _ => ⟨rfl, rfl⟩⟩, fun _ _ h => h, fun _ _ h => h⟩)))))))
  · rintro _ e ⟨rfl, rfl⟩
    exact catc_bare H1 fun _ _ => blk_set (t := tInt) (ev_op ro_I0 (ev_var rfl (ev_c (t := tInt) (fun _ _ => rfl) ⟨rfl, rfl⟩)))
  rintro _ rfl
  refine blk_cut (fun G => G = ⟨true, [.sh (yCl K CC) c, .sh (tTV K) o, .sh (tLit K) g, .sh tInt 2], [some p0, some p1, some p2]⟩) (blk_try (xp := fun G e => e = ⟨CB, none⟩ ∧ G = ⟨true, [.sh (yCl K CC) c, .sh (tTV K) o, .sh (tLit K) g, .sh tInt 1], [some p0, some p1, some p2]⟩) (fun E => ?_) ?_) ?_
  · exact blk_drop (r := .ow (oOpt (oL K (tLit K)))) (ev_void (ev_call (ea_cons (ev_var rfl (ea_cons (ev_var (t := tTV K) (x := o) rfl (ea_cons (ev_var (t := tLit K) (x := g) rfl (ea_nil ⟨fun _ => rfl, allc trivial (allc trivial (all1 trivial)), (fun _ _ => False), _, ⟨c, o, g, rfl, ⟨wc, hb⟩, fun _ => ⟨rfl, rfl⟩⟩, fun _ _ h => h, fun _ _ h => h⟩)))))))))
  · rintro _ e ⟨rfl, rfl⟩
    exact catc_bare H1 fun _ _ => blk_set (t := tInt) (ev_op ro_I0 (ev_var rfl (ev_c (t := tInt) (fun _ _ => rfl) ⟨rfl, rfl⟩)))
  rintro _ rfl
  refine blk_cut (fun G => G = ⟨true, [.sh (yCl K CC) c, .sh (tTV K) o, .sh (tLit K) g, .sh tInt 3], [some p0, some p1, some p2]⟩) (blk_try (xp := fun G e => e = ⟨CB, none⟩ ∧ G = ⟨true, [.sh (yCl K CC) c, .sh (tTV K) o, .sh (tLit K) g, .sh tInt 2], [some p0, some p1, some p2]⟩) (fun E => ?_) ?_) ?_
  · exact blk_drop (r := .ow (oOpt (oL K (tLit K)))) (ev_void (ev_call (ea_cons (ev_var rfl (ea_cons (ev_var (t := tLit K) (x := g) rfl (ea_cons (ev_var (t := tTV K) (x := o) rfl (ea_nil ⟨fun _ => rfl, allc trivial (allc trivial (all1 trivial)), (fun _ _ => False), _, ⟨c, g, o, rfl, ⟨wc, hg, hb⟩, fun _ => ⟨rfl, rfl⟩⟩, fun _ _ h => h, fun _ _ h => h⟩)))))))))
  · rintro _ e ⟨rfl, rfl⟩
    exact catc_bare H1 fun _ _ => blk_set (t := tInt) (ev_op ro_I0 (ev_var rfl (ev_c (t := tInt) (fun _ _ => rfl) ⟨rfl, rfl⟩)))
  rintro _ rfl
  exact blk_ret (ev_op ro_eqI (ev_var rfl (ev_c (t := tInt) (fun _ _ => rfl) (fin0 [_, _, _] _ hp))))
end
end KK
end

section
set_option maxRecDepth 100000
set_option maxHeartbeats 4000000
namespace KK
open PySem PySem.Spec PyProof.Rows L2 Y
/-! the second family: ties by all pairs, webs of a few places -/
abbrev yWeb2 (K : PySem.W.Frag) : Y.CT (List Str × List (Str × Str) × List (Str × Int)) := ⟨true, .sh (yParts2 K), fun as P _ => ∃ xs m, as = [.sh (tScr K) xs, .sh tInt m] ∧ (xs.length ≤ 1000 ∧ 1 ≤ m ∧ m ≤ 20) ∧ ∀ r, (PtsZ r ∧ r.2.2.map (·.1) = r.1 ∧ (r.1.length : Int) ≤ m) → ∀ os, P os r⟩
structure TsI (ns : List Str) (i j : Nat) (ts : List (Str × Str)) : Prop where
  ok : ∀ p ∈ ts, TieOk ns p
  nd : (ts.map ordP).Nodup
  at_ : ∀ p ∈ ts, ∃ a b : Nat, b < a ∧ (a < i ∨ (a = i ∧ b < j)) ∧ ∃ x y, ns[a]? = some x ∧ ns[b]? = some y ∧ ordP p = ordP (x, y)
  ln : 2 * ts.length + i ≤ i * i + 2 * j
section
variable {P : Program} {w : World} {K : PySem.W.Frag} {mg : Str → Option Value} {base : Heap} {C CS CW CC : Addr}
end
end KK
end

section
set_option maxRecDepth 100000
set_option maxHeartbeats 4000000
namespace KK
open PySem PySem.Spec PyProof.Rows L2 Y
/-! drawn tables of clauses -/
abbrev ClP := List Str × List Row × List (Str × Int)
abbrev tTab (K : PySem.W.Frag) : Y.Ty ClP := tL3 K (tLs K tStr) (tLs K (tRow K)) (tDk kS tInt)
structure TabOk (t : ClP) : Prop where
  no : NsOk t.1
  ro : RowsOk t.1 t.2.1
  ks : t.2.2.map (·.1) = t.1
  po : ∀ e ∈ t.2.2, 0 ≤ e.2 ∧ e.2 ≤ 10 ^ 30
abbrev yDrawnRow (K : PySem.W.Frag) : Y.CT Row := ⟨true, .sh (tRow K), fun as P _ => ∃ ns lean, as = [.sh tStm (), .sh (tLs K tStr) ns, .sh tInt lean] ∧ (ns ≠ [] ∧ ns.length ≤ 1000) ∧ ∀ r : Row, (r.1.1 ∈ ns ∧ r.2.1 ∈ ns) → ∀ os, P os r⟩
abbrev yTable (K : PySem.W.Frag) : Y.CT ClP := ⟨true, .sh (tTab K), fun as P _ => ∃ xs most size, as = [.sh (tScr K) xs, .sh tInt most, .sh tInt size] ∧ (xs.length ≤ 1000 ∧ 1 ≤ most ∧ most ≤ 40 ∧ 0 ≤ size ∧ size ≤ 400) ∧ ∀ t : ClP, (TabOk t ∧ (t.1.length : Int) ≤ most ∧ (t.2.1.length : Int) ≤ size) → ∀ os, P os t⟩
theorem put_keysC {α : Type} {d : List (Str × α)} {a : Str} {v : α} : a ∈ d.map (·.1) → (putZ d a v).map (·.1) = d.map (·.1) := fun h => by
  unfold putZ
  rw [if_pos (by rw [Y.hasK_mem]; exact decide_eq_true h), List.map_map]
  refine List.map_congr_left fun e _ => ?_
  show (if e.1 = a then (e.1, v) else e).1 = e.1
  split <;> rfl
theorem put_memC {α : Type} {d : List (Str × α)} {a : Str} {v : α} {e : Str × α} : e ∈ putZ d a v → e = (a, v) ∨ e ∈ d := fun h => by
  unfold putZ at h
  split at h
  · obtain ⟨q, hq, rfl⟩ := List.mem_map.mp h
    by_cases c : q.1 = a
    · rw [if_pos c, c]
      exact .inl rfl
    · rw [if_neg c]
      exact .inr hq
  · rcases List.mem_append.mp h with h | h
    · exact .inr h
    · exact .inl (List.mem_singleton.mp h)
section
variable {P : Program} {w : World} {K : PySem.W.Frag} {mg : Str → Option Value} {base : Heap} {CC C CS CW : Addr}
abbrev NYLdrawnrow : List Str := ["_law_stream_here", "_law_names", "_law_lean", "_law_a", "_law_b", "_law_one", "_law_other"]
theorem scYLdrawnrow : FnScope NYLdrawnrow ["_law_stream_here", "_law_names", "_law_lean"] (defScope s_law_drawn_row) := ⟨rfl, rfl, rfl, by decide +kernel, rfl, by decide +kernel, by decide +kernel⟩
theorem y_drawnrow (T : Blt mg) (F : Has K mg "_law_drawn_row" s_law_drawn_row) (YDRAW : C8.Cal P w K mg base 1 "_law_draw" (Y.spZ yDraw) []) : C8.Cal P w K mg base 2 "_law_drawn_row" (Y.spZ (yDrawnRow K)) [] := by
  refine calF F (fun f fd F => F.binds (ps := ["_law_stream_here", "_law_names", "_law_lean"]) fun _ _ _ _ _ _ us hl => match us, hl with | [_, _, _], _ => rfl) scYLdrawnrow (fun vs H Q E h => zlen (fun as P XP hc => by obtain ⟨_, _, rfl, _⟩ := hc; rfl) h) (fun f cdv A outer s H vs Q E hr h => ?_)
  have hu := hu_of hr
  refine ⟨_, (pss_cons (ps_set (i := 3) scYLdrawnrow.nd rfl (Or.inl rfl) (pe_ix ix_list (pv 1) (C8.pe_c YDRAW hr (by decide) rfl (pa_cons (pv 0) (pa_cons (pe_callB call_len (by rfl) T.b_len PySem.boot_len (pa_cons (pv 1) pa_nil)) pa_nil))) (fun _ _ => rfl)))
      (pss_cons (ps_set (i := 4) scYLdrawnrow.nd rfl (Or.inl rfl) (pe_ix ix_list (pv 1) (C8.pe_c YDRAW hr (by decide) rfl (pa_cons (pv 0) (pa_cons (pe_callB call_len (by rfl) T.b_len PySem.boot_len (pa_cons (pv 1) pa_nil)) pa_nil))) (fun _ _ => rfl)))
      (pss_cons (ps_set (i := 5) scYLdrawnrow.nd rfl (Or.inl rfl) (C8.pe_c YDRAW hr (by decide) rfl (pa_cons (pv 0) (pa_cons pe_int pa_nil))))
      (pss_cons (ps_set (i := 6) scYLdrawnrow.nd rfl (Or.inl rfl) (C8.pe_c YDRAW hr (by decide) rfl (pa_cons (pv 0) (pa_cons pe_int pa_nil))))
      (pss_cons (ps_if (pt_cmpR op_eq (pv 2) pe_int (nomark _)) (pss_one (ps_ret (pe_tup (pa_cons (pe_tup (pa_cons (pv 3) (pa_cons (pe_cmpR op_lt (pv 5) pe_int (nomark _)) pa_nil))) (pa_cons (pe_tup (pa_cons (pv 4) (pa_cons (pe_cmpR op_lt (pv 6) pe_int (nomark _)) pa_nil))) pa_nil))))) pss_nil)
      (pss_cons (ps_if (pt_cmpR op_eq (pv 2) pe_int (nomark _)) (pss_one (ps_ret (pe_tup (pa_cons (pe_tup (pa_cons (pv 3) (pa_cons (pe_cmpR op_gt (pv 5) pe_int (nomark _)) pa_nil))) (pa_cons (pe_tup (pa_cons (pv 4) (pa_cons (pe_cmpR op_gt (pv 6) pe_int (nomark _)) pa_nil))) pa_nil))))) pss_nil)
      (pss_one (ps_ret (pe_tup (pa_cons (pe_tup (pa_cons (pv 3) (pa_cons (pe_cmpR op_gt (pv 5) pe_int (nomark _)) pa_nil))) (pa_cons (pe_tup (pa_cons (pv 4) (pa_cons (pe_cmpR op_eq (pv 6) pe_int (nomark _)) pa_nil))) pa_nil))))))))))), zrun h ?_⟩
  rintro as P XP ⟨ns, lean, rfl, ⟨n0, n10⟩, hp⟩ hl
  obtain ⟨p0, p1, p2, rfl⟩ := len3 hl
  refine ⟨4, rfl, by decide, ?_⟩
  have n1 : 1 ≤ ns.length := List.length_pos_iff.mpr n0
  have l200 : (ns.length : Int) < 2 ^ 200 := Int.lt_of_le_of_lt (show (ns.length : Int) ≤ 1000 by omega) (by decide)
  refine blk_seq (blk_set (ev_op ro_ixL (ev_var (t := tLs K tStr) (x := ns) rfl (ev_draw rfl (ev_cb rc_lenL (ev_var (t := tLs K tStr) (x := ns) rfl ⟨fun h => (nomatch h), ⟨by omega, l200⟩, fun r a1 b1 => ?_⟩))))))
  obtain ⟨x, ex1, hx⟩ := at_in a1 b1
  refine ⟨x, ex1, rfl, ?_⟩
  refine blk_seq (blk_set (ev_op ro_ixL (ev_var (t := tLs K tStr) (x := ns) rfl (ev_draw rfl (ev_cb rc_lenL (ev_var (t := tLs K tStr) (x := ns) rfl ⟨fun h => (nomatch h), ⟨by omega, l200⟩, fun r2 a2 b2 => ?_⟩))))))
  obtain ⟨y, ey1, hy⟩ := at_in a2 b2
  refine ⟨y, ey1, rfl, ?_⟩
  refine blk_seq (blk_set (ev_draw rfl (ev_c (t := tInt) (fun _ _ => rfl) ⟨⟨by decide, by decide⟩, fun o1 _ _ => ⟨rfl, ?_⟩⟩)))
  refine blk_seq (blk_set (ev_draw rfl (ev_c (t := tInt) (fun _ _ => rfl) ⟨⟨by decide, by decide⟩, fun o2 _ _ => ⟨rfl, ?_⟩⟩)))
  refine blk_norm ⟨true, [.sh tStm (), .sh (tLs K tStr) ns, .sh tInt lean, .sh tStr x, .sh tStr y, .sh tInt o1, .sh tInt o2], [some p0, some p1, some p2]⟩ rfl ?_
  refine blk_seq (blk_if (et_b (ev_op ro_eqI (ev_var rfl (ev_c (t := tInt) (fun _ _ => rfl) ⟨fun _ => ?_, fun _ => blk_next ?_⟩)))))
  · exact blk_ret (ev_t2 (ev_t2 (ev_var rfl (ev_op ro_B0 (ev_var rfl (ev_c (t := tInt) (fun _ _ => rfl) (ev_t2 (ev_var rfl (ev_op ro_B0 (ev_var rfl (ev_c (t := tInt) (fun _ _ => rfl) (fin0 [_, _, _] _ (hp _ ⟨hx, hy⟩)))))))))))))
  refine blk_seq (blk_if (et_b (ev_op ro_eqI (ev_var rfl (ev_c (t := tInt) (fun _ _ => rfl) ⟨fun _ => ?_, fun _ => blk_next ?_⟩)))))
  · exact blk_ret (ev_t2 (ev_t2 (ev_var rfl (ev_op ro_B0 (ev_var rfl (ev_c (t := tInt) (fun _ _ => rfl) (ev_t2 (ev_var rfl (ev_op ro_B0 (ev_var rfl (ev_c (t := tInt) (fun _ _ => rfl) (fin0 [_, _, _] _ (hp _ ⟨hx, hy⟩)))))))))))))
  exact blk_ret (ev_t2 (ev_t2 (ev_var rfl (ev_op ro_B0 (ev_var rfl (ev_c (t := tInt) (fun _ _ => rfl) (ev_t2 (ev_var rfl (ev_op ro_eqI (ev_var rfl (ev_c (t := tInt) (fun _ _ => rfl) (fin0 [_, _, _] _ (hp _ ⟨hx, hy⟩)))))))))))))
abbrev NYLtable : List Str := ["_law_script", "_law_most", "_law_size", "_law_first", "_law_many", "_law_length", "_law_kind", "_law_lean", "_law_names", "_law_stream_here", "_law_rows", "_law_k", "_law_prices_here"]
theorem scYLtable : FnScope NYLtable ["_law_script", "_law_most", "_law_size"] (defScope s_law_table) := ⟨rfl, rfl, rfl, by decide +kernel, rfl, by decide +kernel, by decide +kernel⟩
theorem y_table (T : Blt mg) (F : Has K mg "_law_table" s_law_table) (YSTREAM : C8.Cal P w K mg base 1 "_law_stream" (Y.spZ (yStream K)) []) (YDRAW : C8.Cal P w K mg base 1 "_law_draw" (Y.spZ yDraw) []) (YPLACES2 : C8.Cal P w K mg base 3 "_law_places" (Y.spZ (yPlaces2 K)) []) (YDRAWNROW : C8.Cal P w K mg base 2 "_law_drawn_row" (Y.spZ (yDrawnRow K)) []) (YPRICES2 : C8.Cal P w K mg base 2 "_law_prices" (Y.spZ (yPrices2 K)) []) : C8.Cal P w K mg base 4 "_law_table" (Y.spZ (yTable K)) [] := by
  refine calF F (fun f fd F => F.binds (ps := ["_law_script", "_law_most", "_law_size"]) fun _ _ _ _ _ _ us hl => match us, hl with | [_, _, _], _ => rfl) scYLtable (fun vs H Q E h => zlen (fun as P XP hc => by obtain ⟨_, _, _, rfl, _⟩ := hc; rfl) h) (fun f cdv A outer s H vs Q E hr h => ?_)
  have hu := hu_of hr
  refine ⟨_, (pss_cons (ps_set (i := 3) scYLtable.nd rfl (Or.inl rfl) (C8.pe_c YSTREAM hr (by decide) rfl (pa_cons (pv 0) (pa_cons pe_int pa_nil))))
      (pss_cons (ps_set (i := 4) scYLtable.nd rfl (Or.inl rfl) (pe_op op_add pe_int (C8.pe_c YDRAW hr (by decide) rfl (pa_cons (pv 3) (pa_cons (pv 1) pa_nil)))))
      (pss_cons (ps_set (i := 5) scYLtable.nd rfl (Or.inl rfl) (C8.pe_c YDRAW hr (by decide) rfl (pa_cons (pv 3) (pa_cons (pe_op op_add (pv 2) pe_int) pa_nil))))
      (pss_cons (ps_set (i := 6) scYLtable.nd rfl (Or.inl rfl) (C8.pe_c YDRAW hr (by decide) rfl (pa_cons (pv 3) (pa_cons pe_int pa_nil))))
      (pss_cons (ps_set (i := 7) scYLtable.nd rfl (Or.inl rfl) (C8.pe_c YDRAW hr (by decide) rfl (pa_cons (pv 3) (pa_cons pe_int pa_nil))))
      (pss_cons (ps_set (i := 8) scYLtable.nd rfl (Or.inl rfl) (C8.pe_c YPLACES2 hr (by decide) rfl (pa_cons (C8.pe_c YSTREAM hr (by decide) rfl (pa_cons (pv 0) (pa_cons pe_int pa_nil))) (pa_cons (pv 4) pa_nil))))
      (pss_cons (ps_set (i := 9) scYLtable.nd rfl (Or.inl rfl) (C8.pe_c YSTREAM hr (by decide) rfl (pa_cons (pv 0) (pa_cons pe_int pa_nil))))
      (pss_cons (ps_set (i := 10) scYLtable.nd rfl (Or.inl rfl) (pe_lst pa_nil))
      (pss_cons (ps_for PassesOwn.never rfl (pi_range1 rfl T.b_range (pa_cons (pv 5) pa_nil)) (pg_name (i := 11) scYLtable.nd rfl (Or.inl rfl))
        (pss_one (ps_expr (pe_bm PySem.F.plainAttrs_list PySem.F.slot_list_append PySem.F.type_list_append mt_append (pv 10) (pa_cons (C8.pe_c YDRAWNROW hr (by decide) rfl (pa_cons (pv 9) (pa_cons (pv 8) (pa_cons (pv 7) pa_nil)))) pa_nil)))))
      (pss_cons (ps_set (i := 12) scYLtable.nd rfl (Or.inl rfl) (C8.pe_c YPRICES2 hr (by decide) rfl (pa_cons (C8.pe_c YSTREAM hr (by decide) rfl (pa_cons (pv 0) (pa_cons pe_int pa_nil))) (pa_cons (pv 8) (pa_cons (pe_op op_modN (pv 6) pe_int) pa_nil)))))
      (pss_cons (ps_if (pt_cmpR op_ge (pv 6) pe_int (nomark _)) (pss_one (ps_for PassesOwn.never rfl (pi_range3 rfl T.b_range (pa_cons pe_int (pa_cons (pv 4) (pa_cons pe_int pa_nil)))) (pg_name (i := 11) scYLtable.nd rfl (Or.inl rfl))
        (pss_one (ps_dput hu (pv 12) (pe_ix ix_list (pv 8) (pv 11) (fun _ _ => rfl)) pe_int rfl)))) pss_nil)
      (pss_one (ps_ret (pe_lst (pa_cons (pv 8) (pa_cons (pv 10) (pa_cons (pv 12) pa_nil))))))))))))))))), zrun h ?_⟩
  rintro as P XP ⟨xs, most, size, rfl, ⟨hxs, m1, m40, s0, s40⟩, hp⟩ hl
  obtain ⟨p0, p1, p2, rfl⟩ := len3 hl
  refine ⟨10, rfl, by decide, ?_⟩
  have st : ∀ {X : Y.Xw} {k : Bool} {G : Ct} {E : XK} {j : Int} {Q : Ct → Unit → Prop}, 0 ≤ j → j ≤ 100 → G.s[0]? = some (.sh (tScr K) xs) → Q G () → Ev X k (tCall (Y.spZ (yStream K)) [] E (tCons (tVar 0) (tCons (tC (.int j)) tNil))) G tStm Q := fun h0 h1 e q => ev_call0 (ea_cons (ev_var e (ea_cons (ev_c (t := tInt) (fun _ _ => rfl) (ea_nil ⟨fun h => (nomatch h), allc trivial (all1 trivial), xs, _, rfl, ⟨hxs, h0, h1⟩, fun _ => q⟩)))))
  have big : (401 : Int) < 2 ^ 200 := by decide
  refine blk_seq (blk_set (st (by decide) (by decide) rfl ⟨rfl, ?_⟩))
  refine blk_seq (blk_set (ev_op ro_I0 (ev_c (t := tInt) (fun _ _ => rfl) (ev_draw rfl (ev_var rfl ⟨⟨by omega, by omega⟩, fun r1 a1 b1 => ⟨rfl, ?_⟩⟩)))))
  refine blk_seq (blk_set (ev_draw rfl (ev_op ro_I0 (ev_var rfl (ev_c (t := tInt) (fun _ _ => rfl) ⟨⟨by omega, by omega⟩, fun r2 a2 b2 => ⟨rfl, ?_⟩⟩)))))
  refine blk_seq (blk_set (ev_draw rfl (ev_c (t := tInt) (fun _ _ => rfl) ⟨⟨by decide, by decide⟩, fun r3 a3 b3 => ⟨rfl, ?_⟩⟩)))
  refine blk_seq (blk_set (ev_draw rfl (ev_c (t := tInt) (fun _ _ => rfl) ⟨⟨by decide, by decide⟩, fun r4 a4 b4 => ⟨rfl, ?_⟩⟩)))
  refine blk_norm ⟨true, [.sh (tScr K) xs, .sh tInt most, .sh tInt size, .sh tStm (), .sh tInt (1 + r1), .sh tInt r2, .sh tInt r3, .sh tInt r4, .un, .un, .un, .un, .un], [some p0, some p1, some p2]⟩ rfl ?_
  refine blk_seq (blk_setO (O := oL K tStr) (ev_call0 (ea_cons (st (by decide) (by decide) rfl ?_))))
  refine ea_cons (ev_var rfl (ea_nil ⟨fun h => (nomatch h), allc trivial (all1 trivial), 1 + r1, rfl, ⟨by omega, by omega⟩, fun ns ⟨hl, hnd, hok⟩ _ => ⟨rfl, blk_frz 8 rfl ?_⟩⟩))
  have no : NsOk ns := ⟨by omega, by omega, hnd, hok⟩
  have n0 : ns ≠ [] := fun e => by rw [e] at hl; simp at hl; omega
  refine blk_seq (blk_set (st (by decide) (by decide) rfl ⟨rfl, ?_⟩))
  refine blk_seq (blk_setO (O := oL K (tRow K)) (ev_list (K := K) (t := tRow K) (es_nil ⟨Nat.le_of_ble_eq_true rfl, rfl, ?_⟩)))
  refine blk_norm ⟨true, [.sh (tScr K) xs, .sh tInt most, .sh tInt size, .sh tStm (), .sh tInt (1 + r1), .sh tInt r2, .sh tInt r3, .sh tInt r4, .sh (tLs K tStr) ns, .sh tStm (), .ow (oL K (tRow K)) [], .un, .un], [some p0, some p1, some p2]⟩ rfl ?_
  refine blk_seq (blk_for (vs := [11]) (ei_range1 (ev_var rfl ⟨⟨by omega, by omega⟩, (fun i G' => ∃ rs s11, (rs.length = i ∧ ∀ r ∈ rs, r.1.1 ∈ ns ∧ r.2.1 ∈ ns) ∧ G' = ⟨true, [.sh (tScr K) xs, .sh tInt most, .sh tInt size, .sh tStm (), .sh tInt (1 + r1), .sh tInt r2, .sh tInt r3, .sh tInt r4, .sh (tLs K tStr) ns, .sh tStm (), .ow (oL K (tRow K)) rs, s11, .un], [some p0, some p1, some p2]⟩), ⟨[], _, ⟨rfl, fun r hr => by simp at hr⟩, rfl⟩, ?_, ?_⟩)))
  · rintro i k _ hk ⟨rs, s11, ⟨rl, rok⟩, rfl⟩
    obtain ⟨rfl, hi⟩ := rangeZ_get hk
    refine tg_name (by decide) (free_of rfl) (blk_append (pt_var (i := 10) rfl (by decide)) (ev_call0 (ea_cons (ev_var rfl (ea_cons (ev_var (t := tLs K tStr) (x := ns) rfl (ea_cons (ev_var rfl (ea_nil ⟨fun _ => rfl, allc trivial (allc trivial (all1 trivial)), ns, _, rfl, ⟨n0, by omega⟩, fun r hr _ => ⟨Nat.le_of_lt (fits40 (by omega)), rs ++ [r], .sh tInt _, ⟨by rw [List.length_append, rl]; rfl, fun q hq => ?_⟩, rfl⟩⟩)))))))))
    rcases List.mem_append.mp hq with hq | hq
    · exact rok q hq
    · rw [List.mem_singleton] at hq
      rw [hq]
      exact hr
  rintro _ ⟨rs, s11, ⟨rl, rok⟩, rfl⟩
  rw [rangeZ_len] at rl
  refine blk_frz 10 rfl ?_
  refine blk_seq (blk_setO (O := oD kS tInt) (ev_call0 (ea_cons (st (by decide) (by decide) rfl ?_))))
  refine ea_cons (ev_var (t := tLs K tStr) (x := ns) rfl (ea_cons (ev_op ro_I (ev_var rfl (ev_c (t := tInt) (fun _ _ => rfl) ⟨by decide, ea_nil ⟨fun _ => rfl, allc trivial (allc trivial (all1 trivial)), ns, _, rfl, ⟨by omega, hnd⟩, fun ps ⟨hk, hpo⟩ _ => ⟨rfl, ?_⟩⟩⟩)))))
  refine blk_norm ⟨true, [.sh (tScr K) xs, .sh tInt most, .sh tInt size, .sh tStm (), .sh tInt (1 + r1), .sh tInt r2, .sh tInt r3, .sh tInt r4, .sh (tLs K tStr) ns, .sh tStm (), .sh (tLs K (tRow K)) rs, s11, .ow (oD kS tInt) ps], [some p0, some p1, some p2]⟩ rfl ?_
  refine blk_cut (fun G => ∃ qs s11, (qs.map (·.1) = ns ∧ ∀ e ∈ qs, 0 ≤ e.2 ∧ e.2 ≤ 10 ^ 30) ∧ G = ⟨true, [.sh (tScr K) xs, .sh tInt most, .sh tInt size, .sh tStm (), .sh tInt (1 + r1), .sh tInt r2, .sh tInt r3, .sh tInt r4, .sh (tLs K tStr) ns, .sh tStm (), .sh (tLs K (tRow K)) rs, s11, .ow (oD kS tInt) qs], [some p0, some p1, some p2]⟩) (blk_if (et_b (ev_op ro_B0 (ev_var rfl (ev_c (t := tInt) (fun _ _ => rfl) ⟨fun _ => ?_, fun _ => blk_next ⟨ps, _, ⟨hk, fun e he => ⟨by have := (hpo e he).1; omega, (hpo e he).2⟩⟩, rfl⟩⟩))))) ?_
  · obtain ⟨n1, e1⟩ : ∃ n1 : Nat, (n1 : Int) = 1 + r1 := ⟨(1 + r1).toNat, by omega⟩
    refine blk_for (vs := [11]) (ei_range3 (ev_c (t := tInt) (fun _ _ => rfl) (ev_var rfl (ev_c (t := tInt) (fun _ _ => rfl) ⟨(n1 + 1) / 2, by rw [← e1]; exact rg_two n1 (by omega), (fun i G' => ∃ qs s11, (qs.map (·.1) = ns ∧ ∀ e ∈ qs, 0 ≤ e.2 ∧ e.2 ≤ 10 ^ 30) ∧ G' = ⟨true, [.sh (tScr K) xs, .sh tInt most, .sh tInt size, .sh tStm (), .sh tInt (1 + r1), .sh tInt r2, .sh tInt r3, .sh tInt r4, .sh (tLs K tStr) ns, .sh tStm (), .sh (tLs K (tRow K)) rs, s11, .ow (oD kS tInt) qs], [some p0, some p1, some p2]⟩), ⟨ps, _, ⟨hk, fun e he => ⟨by have := (hpo e he).1; omega, (hpo e he).2⟩⟩, rfl⟩, ?_, fun _ h => h⟩))))
    rintro i k _ hk2 ⟨qs, s11, ⟨qk, qp⟩, rfl⟩
    obtain ⟨rfl, hi⟩ := rangeC_get hk2
    have hlt : i * 2 < ns.length := by omega
    obtain ⟨x, hx⟩ : ∃ x, ns[i * 2]? = some x := ⟨_, List.getElem?_eq_getElem hlt⟩
    have hm := List.mem_of_getElem? hx
    refine tg_name (by decide) (free_of rfl) (blk_dput kyS (pt_var (i := 12) rfl (by decide)) (ev_c (t := tInt) (fun _ _ => rfl) (ev_op ro_ixL (ev_var (t := tLs K tStr) (x := ns) rfl (ev_var rfl ⟨x, ?_, ?_⟩)))))
    · have : (0 : Int) + (i : Int) * 2 = ((i * 2 : Nat) : Int) := by omega
      rw [this]
      exact at_ofN (j := i * 2) (by omega) hx
    have ql : qs.length = ns.length := by rw [← qk, List.length_map]
    have hin : x ∈ qs.map (·.1) := by rw [qk]; exact hm
    refine ⟨fits40 (by omega), putZ qs x 0, .sh tInt _, ⟨?_, fun e he => ?_⟩, rfl⟩
    · rw [put_keysC hin, qk]
    · rcases put_memC he with rfl | h
      · exact ⟨show (0 : Int) ≤ 0 by decide, show (0 : Int) ≤ 10 ^ 30 by decide⟩
      · exact qp e h
  rintro _ ⟨qs, s11', ⟨qk, qp⟩, rfl⟩
  refine blk_frz 12 rfl (blk_ret (ev_l3 (ev_var rfl (ev_var rfl (ev_var rfl (fin0 [_, _, _] _ (hp (ns, rs, qs) ⟨⟨no, ⟨by show rs.length ≤ 400; omega, rok⟩, qk, qp⟩, ?_, ?_⟩)))))))
  · show (ns.length : Int) ≤ most
    omega
  · show (rs.length : Int) ≤ size
    omega
end
end KK
end

section
set_option maxRecDepth 100000
set_option maxHeartbeats 4000000
namespace KK
open PySem PySem.Spec PyProof.Rows L2 Y
/-! half readings looked at with any ints as values; half_merge -/
structure AllD (ns : List Str) (d : List (Str × Int)) : Prop where
  pm : (d.map (·.1)).Perm ns
  nd : ns.Nodup
def rngB (ns : List Str) (d : List (Str × Int)) : Bool := ns.all fun x => decide (0 ≤ gD d x) && decide (gD d x ≤ 2)
def rowH (d : List (Str × Int)) (r : Row) : Bool := decide (2 ≤ valL (gD d) r.1 + valL (gD d) r.2)
def halfL (ns : List Str) (rs : List Row) (d : List (Str × Int)) : Bool := rngB ns d && rs.all (rowH d)
def mrgH (d1 d2 : List (Str × Int)) : List (Str × Int) := atD (d1.map (·.1)) (mrgV (gD d1) (gD d2))
/-- what a merge is told to be -/
def mtV (c : ClZ) (v : Int) (d1 d2 : List (Str × Int)) : Str × List (Str × Int) :=
  if halfL c.ns c.rs d1 = true ∧ halfL c.ns c.rs d2 = true then (if costH c (gD d1) = v ∧ costH c (gD d2) = v then ("told", mrgH d1 d2) else ("not best", [])) else ("none", [])
abbrev yValsI (K : PySem.W.Frag) : Y.CT Bool := ⟨true, .sh tBl, fun as P _ => ∃ d ns, as = [.sh (tDk kS tInt) d, .sh (tLs K tStr) ns] ∧ (d.length = ns.length ∧ ns.length ≤ 1000 ∧ ∀ x ∈ ns, lookK d x = some (gD d x)) ∧ ∀ os, P os (rngB ns d)⟩
abbrev yIsHalfI (K : PySem.W.Frag) (CC : Addr) : Y.CT Bool := ⟨true, .sh tBl, fun as P _ => ∃ c d, as = [.sh (yCl K CC) c, .sh (tDk kS tInt) d] ∧ (WfC c ∧ AllD c.ns d) ∧ ∀ os, P os (halfL c.ns c.rs d)⟩
abbrev yHMergeX (K : PySem.W.Frag) (CC CA CB : Addr) : Y.CT (List (Str × Int)) := ⟨true, .ow (oD kS tInt), fun as P XP => ∃ c v d1 d2, as = [.sh (yCl K CC) c, .sh (tDk kS tInt) d1, .sh (tDk kS tInt) d2] ∧ (WfC c ∧ LowH c v ∧ AllD c.ns d1 ∧ AllD c.ns d2) ∧ (halfL c.ns c.rs d1 = false ∨ halfL c.ns c.rs d2 = false → ∀ os, XP os ⟨CA, none⟩) ∧
  (halfL c.ns c.rs d1 = true → halfL c.ns c.rs d2 = true → (costH c (gD d1) = v → costH c (gD d2) = v → ∀ os, P os (mrgH d1 d2)) ∧ (costH c (gD d1) ≠ v ∨ costH c (gD d2) ≠ v → ∀ os, XP os ⟨CB, none⟩))⟩
section
variable {P : Program} {w : World} {K : PySem.W.Frag} {mg : Str → Option Value} {base : Heap} {CC CA CB : Addr}
end
end KK
end

section
set_option maxRecDepth 100000
set_option maxHeartbeats 4000000
namespace KK
open PySem PySem.Spec PyProof.Rows L2 Y
/-! a sum over a dict of prices -/
abbrev yLsum (K : PySem.W.Frag) : Y.CT Int := ⟨false, .sh tInt, fun as P _ => ∃ d ps, as = [.sh (tDk kS tInt) d, .sh (tDk kS tInt) ps] ∧ ((ps.map (·.1)).Nodup ∧ (∀ e ∈ ps, lookK d e.1 = some (gD d e.1) ∧ 0 ≤ gD d e.1 ∧ gD d e.1 ≤ 2) ∧ ps.length ≤ 1000) ∧ ∀ os, P os ((ps.map fun e => e.2 * gD d e.1).sum)⟩
section
variable {P : Program} {w : World} {K : PySem.W.Frag} {mg : Str → Option Value} {base : Heap} {C CS CW CC : Addr}
end
end KK
end

section
set_option maxRecDepth 100000
set_option maxHeartbeats 4000000
namespace KK
open PySem PySem.Spec PyProof.Rows L2 Y
/-! the second family: all rows, sums, all answers -/
def rowsL (t : Nat) : Nat → List (List Int)
  | 0 => [[]]
  | n + 1 => (rowsL t n).flatMap fun r => (List.range t).map fun v : Nat => r ++ [(v : Int)]
def answersL (ns : List Str) (ts : List (Str × Str)) : List (List (Str × Int)) := ((rowsL 3 ns.length).map fun r => ns.zip r).filter (ansK ns ts)
abbrev yRows2 (K : PySem.W.Frag) : Y.CT (List (List Int)) := ⟨true, .sh (tLs K (tLs K tInt)), fun as P _ => ∃ n t : Nat, as = [.sh tInt (n : Int), .sh tInt (t : Int)] ∧ (t ^ n ≤ 1000 ∧ 1 ≤ t ∧ t ≤ 9 ∧ n ≤ 40) ∧ ∀ os, P os (rowsL t n)⟩
abbrev yAnswers2 (K : PySem.W.Frag) : Y.CT (List (List (Str × Int))) := ⟨true, .sh (tLs K (tDk kS tInt)), fun as P _ => ∃ ns ts, as = [.sh (tLs K tStr) ns, .sh (tLs K (tPr K)) ts] ∧ (ns.length ≤ 6 ∧ ns.Nodup ∧ ∀ e ∈ ts, e.1 ∈ ns ∧ e.2 ∈ ns) ∧ ∀ os, P os (answersL ns ts)⟩
section
variable {P : Program} {w : World} {K : PySem.W.Frag} {mg : Str → Option Value} {base : Heap} {C CS CW CC : Addr}
end
end KK
end

section
set_option maxRecDepth 100000
set_option maxHeartbeats 4000000
namespace KK
open PySem PySem.Spec PyProof.Rows L2 Y
/-! the laws' covers and answers, drawn -/
structure SubR (ns r : List Str) : Prop where
  asc : r.Pairwise fun a b => Own.ltS a b = true
  sub : ∀ x ∈ r, x ∈ ns
abbrev yLprice (K : PySem.W.Frag) : Y.CT Int := ⟨false, .sh tInt, fun as P _ => ∃ cv ps, as = [.sh (tTu K tStr) cv, .sh (tDk kS tInt) ps] ∧ (cv.length ≤ 1000 ∧ ∀ x ∈ cv, lookK ps x = some (gD ps x)) ∧ ∀ os, P os (cv.map (gD ps)).sum⟩
abbrev ySubset (K : PySem.W.Frag) : Y.CT (List Str) := ⟨true, .sh (tTu K tStr), fun as P _ => ∃ ns ts, as = [.sh tStm (), .sh (tLs K tStr) ns, .sh (tLs K (tPr K)) ts] ∧ (ns.length ≤ 40 ∧ ns.Nodup ∧ ∀ e ∈ ts, e.1 ∈ ns ∧ e.2 ∈ ns) ∧ ∀ r, SubR ns r → ∀ os, P os r⟩
abbrev yFilled (K : PySem.W.Frag) : Y.CT (List Str) := ⟨true, .sh (tTu K tStr), fun as P _ => ∃ ns cv ts, as = [.sh (tTu K tStr) cv, .sh (tLs K (tPr K)) ts] ∧ (ns.length ≤ 40 ∧ SubR ns cv ∧ ∀ e ∈ ts, e.1 ∈ ns ∧ e.2 ∈ ns) ∧ ∀ r, (SubR ns r ∧ ∀ e ∈ ts, e.1 ∈ r ∨ e.2 ∈ r) → ∀ os, P os r⟩
section
variable {P : Program} {w : World} {K : PySem.W.Frag} {mg : Str → Option Value} {base : Heap} {C CS CW CC : Addr}
end
end KK
end

section
set_option maxRecDepth 100000
set_option maxHeartbeats 4000000
namespace KK
open PySem PySem.Spec PyProof.Rows L2 Y
/-! the laws' own answers and looks -/
structure DrawnA (ns : List Str) (ts : List (Str × Str)) (d : List (Str × Int)) : Prop where
  ks : d.map (·.1) = ns
  r : ∀ x ∈ ns, 0 ≤ gD d x ∧ gD d x ≤ 2
  t : ∀ e ∈ ts, 2 ≤ gD d e.1 + gD d e.2
abbrev yDrawnA (K : PySem.W.Frag) : Y.CT (List (Str × Int)) := ⟨true, .ow (oD kS tInt), fun as P _ => ∃ ns ts, as = [.sh tStm (), .sh (tLs K tStr) ns, .sh (tLs K (tPr K)) ts] ∧ (ns.length ≤ 40 ∧ ns.Nodup ∧ ∀ e ∈ ts, TieOk ns e) ∧ ∀ d, DrawnA ns ts d → ∀ os, P os d⟩
abbrev yLmended (K : PySem.W.Frag) : Y.CT (List Str) := ⟨true, .sh (tTu K tStr), fun as P _ => ∃ z d cv, as = [.sh (tDk kS tInt) d, .sh (tTu K tStr) cv] ∧ (WfZ z ∧ AnsD z d) ∧ ∀ os, P os (menL z d cv)⟩
abbrev yLsoftened (K : PySem.W.Frag) : Y.CT (List (Str × Int)) := ⟨true, .ow (oD kS tInt), fun as P _ => ∃ d cv, as = [.sh (tDk kS tInt) d, .sh (tTu K tStr) cv] ∧ ((d.map (·.1)).Nodup ∧ d.length ≤ 900) ∧ ∀ os, P os (sofL d cv)⟩
section
variable {P : Program} {w : World} {K : PySem.W.Frag} {mg : Str → Option Value} {base : Heap} {C CS CW CC : Addr}
end
end KK
end

section
set_option maxRecDepth 100000
set_option maxHeartbeats 4000000
namespace KK
open PySem PySem.Spec PyProof.Rows L2 Y
abbrev yTurned (K : PySem.W.Frag) : Y.CT (List (Str × Int)) := ⟨true, .ow (oD kS tInt), fun as P _ => ∃ d, as = [.sh (tDk kS tInt) d] ∧ ((d.map (·.1)).Nodup ∧ d.length ≤ 900) ∧ ∀ os, P os d.reverse⟩
abbrev yLisCover (K : PySem.W.Frag) : Y.CT Bool := ⟨true, .sh tBl, fun as P _ => ∃ cv ns ts, as = [.sh (tTu K tStr) cv, .sh (tLs K tStr) ns, .sh (tLs K (tPr K)) ts] ∧ (ns.length ≤ 40 ∧ ns.Nodup ∧ (∀ x ∈ ns, NameOk x) ∧ SubR ns cv ∧ ∀ e ∈ ts, e.1 ∈ cv ∨ e.2 ∈ cv) ∧ ∀ os, P os true⟩
section
variable {P : Program} {w : World} {K : PySem.W.Frag} {mg : Str → Option Value} {base : Heap} {C CS CW CC : Addr}
end
end KK
end

section
set_option maxRecDepth 100000
set_option maxHeartbeats 4000000
namespace KK
open PySem PySem.Spec PyProof.Rows L2 Y
/-! all half readings of a drawn table, by hand -/
structure TabC (ns : List Str) (ps : List (Str × Int)) (c : ClZ) : Prop where
  wc : WfC c
  pm : c.ns.Perm ns
  ks : ps.map (·.1) = ns
  pr : ∀ e ∈ ps, gD c.ps e.1 = e.2
theorem TabC.ro {ns : List Str} {ps : List (Str × Int)} {c : ClZ} (T : TabC ns ps c) : ∀ r ∈ c.rs, r.1.1 ∈ ns ∧ r.2.1 ∈ ns := fun r hr => ⟨T.pm.mem_iff.mp (T.wc.ro.ok r hr).1, T.pm.mem_iff.mp (T.wc.ro.ok r hr).2⟩
theorem tabC_of {t : ClP} {c : ClZ} (h : TabOk t) (o : ClOf t.1 t.2.1 t.2.2 c) : TabC t.1 t.2.2 c ∧ c.rs = t.2.1 := by
  have nd : (t.2.2.map (·.1)).Nodup := by rw [h.ks]; exact h.no.nd
  have lk : ∀ e ∈ t.2.2, gD t.2.2 e.1 = e.2 := fun e he => by unfold gD; rw [look_ix nd he]; rfl
  have pts : ClPts t.1 t.2.1 t.2.2 := ⟨h.no, h.ro, by rw [← h.ks, List.length_map], fun x hx => by
    rw [← h.ks] at hx
    obtain ⟨e, he, rfl⟩ := List.mem_map.mp hx
    rw [lk e he]
    exact ⟨look_ix nd he, h.po e he⟩⟩
  refine ⟨⟨o.wf pts, o.1, h.ks, fun e he => ?_⟩, o.2.2.2⟩
  have hm : e.1 ∈ c.ns := o.1.mem_iff.mpr (by rw [← h.ks]; exact List.mem_map_of_mem he)
  rw [o.2.2.1]
  have : lookK (atD c.ns (gD t.2.2)) e.1 = some (gD t.2.2 e.1) := look_fun hm
  unfold gD at this ⊢
  rw [this]
  show gD t.2.2 e.1 = e.2
  exact lk e he
def halvesL (ns : List Str) (rs : List Row) : List (List (Str × Int)) := ((rowsL 3 ns.length).map fun r => ns.zip r).filter (halfL ns rs)
def bestsH (ns : List Str) (c : ClZ) (v : Int) : List (List (Str × Int)) := (halvesL ns c.rs).filter fun d => decide (costH c (gD d) = v)
section
variable {ns : List Str} {ps : List (Str × Int)} {c : ClZ}
end
abbrev yLHVal (K : PySem.W.Frag) : Y.CT Int := yHVal K
abbrev yLIsHalf (K : PySem.W.Frag) : Y.CT Bool := ⟨true, .sh tBl, fun as P _ => ∃ d ns rs, as = [.sh (tDk kS tInt) d, .sh (tLs K tStr) ns, .sh (tLs K (tRow K)) rs] ∧ (AllD ns d ∧ ∀ r ∈ rs, r.1.1 ∈ ns ∧ r.2.1 ∈ ns) ∧ ∀ os, P os (halfL ns rs d)⟩
abbrev yHalves7 (K : PySem.W.Frag) : Y.CT (List (List (Str × Int))) := ⟨true, .sh (tLs K (tDk kS tInt)), fun as P _ => ∃ ns rs, as = [.sh (tLs K tStr) ns, .sh (tLs K (tRow K)) rs] ∧ (ns.length ≤ 6 ∧ ns.Nodup ∧ ∀ r ∈ rs, r.1.1 ∈ ns ∧ r.2.1 ∈ ns) ∧ ∀ os, P os (halvesL ns rs)⟩
abbrev yBestHs (K : PySem.W.Frag) : Y.CT (List (List (Str × Int))) := ⟨true, .sh (tLs K (tDk kS tInt)), fun as P _ => ∃ ns ps c, as = [.sh (tLs K tStr) ns, .sh (tLs K (tRow K)) c.rs, .sh (tDk kS tInt) ps] ∧ (TabC ns ps c ∧ ns.length ≤ 6) ∧ ∀ v, LowH c v → ∀ os, P os (bestsH ns c v)⟩
abbrev yMTold (K : PySem.W.Frag) (CC : Addr) : Y.CT (Str × List (Str × Int)) := ⟨true, .ow (oT2 K tStr (oD kS tInt)), fun as P _ => ∃ c v d1 d2, as = [.sh (yCl K CC) c, .sh (tDk kS tInt) d1, .sh (tDk kS tInt) d2] ∧ (WfC c ∧ LowH c v ∧ AllD c.ns d1 ∧ AllD c.ns d2) ∧ ∀ os, P os (mtV c v d1 d2)⟩
abbrev yLMerged : Y.CT (List (Str × Int)) := ⟨true, .ow (oD kS tInt), fun as P _ => ∃ ns d1 d2, as = [.sh (tDk kS tInt) d1, .sh (tDk kS tInt) d2] ∧ (AllD ns d1 ∧ AllD ns d2 ∧ ns.length ≤ 40) ∧ ∀ os, P os (mrgH d1 d2)⟩
abbrev yWord (K : PySem.W.Frag) : Y.CT Str := ⟨true, .sh tStr, fun as P _ => ∃ c v ns ps d1 d2, as = [.sh (tDk kS tInt) d1, .sh (tDk kS tInt) d2, .sh (tLs K tStr) ns, .sh (tLs K (tRow K)) c.rs, .sh (tLs K (tDk kS tInt)) (bestsH ns c v)] ∧ (TabC ns ps c ∧ AllD ns d1 ∧ AllD ns d2) ∧ ∀ os, P os (mtV c v d1 d2).1⟩
section
variable {P : Program} {w : World} {K : PySem.W.Frag} {mg : Str → Option Value} {base : Heap} {CC CA CB : Addr}
end
end KK
end

section
set_option maxRecDepth 100000
set_option maxHeartbeats 4000000
namespace KK
open PySem PySem.Spec PyProof.Rows L2 Y
/-! what follows, and chains (k52) -/
def Clo (rs : List Row) (l : Lit) (ks : List Lit) : Prop := ks.Nodup ∧ (∀ m, m ∈ ks ↔ Rch rs l m) ∧ AscT ks
theorem Clo.uniq {rs : List Row} {l : Lit} {a b : List Lit} (ha : Clo rs l a) (hb : Clo rs l b) : a = b :=
  asc_uniqT ((List.perm_ext_iff_of_nodup ha.1 hb.1).mpr fun m => (ha.2.1 m).trans (hb.2.1 m).symm) ha.2.2 hb.2.2
theorem bad_none (ns : List Str) : BadL ns none := fun a b e => nomatch e
theorem bad_fst {ns : List Str} {a b : V} (h : inMs a ns = false) : BadL ns (some [a, b]) := fun x y e => by
  cases e
  exact .inl h
theorem bad_snd {ns : List Str} {a b : V} (h : isBlV b = false) : BadL ns (some [a, b]) := fun x y e => by
  cases e
  exact .inr h
theorem bad_one {ns : List Str} {a : V} : BadL ns (some [a]) := fun x y e => by cases e
theorem bad_three {ns : List Str} {a b c : V} : BadL ns (some [a, b, c]) := fun x y e => by cases e
section
variable {Pg : Program} {w : World} {K : PySem.W.Frag} {mg : Str → Option Value} {base : Heap} {CC : Addr}
abbrev NYlaw : List Str := ["_law_script", "_law_names", "_law_rows", "_law_prices_here", "_law_clauses", "_law_stream_here", "_law_good", "_law_bad", "_law_literals", "_law_lists", "_law_k", "_law_told", "_law_goal", "_law_found", "_law_at", "_law_name_here", "_law_literal"]
theorem scYlaw : FnScope NYlaw ["_law_script"] (defScope s_law) := ⟨rfl, rfl, rfl, by decide +kernel, rfl, by decide +kernel, by decide +kernel⟩
theorem y_law52 (T : Blt mg) (F : Has K mg "law" s_law) (YSTREAM : C8.Cal Pg w K mg base 1 "_law_stream" (Y.spZ (yStream K)) []) (YDRAW : C8.Cal Pg w K mg base 1 "_law_draw" (Y.spZ yDraw) []) (YTABLE : C8.Cal Pg w K mg base 4 "_law_table" (Y.spZ (yTable K)) [])
    (YCLAUSES : C8.Mak Pg w K mg base 5 "Clauses" CC (Y.spZ (ctCl K CC)) []) (YLREF : C8.Cal Pg w K mg base 5 "_law_refused" (Y.spZ (yLRefL K CC)) []) (YLCLOS : C8.Cal Pg w K mg base 1 "_law_closure" (Y.spZ (yLClos K)) []) (YFOLLOWS : C8.Cal Pg w K mg base 4 "follows" (Y.spZ (yFollows K CC)) []) (YCHAINC : C8.Cal Pg w K mg base 4 "chain" (Y.spZ (yChainC K CC)) []) (YLCHAIN : C8.Cal Pg w K mg base 1 "_law_is_chain" (Y.spZ (yLChain4 K)) []) :
    ∃ f fd, Fun K "law" "law" s_law f fd ∧ mg "law" = some (.ref f) ∧ FnOk Pg w K mg base CX0 7 f fd ["_law_script"] (Y.spZ (yLaw K)) := by
  refine calG F scYlaw (fun vs H Q E h => zlen (fun as P XP hc => by obtain ⟨_, rfl, _⟩ := hc; rfl) h) (fun f cdv A outer s H vs Q E hr h => ?_)
  have hu := hu_of hr
  refine ⟨_, (pss_cons (ps_asg (C8.pe_c YTABLE hr (by decide) rfl (pa_cons (pv 0) (pa_cons pe_int (pa_cons pe_int pa_nil)))) (pg_unl rfl (pgs_cons (pg_name (i := 1) scYlaw.nd rfl (Or.inl rfl)) (pgs_cons (pg_name (i := 2) scYlaw.nd rfl (Or.inr rfl)) (pgs_cons (pg_name (i := 3) scYlaw.nd rfl (Or.inl rfl)) pgs_nil)))))
      (pss_cons (ps_set (i := 4) scYlaw.nd rfl (Or.inl rfl) (C8.pe_mk YCLAUSES hr (by decide) rfl (pa_cons (pe_callTy call_tuple_of (by rfl) T.b_tuple (by decide +kernel) (pa_cons (pv 1) pa_nil)) (pa_cons (pe_callTy call_list_of (by rfl) T.b_list (by decide +kernel) (pa_cons (pv 2) pa_nil)) (pa_cons (pe_callTy Own.call_dict_dK (by rfl) T.b_dict (by decide +kernel) (pa_cons (pv 3) pa_nil)) pa_nil)))))
      (pss_cons (ps_set (i := 5) scYlaw.nd rfl (Or.inl rfl) (C8.pe_c YSTREAM hr (by decide) rfl (pa_cons (pv 0) (pa_cons pe_int pa_nil))))
      (pss_cons (ps_set (i := 6) scYlaw.nd rfl (Or.inl rfl) (pe_tup (pa_cons (pe_ix ix_list (pv 1) (C8.pe_c YDRAW hr (by decide) rfl (pa_cons (pv 5) (pa_cons (pe_callB call_len (by rfl) T.b_len PySem.boot_len (pa_cons (pv 1) pa_nil)) pa_nil))) (fun _ _ => rfl)) (pa_cons (pe_cmpR op_eq (C8.pe_c YDRAW hr (by decide) rfl (pa_cons (pv 5) (pa_cons pe_int pa_nil))) pe_int (nomark _)) pa_nil))))
      (pss_cons (ps_set (i := 7) scYlaw.nd rfl (Or.inl rfl) (pe_lst (pa_cons pe_non (pa_cons (pe_ix ix_tup (pv 6) pe_int (fun _ _ => rfl)) (pa_cons (pe_callTy call_list_of (by rfl) T.b_list (by decide +kernel) (pa_cons (pv 6) pa_nil)) (pa_cons (pe_tup (pa_cons pe_str (pa_cons pe_bl pa_nil))) (pa_cons (pe_tup (pa_cons (pe_ix ix_tup (pv 6) pe_int (fun _ _ => rfl)) (pa_cons pe_int pa_nil))) (pa_cons (pe_tup (pa_cons (pe_ix ix_tup (pv 6) pe_int (fun _ _ => rfl)) pa_nil)) (pa_cons (pe_tup (pa_cons (pe_ix ix_tup (pv 6) pe_int (fun _ _ => rfl)) (pa_cons pe_bl (pa_cons pe_bl pa_nil)))) (pa_cons (Own.pe_revA (pv 6)) pa_nil))))))))))
      (pss_cons (ps_set (i := 7) scYlaw.nd rfl (Or.inl rfl) (pe_op op_cat (pv 7) (pe_lst (pa_cons (pe_tup (pa_cons (pe_lst (pa_cons (pe_ix ix_tup (pv 6) pe_int (fun _ _ => rfl)) pa_nil)) (pa_cons pe_bl pa_nil))) (pa_cons (pe_tup (pa_cons (pe_ix ix_tup (pv 6) pe_int (fun _ _ => rfl)) (pa_cons (pe_lst (pa_cons pe_bl pa_nil)) pa_nil))) (pa_cons (pe_tup (pa_cons pe_dnewK (pa_cons pe_bl pa_nil))) pa_nil))))))
      (pss_cons (ps_if (pt_not (pt_val (C8.pe_c YLREF hr (by decide) rfl (pa_cons (pv 4) (pa_cons (pe_ix ix_list (pv 7) (C8.pe_c YDRAW hr (by decide) rfl (pa_cons (pv 5) (pa_cons pe_int pa_nil))) (fun _ _ => rfl)) (pa_cons (pv 6) pa_nil)))))) (pss_one (ps_ret pe_bl)) pss_nil)
      (pss_cons (ps_set (i := 8) scYlaw.nd rfl (Or.inl rfl) (pe_op op_cat (pe_lc (own := [("_law_name_here", 15)]) (g := gName 15) (tt := tYes) rfl scYlaw.nd (pi_list (pv 1)) (blkOk_by (own := [("_law_name_here", 15)]) (N := NYlaw) (sc := defScope s_law) (by decide +kernel)) (fun _ _ _ _ _ => (pg_name (i := 15) scYlaw.nd rfl (Or.inl rfl))) (fun _ _ _ _ _ => pts_nil) (fun _ _ _ _ _ => (pe_tup (pa_cons (pv 15) (pa_cons pe_bl pa_nil))))) (pe_lc (own := [("_law_name_here", 15)]) (g := gName 15) (tt := tYes) rfl scYlaw.nd (pi_list (pv 1)) (blkOk_by (own := [("_law_name_here", 15)]) (N := NYlaw) (sc := defScope s_law) (by decide +kernel)) (fun _ _ _ _ _ => (pg_name (i := 15) scYlaw.nd rfl (Or.inl rfl))) (fun _ _ _ _ _ => pts_nil) (fun _ _ _ _ _ => (pe_tup (pa_cons (pv 15) (pa_cons pe_bl pa_nil)))))))
      (pss_cons (ps_setLc (i := 9) (own := [("_law_literal", 16)]) (g := gName 16) (tt := tYes) rfl scYlaw.nd rfl rfl (sw_true rfl rfl rfl (by decide +kernel)) (pi_list (pv 8)) (blkOk_by (own := [("_law_literal", 16)]) (N := NYlaw) (sc := defScope s_law) (by decide +kernel)) (fun _ _ _ _ _ => (pg_name (i := 16) scYlaw.nd rfl (Or.inl rfl))) (fun _ _ _ _ _ => pts_nil) (fun _ _ _ _ _ => (C8.pe_c YLCLOS hr (by decide) rfl (pa_cons (pv 16) (pa_cons (pv 2) pa_nil)))))
      (pss_cons (ps_for PassesOwn.never rfl (pi_range1 rfl T.b_range (pa_cons (pe_callB call_len (by rfl) T.b_len PySem.boot_len (pa_cons (pv 8) pa_nil)) pa_nil)) (pg_name (i := 10) scYlaw.nd rfl (Or.inl rfl))
        (pss_cons (ps_set (i := 11) scYlaw.nd rfl (Or.inl rfl) (C8.pe_c YFOLLOWS hr (by decide) rfl (pa_cons (pv 4) (pa_cons (pe_ix ix_list (pv 8) (pv 10) (fun _ _ => rfl)) pa_nil))))
      (pss_cons (ps_if (PW.pt (pw_or (pt_not (pt_val (pe_callB (show CallR _ (.builtin "isinstance") (rIsi K) from call_isi) (by rfl) T.b_isinstance (by decide +kernel) (pa_cons (pv 11) (pa_cons (pe_bltn (v := .ty "list") (by rfl) T.b_list (by decide +kernel) rfl) pa_nil))))) (pw_or1 (pt_cmpR (op_neD hr.units) (pv 11) (pe_ix ix_list (pv 9) (pv 10) (fun _ _ => rfl)) (nomark _))))) (pss_one (ps_ret pe_bl)) pss_nil)
      (pss_cons (ps_if (pt_cmpR op_gt (pe_callB call_len (by rfl) T.b_len PySem.boot_len (pa_cons (pe_lc (own := [("_law_literal", 16)]) (g := gName 16) rfl scYlaw.nd (pi_list (pv 11)) (blkOk_by (own := [("_law_literal", 16)]) (N := NYlaw) (sc := defScope s_law) (by decide +kernel)) (fun _ _ _ _ _ => (pg_name (i := 16) scYlaw.nd rfl (Or.inl rfl))) (fun _ _ _ _ _ => pts_one (pt_not (pt_val (pe_callB (show CallR _ (.builtin "isinstance") (rIsi K) from call_isi) (by rfl) T.b_isinstance (by decide +kernel) (pa_cons (pe_ix (show IxR _ (rIxT K) from ix_tup) (pv 16) pe_int (fun _ _ => rfl)) (pa_cons (pe_bltn (v := .ty "bool") (by rfl) T.b_bool (by decide +kernel) rfl) pa_nil)))))) (fun _ _ _ _ _ => (pv 16))) pa_nil)) pe_int (nomark _)) (pss_one (ps_ret pe_bl)) pss_nil)
      (pss_cons (ps_expr (pe_bm0 PySem.F.plainAttrs_list PySem.F.slot_list_clear PySem.F.type_list_clear mt_clear (pv 11)))
      (pss_one (ps_if (pt_cmpR (op_neD hr.units) (C8.pe_c YFOLLOWS hr (by decide) rfl (pa_cons (pv 4) (pa_cons (pe_ix ix_list (pv 8) (pv 10) (fun _ _ => rfl)) pa_nil))) (pe_ix ix_list (pv 9) (pv 10) (fun _ _ => rfl)) (nomark _)) (pss_one (ps_ret pe_bl)) pss_nil)))))))
      (pss_cons (ps_for PassesOwn.never rfl (pi_range1 rfl T.b_range (pa_cons (pe_callB call_len (by rfl) T.b_len PySem.boot_len (pa_cons (pv 8) pa_nil)) pa_nil)) (pg_name (i := 10) scYlaw.nd rfl (Or.inl rfl))
        (pss_cons (ps_set (i := 12) scYlaw.nd rfl (Or.inl rfl) (pe_ix ix_list (pv 8) (pe_op op_modN (pe_op op_add (pe_op op_mul pe_int (pv 10)) (C8.pe_c YDRAW hr (by decide) rfl (pa_cons (pv 5) (pa_cons pe_int pa_nil)))) (pe_callB call_len (by rfl) T.b_len PySem.boot_len (pa_cons (pv 8) pa_nil))) (fun _ _ => rfl)))
      (pss_cons (ps_set (i := 13) scYlaw.nd rfl (Or.inl rfl) (C8.pe_c YCHAINC hr (by decide) rfl (pa_cons (pv 4) (pa_cons (pe_ix ix_list (pv 8) (pv 10) (fun _ _ => rfl)) (pa_cons (pv 12) pa_nil)))))
      (pss_cons (ps_if (pt_cmpR op_ne (pe_cmpR op_isN (pv 13) pe_non (nomark _)) (pe_cmpR (Own.op_notInDL (room65 hr)) (pv 12) (pe_ix ix_list (pv 9) (pv 10) (fun _ _ => rfl)) (by rfl)) (nomark _)) (pss_one (ps_ret pe_bl)) pss_nil)
      (pss_cons (ps_if (PW.pt (pw_and (pt_cmpR op_notN (pv 13) pe_non (nomark _)) (pw_and1 (pt_not (pt_val (C8.pe_c YLCHAIN hr (by decide) rfl (pa_cons (pv 13) (pa_cons (pe_ix ix_list (pv 8) (pv 10) (fun _ _ => rfl)) (pa_cons (pv 12) (pa_cons (pv 2) pa_nil)))))))))) (pss_one (ps_ret pe_bl)) pss_nil)
      (pss_cons (ps_if (pt_cmpR op_notN (pv 13) pe_non (nomark _)) (pss_cons (ps_expr (pe_bm0 PySem.F.plainAttrs_list PySem.F.slot_list_clear PySem.F.type_list_clear mt_clear (pv 13)))
      (pss_cons (ps_set (i := 13) scYlaw.nd rfl (Or.inl rfl) (C8.pe_c YCHAINC hr (by decide) rfl (pa_cons (pv 4) (pa_cons (pe_ix ix_list (pv 8) (pv 10) (fun _ _ => rfl)) (pa_cons (pv 12) pa_nil)))))
      (pss_one (ps_if (pt_not (pt_val (C8.pe_c YLCHAIN hr (by decide) rfl (pa_cons (pv 13) (pa_cons (pe_ix ix_list (pv 8) (pv 10) (fun _ _ => rfl)) (pa_cons (pv 12) (pa_cons (pv 2) pa_nil))))))) (pss_one (ps_ret pe_bl)) pss_nil)))) pss_nil)
      (pss_cons (ps_set (i := 14) scYlaw.nd rfl (Or.inl rfl) (pe_bm PySem.F.plainAttrs_list PySem.F.slot_list_index PySem.F.type_list_index (Own.mtd_indexTB hr.units) (pv 8) (pa_cons (pe_tup (pa_cons (pe_ix ix_tup (pv 12) pe_int (fun _ _ => rfl)) (pa_cons (pe_not (pe_ix ix_tup (pv 12) pe_int (fun _ _ => rfl))) pa_nil))) pa_nil)))
      (pss_one (ps_if (pt_cmpR op_ne (pe_cmpR (Own.op_inDL (room65 hr)) (pe_tup (pa_cons (pe_ix ix_tup (pe_ix ix_list (pv 8) (pv 10) (fun _ _ => rfl)) pe_int (fun _ _ => rfl)) (pa_cons (pe_not (pe_ix ix_tup (pe_ix ix_list (pv 8) (pv 10) (fun _ _ => rfl)) pe_int (fun _ _ => rfl))) pa_nil))) (pe_ix ix_list (pv 9) (pv 14) (fun _ _ => rfl)) (by rfl)) (pe_cmpR (Own.op_inDL (room65 hr)) (pv 12) (pe_ix ix_list (pv 9) (pv 10) (fun _ _ => rfl)) (by rfl)) (nomark _)) (pss_one (ps_ret pe_bl)) pss_nil)))))))))
      (pss_one (ps_ret pe_bl))))))))))))), zrun h ?_⟩
  rintro as P XP ⟨xs, rfl, hxs, hp⟩ hl
  obtain ⟨p0, rfl⟩ := len1 hl
  refine ⟨16, rfl, by decide, ?_⟩
  refine blk_seq (blk_asg (vs := [1, 2, 3]) (t := tTab K) (ev_call0 (ea_cons (ev_var rfl (ea_cons (ev_c (t := tInt) (fun _ _ => rfl) (ea_cons (ev_c (t := tInt) (fun _ _ => rfl) (ea_nil ⟨fun _ => rfl, allc trivial (allc trivial (all1 trivial)), xs, 12, 24, rfl, ⟨hxs, by decide, by decide, by decide, by decide⟩, fun t ⟨tk, tn, tr⟩ _ => ?_⟩)))))))))
  refine tg_unl3 (tg_name (by decide) (free_of rfl) (tg_name (by decide) (free_of rfl) (tg_name (by decide) (free_of rfl) ?_)))
  obtain ⟨ns, rs, ps⟩ := t
  have no : NsOk ns := tk.no
  have n12 : ns.length ≤ 12 := by have tn : (ns.length : Int) ≤ 12 := tn; omega
  have n0 : 0 < ns.length := no.lo
  have kd : (ps.map (·.1)).Nodup := by have : ps.map (·.1) = ns := tk.ks; rw [this]; exact no.nd
  refine blk_norm ⟨true, [.sh (tScr K) xs, .sh (tLs K tStr) ns, .sh (tLs K (tRow K)) rs, .sh (tDk kS tInt) ps, .un, .un, .un, .un, .un, .un, .un, .un, .un, .un, .un, .un, .un], [some p0]⟩ rfl ?_
  refine blk_seq (blk_set (t := yCl K CC) (EvR.share (O := oCl K CC) (ev_make0 (O := oCl K CC) rfl (ea_cons (t := tTu K tStr) (ev_cb rc_tupL (ev_var (t := tLs K tStr) (x := ns) rfl ⟨fun h => (nomatch h), ?_⟩))))))
  refine ea_cons (t := tLs K (tRow K)) (EvR.share (O := oL K (tRow K)) (ev_cb rc_listL (ev_var (t := tLs K (tRow K)) (x := rs) rfl ⟨fun h => (nomatch h), ?_⟩)))
  refine ea_cons (t := tDk kS tInt) (EvR.share (O := oD kS tInt) (ev_cb rc_dictD (ev_var (t := tDk kS tInt) (x := ps) rfl ⟨fun h => (nomatch h), ea_nil ⟨fun _ => rfl, allc trivial (allc trivial (all1 trivial)), (fun os _ => ∃ c r', os = .ow (oCl K CC) c :: r' ∧ ClOf ns rs ps c), ⟨ns, rs, ps, rfl, ?_, fun c hc os => ⟨c, os, rfl, hc⟩⟩, fun os y ⟨c, r', e, hc⟩ => ⟨c, r', e, rfl, ?_⟩⟩⟩)))
  · have lk : ∀ e ∈ ps, gD ps e.1 = e.2 := fun e he => by unfold gD; rw [look_ix kd he]; rfl
    have ksl := congrArg List.length (show ps.map (·.1) = ns from tk.ks)
    rw [List.length_map] at ksl
    exact ⟨no, tk.ro, ksl, fun x hx => by
      have hx : x ∈ ps.map (·.1) := by rw [tk.ks]; exact hx
      obtain ⟨e, he, rfl⟩ := List.mem_map.mp hx
      rw [lk e he]
      exact ⟨look_ix kd he, tk.po e he⟩⟩
  obtain ⟨TB, er⟩ := tabC_of (t := (ns, rs, ps)) tk hc
  have TB : TabC ns ps c := TB
  have er : c.rs = rs := er
  subst er
  have wc := TB.wc
  have cn : ∀ {x}, x ∈ c.ns ↔ x ∈ ns := fun {x} => TB.pm.mem_iff
  have ro9 : ∀ r ∈ c.rs, r.1.1 ∈ ns ∧ r.2.1 ∈ ns := TB.ro
  have sk : ∀ x ∈ ns, PyData.strOk x = true := fun x h => strOk_name (no.ok _ h)
  have okR : ∀ r ∈ c.rs, (PyData.strOk r.1.1 = true ∧ True) ∧ (PyData.strOk r.2.1 = true ∧ True) := fun r h => ⟨⟨sk _ (ro9 r h).1, trivial⟩, ⟨sk _ (ro9 r h).2, trivial⟩⟩
  have nst : (("strangers" : Str)) ∉ c.ns := fun h => by
    have := no.ok _ (cn.mp h)
    exact absurd this.hi (by decide)
  refine blk_seq (blk_set (ev_call0 (ea_cons (ev_var rfl (ea_cons (ev_c (t := tInt) (fun _ _ => rfl) (ea_nil ⟨fun h => (nomatch h), allc trivial (all1 trivial), xs, 4, rfl, ⟨hxs, by decide, by decide⟩, fun _ => ⟨rfl, ?_⟩⟩)))))))
  refine blk_seq (blk_set (t := tLit K) (ev_t2 (ev_op ro_ixL (ev_var (t := tLs K tStr) (x := ns) rfl (ev_draw rfl (ev_cb rc_lenL (ev_var (t := tLs K tStr) (x := ns) rfl ⟨fun h => (nomatch h), ⟨by omega, Int.lt_of_le_of_lt (show (ns.length : Int) ≤ 40 by omega) (by decide)⟩, fun r a1 b1 => ?_⟩)))))))
  obtain ⟨x, ex1, hx⟩ := at_in a1 b1
  refine ⟨x, ex1, ev_op ro_eqI (ev_draw rfl (ev_c (t := tInt) (fun _ _ => rfl) ⟨⟨by decide, by decide⟩, fun fl _ _ => ev_c (t := tInt) (fun _ _ => rfl) ⟨rfl, ?_⟩⟩))⟩
  obtain ⟨g, eg⟩ : ∃ g : Lit, g = (x, decide (fl = 0)) := ⟨_, rfl⟩
  have hg : g.1 ∈ c.ns := by rw [eg]; exact cn.mpr hx
  refine blk_norm ⟨true, [.sh (tScr K) xs, .sh (tLs K tStr) ns, .sh (tLs K (tRow K)) c.rs, .sh (tDk kS tInt) ps, .sh (yCl K CC) c, .sh tStm (), .sh (tLit K) g, .un, .un, .un, .un, .un, .un, .un, .un, .un, .un], [some p0]⟩ (by rw [eg]; rfl) ?_
  -- what is no literal
  refine blk_cut (fun G => ∃ bs : List (Option (List V)), (bs.length = 8 ∧ ∀ o ∈ bs, BadL c.ns o) ∧ G = ⟨true, [.sh (tScr K) xs, .sh (tLs K tStr) ns, .sh (tLs K (tRow K)) c.rs, .sh (tDk kS tInt) ps, .sh (yCl K CC) c, .sh tStm (), .sh (tLit K) g, .sh (tLs K (tTV K)) bs, .un, .un, .un, .un, .un, .un, .un, .un, .un], [some p0]⟩) ?_ ?_
  · have gx {P : Ct → Str → Prop} {X : Y.Xw} {k : Bool} {G : Ct} (hG : G.s[6]? = some (.sh (tLit K) g)) (h : P G g.1) : Ev X k (tOp (rIxT K) (tVar 6) (tC (.int 0))) G tStr P := ev_op ro_t20 (ev_var (t := tLit K) (x := g) hG (ev_c (t := tInt) (fun _ _ => rfl) ⟨rfl, h⟩))
    refine blk_set (t := tLs K (tTV K)) (EvR.share (O := oL K (tTV K)) (ev_list (K := K) (t := tTV K) (es_cons (ev_flatTV (t := tNon) (fun W H v x r => by rw [show v = V.non from r]; rfl) (ev_c (t := tNon) (x := ()) (fun _ _ => rfl) ?_)))))
    refine es_cons (ev_flatTV (t := tStr) (fun W H v x r => by rw [show v = V.str x from r]; rfl) (gx rfl ?_))
    refine es_cons (ev_lsTV (t := tV K) (EvR.share (O := oL K (tV K)) (ev_cb rc_listT (ev_litT (ev_var (t := tLit K) (x := g) rfl ⟨fun h => (nomatch h), ?_⟩)))))
    refine es_cons (ev_tuTV (ev_tuple (K := K) (t := tV K) (es_cons (ev_Vs (ev_c (t := tStr) (fun _ _ => rfl) (es_cons (ev_Vb (ev_c (t := tBl) (x := true) (fun _ _ => rfl) (es_nil ⟨Nat.le_of_ble_eq_true rfl, ?_⟩)))))))))
    refine es_cons (ev_tuTV (ev_tuple (K := K) (t := tV K) (es_cons (ev_Vs (gx rfl (es_cons (ev_Vi (ev_c (t := tInt) (fun _ _ => rfl) (es_nil ⟨Nat.le_of_ble_eq_true rfl, ?_⟩)))))))))
    refine es_cons (ev_tuTV (ev_tuple (K := K) (t := tV K) (es_cons (ev_Vs (gx rfl (es_nil ⟨Nat.le_of_ble_eq_true rfl, ?_⟩))))))
    refine es_cons (ev_tuTV (ev_tuple (K := K) (t := tV K) (es_cons (ev_Vs (gx rfl (es_cons (ev_Vb (ev_c (t := tBl) (x := true) (fun _ _ => rfl) (es_cons (ev_Vb (ev_c (t := tBl) (x := true) (fun _ _ => rfl) (es_nil ⟨Nat.le_of_ble_eq_true rfl, ?_⟩))))))))))))
    refine es_cons (ev_tuTV (ev_revA (ev_litT (ev_var (t := tLit K) (x := g) rfl (es_nil ⟨Nat.le_of_ble_eq_true rfl, rfl, _, ⟨rfl, ?_⟩, rfl⟩)))))
    intro o ho
    simp only [List.mem_cons, List.not_mem_nil, or_false] at ho
    rcases ho with rfl | rfl | rfl | rfl | rfl | rfl | rfl | rfl
    · exact bad_none _
    · exact bad_none _
    · exact bad_none _
    · exact bad_fst (decide_eq_false nst)
    · exact bad_snd rfl
    · exact bad_one
    · exact bad_three
    · exact bad_fst rfl
  rintro _ ⟨bs, ⟨bl, bb⟩, rfl⟩
  refine blk_cut (fun G => ∃ bs : List (Option (List V)), (bs.length = 11 ∧ ∀ o ∈ bs, BadL c.ns o) ∧ G = ⟨true, [.sh (tScr K) xs, .sh (tLs K tStr) ns, .sh (tLs K (tRow K)) c.rs, .sh (tDk kS tInt) ps, .sh (yCl K CC) c, .sh tStm (), .sh (tLit K) g, .sh (tLs K (tTV K)) bs, .un, .un, .un, .un, .un, .un, .un, .un, .un], [some p0]⟩) ?_ ?_
  · have gx {P : Ct → Str → Prop} {X : Y.Xw} {k : Bool} {G : Ct} (hG : G.s[6]? = some (.sh (tLit K) g)) (h : P G g.1) : Ev X k (tOp (rIxT K) (tVar 6) (tC (.int 0))) G tStr P := ev_op ro_t20 (ev_var (t := tLit K) (x := g) hG (ev_c (t := tInt) (fun _ _ => rfl) ⟨rfl, h⟩))
    refine blk_set (t := tLs K (tTV K)) (EvR.share (O := oL K (tTV K)) (ev_op ro_cat (ev_var (t := tLs K (tTV K)) (x := bs) rfl (EvR.share (O := oL K (tTV K)) (ev_list (K := K) (t := tTV K) (es_cons (ev_tuTV (ev_tuple (K := K) (t := tV K) (es_cons (ev_Vl (EvR.share (O := oL K tStr) (ev_list (K := K) (t := tStr) (es_cons (gx rfl (es_nil ⟨Nat.le_of_ble_eq_true rfl, fun a1 => es_cons (ev_Vb (ev_c (t := tBl) (x := true) (fun _ _ => rfl) (es_nil ⟨Nat.le_of_ble_eq_true rfl, ?_⟩)))⟩)))))))))))))))
    refine es_cons (ev_tuTV (ev_tuple (K := K) (t := tV K) (es_cons (ev_Vs (gx rfl (es_cons (ev_Vl (EvR.share (O := oL K tBl) (ev_list (K := K) (t := tBl) (es_cons (ev_c (t := tBl) (x := true) (fun _ _ => rfl) (es_nil ⟨Nat.le_of_ble_eq_true rfl, fun a2 => es_nil ⟨Nat.le_of_ble_eq_true rfl, ?_⟩⟩))))))))))))
    refine es_cons (ev_tuTV (ev_tuple (K := K) (t := tV K) (es_cons (ev_Vd (EvR.share (O := oD kS tInt) (ev_dnew kS tInt fun a3 => es_cons (ev_Vb (ev_c (t := tBl) (x := false) (fun _ _ => rfl) (es_nil ⟨Nat.le_of_ble_eq_true rfl, es_nil ⟨Nat.le_of_ble_eq_true rfl, Nat.le_of_lt (fits40 ?_), rfl, _, ⟨?_, ?_⟩, rfl⟩⟩)))))))))
    · rw [bl]; show 8 + 3 ≤ 1000; decide
    · rw [List.length_append, bl]; rfl
    intro o ho
    rcases List.mem_append.mp ho with ho | ho
    · exact bb o ho
    simp only [List.nil_append, List.cons_append, List.mem_cons, List.not_mem_nil, or_false] at ho
    rcases ho with rfl | rfl | rfl
    · exact bad_fst rfl
    · exact bad_snd rfl
    · exact bad_fst rfl
  rintro _ ⟨bs, ⟨bl, bb⟩, rfl⟩
  refine blk_seq (blk_if (et_not (et_b (ev_call0 (ea_cons (ev_var rfl (ea_cons (t := tTV K) (ev_op ro_ixL (ev_var (t := tLs K (tTV K)) (x := bs) rfl (ev_draw rfl (ev_c (t := tInt) (fun _ _ => rfl) ⟨⟨by decide, by decide⟩, fun r2 a2 b2 => ?_⟩)))))))))))
  obtain ⟨o, eo, ho⟩ := at_in (xs := bs) a2 (by rw [bl]; exact b2)
  refine ⟨o, eo, ea_cons (ev_var (t := tLit K) (x := g) rfl (ea_nil ⟨fun _ => rfl, allc trivial (allc trivial (all1 trivial)), c, o, g, rfl, ⟨wc, hg, bb o ho⟩, fun _ => ⟨fun h => (nomatch h), fun _ => blk_next ?_⟩⟩))⟩
  refine blk_norm ⟨true, [.sh (tScr K) xs, .sh (tLs K tStr) ns, .sh (tLs K (tRow K)) c.rs, .sh (tDk kS tInt) ps, .sh (yCl K CC) c, .sh tStm (), .sh (tLit K) g, .sh (tLs K (tTV K)) bs, .un, .un, .un, .un, .un, .un, .un, .un, .un], [some p0]⟩ rfl ?_
  -- all literals
  let LT : List Lit := (ns.map fun x => (x, false)) ++ ns.map fun x => (x, true)
  have ltl : LT.length = 2 * ns.length := by
    simp only [LT, List.length_append, List.length_map]
    omega
  have ltm : ∀ l : Lit, l ∈ LT ↔ l.1 ∈ ns := fun l => by
    obtain ⟨y, b⟩ := l
    simp only [LT, List.mem_append, List.mem_map]
    constructor
    · rintro (⟨z, hz, e⟩ | ⟨z, hz, e⟩) <;> cases e <;> exact hz
    · intro h
      cases b with
      | false => exact .inl ⟨y, h, rfl⟩
      | true => exact .inr ⟨y, h, rfl⟩
  have okT : ∀ l : Lit, l.1 ∈ ns → PyData.strOk l.1 = true ∧ True := fun l h => ⟨sk _ h, trivial⟩
  have okK : ∀ {l : Lit} {ks : List Lit}, l.1 ∈ ns → Clo c.rs l ks → ∀ m ∈ ks, PyData.strOk m.1 = true ∧ True := fun {l ks} h1 h2 m hm => okT m (((h2.2.1 m).mp hm).ns ro9 h1)
  have lenK : ∀ {l : Lit} {ks : List Lit}, l.1 ∈ ns → Clo c.rs l ks → ks.length ≤ 24 := fun {l ks} h1 h2 => by
    have := sub_lenS h2.1 fun m hm => mem_lits.mpr (((h2.2.1 m).mp hm).ns ro9 h1)
    rw [lits_len] at this
    omega
  refine blk_seq (blk_set (t := tLs K (tLit K)) (EvR.share (O := oL K (tLit K)) (ev_op ro_cat (EvR.share (O := oL K (tLit K)) (ev_lc (K := K) (u := tLit K) (vs := [15]) (ei_list (ev_var (t := tLs K tStr) (x := ns) rfl ⟨(fun i ys => ys = (ns.take i).map fun x => (x, false)), fits40 (by omega), frees1 (free_of rfl), rfl, ?_, ?_⟩)))))))
  · rintro i y ys hy rfl
    refine tg_name (by decide) (free_of rfl) (et_yes ⟨fun _ => ev_t2 (ev_var rfl (ev_c (t := tBl) (x := false) (fun _ _ => rfl) ?_)), fun h => (nomatch h)⟩)
    show _ ++ [_] = _
    rw [take_more hy, List.map_append]
    rfl
  rintro ys rfl
  rw [List.take_length]
  refine EvR.share (O := oL K (tLit K)) (ev_lc (K := K) (u := tLit K) (vs := [15]) (ei_list (ev_var (t := tLs K tStr) (x := ns) rfl ⟨(fun i ys => ys = (ns.take i).map fun x => (x, true)), fits40 (by omega), frees1 (free_of rfl), rfl, ?_, ?_⟩)))
  · rintro i y ys hy rfl
    refine tg_name (by decide) (free_of rfl) (et_yes ⟨fun _ => ev_t2 (ev_var rfl (ev_c (t := tBl) (x := true) (fun _ _ => rfl) ?_)), fun h => (nomatch h)⟩)
    show _ ++ [_] = _
    rw [take_more hy, List.map_append]
    rfl
  rintro ys rfl
  rw [List.take_length]
  refine ⟨Nat.le_of_lt (fits40 (by rw [List.length_map, List.length_map]; omega)), rfl, ?_⟩
  -- the list of what follows from each
  refine blk_cut (fun G => ∃ LS : List (List Lit), (LS.length = LT.length ∧ ∀ (j : Nat) (l : Lit), LT[j]? = some l → ∃ ks, LS[j]? = some ks ∧ Clo c.rs l ks) ∧ G = ⟨true, [.sh (tScr K) xs, .sh (tLs K tStr) ns, .sh (tLs K (tRow K)) c.rs, .sh (tDk kS tInt) ps, .sh (yCl K CC) c, .sh tStm (), .sh (tLit K) g, .sh (tLs K (tTV K)) bs, .sh (tLs K (tLit K)) LT, .sh (tLs K (tLs K (tLit K))) LS, .un, .un, .un, .un, .un, .un, .un], [some p0]⟩) ?_ ?_
  · refine blk_set (t := tLs K (tLs K (tLit K))) (EvR.share (O := oL K (tLs K (tLit K))) (ev_lc (K := K) (u := tLs K (tLit K)) (vs := [16]) (ei_list (ev_var (t := tLs K (tLit K)) (x := LT) rfl ⟨(fun i (ys : List (List Lit)) => ys.length = i ∧ ∀ (j : Nat) (l : Lit), j < i → LT[j]? = some l → ∃ ks, ys[j]? = some ks ∧ Clo c.rs l ks), fits40 (by omega), frees1 (free_of rfl), ⟨rfl, fun j l h => absurd h (by omega)⟩, ?_, ?_⟩))))
    · rintro i l ys hli ⟨h1, h2⟩
      have hm : l.1 ∈ ns := (ltm l).mp (List.mem_of_getElem? hli)
      refine tg_name (by decide) (free_of rfl) (et_yes ⟨fun _ => EvR.share (O := oL K (tLit K)) (ev_call0 (ea_cons (ev_var (t := tLit K) (x := l) rfl (ea_cons (ev_var rfl (ea_nil ⟨fun _ => rfl, allc trivial (all1 trivial), l, c.rs, ns, rfl, ⟨hm, no.nd, n12, sk, ro9⟩, fun ks k1 k2 k3 _ => ?_⟩)))))), fun h => (nomatch h)⟩)
      show (ys ++ [ks]).length = i + 1 ∧ _
      refine ⟨by rw [List.length_append, h1]; rfl, fun j l' hj hl' => ?_⟩
      rcases Nat.lt_or_ge j i with q | q
      · rw [List.getElem?_append_left (by omega)]
        exact h2 j l' q hl'
      · have : j = i := by omega
        subst this
        rw [hli] at hl'
        cases hl'
        rw [List.getElem?_append_right (by omega), h1, Nat.sub_self]
        exact ⟨ks, rfl, k1, k2, k3⟩
    · rintro ys ⟨h1, h2⟩
      exact ⟨rfl, ys, ⟨h1, fun j l hl' => h2 j l (List.getElem?_eq_some_iff.mp hl').1 hl'⟩, rfl⟩
  rintro _ ⟨LS, ⟨ls1, ls2⟩, rfl⟩
  refine blk_seq (blk_for (vs := [10]) (ei_range1 (ev_cb rc_lenL (ev_var (t := tLs K (tLit K)) (x := LT) rfl ⟨fun h => (nomatch h), ⟨by omega, by omega⟩, (fun i G' => ∃ s10 s11 s16, G' = ⟨true, [.sh (tScr K) xs, .sh (tLs K tStr) ns, .sh (tLs K (tRow K)) c.rs, .sh (tDk kS tInt) ps, .sh (yCl K CC) c, .sh tStm (), .sh (tLit K) g, .sh (tLs K (tTV K)) bs, .sh (tLs K (tLit K)) LT, .sh (tLs K (tLs K (tLit K))) LS, s10, s11, .un, .un, .un, .un, s16], [some p0]⟩), ⟨_, _, _, rfl⟩, ?_, ?_⟩))))
  · rintro j k _ hk ⟨s10, s11, s16, rfl⟩
    obtain ⟨rfl, hj⟩ := rangeZ_get hk
    have hj : j < LT.length := by omega
    obtain ⟨l, hli⟩ : ∃ l, LT[j]? = some l := ⟨_, List.getElem?_eq_getElem hj⟩
    have hln : l.1 ∈ ns := (ltm l).mp (List.mem_of_getElem? hli)
    obtain ⟨ks, hks, CK⟩ := ls2 j l hli
    have kok := okK hln CK
    have k24 := lenK hln CK
    have one : ∀ ys : List Lit, ys.Nodup → (∀ m, m ∈ ys ↔ Rch c.rs l m) → AscT ys → ys = ks := fun ys h1 h2 h3 => Clo.uniq (l := l) ⟨h1, h2, h3⟩ CK
    refine tg_name (by decide) (free_of rfl) (blk_wipe [10, 11, 16] ?_)
    refine blk_seq (blk_setO (O := oL K (tLit K)) (ev_call0 (ea_cons (ev_var rfl (ea_cons (t := tLit K) (ev_op ro_ixL (ev_var (t := tLs K (tLit K)) (x := LT) rfl (ev_var rfl ⟨l, at_ofN (j := j) (by omega) hli, ea_nil ⟨fun _ => rfl, allc trivial (all1 trivial), c, l, rfl, ⟨wc, cn.mpr hln⟩, fun ys h1 h2 h3 h4 _ => ⟨rfl, ?_⟩⟩⟩))))))))
    obtain rfl := (one ys h1 h2 h3).symm
    refine blk_norm ⟨true, [.sh (tScr K) xs, .sh (tLs K tStr) ns, .sh (tLs K (tRow K)) c.rs, .sh (tDk kS tInt) ps, .sh (yCl K CC) c, .sh tStm (), .sh (tLit K) g, .sh (tLs K (tTV K)) bs, .sh (tLs K (tLit K)) LT, .sh (tLs K (tLs K (tLit K))) LS, .sh tInt (0 + (j : Int)), .ow (oL K (tLit K)) ks, .un, .un, .un, .un, s16], [some p0]⟩ rfl ?_
    refine blk_seq (blk_if (et_view (et_or (et_not (et_b (ev_isi (A := "list") (b := true) (fun W H v x ok _ r => by obtain ⟨a, vs, rfl, sq, _⟩ := r; exact .base (.lst sq.2)) (by decide +kernel) (ev_var (t := tLs K (tLit K)) (x := ks) rfl ⟨rfl, fun h => absurd h (by decide), fun _ => ?_⟩)))))))
    refine et_b (ev_op (ro_neE (eqe_L eqe_Lit)) (ev_var (t := tLs K (tLit K)) (x := ks) rfl (ev_op ro_ixL (ev_var (t := tLs K (tLs K (tLit K))) (x := LS) rfl (ev_var rfl ⟨ks, at_ofN (j := j) (by omega) hks, ⟨kok, kok⟩, fun h => absurd h (by simp), fun _ => blk_next ?_⟩)))))
    refine blk_seq (blk_if (et_view (et_b (ev_op ro_B0 (ev_cb rc_lenL (EvR.share (O := oL K (tLit K)) (ev_lc (K := K) (u := tLit K) (vs := [16]) (ei_list (ev_var (t := tLs K (tLit K)) (x := ks) rfl ⟨(fun i ys => ys = []), fits40 (by omega), frees1 (free_of rfl), rfl, ?_, ?_⟩)))))))))
    · rintro i2 l2 ys hl2 rfl
      exact tg_name (by decide) (free_of rfl) (et_not (et_b (ev_isi (A := "bool") (b := true) (fun W H v x ok _ r => by cases r; exact .base (.bl _)) (by decide +kernel) (t := tBl) (ev_op ro_t21 (ev_var (t := tLit K) (x := l2) rfl (ev_c (t := tInt) (fun _ _ => rfl) ⟨rfl, rfl, fun h => absurd h (by decide), fun _ => rfl⟩))))))
    rintro ys rfl
    refine ⟨fun h => (nomatch h), ev_c (t := tInt) (fun _ _ => rfl) ⟨fun h => absurd h (by decide), fun _ => blk_next (blk_seq (blk_clear (pt_var (i := 11) rfl (by decide)) ?_))⟩⟩
    exact blk_if (et_b (ev_op (ro_neE (eqe_L eqe_Lit)) (EvR.share (O := oL K (tLit K)) (ev_call0 (ea_cons (ev_var rfl (ea_cons (t := tLit K) (ev_op ro_ixL (ev_var (t := tLs K (tLit K)) (x := LT) rfl (ev_var rfl ⟨l, at_ofN (j := j) (by omega) hli, ea_nil ⟨fun _ => rfl, allc trivial (all1 trivial), c, l, rfl, ⟨wc, cn.mpr hln⟩, fun ys h1 h2 h3 h4 _ => ev_op ro_ixL (ev_var (t := tLs K (tLs K (tLit K))) (x := LS) rfl (ev_var rfl ⟨ks, at_ofN (j := j) (by omega) hks, ⟨by rw [one ys h1 h2 h3]; exact kok, kok⟩, fun h => absurd h (by rw [one ys h1 h2 h3]; simp), fun _ => blk_next ⟨_, _, _, rfl⟩⟩))⟩⟩))))))))))
  rintro _ ⟨s10, s11, s16, rfl⟩
  refine blk_seq (blk_for (vs := [10]) (ei_range1 (ev_cb rc_lenL (ev_var (t := tLs K (tLit K)) (x := LT) rfl ⟨fun h => (nomatch h), ⟨by omega, by omega⟩, (fun i G' => ∃ s10 s12 s13 s14, G' = ⟨true, [.sh (tScr K) xs, .sh (tLs K tStr) ns, .sh (tLs K (tRow K)) c.rs, .sh (tDk kS tInt) ps, .sh (yCl K CC) c, .sh tStm (), .sh (tLit K) g, .sh (tLs K (tTV K)) bs, .sh (tLs K (tLit K)) LT, .sh (tLs K (tLs K (tLit K))) LS, s10, s11, s12, s13, s14, .un, s16], [some p0]⟩), ⟨_, _, _, _, rfl⟩, ?_, ?_⟩))))
  · rintro j k _ hk ⟨s10, s12, s13, s14, rfl⟩
    obtain ⟨rfl, hj⟩ := rangeZ_get hk
    have hj : j < LT.length := by omega
    obtain ⟨l, hli⟩ : ∃ l, LT[j]? = some l := ⟨_, List.getElem?_eq_getElem hj⟩
    have hln : l.1 ∈ ns := (ltm l).mp (List.mem_of_getElem? hli)
    obtain ⟨ks, hks, CK⟩ := ls2 j l hli
    have kok := okK hln CK
    refine tg_name (by decide) (free_of rfl) (blk_wipe [10, 12, 13, 14] ?_)
    refine blk_seq (blk_set (t := tLit K) (ev_op ro_ixL (ev_var (t := tLs K (tLit K)) (x := LT) rfl (ev_op ro_I (ev_op ro_I0 (ev_op ro_I (ev_c (t := tInt) (fun _ _ => rfl) (ev_var rfl ⟨.inl ⟨by decide, by decide⟩, ev_draw rfl (ev_c (t := tInt) (fun _ _ => rfl) ⟨⟨by decide, by decide⟩, fun r3 a3 b3 => ev_cb rc_lenL (ev_var (t := tLs K (tLit K)) (x := LT) rfl ⟨fun h => (nomatch h), ?_, ?_⟩)⟩)⟩))))))))
    · show (LT.length : Int) ≠ 0
      omega
    obtain ⟨q, eq1, hqm⟩ := at_in (xs := LT) (i := (7 * (0 + (j : Int)) + r3).fmod (LT.length : Int)) (Int.fmod_nonneg_of_pos _ (by omega)) (Int.fmod_lt_of_pos _ (by omega))
    refine ⟨q, eq1, rfl, ?_⟩
    have hqn : q.1 ∈ ns := (ltm q).mp hqm
    refine blk_norm ⟨true, [.sh (tScr K) xs, .sh (tLs K tStr) ns, .sh (tLs K (tRow K)) c.rs, .sh (tDk kS tInt) ps, .sh (yCl K CC) c, .sh tStm (), .sh (tLit K) g, .sh (tLs K (tTV K)) bs, .sh (tLs K (tLit K)) LT, .sh (tLs K (tLs K (tLit K))) LS, .sh tInt (0 + (j : Int)), s11, .sh (tLit K) q, s13, s14, .un, s16], [some p0]⟩ rfl ?_
    have nnX : ∀ W H v x, (tLs K (tLit K)).R W H v x → v ≠ V.non := fun W H v x ⟨a, vs, e, _⟩ z => by rw [e] at z; cases z
    have hch : ∀ {Lc : List Lit}, ChainOk c.rs l q Lc → (∀ m ∈ Lc, m.1 ∈ c.ns) → (ChainOk c.rs l q Lc ∧ Lc.length ≤ 1000 ∧ (∀ m ∈ Lc, PyData.strOk m.1 = true ∧ True) ∧ ∀ r ∈ c.rs, (PyData.strOk r.1.1 = true ∧ True) ∧ (PyData.strOk r.2.1 = true ∧ True)) := fun {Lc} h1 h2 => ⟨h1, by have := h1.len h2; have := wc.no.hi; omega, fun m hm => okT m (cn.mp (h2 m hm)), okR⟩
    refine blk_cut (fun G => ∃ o : Option (List Lit), ((o = none ∧ ¬ Rch c.rs l q) ∨ ∃ Lc, o = some Lc ∧ ChainOk c.rs l q Lc ∧ ∀ m ∈ Lc, m.1 ∈ c.ns) ∧ G = ⟨true, [.sh (tScr K) xs, .sh (tLs K tStr) ns, .sh (tLs K (tRow K)) c.rs, .sh (tDk kS tInt) ps, .sh (yCl K CC) c, .sh tStm (), .sh (tLit K) g, .sh (tLs K (tTV K)) bs, .sh (tLs K (tLit K)) LT, .sh (tLs K (tLs K (tLit K))) LS, .sh tInt (0 + (j : Int)), s11, .sh (tLit K) q, .ow (oOpt (oL K (tLit K))) o, s14, .un, s16], [some p0]⟩) ?_ ?_
    · exact blk_setO (O := oOpt (oL K (tLit K))) (ev_call0 (ea_cons (ev_var rfl (ea_cons (t := tLit K) (ev_op ro_ixL (ev_var (t := tLs K (tLit K)) (x := LT) rfl (ev_var rfl ⟨l, at_ofN (j := j) (by omega) hli, ea_cons (ev_var (t := tLit K) (x := q) rfl (ea_nil ⟨fun _ => rfl, allc trivial (allc trivial (all1 trivial)), c, l, q, rfl, ⟨wc, cn.mpr hln, cn.mpr hqn⟩, fun n _ => ⟨rfl, none, .inl ⟨rfl, n⟩, rfl⟩, fun Lc ok nl _ => ⟨rfl, some Lc, .inr ⟨Lc, rfl, ok, nl⟩, rfl⟩⟩))⟩)))))))
    rintro _ ⟨o, ho, rfl⟩
    -- the two opposites
    have hon : (opp q).1 ∈ ns := hqn
    refine blk_cut (fun G => ∃ s13, G = ⟨true, [.sh (tScr K) xs, .sh (tLs K tStr) ns, .sh (tLs K (tRow K)) c.rs, .sh (tDk kS tInt) ps, .sh (yCl K CC) c, .sh tStm (), .sh (tLit K) g, .sh (tLs K (tTV K)) bs, .sh (tLs K (tLit K)) LT, .sh (tLs K (tLs K (tLit K))) LS, .sh tInt (0 + (j : Int)), s11, .sh (tLit K) q, .ow (oOpt (oL K (tLit K))) o, s14, .un, s16], [some p0]⟩) (blk_if (et_view (et_b (ev_op ro_neB (ev_op (ro_isO nnX) (ev_var (t := tOpt (tLs K (tLit K))) (x := o) rfl (ev_c (t := tNon) (x := ()) (fun _ _ => rfl) (ev_op (ro_inE eqe_Lit true) (ev_var (t := tLit K) (x := q) rfl (ev_op ro_ixL (ev_var (t := tLs K (tLs K (tLit K))) (x := LS) rfl (ev_var rfl ⟨ks, at_ofN (j := j) (by omega) hks, ⟨okT q hqn, kok⟩, fun h => ?_, fun _ => blk_next ⟨s13, rfl⟩⟩)))))))))))) ?_
    · exfalso
      rcases ho with ⟨rfl, n⟩ | ⟨Lc, rfl, ok, nl⟩
      · have : q ∉ ks := fun z => n ((CK.2.1 q).mp z)
        simp [this] at h
      · have : q ∈ ks := (CK.2.1 q).mpr ok.rch
        simp [this] at h
    rintro _ ⟨s13', rfl⟩
    refine blk_cut (fun G => G = ⟨true, [.sh (tScr K) xs, .sh (tLs K tStr) ns, .sh (tLs K (tRow K)) c.rs, .sh (tDk kS tInt) ps, .sh (yCl K CC) c, .sh tStm (), .sh (tLit K) g, .sh (tLs K (tTV K)) bs, .sh (tLs K (tLit K)) LT, .sh (tLs K (tLs K (tLit K))) LS, .sh tInt (0 + (j : Int)), s11, .sh (tLit K) q, .ow (oOpt (oL K (tLit K))) o, s14, .un, s16], [some p0]⟩) (blk_if (et_view (et_and (et_b (ev_op (ro_notO nnX) (ev_var (t := tOpt (tLs K (tLit K))) (x := o) rfl (ev_c (t := tNon) (x := ()) (fun _ _ => rfl) ⟨fun h => ?_, fun h => ⟨fun h => (nomatch h), fun _ => blk_next rfl⟩⟩))))))) ?_
    · rcases ho with ⟨rfl, n⟩ | ⟨Lc, rfl, ok, nl⟩
      · cases h
      exact et_not (et_b (ev_call0 (ea_cons (t := tLs K (tLit K)) (ev_varS (x := Lc) rfl (ea_cons (t := tLit K) (ev_op ro_ixL (ev_var (t := tLs K (tLit K)) (x := LT) rfl (ev_var rfl ⟨l, at_ofN (j := j) (by omega) hli, ea_cons (ev_var (t := tLit K) (x := q) rfl (ea_cons (ev_var rfl (ea_nil ⟨fun _ => rfl, allc trivial (allc trivial (allc trivial (all1 trivial))), Lc, l, q, c.rs, rfl, hch ok nl, fun _ => ⟨fun h => (nomatch h), fun _ => blk_next rfl⟩⟩))))⟩))))))))
    rintro _ rfl
    refine blk_cut (fun G => ∃ s13, G = ⟨true, [.sh (tScr K) xs, .sh (tLs K tStr) ns, .sh (tLs K (tRow K)) c.rs, .sh (tDk kS tInt) ps, .sh (yCl K CC) c, .sh tStm (), .sh (tLit K) g, .sh (tLs K (tTV K)) bs, .sh (tLs K (tLit K)) LT, .sh (tLs K (tLs K (tLit K))) LS, .sh tInt (0 + (j : Int)), s11, .sh (tLit K) q, s13, s14, .un, s16], [some p0]⟩) (blk_if (et_view (et_b (ev_op (ro_notO nnX) (ev_var (t := tOpt (tLs K (tLit K))) (x := o) rfl (ev_c (t := tNon) (x := ()) (fun _ _ => rfl) ⟨fun h => ?_, fun h => blk_next ⟨_, rfl⟩⟩)))))) ?_
    · rcases ho with ⟨rfl, n⟩ | ⟨Lc, rfl, ok, nl⟩
      · cases h
      refine blk_reO (i := 13) (O := oOpt (oL K (tLit K))) (O' := oL K (tLit K)) (x := some Lc) (y := Lc) rfl (fun p W H v h => h) ?_
      refine blk_seq (blk_clear (pt_var (i := 13) rfl (by decide)) ?_)
      refine blk_seq (blk_set (t := tOpt (tLs K (tLit K))) (EvR.share (O := oOpt (oL K (tLit K))) (ev_call0 (ea_cons (ev_var rfl (ea_cons (t := tLit K) (ev_op ro_ixL (ev_var (t := tLs K (tLit K)) (x := LT) rfl (ev_var rfl ⟨l, at_ofN (j := j) (by omega) hli, ea_cons (ev_var (t := tLit K) (x := q) rfl (ea_nil ⟨fun _ => rfl, allc trivial (allc trivial (all1 trivial)), c, l, q, rfl, ⟨wc, cn.mpr hln, cn.mpr hqn⟩, fun n _ => absurd ok.rch n, fun L2 ok2 nl2 _ => ⟨rfl, ?_⟩⟩))⟩)))))))))
      exact blk_if (et_not (et_b (ev_call0 (ea_cons (t := tLs K (tLit K)) (ev_varS (x := L2) rfl (ea_cons (t := tLit K) (ev_op ro_ixL (ev_var (t := tLs K (tLit K)) (x := LT) rfl (ev_var rfl ⟨l, at_ofN (j := j) (by omega) hli, ea_cons (ev_var (t := tLit K) (x := q) rfl (ea_cons (ev_var rfl (ea_nil ⟨fun _ => rfl, allc trivial (allc trivial (allc trivial (all1 trivial))), L2, l, q, c.rs, rfl, hch ok2 nl2, fun _ => ⟨fun h => (nomatch h), fun _ => blk_next ⟨_, rfl⟩⟩⟩))))⟩)))))))))
    rintro _ ⟨s13'', rfl⟩
    refine blk_seq (blk_set (t := tInt) (ev_indexTB (ev_var (t := tLs K (tLit K)) (x := LT) rfl (ev_t2 (ev_op ro_t20 (ev_var (t := tLit K) (x := q) rfl (ev_c (t := tInt) (fun _ _ => rfl) ⟨rfl, ev_not (ev_op ro_t21 (ev_var (t := tLit K) (x := q) rfl (ev_c (t := tInt) (fun _ _ => rfl) ⟨rfl, ⟨(ltm (opp q)).mpr hon, Nat.le_of_lt (fits40 (by omega))⟩, fun j2 hj2 => ⟨rfl, ?_⟩⟩)))⟩)))))))
    have hj2 : LT[j2]? = some (opp q) := hj2
    obtain ⟨k2, hk2, CK2⟩ := ls2 j2 (opp q) hj2
    have kok2 := okK hon CK2
    refine blk_norm ⟨true, [.sh (tScr K) xs, .sh (tLs K tStr) ns, .sh (tLs K (tRow K)) c.rs, .sh (tDk kS tInt) ps, .sh (yCl K CC) c, .sh tStm (), .sh (tLit K) g, .sh (tLs K (tTV K)) bs, .sh (tLs K (tLit K)) LT, .sh (tLs K (tLs K (tLit K))) LS, .sh tInt (0 + (j : Int)), s11, .sh (tLit K) q, s13'', .sh tInt (j2 : Int), .un, s16], [some p0]⟩ rfl ?_
    have lx {P : Ct → Lit → Prop} {X : Y.Xw} {k : Bool} {G : Ct} (h8 : G.s[8]? = some (.sh (tLs K (tLit K)) LT)) (h10 : G.s[10]? = some (.sh tInt (0 + (j : Int)))) (h : P G l) : Ev X k (tOp (rIxL K) (tVar 8) (tVar 10)) G (tLit K) P := ev_op ro_ixL (ev_var (t := tLs K (tLit K)) (x := LT) h8 (ev_var h10 ⟨l, at_ofN (j := j) (by omega) hli, h⟩))
    refine blk_if (et_b (ev_op ro_neB (ev_op (ro_inE eqe_Lit false) (ev_t2 (ev_op ro_t20 (lx rfl rfl (ev_c (t := tInt) (fun _ _ => rfl) ⟨rfl, ev_not (ev_op ro_t21 (lx rfl rfl (ev_c (t := tInt) (fun _ _ => rfl) ⟨rfl, ev_op ro_ixL (ev_var (t := tLs K (tLs K (tLit K))) (x := LS) rfl (ev_var rfl ⟨k2, at_ofN (j := j2) rfl hk2, ⟨okT (opp l) hln, kok2⟩, ev_op (ro_inE eqe_Lit false) (ev_var (t := tLit K) (x := q) rfl (ev_op ro_ixL (ev_var (t := tLs K (tLs K (tLit K))) (x := LS) rfl (ev_var rfl ⟨ks, at_ofN (j := j) (by omega) hks, ⟨okT q hqn, kok⟩, fun h => ?_, fun _ => blk_next ⟨_, _, _, _, rfl⟩⟩))))⟩))⟩)))⟩)))))))
    exfalso
    have e : (opp l) ∈ k2 ↔ q ∈ ks := by
      rw [CK2.2.1, CK.2.1]
      constructor
      · intro z
        have := z.back
        rwa [opp_opp, opp_opp] at this
      · exact fun z => z.back
    have e : (l.1, !l.2) ∈ k2 ↔ q ∈ ks := e
    by_cases z : q ∈ ks
    · have z2 := e.mpr z
      simp [z, z2] at h
    · have z2 : (l.1, !l.2) ∉ k2 := fun y => z (e.mp y)
      simp [z, z2] at h
  rintro _ ⟨s10, s12, s13, s14, rfl⟩
  exact blk_ret (ev_c (t := tBl) (fun _ _ => rfl) (fin0 [_] _ hp))
end
end KK
end

section
set_option maxRecDepth 100000
set_option maxHeartbeats 4000000
namespace KK
open PySem PySem.Spec PyProof.Rows L2 Z
theorem fun_of {K : PySem.W.Frag} {x qual : Str} {st : Stmt} {f : Addr} {fd : FuncData} (F : FunD K x qual (defArgs st) (defBody st) (defScope st) [] [] f fd) : Fun K x qual st f fd := by
  obtain ⟨⟨oc, od, dV, kV, doc, pm, an, cdv, ct, osl, e, lk, hcd, hD, _⟩, kp⟩ := F
  rcases hD with ⟨_, rfl⟩ | ⟨z, _⟩
  · exact ⟨⟨oc, od, kV, doc, pm, an, cdv, ct, osl, e, lk, hcd⟩, kp⟩
  · exact absurd rfl z
theorem has_of {K : PySem.W.Frag} {h : Heap} {mg : Str → Option Value} {x : Str} {st : Stmt} (X : K.In h) (G : h.Ns mainGlobals mg) (g : (He.Fa.glo x).ok K = true) (F : ∃ fd, FunD K x x (defArgs st) (defBody st) (defScope st) [] [] (He.ga K x) fd) : Has K mg x st := by
  obtain ⟨fd, F⟩ := F
  exact ⟨_, fd, fun_of F, He.glo_ok X G g⟩
theorem hasMc_of {K : PySem.W.Frag} {cn m qual : Str} {st : Stmt} (g : (He.Fa.meth cn m).ok K = true) (F : ∃ fd, FunD K m qual (defArgs st) (defBody st) (defScope st) [] [] (He.ma K (He.ga K cn) m) fd) : HasM K (He.ga K cn) m qual st := by
  obtain ⟨fd, F⟩ := F
  exact ⟨_, fd, fun_of F, He.meth_ok g⟩
theorem facts {w : World} {K : PySem.W.Frag} {h : Heap} {mg : Str → Option Value} {f : Addr} (X : K.In h) (G : h.Ns mainGlobals mg) (hfa : mg ("law" : Str) = some (.ref f)) (c : OwnH.SaysO "/claim/cut.py" fa fn er K) (ck : KK.ck K = true) :
    ∃ fd : FuncData, (∀ (s : Shared) (v : Value), BindsTo s fd ⟨[v], []⟩ [("_law_script", v)]) ∧ ∀ base : Heap, K.In base → base.Ns mainGlobals mg → FnOk PySem.Challenge.rw_halfpicked_k52_follows_and_chain.prog w K mg base CX0 7 f fd ["_law_script"] (Y.spZ (yLaw K)) := by
  have fr : ∀ (i : Nat) (x : Str), fa[i]? = some (.free x) → mg x = none := fun i x e => He.free_ok X G (c.d.fact i (f := .free x) e)
  have T : Blt mg := ⟨fr 4 _ rfl, fr 5 _ rfl, fr 6 _ rfl, fr 7 _ rfl, fr 8 _ rfl, fr 9 _ rfl, fr 10 _ rfl, fr 11 _ rfl, fr 12 _ rfl, fr 13 _ rfl, fr 14 _ rfl, fr 15 _ rfl⟩
  have g1 := He.int_ok X G (c.d.fact 0 (f := .int "MOST_PLACES" 40) rfl)
  have g3 := He.int_ok X G (c.d.fact 1 (f := .int "LONGEST_NAME" 8) rfl)
  have g4 := He.int_ok X G (c.d.fact 2 (f := .int "GREATEST_PRICE" (10 ^ 30)) rfl)
  have g5 := He.int_ok X G (c.d.fact 3 (f := .int "MOST_ROWS" 400) rfl)
  have wb0 := ck

  obtain ⟨fd, FL⟩ := c.d.def_ 24 rfl
  have F_is_integer : Has K mg "is_integer" s_is_integer := has_of X G (c.d.fact 32 (f := .glo "is_integer") rfl) (c.d.def_ 0 rfl)
  have F_is_between : Has K mg "is_between" s_is_between := has_of X G (c.d.fact 33 (f := .glo "is_between") rfl) (c.d.def_ 1 rfl)
  have F_is_name : Has K mg "is_name" s_is_name := has_of X G (c.d.fact 34 (f := .glo "is_name") rfl) (c.d.def_ 2 rfl)
  have F_is_among : Has K mg "is_among" s_is_among := has_of X G (c.d.fact 35 (f := .glo "is_among") rfl) (c.d.def_ 3 rfl)
  have F_is_literal : Has K mg "is_literal" s_is_literal := has_of X G (c.d.fact 36 (f := .glo "is_literal") rfl) (c.d.def_ 4 rfl)
  have F_has_just : Has K mg "has_just" s_has_just := has_of X G (c.d.fact 37 (f := .glo "has_just") rfl) (c.d.def_ 5 rfl)
  have F_names_fault : Has K mg "names_fault" s_names_fault := has_of X G (c.d.fact 38 (f := .glo "names_fault") rfl) (c.d.def_ 6 rfl)
  have F_price_fault : Has K mg "price_fault" s_price_fault := has_of X G (c.d.fact 39 (f := .glo "price_fault") rfl) (c.d.def_ 7 rfl)
  have F_opposite : Has K mg "opposite" s_opposite := has_of X G (c.d.fact 40 (f := .glo "opposite") rfl) (c.d.def_ 8 rfl)
  have F_follows : Has K mg "follows" s_follows := has_of X G (c.d.fact 41 (f := .glo "follows") rfl) (c.d.def_ 9 rfl)
  have F_chain : Has K mg "chain" s_chain := has_of X G (c.d.fact 42 (f := .glo "chain") rfl) (c.d.def_ 10 rfl)
  have F__need_literal : Has K mg "_need_literal" s_need_literal := has_of X G (c.d.fact 43 (f := .glo "_need_literal") rfl) (c.d.def_ 11 rfl)
  have F__is_row : Has K mg "_is_row" s_is_row := has_of X G (c.d.fact 44 (f := .glo "_is_row") rfl) (c.d.def_ 12 rfl)
  have F__row_fault : Has K mg "_row_fault" s_row_fault := has_of X G (c.d.fact 45 (f := .glo "_row_fault") rfl) (c.d.def_ 13 rfl)
  have F__law_stream : Has K mg "_law_stream" s_law_stream := has_of X G (c.d.fact 46 (f := .glo "_law_stream") rfl) (c.d.def_ 14 rfl)
  have F__law_draw : Has K mg "_law_draw" s_law_draw := has_of X G (c.d.fact 47 (f := .glo "_law_draw") rfl) (c.d.def_ 15 rfl)
  have F__law_name : Has K mg "_law_name" s_law_name := has_of X G (c.d.fact 48 (f := .glo "_law_name") rfl) (c.d.def_ 16 rfl)
  have F__law_places : Has K mg "_law_places" s_law_places := has_of X G (c.d.fact 49 (f := .glo "_law_places") rfl) (c.d.def_ 17 rfl)
  have F__law_prices : Has K mg "_law_prices" s_law_prices := has_of X G (c.d.fact 50 (f := .glo "_law_prices") rfl) (c.d.def_ 18 rfl)
  have F__law_drawn_row : Has K mg "_law_drawn_row" s_law_drawn_row := has_of X G (c.d.fact 51 (f := .glo "_law_drawn_row") rfl) (c.d.def_ 19 rfl)
  have F__law_table : Has K mg "_law_table" s_law_table := has_of X G (c.d.fact 52 (f := .glo "_law_table") rfl) (c.d.def_ 20 rfl)
  have F__law_closure : Has K mg "_law_closure" s_law_closure := has_of X G (c.d.fact 53 (f := .glo "_law_closure") rfl) (c.d.def_ 21 rfl)
  have F__law_is_chain : Has K mg "_law_is_chain" s_law_is_chain := has_of X G (c.d.fact 54 (f := .glo "_law_is_chain") rfl) (c.d.def_ 22 rfl)
  have F__law_refused : Has K mg "_law_refused" s_law_refused := has_of X G (c.d.fact 55 (f := .glo "_law_refused") rfl) (c.d.def_ 23 rfl)
  have F_law : Has K mg "law" s_law := has_of X G (c.d.fact 56 (f := .glo "law") rfl) (c.d.def_ 24 rfl)
  have FI_Clauses : (∃ f fd, Fun K "__init__" "Clauses.__init__" s_Clauses_init f fd ∧ Mk K (He.ga K "Clauses") f) ∧ mg "Clauses" = some (.ref (He.ga K "Clauses")) := by
    obtain ⟨fd0, F0⟩ := c.d.def_ 25 rfl
    exact ⟨⟨_, fd0, fun_of F0, He.mkr_ok (c.d.fact 20 (f := .mkr "Clauses") rfl)⟩, He.glo_ok X G (c.d.fact 16 (f := .glo "Clauses") rfl)⟩
  have C_Clauses : ClausesC K (He.ga K "Clauses") := ⟨He.cls_ok (c.d.fact 17 (f := .cls "Clauses") rfl), He.noat_ok (c.d.fact 18 (f := .noat "Clauses" "_prices") rfl), He.noat_ok (c.d.fact 19 (f := .noat "Clauses" "_rows") rfl)⟩
  have M_Clauses_names : HasM K (He.ga K "Clauses") "names" "Clauses.names" s_Clauses_names := hasMc_of (c.d.fact 21 (f := .meth "Clauses" "names") rfl) (c.d.def_ 26 rfl)
  have M_Clauses_rows : HasM K (He.ga K "Clauses") "rows" "Clauses.rows" s_Clauses_rows := hasMc_of (c.d.fact 22 (f := .meth "Clauses" "rows") rfl) (c.d.def_ 27 rfl)
  have FI_Steps : (∃ f fd, Fun K "__init__" "Steps.__init__" s_Steps_init f fd ∧ Mk K (He.ga K "Steps") f) ∧ mg "Steps" = some (.ref (He.ga K "Steps")) := by
    obtain ⟨fd0, F0⟩ := c.d.def_ 28 rfl
    exact ⟨⟨_, fd0, fun_of F0, He.mkr_ok (c.d.fact 26 (f := .mkr "Steps") rfl)⟩, He.glo_ok X G (c.d.fact 23 (f := .glo "Steps") rfl)⟩
  have C_Steps : StepsC K (He.ga K "Steps") := ⟨He.cls_ok (c.d.fact 24 (f := .cls "Steps") rfl), He.noat_ok (c.d.fact 25 (f := .noat "Steps" "_heads") rfl)⟩
  have M_Steps_reach : HasM K (He.ga K "Steps") "reach" "Steps.reach" s_Steps_reach := hasMc_of (c.d.fact 27 (f := .meth "Steps" "reach") rfl) (c.d.def_ 29 rfl)
  have M_Steps_chain : HasM K (He.ga K "Steps") "chain" "Steps.chain" s_Steps_chain := hasMc_of (c.d.fact 28 (f := .meth "Steps" "chain") rfl) (c.d.def_ 30 rfl)
  have hlaw : f = He.ga K "law" := by
    have := hfa.symm.trans (He.glo_ok X G (c.d.fact 56 (f := .glo "law") rfl))
    cases this
    rfl
  subst hlaw
  refine ⟨fd, fun s v => FunD.bindsA (ps := ["_law_script"]) FL (fun _ _ _ _ _ _ us hl => match us, hl with | [_], _ => rfl) s [v] rfl, fun base _ _ => ?_⟩
  have YSTREAM := y_stream (z_stream (P := PySem.Challenge.rw_halfpicked_k52_follows_and_chain.prog) (w := w) (base := base) T F__law_stream)
  have ZDRAW := z_draw (P := PySem.Challenge.rw_halfpicked_k52_follows_and_chain.prog) (w := w) (base := base) T F__law_draw
  have YDRAW := y_draw ZDRAW
  have YNAME2 := y_name2 T F__law_name YDRAW
  have YPLACES2 := y_places2 T F__law_places YNAME2
  have YDRAWNROW := y_drawnrow T F__law_drawn_row YDRAW
  have YPRICES2 := y_prices2 T F__law_prices YDRAW
  have YTABLE := y_table T F__law_table YSTREAM YDRAW YPLACES2 YDRAWNROW YPRICES2
  have CISNAME := c_isname (P := PySem.Challenge.rw_halfpicked_k52_follows_and_chain.prog) (w := w) (base := base) T g3 F_is_name
  have CNAMESF := c_namesf T g1 F_names_fault CISNAME
  have YNAMESFLT := y_namesf CNAMESF
  have YAMONGT := y_amongT (P := PySem.Challenge.rw_halfpicked_k52_follows_and_chain.prog) (w := w) (base := base) T F_is_among
  have YISLIT := y_islit T F_is_literal YAMONGT
  have YISROW := y_isrow T F__is_row YISLIT
  have YROWFLT := y_rowf T g5 F__row_fault YISROW
  have YJUSTT := y_justT (P := PySem.Challenge.rw_halfpicked_k52_follows_and_chain.prog) (w := w) (base := base) T F_has_just
  have YINT := y_int (P := PySem.Challenge.rw_halfpicked_k52_follows_and_chain.prog) (w := w) (base := base) T F_is_integer
  have YBETC := y_bet T F_is_between YINT
  have YPRICEFLT := y_pricef0 T g4 F_price_fault YJUSTT YBETC
  have YCLAUSES := y_clauses T C_Clauses FI_Clauses YNAMESFLT YROWFLT YPRICEFLT
  have EN_BadLiteral := errN_of (He.exc_ok (c.d.fact 29 (f := .exc "BadLiteral") rfl)) (He.glo_ok X G (c.d.fact 31 (f := .glo "BadLiteral") rfl))
  have EXT_BadLiteral__BadLiteral := He.exm_ok (c.d.fact 30 (f := .exm "BadLiteral" "BadLiteral" true) rfl)
  have YCLNAMES := y_clnames (P := PySem.Challenge.rw_halfpicked_k52_follows_and_chain.prog) (w := w) (base := base) T C_Clauses M_Clauses_names
  have YAMONGLV := y_amongLV (Pg := PySem.Challenge.rw_halfpicked_k52_follows_and_chain.prog) (w := w) (base := base) T F_is_among
  have YISLITN := y_islitN T F_is_literal YAMONGLV
  have YNEEDLN := y_needlN T F__need_literal YCLNAMES YISLITN EN_BadLiteral
  have YCLROWS := y_clrows (P := PySem.Challenge.rw_halfpicked_k52_follows_and_chain.prog) (w := w) (base := base) T C_Clauses M_Clauses_rows
  have YOPP := y_opp (P := PySem.Challenge.rw_halfpicked_k52_follows_and_chain.prog) (w := w) (base := base) F_opposite
  have YSTEPS := y_steps T C_Steps FI_Steps YCLNAMES YCLROWS YOPP
  have YREACHS := y_reachs (Pg := PySem.Challenge.rw_halfpicked_k52_follows_and_chain.prog) (w := w) (base := base) T C_Steps M_Steps_reach
  have YFOLLOWSN := y_followsN T F_follows YNEEDLN YSTEPS YREACHS
  have YAMONGL := y_amongL (Pg := PySem.Challenge.rw_halfpicked_k52_follows_and_chain.prog) (w := w) (base := base) T F_is_among
  have YISLITL := y_islitL T F_is_literal YAMONGL
  have YNEEDL := y_needl T F__need_literal YCLNAMES YISLITL
  have YSCHAIN := y_schain T C_Steps M_Steps_chain YREACHS
  have YCHAINN1 := y_chainN1 T F_chain YNEEDLN YNEEDL YSTEPS YSCHAIN
  have YCHAINN2 := y_chainN2 T F_chain YNEEDLN YNEEDL YSTEPS YSCHAIN
  have YLREFL := y_lrefL T F__law_refused EN_BadLiteral EXT_BadLiteral__BadLiteral YFOLLOWSN YCHAINN1 YCHAINN2
  have YLCLOS := y_lclos (Pg := PySem.Challenge.rw_halfpicked_k52_follows_and_chain.prog) (w := w) (base := base) T F__law_closure
  have YFOLLOWS := y_follows T F_follows YNEEDL YSTEPS YREACHS
  have YCHAINC := y_chainC T F_chain YNEEDL YSTEPS YSCHAIN
  have YLCHAIN4 := y_lchain4 (Pg := PySem.Challenge.rw_halfpicked_k52_follows_and_chain.prog) (w := w) (base := base) T F__law_is_chain
  obtain ⟨f', fd', F', hm, ok⟩ := y_law52 T F_law YSTREAM YDRAW YTABLE YCLAUSES YLREFL YLCLOS YFOLLOWS YCHAINC YLCHAIN4
  have ef : f' = He.ga K "law" := by
    have := hm.symm.trans hfa
    cases this
    rfl
  subst ef
  have efd : fd' = fd := by
    obtain ⟨oc, od, kV, doc, pm, an, cdv, ct, osl, _, lk, _⟩ := F'.ex
    obtain ⟨oc2, od2, dV2, kV2, doc2, pm2, an2, cdv2, ct2, osl2, _, lk2, _⟩ := FL.ex
    have e := lk.symm.trans lk2
    injection e with e
    injection e with _ _ e _
    injection e
  subst efd
  exact ok
end KK
open PySem PySem.W PySem.Calls PyProof.Rows
theorem PySem.Challenge.cw_halfpicked_k52_follows_and_chain_holds : PySem.Challenge.rw_halfpicked_k52_follows_and_chain.Holds := by
  w_on; o_law
  refine HandSHeadRun.head_any (r := OpenLaw.row PySem.Challenge.rw_halfpicked_k52_follows_and_chain) (q := view (OpenLaw.row PySem.Challenge.rw_halfpicked_k52_follows_and_chain).prog [42]) (H := KK.hk) (ob := KK.ob) (M := 12000) (loose := KK.looseA ++ KK.looseB ++ KK.looseC) (d := HandSHeadRun.topDef (OpenLaw.row PySem.Challenge.rw_halfpicked_k52_follows_and_chain).prog 42) (kwd := []) KK.ob_eq
    (by kernel_rfl) (fun s => by kernel_rfl) KK.run (by kernel_rfl) (by kernel_rfl) (by kernel_rfl) (by rfl) (by first | assumption | decide +kernel) (by decide +kernel) ⟨rfl, rfl, rfl, rfl, rfl, by decide +kernel⟩ ?hw ?hc
  case hw => w_witness2
  case hc =>
    refine L2.walk_ofE (l := PySem.Challenge.rw_halfpicked_k52_follows_and_chain) (n := 63) (k := 7) (x := "_law_script") (CX := L2.CX0) rfl (by decide) (by kernel_rfl) ⟨rfl, by decide, by decide⟩ ?F (fun _ _ _ _ z => z)
    intro w mg fa h Y G hmg0
    obtain ⟨K, KX, c, ck⟩ := Y
    have hmg : mg ("law" : PySem.Str) = some (.ref fa) := by
      have e : (HandSHeadRun.topDef (OpenLaw.row PySem.Challenge.rw_halfpicked_k52_follows_and_chain).prog 42).name = ("law" : PySem.Str) := by kernel_rfl
      rw [← e]
      exact hmg0
    obtain ⟨fd, hb, hF⟩ := KK.facts (w := w) KX G hmg c ck
    exact ⟨K, fd, Y.spZ (KK.yLaw K), KX, hb, fun H a ns hl _ hS => KK.spY_law (Nat.le_trans hl (by decide)) hS, hF⟩
end
