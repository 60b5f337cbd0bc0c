import PyProof.Rows.All
import Wide.All
import OpenK.AllK
import Wide.FinOn
import PyProof.EqAt
import PyProof.EqKinds
import PyProof.TupleCall
import HandS.ForMost
import HandS.TupSets
import HandS.SortOrd
import HandS.NamedTupSort
import HandS.Deep
import HandS.Set
import HandS.SetFor
import HandS.Strs
import HandS.ForExc
import HandS.IsInst
import HandS.Lambda
import HandS.ExcIs
import HandS.ExcValue
import HandS.Codes
import HandS.Words
import HandS.EndTab
import HandS.Wide
import HandS.SortInts
import HandS.Zip
import HandS.Style
import HandS.Conv
import HandS.Evl
import PySem.Challenge.RW_gapstairs_k21_near_blocks
set_option Elab.async false
set_option linter.all false
set_option maxRecDepth 100000
set_option maxHeartbeats 4000000
/-! sorted of a list of tuples of d ints each, whatever the ints are -/
namespace GS
open PySem PySem.Spec PyProof.Rows L2
section
variable {prog : Program} {w : World} {A : Around} {E : Value → Shared → Prop} {s : Shared} {Q : Bool → Shared → Prop}
theorem lexAt {b : Bool} : ∀ {xs ys : List Value} {ns ms : List Int} (i : Nat), IntsAre xs ns → IntsAre ys ms → ns.length = ms.length → Q (HT.lexLt ns ms) s → PySem.W.KatLex prog w A b false Q (xs.zip ys) i s
  | [], [], _, _, _, .nil, .nil, _, h => PySem.W.kat_nil (by rw [HT.lexLt_nil_nil] at h; exact h)
  | _ :: _, [], _, _, _, .cons _ _ _, .nil, hl, _ => by simp at hl
  | [], _ :: _, _, _, _, .nil, .cons _ _ _, hl, _ => by simp at hl
  | _ :: xs, _ :: ys, _, _, i, .cons (ns := ns) p t hx, .cons (ns := ms) q u hy, hl, h => by
    have hl2 : ns.length = ms.length := Nat.succ.inj hl
    rw [HT.lexLt_cons] at h
    rw [List.zip_cons_cons]
    refine PySem.W.kat_cons (wpAny_eqBool_int ?_)
    by_cases e : p = q
    · rw [if_pos e] at h
      rw [beq_iff_eq.mpr e]
      exact PySem.W.kat_yes (lexAt (i + 1) hx hy hl2 h)
    · rw [if_neg e] at h
      rw [beq_eq_false_iff_ne.mpr e]
      exact PySem.W.kat_no (TS.oneLt_ints _ h)
/-- the values are tuples of d ints -/
def Tups (h : Heap) (d : Nat) (vs : List Value) : Prop := ∀ v ∈ vs, ∃ ns, TS.TupInts h v ns ∧ ns.length = d
theorem Tups.stay {h h' : Heap} {d : Nat} {vs : List Value} (x : Tups h d vs) (k : ∀ b o, h.get? b = some o → o.cls = .type "tuple" → h'.get? b = some o) : Tups h' d vs := fun v hv => by
  obtain ⟨ns, t, e⟩ := x v hv
  exact ⟨ns, t.keeps k, e⟩
theorem heads {h : Heap} {d : Nat} (hd : 1 ≤ d) : ∀ vs : List Value, Tups h d vs → ∃ fs, PySem.W.KatTups h vs fs ∧ fs.length = vs.length ∧ ∀ f ∈ fs, ∃ n t, f = Value.int n t
  | [], _ => ⟨[], PySem.W.KatTups.nil, rfl, fun f hf => absurd hf (by simp)⟩
  | v :: vs, x => by
    obtain ⟨fs, k, hl, hi⟩ := heads hd vs fun u hu => x u (List.mem_cons_of_mem _ hu)
    obtain ⟨ns, ⟨a, xs, rfl, ⟨o, ho, hc, n, hdt⟩, i⟩, hn⟩ := x v (List.mem_cons_self ..)
    have hz : xs.toList.length = d := by rw [i.length, hn]
    cases q : xs.toList with
    | nil =>
      rw [q] at hz
      simp at hz
      omega
    | cons y ys =>
      have my : y ∈ xs.toList := by
        rw [q]
        exact List.mem_cons_self ..
      obtain ⟨m, t, hy⟩ := i.all y my
      refine ⟨y :: fs, PySem.W.KatTups.cons ho hc hdt ?_ k, by rw [List.length_cons, List.length_cons, hl], fun f hf => ?_⟩
      · have z : xs.toList[0]? = some y := by rw [q] <;> rfl
        simpa using z
      · rcases List.mem_cons.mp hf with e | hf
        · exact ⟨m, t, e.trans hy⟩
        · exact hi f hf
/-- by their ints -/
def keyL (h : Heap) (v : Value) : List Int := TS.intsOf h v
theorem cmpL {d : Nat} {vs : List Value} (k : Value → List Int) (x : ∀ v ∈ vs, TS.TupInts s.heap v (k v) ∧ (k v).length = d) : SrtO.Cmp prog w A s (tuples' true) (fun p => p.1 ∈ vs) (SrtO.lt2 fun v u => HT.lexLt (k v) (k u)) := by
  intro p q hp hq
  obtain ⟨tp, lp⟩ := x _ hp
  obtain ⟨tq, lq⟩ := x _ hq
  show wpAny (model prog w) A (keyLt' (tuples' true) p.1 q.1) (fun r s' => s' = s ∧ r = HT.lexLt (k p.1) (k q.1)) _ s
  generalize k p.1 = ns at tp lp ⊢
  generalize k q.1 = ms at tq lq ⊢
  obtain ⟨a, xs, e1, ⟨o, ho, hc, n, hdt⟩, i⟩ := tp
  obtain ⟨a', ys, e2, ⟨o', ho', hc', n', hdt'⟩, i'⟩ := tq
  rw [e1, e2]
  refine PySem.W.kat_lt ho hdt ho' hdt' ?_
  have z1 : xs.size = d := by rw [← lp, ← i.length, Array.length_toList]
  have z2 : ys.size = d := by rw [← lq, ← i'.length, Array.length_toList]
  have sz : decide (xs.size < ys.size) = false := decide_eq_false (by omega)
  rw [sz]
  exact lexAt 0 i i' (by omega) ⟨rfl, rfl⟩
theorem sortableL {a : Addr} {d : Nat} {vs : List Value} (hd : 1 ≤ d) (h0 : 0 < vs.length) (k : Value → List Int) (x : ∀ v ∈ vs, TS.TupInts s.heap v (k v) ∧ (k v).length = d) (ha : ∀ o, s.heap.get? a = some o → o.cls ≠ .type "tuple") :
    SrtO.SortableO prog w A s a vs fun v u => HT.lexLt (k v) (k u) := by
  intro h' keep
  have x' : ∀ v ∈ vs, TS.TupInts h' v (k v) ∧ (k v).length = d := fun v hv => ⟨(x v hv).1.keeps fun b o e c => keep b o (fun z => ha o (by rw [← z]; exact e) c) e, (x v hv).2⟩
  obtain ⟨fs, h1, h2, h3⟩ := heads (h := h') hd vs fun v hv => ⟨_, x' v hv⟩
  refine ⟨tuples' true, fun Q E hq => ?_, cmpL (s := { s with heap := h' }) k x'⟩
  refine PySem.W.kat_kind (T := .type "int") h1 (by omega) (fun f hm => ?_) (by rfl) hq
  obtain ⟨n, t, rfl⟩ := h3 f hm
  exact PySem.W.Looks.of_pure rfl
end
/-! ### over the abstract heap -/
def rSortL (K : PySem.W.Frag) (d : Nat) : List V → Hp → VK → Prop := fun vs H Q => ∃ (a : Addr) (xs : List V), vs = [V.ref a] ∧ SqL K H a xs ∧ (∀ x ∈ xs, ∃ ns, TupI K H x ns ∧ ns.length = d) ∧
  ∀ (ys : List V) (p : Addr), ys.Perm xs → ys.Pairwise (fun x y => ∀ n m, TupI K H x n → TupI K H y m → HT.lexLt m n = false) → H p = none → Q (.ref p) (upd H p (.lst ys))
theorem cr_sortL {X : Cx} {d : Nat} (hd : 1 ≤ d) : CallR X (.builtin "sorted") (rSortL X.K d) := by
  intro pins s σ H vs us Q I r h
  obtain ⟨a, xs, rfl, hs, hx, q⟩ := h
  obtain ⟨its, rv, hl, hz⟩ := I.list hs
  rw [Vals.ref1 r]
  obtain ⟨e1, e2⟩ := bkV_refs rv fun x m => by
    obtain ⟨ns, ⟨t, e, _⟩, _⟩ := hx x m
    exact ⟨t, e⟩
  have ti : ∀ v ∈ its, TS.TupInts s.heap v (TS.intsOf s.heap v) ∧ (TS.intsOf s.heap v).length = d := fun v hv => by
    obtain ⟨t, rfl⟩ := e2 v hv
    have hm : V.ref t ∈ xs := by
      rw [e1]
      exact List.mem_map.mpr ⟨_, hv, rfl⟩
    obtain ⟨ns, ⟨t', e, ht⟩, hn⟩ := hx _ hm
    cases e
    have z := tupI_raw I ht
    rw [z.ints]
    exact ⟨z, hn⟩
  refine SrtO.sorted_ord (NtL.swo_lexL (TS.intsOf s.heap)) hl.isList (by rw [← rv.length]; exact hz) (fun h2 h₁ b hb kk => ?_) fun out h1 h2 => ?_
  · refine sortableL (s := { s with heap := h₁ }) hd (by omega) _ (fun v hv => ⟨(ti v hv).1.keeps fun b' o e _ => (kk b' o e).2, (ti v hv).2⟩) fun o e c => ?_
    cases hb.symm.trans e
    exact absurd (Value.type.inj c) (by decide)
  · obtain ⟨ep, he'⟩ := PyProof.Rows.sortedAll_at s.heap its out.toArray
    have pm : out.Perm its := h2.perm
    have h3 : ∀ u ∈ out, ∃ a, u = Value.ref a := fun u hu => e2 u (pm.mem_iff.mp hu)
    have hp : (out.map bkV).Perm xs := by
      rw [e1]
      exact pm.map bkV
    have hlen : (out.map bkV).length ≤ sizeLine := by
      rw [hp.length_eq]
      exact hz
    refine ⟨.ref _, upd H (s.heap.objs.size + 1) (.lst (out.map bkV)), I.laid (t' := s.toks) (fun _ _ => PyProof.Rows.sortedAll_old) (Nat.le_succ _) ⟨hlen, out, ep, bkV_vals h3, he'⟩, rfl, q _ _ hp ?_ (I.hok.fresh (Nat.le_succ _))⟩
    rw [List.pairwise_map]
    refine List.Pairwise.imp (fun {u v} huv n m hn hm => ?_) h1
    obtain ⟨t, et, ht⟩ := hn
    obtain ⟨t', et', ht'⟩ := hm
    have i1 : TS.intsOf s.heap u = n := by
      rw [bkV_ref et]
      exact (tupI_raw I ht).ints
    have i2 : TS.intsOf s.heap v = m := by
      rw [bkV_ref et']
      exact (tupI_raw I ht').ints
    rw [← i1, ← i2]
    exact huv
end GS
set_option Elab.async false
set_option linter.all false
set_option maxRecDepth 100000
set_option maxHeartbeats 4000000
/-! len of a set of tuples of ints -/
namespace GS
open PySem PySem.Spec PyProof.Rows L2
def rLenT (K : PySem.W.Frag) (P : Program) (w : World) : List V → Hp → VK → Prop := fun xs H Q => ∃ (a : Addr) (L : List (Addr × List Int)), xs = [.ref a] ∧ H a = some (SetTO P w a L) ∧ (∀ p ∈ L, SqT K H p.1 (p.2.map V.int)) ∧ ((L.map (·.2)).Nodup → Q (.int L.length) H)
theorem call_lenT {X : Cx} : CallR X (.builtin "len") (rLenT X.K X.prog X.w) := by
  intro pins s σ H xs us Q I r h
  obtain ⟨a, L, rfl, ha, hk, q⟩ := h
  have R0 : SetT0 X.prog X.w s.heap a L := (I.hok a _ ha).1
  obtain ⟨es, ep, t, R⟩ := R0.full fun p hp => I.isT (hk p hp)
  rw [Vals.ref1 r]
  obtain ⟨o, ho, hex, hd⟩ := R.ob
  have hz : es.size = L.length := by
    rw [← Array.length_toList, R.rows]
    unfold rowsOf
    rw [List.length_map]
  have few := R.few
  refine call_len_set ho hex hd R.fits (by omega) ⟨.int L.length, H, I.tok _, ⟨_, by rw [hz]⟩, q R.nd⟩
/-- no repeats, each in the other: not longer -/
theorem nodup_le {α : Type} [DecidableEq α] : ∀ {l m : List α}, l.Nodup → (∀ x ∈ l, x ∈ m) → l.length ≤ m.length
  | [], _, _, _ => Nat.zero_le _
  | x :: l, m, hl, h => by
    obtain ⟨h1, h2⟩ := List.nodup_cons.mp hl
    have hm : x ∈ m := h x (List.mem_cons_self ..)
    have q := nodup_le (m := m.erase x) h2 fun y hy => (List.mem_erase_of_ne (fun z => h1 (by rw [← z]; exact hy))).mpr (h y (List.mem_cons_of_mem _ hy))
    rw [List.length_erase_of_mem hm] at q
    have p := List.length_pos_of_mem hm
    rw [List.length_cons]
    omega
theorem nodup_len {α : Type} [DecidableEq α] {l m : List α} (hl : l.Nodup) (hm : m.Nodup) (h1 : ∀ x ∈ l, x ∈ m) (h2 : ∀ x ∈ m, x ∈ l) : l.length = m.length :=
  Nat.le_antisymm (nodup_le hl h1) (nodup_le hm h2)
end GS
set_option Elab.async false
set_option linter.all false
set_option maxRecDepth 100000
set_option maxHeartbeats 4000000
/-! lists and tuples of ints, lists of tuples of ints, as data that == compares -/
namespace GS
open PySem PySem.Spec PyProof.Rows L2
def dIs (ns : List Int) : List PyData := ns.map PyData.int
def dT (ns : List Int) : PyData := .tuple (dIs ns)
theorem lay_is : ∀ ns : List Int, PyData.canLayAll0 (dIs ns) = true
  | [] => by simp [dIs, PyData.canLayAll0]
  | n :: ns => by
    have h := lay_is ns
    unfold dIs at h ⊢
    rw [List.map_cons]
    simp only [PyData.canLayAll0, PyData.canLay0, Bool.true_and]
    exact h
theorem deep_is : ∀ ns : List Int, PyData.depthAll (dIs ns) = 0
  | [] => by simp [dIs, PyData.depthAll]
  | n :: ns => by
    have h := deep_is ns
    unfold dIs at h ⊢
    rw [List.map_cons]
    simp only [PyData.depthAll, PyData.depth]
    omega
theorem eqv_is : ∀ ns ms : List Int, PyData.eqvAll (dIs ns) (dIs ms) = decide (ns = ms)
  | [], [] => by simp [dIs, PyData.eqvAll]
  | [], m :: ms => by simp [dIs, PyData.eqvAll]
  | n :: ns, [] => by simp [dIs, PyData.eqvAll]
  | n :: ns, m :: ms => by
    have h := eqv_is ns ms
    unfold dIs at h ⊢
    rw [List.map_cons, List.map_cons]
    simp only [PyData.eqvAll, PyData.eqv]
    rw [h]
    by_cases e : n = m
    · subst e
      simp
    · rw [beq_eq_false_iff_ne.mpr e, Bool.false_and]
      exact (decide_eq_false fun z => e (List.cons.inj z).1).symm
theorem shaped_is (ns : List Int) : SeqAt.shaped (.list (dIs ns)) = true := by
  show (PyData.canLay0 (.list (dIs ns)) && decide (PyData.depth (.list (dIs ns)) ≤ 64)) = true
  simp only [PyData.canLay0, PyData.depth, deep_is, lay_is, Bool.true_and, decide_eq_true_eq]
  omega
theorem shaped_t (ns : List Int) : SeqAt.shaped (dT ns) = true := by
  show (PyData.canLay0 (.tuple (dIs ns)) && decide (PyData.depth (.tuple (dIs ns)) ≤ 64)) = true
  simp only [PyData.canLay0, PyData.depth, deep_is, lay_is, Bool.true_and, decide_eq_true_eq]
  omega
theorem lay_ts : ∀ L : List (List Int), PyData.canLayAll0 (L.map dT) = true
  | [] => by simp [PyData.canLayAll0]
  | n :: ns => by
    have h := lay_ts ns
    rw [List.map_cons]
    simp only [dT, PyData.canLayAll0, PyData.canLay0, lay_is, Bool.true_and]
    exact h
theorem deep_ts : ∀ L : List (List Int), PyData.depthAll (L.map dT) ≤ 1
  | [] => by simp [PyData.depthAll]
  | n :: ns => by
    have h := deep_ts ns
    rw [List.map_cons]
    have e : PyData.depth (dT n) = 1 := by
      simp only [dT, PyData.depth, deep_is]
    simp only [PyData.depthAll, e]
    omega
theorem shaped_ts (L : List (List Int)) : SeqAt.shaped (.list (L.map dT)) = true := by
  have h := deep_ts L
  have h3 : PyData.depth (.list (L.map dT)) ≤ 64 := by
    simp only [PyData.depth]
    omega
  have h4 : PyData.canLay0 (.list (L.map dT)) = true := by
    simp only [PyData.canLay0]
    exact lay_ts L
  unfold SeqAt.shaped
  rw [h4, decide_eq_true h3]
  rfl
theorem eqv_t (ns ms : List Int) : PyData.eqv (dT ns) (dT ms) = decide (ns = ms) := by
  simp only [dT, PyData.eqv, eqv_is]
theorem eqv_ts : ∀ L M : List (List Int), PyData.eqvAll (L.map dT) (M.map dT) = decide (L = M)
  | [], [] => by simp [PyData.eqvAll]
  | [], m :: ms => by simp [PyData.eqvAll]
  | n :: ns, [] => by simp [PyData.eqvAll]
  | n :: ns, m :: ms => by
    have h := eqv_ts ns ms
    rw [List.map_cons, List.map_cons]
    simp only [PyData.eqvAll, eqv_t]
    rw [h]
    by_cases e : n = m
    · subst e
      simp
    · rw [decide_eq_false e, Bool.false_and]
      exact (decide_eq_false fun z => e (List.cons.inj z).1).symm
theorem eqv_lis (ns ms : List Int) : PyData.eqv (.list (dIs ns)) (.list (dIs ms)) = decide (ns = ms) := by
  simp only [PyData.eqv, eqv_is]
theorem eqv_lts (L M : List (List Int)) : PyData.eqv (.list (L.map dT)) (.list (M.map dT)) = decide (L = M) := by
  simp only [PyData.eqv, eqv_ts]
section
variable {K : PySem.W.Frag} {H : Hp}
theorem dp_ints : ∀ ns : List Int, DpAll K H (ns.map V.int) (dIs ns)
  | [] => .nil
  | n :: ns => .cons (.int n) (dp_ints ns)
theorem dp_l {a : Addr} {ns : List Int} (h : SqL K H a (ns.map V.int)) : Dp K H (.ref a) (.list (dIs ns)) := .lst h (dp_ints ns)
theorem dp_t {a : Addr} {ns : List Int} (h : SqT K H a (ns.map V.int)) : Dp K H (.ref a) (dT ns) := .tup h (dp_ints ns)
/-- the addresses are those of tuples of ints -/
theorem dp_refs {α : Type} {f : α → List Int} {F : Addr → α → Prop} (hF : ∀ a x, F a x → H a = some (.tup ((f x).map V.int))) : ∀ {rs : List Addr} {xs : List α}, Paired F rs xs → DpAll K H (rs.map V.ref) (xs.map fun x => dT (f x))
  | _, _, .nil => .nil
  | _, _, .cons r t => .cons (dp_t (SqT.of (hF _ _ r))) (dp_refs hF t)
theorem dp_lrefs {α : Type} {f : α → List Int} {F : Addr → α → Prop} (hF : ∀ a x, F a x → H a = some (.tup ((f x).map V.int))) {a : Addr} {rs : List Addr} {xs : List α} (h : SqL K H a (rs.map V.ref)) (p : Paired F rs xs) : Dp K H (.ref a) (.list ((xs.map f).map dT)) := by
  rw [List.map_map]
  exact .lst h (dp_refs hF p)
end
end GS
set_option Elab.async false
set_option linter.all false
set_option maxRecDepth 100000
set_option maxHeartbeats 4000000
/-! set(xs) of a list of ints, as a set that may be sorted -/
namespace GS
open PySem PySem.Spec PySem.W PySem.Calls PyProof.Rows L2
/-- a set as set.__new__ leaves it -/
abbrev eS (w : World) : Obj := { cls := .type "set", dict := none, data := .set #[] 0 (.fresh 0 0 (!w.params.followText "set-order")) }
section
variable {P : Program} {w : World} {A : Around} {E : Value → Shared → Prop} {s : Shared}
theorem call_set_listI {l : Addr} {xs : Array Value} (ns : List Int) {Q : Value → Shared → Prop} (calm : A.handled = none) (isL : s.heap.IsList l xs) (hI : IntsAre xs.toList ns) (few : ns.length + 1 < scanBound)
    (then_ : ∀ (h' : Heap) (tk c : Nat), SetR w h' s.heap.objs.size (fun j => decide (j ∈ ns)) c → c ≤ ns.length → (∀ b o, s.heap.get? b = some o → h'.get? b = some o) → Q (.ref s.heap.objs.size) { s with heap := h', toks := tk }) :
    wpAny (model P w) A (call (.type "set") [.ref l]) Q E s := by
  have size_ : xs.size = ns.length := by
    rw [← Array.length_toList]
    exact IntsAre.length hI
  have ⟨c, tl, mro_⟩ := F.called_set.mro
  have made_ := F.called_set.made
  have sub_ := F.called_set.sub
  refine wpAny_call (codeAny_of_tree (?_ : wpAny _ _ (callAny (.type "set") _) _ _ _))
  refine wpAny_pure ⟨Code.quiet_builtin _ (by decide +kernel), codeAny_builtin F.entry_type_call ?_⟩
  rw [Around.under_plain (weight_type_call_type "set" [.ref l] []) rfl]
  have k1 := F.called_set.notType
  have k2 := F.called_set.canCreate
  have k3 := F.typeCall_set_1 (.ref l)
  repeat any_goals (first | assumption | wp_step)
  refine codeAny_mono (code_set_led1 (.ref l) (E := E) (Q₁ := fun x s₁ => x = .ref s.heap.objs.size ∧ s₁ = { s with heap := s.heap.push (eS w) }) ⟨rfl, rfl⟩) fun r s₁ hr => ?_
  cases r with
  | error e => exact hr
  | ok fl =>
    cases fl with
    | next => exact hr.elim
    | brk => exact hr.elim
    | cont => exact hr.elim
    | ret x =>
      obtain ⟨rfl, rfl⟩ := hr
      have new_ : (s.heap.push (eS w)).get? s.heap.objs.size = some (eS w) := Heap.get?_push_size _ rfl
      have ty_ : Shared.TypeIs { s with heap := s.heap.push (eS w) } (.ref s.heap.objs.size) "set" := ⟨_, new_, rfl⟩
      have i1 := F.called_set.init.lookup
      have i2 := F.called_set.init.bind (.ref s.heap.objs.size)
      repeat any_goals (first | assumption | wp_step)
      refine codeAny_mono (codeAny_call_builtin (R := wants (fun r s₂ => r = .none ∧ ∃ h' tk c, s₂ = { s with heap := h', toks := tk } ∧ SetR w h' s.heap.objs.size (fun j => decide (j ∈ ns)) c ∧ c ≤ ns.length ∧ ∀ b o, s.heap.get? b = some o → h'.get? b = some o) E)
        F.called_set.init.plain F.entry_set_init (check_set_init_1 ty_ ?_)) fun r₂ s₂ hr₂ => ?_
      · obtain ⟨⟨oc, od, odt, osl⟩, hol, hcl, nl, hdl⟩ := isL
        dsimp only at hcl hdl
        subst hcl hdl
        have hol2 : (s.heap.push (eS w)).get? l = some { cls := .type "list", dict := od, data := .seq xs nl, slots := osl } := Heap.get?_push_of_some _ hol
        have j1 := F.sub_list_set
        have j2 := F.sub_list_frozenset
        have j3 : (Value.type "list" == Value.type "dict") = false := by decide
        have isL1 : (s.heap.push (eS w)).IsList l xs := ⟨_, hol2, rfl, nl, rfl⟩
        unfold Builtin.«set.__init__» noKeywords Builtin.Frozenset.updateFrom
        generalize hP : pyIter = PI
        wp_walk
        subst hP
        refine wpAny_pyIter_list isL1 (wpAny_bind (wpAny_runValue ?_))
        have lt_ : l < s.heap.objs.size := Heap.lt_size hol
        have calm3 : A.in1.in1.in1.handled = none := calm
        have sz_ : (s.heap.push (eS w)).objs.size = s.heap.objs.size + 1 := Heap.size_push ..
        have ne_ : l ≠ (s.heap.push (eS w)).objs.size := fun z => by
          rw [z, sz_] at lt_
          exact absurd lt_ (Nat.not_lt.mpr (Nat.le_succ _))
        have out_ : s.heap.objs.size ∉ [(s.heap.push (eS w)).objs.size, l] := fun z => by
          rcases List.mem_cons.mp z with z | z
          · rw [sz_] at z
            exact absurd z (Nat.ne_of_lt (Nat.lt_succ_self _))
          · exact absurd (List.mem_singleton.mp z) (Nat.ne_of_gt lt_)
        have val_ : ∀ (i : Nat) (v : Value), xs[i]? = some v → ∃ k t, ns[i]? = some k ∧ v = .int k t := fun i v hv => by
          have hi : i < ns.length := by
            rw [← size_]
            exact (Array.getElem?_eq_some_iff.mp hv).1
          obtain ⟨t, e⟩ := PyProof.Rows.IntsAre.int_at hI i v (by rw [Array.getElem?_toList, hv])
          refine ⟨ns[i], t, List.getElem?_eq_getElem hi, e.trans ?_⟩
          rw [List.getD_eq_getElem?_getD, List.getElem?_eq_getElem hi]
          rfl
        refine set_update_ints ((Walks.list calm3 _ l ne_ xs).toS) s.heap.objs.size out_ ns size_ few val_ (xs.size - 0) 0 _ (by omega) (Nat.zero_le _) ⟨⟨_, Heap.get?_push_size _ rfl, rfl, rfl⟩, (isL1.push _)⟩ ?first ?last
        case first => exact ⟨0, Nat.le_refl 0, setR_new_at (Heap.get?_push_of_some _ new_)⟩
        case last =>
          intro s' c' mv hc' hS'
          obtain ⟨h', g2, d', tk', os'⟩ := s'
          obtain rfl : g2 = s.gens := mv.gens
          obtain rfl : d' = s.drawn := mv.drawn
          obtain rfl : os' = s.os := mv.os
          rw [size_] at hc'
          refine wpAny_pure (wpAny_pure ⟨rfl, h', tk', c', rfl, hS', hc', fun b o e => ?_⟩)
          have hb0 : b < s.heap.objs.size := Heap.lt_size e
          refine mv.heap b o (fun z => ?_) (Heap.get?_push_of_some _ (Heap.get?_push_of_some _ e))
          rcases List.mem_cons.mp z with z | z
          · exact absurd z (Nat.ne_of_lt hb0)
          · have z2 : b = (s.heap.push (eS w)).objs.size := List.mem_singleton.mp z
            rw [z2, sz_] at hb0
            exact absurd hb0 (Nat.not_lt.mpr (Nat.le_succ _))
      · cases r₂ with
        | error e => exact hr₂
        | ok fl₂ =>
          cases fl₂ with
          | next => exact hr₂.elim
          | brk => exact hr₂.elim
          | cont => exact hr₂.elim
          | ret r =>
            obtain ⟨rfl, h', tk, c', rfl, hS', hc', hk'⟩ := hr₂
            repeat any_goals (first | assumption | wp_step)
            exact then_ _ _ _ hS' hc' hk'
end
/-- over the abstract heap -/
def rSetL (K : Frag) (w : World) : List V → Hp → VK → Prop := fun xs H Q => ∃ (l : Addr) (ns : List Int), xs = [V.ref l] ∧ SqL K H l (ns.map V.int) ∧ ns.length < 1000 ∧ ∀ p n, H p = none → n ≤ ns.length → Q (.ref p) (upd H p (SetO w p (fun j => decide (j ∈ ns)) n))
theorem cr_setL {X : Cx} (hc : X.calm = true) : CallR X (.type "set") (rSetL X.K X.w) := by
  intro pins s σ H xs us Q I r h
  obtain ⟨l, ns, rfl, hl, hf, q⟩ := h
  obtain ⟨its, rv, pl, hz⟩ := I.list hl
  rw [Vals.ref1 r]
  have hn : H s.heap.objs.size = none := I.hok.fresh (Nat.le_refl _)
  refine call_set_listI (P := X.prog) ns (I.ok.hd hc) pl.isList (by simpa using rv.ints) (by unfold scanBound; omega) fun h' tk c R hcn k => ?_
  exact ⟨.ref s.heap.objs.size, upd H s.heap.objs.size (SetO X.w s.heap.objs.size _ c), I.laid (t' := tk) k (Nat.le_refl _) (setO_new R), rfl, q _ c hn hcn⟩
end GS
set_option Elab.async false
set_option linter.all false
set_option maxRecDepth 100000
set_option maxHeartbeats 4000000
/-! an exception that a clause has caught, kept under another name -/
namespace GS
open PySem PySem.Spec PyProof.Rows L2
/-- an exception object of the class cls, without a dict, at a: raised, caught and kept -/
def ExT (cls : Value) (a : Addr) : HO := .ext fun h => ∃ (ob : Obj) (us : Array Value), h.get? a = some ob ∧ Zc cls none ob ∧ ob.data = .fields us
theorem exT_ok {P : Program} {w : World} {H : Hp} {h : Heap} {a : Addr} {cls : Value} {ob : Obj} {us : Array Value} (e : h.get? a = some ob) (z : Zc cls none ob) (d : ob.data = .fields us) : ObjOk P w H h a (ExT cls a) :=
  ⟨⟨ob, us, e, z, d⟩, ⟨ob, e⟩, fun _ _ ⟨o, v, q, r⟩ k => ⟨o, v, k o q, r⟩⟩
section
variable {X : Cx} {pins : List (Addr × Obj)} {σ : L2.St} {H : Hp} {s : Shared}
/-- what stands, and was made behind the entry, comes to be tracked -/
theorem track {a : Addr} {o : HO} (I : Inv X pins σ H s) (hn : H a = none) (h0 : X.s_0.heap.get? a = none) (new : ObjOk X.prog X.w (upd H a o) s.heap a o) (nL : a ≠ X.env.locals) (nC : ∀ x c, X.env.cells.lookup x = some c → c ≠ a)
    (nP : ∀ p ∈ X.pn ++ pins, p.1 ≠ a) : Inv X pins σ (upd H a o) s := by
  have old : ∀ b u, X.s_0.heap.get? b = some u → b ≠ a := fun b u e z => by
    rw [z, h0] at e
    cases e
  have keepH : ∀ b u, H b = some u → upd H a o b = some u := fun b u e => by
    rw [upd_ne (ne_of_none e hn)]
    exact e
  refine ⟨I.ok, I.os, I.bare, ⟨I.base.keep, I.base.slot, fun b u e n hx => ?_, I.base.there, fun b xs e => keepH b _ (I.base.tups b xs e), fun b u v e => keepH b _ (I.base.frzs b u v e), fun b ps e => ?_⟩, I.loc, I.cell, ?_, fun x c e => ?_, fun p hp => ?_, fun b u e => ?_, I.len⟩
  · rw [upd_ne (old b u e)]
    exact I.base.free b u e n hx
  · obtain ⟨m, q⟩ := I.base.tbls b ps e
    exact ⟨m, keepH b _ q⟩
  · rw [upd_ne nL.symm]
    exact I.free
  · rw [upd_ne (nC x c e)]
    exact I.freeC x c e
  · obtain ⟨q1, q2, q3⟩ := I.pin p hp
    exact ⟨q1, by rw [upd_ne (nP p hp)]; exact q2, q3⟩
  · by_cases hb : b = a
    · subst hb
      rw [upd_same] at e
      cases e
      exact new
    · rw [upd_ne hb] at e
      exact (I.hok b u e).stay (fun _ _ _ q => q) (fun c q => keepH c _ q) fun c xs q => keepH c _ q
end
/-- what 'except x as n: y = n' wishes of an exception of the body -/
def wKeep (K : PySem.W.Frag) (c : Value) (i j : Nat) (D : Ends) : WX := fun cls d σ H =>
  d = none ∧ PySem.W.exmOne K cls c = some true ∧ ∀ a, H a = none → D.nx (((σ.set i (some (.ref a))).set j (some (.ref a))).set i none) (upd H a (ExT cls a))
section
variable {X : Cx} {x n y : Str} {c : Value} {i j : Nat} {body : List Stmt} {np pos pos' p1 p2 p3 : Pos} {tb : WX → TS}
theorem ps_try_keep (hst : X.stack = X.env :: X.outer) (hfr : X.env.frame = some X.env.locals) (hex : X.ex = []) (hN : X.N.Nodup) (hi : X.N[i]? = some n) (hj : X.N[j]? = some y) (kn : X.env.kindOf n = some .local) (ky : X.env.kindOf y = some .local)
    (hdn : (n == ("__debug__" : Str)) = false) (hcn : (n == ("__classdict__" : Str)) = false) (hc : Names X x c)
    (hsw : swapsWith (.Name n p2) (some (.Name y p1)) p3.line X.env = pure false)
    (hb : ∀ (W : WX) (pn : List (Addr × Obj)) (xe : Value → Shared → Prop), Takes (X.tr pn xe) W → PassesOwn (model X.prog X.w) X.A X.env xe → PSs (X.tr pn xe) body (tb W)) :
    PS X (.Try body [.ExceptHandler (some (.Name x np)) (some n) [.Assign [.Name y p1] (.Name n p2) p3] pos'] [] [] pos) (fun D σ H => tb (wKeep X.K c i j D) D σ H) := by
  refine ⟨fun pins s σ H D I h => ?_⟩
  have okX := I.ok
  have frames : X.A.frames = some (X.env :: X.outer) := okX.frames.trans (by rw [hst])
  refine wpAny_Try_except (wpAny_mono ((hb (wKeep X.K c i j D) (X.pn ++ pins) (fun e s₁ => wpAny (model X.prog X.w) X.A (noteFrame e X.env) (fun _ s₂ => wpAny (model X.prog X.w) X.A (setFlight e none) (fun _ s₃ =>
    wpAny (model X.prog X.w) X.A (handleBy e X.env [.ExceptHandler (some (.Name x np)) (some n) [.Assign [.Name y p1] (.Name n p2) p3] pos']) (SP X pins D) X.xe s₃) X.xe s₂) X.xe s₁) (fun u s' fly => ?_) PassesOwn.looking).run [] s σ H D (I.toTry _) h) (fun f s1 hsp => ?_) fun _ _ z => z)
  · obtain ⟨a, B, sI, pn1, σ1, H1, cls, d, rfl, J0, nb, up, sky, na, os, ag, rfl, yes, go⟩ := fly
    have J : Inv X pins σ1 H1 sI := J0.ofTry okX
    rw [hst] at sky
    show wpAny _ X.A (noteFrame (.ref a) X.env) _ _ _
    refine Sky.land Zc.steady frames hfr sky fun h3 fl up3 => ?_
    have J3 : Inv X pins σ1 H1 { s' with heap := h3 } := J.landed nb fl.1 (up.trans up3) os ag
    have noB : B.get? a = none := fl.2.1
    obtain ⟨ob, us, eob, zob, dob⟩ := fl.there
    have out : a ∉ frs (X.env :: X.outer) := fun hm => by
      obtain ⟨_, o2, e2, nf⟩ := fl.2.2.1.mem hm
      cases e2.symm.trans eob
      exact nf _ dob
    have nL : a ≠ X.env.locals := fun z => out (List.mem_filterMap.mpr ⟨X.env, List.mem_cons_self, by rw [hfr, z]⟩)
    have nF : a ∉ X.fs := fun hm => by
      obtain ⟨e, he, q⟩ := List.mem_filterMap.mp hm
      exact out (List.mem_filterMap.mpr ⟨e, List.mem_cons_of_mem _ he, q⟩)
    have fresh : X.s_0.heap.get? a = none := by
      cases e : X.s_0.heap.get? a with
      | none => rfl
      | some o =>
        obtain ⟨o', e'⟩ := J.base.there a o e (by rw [hex]; exact fun z => nomatch z)
        have z := nb a o' e' (by rw [hst]; exact out)
        rw [noB] at z
        cases z
    have S3 := J3.suite eob dob na nL nF
    refine wpAny_handleBy_cons (codeAny_handlers_test ?_) (by intro q; cases q)
    have looks : PySem.W.Looks (model X.prog X.w) h3 (typeOf (.ref a)) cls := fun A Q E s k q => wpAny_typeOf_ref (k _ _ eob) (by rw [zob.1]; exact q)
    have match_ := PySem.W.exm_one (M := model X.prog X.w) (J3.kIn) looks yes
    have clause : ∀ {Q : Value → Shared → Prop} {E : Value → Shared → Prop}, Q c { s' with heap := h3 } → wpAny (model X.prog X.w) (X.A.mark (some (.ref a))) (eval (.Name x np) X.env) Q E { s' with heap := h3 } := fun {Q E} q => by
      rcases hc with ⟨hg, hd, hm | ⟨hm, hv, hnn⟩⟩
      · exact ld_glob (X := X.suite a ((a, ob) :: (X.pn ++ pins))) S3 hg hm q hd
      · exact ld_blt (X := X.suite a ((a, ob) :: (X.pn ++ pins))) S3 hg hm hv q hnn hd
    refine clause (match_.here (codeAny_handlers_suite_as (HandSPX.lands_againZ fl fun h4 fl4 up4 => ?_)))
    have J4 : Inv X pins σ1 H1 { s' with heap := h4 } := J.landed nb fl4.1 ((up.trans up3).trans up4) os ag
    obtain ⟨ob4, us4, e4, z4, d4⟩ := fl4.there
    have S4 := J4.suite e4 d4 na nL nF
    refine store_ok (X := X.suite a ((a, ob4) :: (X.pn ++ pins))) (v := .ref a) S4 hN hi (.inl kn) rfl (fun s5 S5 => ?_) (.inr kn)
    have one : PSs (X.suite a ((a, ob4) :: (X.pn ++ pins))) [.Assign [.Name y p1] (.Name n p2) p3] (tAsg (tVar i) (gName j)) :=
      pss_one (ps_set (X := X.suite a ((a, ob4) :: (X.pn ++ pins))) hN hj (.inl ky) (pe_var hi (.inl kn) hdn hcn) hsw (.inr ky))
    have li : i < σ1.length := by
      have q := J.len
      have q2 := (List.getElem?_eq_some_iff.mp hi).1
      omega
    have ahead : tAsg (tVar i) (gName j) { nx := fun σ6 H6 => σ6 = (σ1.set i (some (.ref a))).set j (some (.ref a)) ∧ H6 = H1, rt := fun _ _ => False } (σ1.set i (some (.ref a))) H1 := ⟨.ref a, by rw [List.getElem?_set_self li], rfl, rfl⟩
    refine wpAny_mono (one.run [] s5 _ H1 _ S5 ahead) (fun f s6 hsp => ?_) fun _ _ z => z.elim
    cases f with
    | next =>
      obtain ⟨σ6, H6, S6, rfl, rfl⟩ := hsp
      refine gone_ok (X := X.suite a ((a, ob4) :: (X.pn ++ pins))) S6 hN hi kn fun s7 S7 => ?_
      obtain ⟨g1, g2, g3, g4, g5⟩ := S7.pin (a, ob4) (List.mem_append.mpr (.inl List.mem_cons_self))
      have J7 : Inv X pins _ H6 s7 := S7.unsuite okX
      refine ⟨_, _, track J7 na fresh (exT_ok g1 z4 d4) g3 (fun x' c' e z => ?_) (fun p hp z => ?_), go a na⟩
      · obtain ⟨v, o, ho, hd⟩ := J7.cell x' c' e
        rw [z] at ho
        cases ho.symm.trans g1
        exact g5 v hd
      · obtain ⟨q1, _⟩ := J.pin p hp
        have q2 := (J7.pin p hp).1
        rw [z] at q1
        have fr2 : p.1 ∉ frs X.stack := fun hm => by
          rw [hst, z] at hm
          exact out hm
        have q3 := nb a _ q1 (by rw [← z]; exact fr2)
        rw [noB] at q3
        cases q3
    | brk => exact (hsp.choose_spec.choose_spec.2).elim
    | cont => exact (hsp.choose_spec.choose_spec.2).elim
    | ret u =>
      obtain ⟨_, _, _, _, _, z⟩ := hsp
      exact z.elim
  · cases f with
    | next =>
      obtain ⟨σ', H', J', q⟩ := hsp
      exact wpAny_execs_nil ⟨σ', H', J'.ofTry okX, q⟩
    | brk =>
      obtain ⟨σ', H', J', q⟩ := hsp
      exact ⟨σ', H', J'.ofTry okX, q⟩
    | cont =>
      obtain ⟨σ', H', J', q⟩ := hsp
      exact ⟨σ', H', J'.ofTry okX, q⟩
    | ret u =>
      obtain ⟨v, σ', H', J', r, q⟩ := hsp
      exact ⟨v, σ', H', J'.ofTry okX, r, q⟩
end
end GS
set_option Elab.async false
set_option linter.all false
set_option maxRecDepth 100000
set_option maxHeartbeats 4000000
/-! a call that names all its arguments, or all but the first -/
namespace GS
open PySem PySem.Spec PyProof.Rows L2
/-- n values, then the m named ones -/
def gA {α : Type} (n m : Nat) (xs ys : List α) : List α := if xs.length = n ∧ ys.length = m then xs ++ ys else []
theorem vals_app : ∀ {vs : List V} {us : List Value} {zs : List V} {ws : List Value}, Vals vs us → Vals zs ws → Vals (vs ++ zs) (us ++ ws)
  | _, _, _, _, .nil, h => h
  | _, _, _, _, .cons r t, h => .cons r (vals_app t h)
theorem gA_rel {n m : Nat} {vs : List V} {us : List Value} {zs : List V} {ws : List Value} (h1 : Vals vs us) (h2 : Vals zs ws) : Vals (gA n m vs zs) (gA n m us ws) := by
  unfold gA
  rw [h1.length, h2.length]
  split
  · exact vals_app h1 h2
  · exact .nil
theorem gA_len {n m : Nat} {us ws : List Value} (hn : 0 < n + m) (h : (gA n m us ws).length = n + m) : us.length = n ∧ ws.length = m := by
  unfold gA at h
  split at h
  · assumption
  · simp at h
    omega
section
variable {X : Cx} {CX : CXT} {k : Nat} {f : Addr} {fd : FuncData} {ps ks : List Str} {sp : Sp} {E : XK} {x : Str} {p pos : Pos} {kws : List Keyword} {tk : TA} {g : List Value → List Value → List Value} {gV : List V → List V → List V}
theorem pe_callK0 (F : FnOk X.prog X.w X.K X.mg X.base CX k f fd ps sp) (hr : Room k X.A) (hg : Gl X x) (hm : X.mg x = some (.ref f)) (hk : PySem.W.keepIn X.K (.ref f) = true) (hb : KBinds X.K fd ps ks g gV) (hx : Passes CX X E) (hkw : PK X kws tk)
    (hall : (backToKw pos (keywordEach kws X.env)).all (·.1.isSome) = true := by rfl) (hks : (backToKw pos (keywordEach kws X.env)).filterMap (·.1) = ks := by rfl) (hdb : (x == ("__debug__" : Str)) = false := by decide)
    (hpl : ((backTo pos (starEach [] X.env)).any (·.1) || (backToKw pos (keywordEach kws X.env)).any (·.1.isNone)) = false := by rfl) :
    PE X (.Call (.Name x p) [] kws pos) (tCallK sp gV E tNil tk) := by
  refine ⟨fun pins s σ H Q I h => ?_⟩
  refine wpAny_Call_Name_kw (ld_glob I hg hm ?_ hdb)
  refine PySem.W.callWith_KW0 (h₀ := X.base) I.ok.mod.kin hk hall ?_ hpl
  refine thn (hkw.run pos pins s σ H _ I h) fun ws s2 ⟨zs, H2, I2, rz, q2⟩ => ⟨I2.kIn, ?_⟩
  rw [hks]
  exact run_fnk (us := []) (vs := []) F hr hb hx I2 .nil rz q2
end
end GS
set_option Elab.async false
set_option linter.all false
set_option maxRecDepth 100000
set_option maxHeartbeats 4000000
namespace G21
open PySem PySem.Spec PyProof.Rows L2
/-! ### the text -/
def topS (i : Nat) : Stmt := PySem.Challenge.pw_gapstairs_k21_near_blocks.main.body.getD i (.Pass ⟨0, 0, 0, 0⟩)
abbrev S_q_is_number : Stmt := topS 8
abbrev N_q_is_number : List Str := ["thing"]
theorem c_q_is_number : FnScope N_q_is_number ["thing"] (defScope S_q_is_number) := ⟨rfl, rfl, rfl, by decide +kernel, rfl, by decide +kernel, by decide +kernel⟩
abbrev S_q_is_list : Stmt := topS 9
abbrev N_q_is_list : List Str := ["thing"]
theorem c_q_is_list : FnScope N_q_is_list ["thing"] (defScope S_q_is_list) := ⟨rfl, rfl, rfl, by decide +kernel, rfl, by decide +kernel, by decide +kernel⟩
abbrev S_q_is_index : Stmt := topS 10
abbrev N_q_is_index : List Str := ["thing", "many"]
theorem c_q_is_index : FnScope N_q_is_index ["thing", "many"] (defScope S_q_is_index) := ⟨rfl, rfl, rfl, by decide +kernel, rfl, by decide +kernel, by decide +kernel⟩
abbrev S_q_is_block : Stmt := topS 13
abbrev N_q_is_block : List Str := ["thing", "item"]
theorem c_q_is_block : FnScope N_q_is_block ["thing"] (defScope S_q_is_block) := ⟨rfl, rfl, rfl, by decide +kernel, rfl, by decide +kernel, by decide +kernel⟩
abbrev S_q_are_blocks : Stmt := topS 14
abbrev N_q_are_blocks : List Str := ["thing", "block"]
theorem c_q_are_blocks : FnScope N_q_are_blocks ["thing"] (defScope S_q_are_blocks) := ⟨rfl, rfl, rfl, by decide +kernel, rfl, by decide +kernel, by decide +kernel⟩
abbrev S_q_Drawing_init : Stmt := inClass (topS 15) 0
abbrev N_q_Drawing_init : List Str := ["self", "blocks"]
theorem c_q_Drawing_init : FnScope N_q_Drawing_init ["self", "blocks"] (defScope S_q_Drawing_init) := ⟨rfl, rfl, rfl, by decide +kernel, rfl, by decide +kernel, by decide +kernel⟩
abbrev S_q_Drawing_eq : Stmt := inClass (topS 15) 1
abbrev N_q_Drawing_eq : List Str := ["self", "other"]
theorem c_q_Drawing_eq : FnScope N_q_Drawing_eq ["self", "other"] (defScope S_q_Drawing_eq) := ⟨rfl, rfl, rfl, by decide +kernel, rfl, by decide +kernel, by decide +kernel⟩
abbrev S_q_Drawing_len : Stmt := inClass (topS 15) 2
abbrev N_q_Drawing_len : List Str := ["self"]
theorem c_q_Drawing_len : FnScope N_q_Drawing_len ["self"] (defScope S_q_Drawing_len) := ⟨rfl, rfl, rfl, by decide +kernel, rfl, by decide +kernel, by decide +kernel⟩
abbrev S_q_Drawing_contains : Stmt := inClass (topS 15) 3
abbrev N_q_Drawing_contains : List Str := ["self", "x"]
theorem c_q_Drawing_contains : FnScope N_q_Drawing_contains ["self", "x"] (defScope S_q_Drawing_contains) := ⟨rfl, rfl, rfl, by decide +kernel, rfl, by decide +kernel, by decide +kernel⟩
abbrev S_q_check_drawing : Stmt := topS 16
abbrev N_q_check_drawing : List Str := ["drawing"]
theorem c_q_check_drawing : FnScope N_q_check_drawing ["drawing"] (defScope S_q_check_drawing) := ⟨rfl, rfl, rfl, by decide +kernel, rfl, by decide +kernel, by decide +kernel⟩
abbrev S_q_check_index : Stmt := topS 17
abbrev N_q_check_index : List Str := ["drawing", "i"]
theorem c_q_check_index : FnScope N_q_check_index ["drawing", "i"] (defScope S_q_check_index) := ⟨rfl, rfl, rfl, by decide +kernel, rfl, by decide +kernel, by decide +kernel⟩
abbrev S_q_check_pair : Stmt := topS 18
abbrev N_q_check_pair : List Str := ["drawing", "i", "j"]
theorem c_q_check_pair : FnScope N_q_check_pair ["drawing", "i", "j"] (defScope S_q_check_pair) := ⟨rfl, rfl, rfl, by decide +kernel, rfl, by decide +kernel, by decide +kernel⟩
abbrev S_q_is_size : Stmt := topS 20
abbrev N_q_is_size : List Str := ["thing"]
theorem c_q_is_size : FnScope N_q_is_size ["thing"] (defScope S_q_is_size) := ⟨rfl, rfl, rfl, by decide +kernel, rfl, by decide +kernel, by decide +kernel⟩
abbrev S_q_is_body : Stmt := topS 21
abbrev N_q_is_body : List Str := ["thing"]
theorem c_q_is_body : FnScope N_q_is_body ["thing"] (defScope S_q_is_body) := ⟨rfl, rfl, rfl, by decide +kernel, rfl, by decide +kernel, by decide +kernel⟩
abbrev S_q_check_body : Stmt := topS 22
abbrev N_q_check_body : List Str := ["body"]
theorem c_q_check_body : FnScope N_q_check_body ["body"] (defScope S_q_check_body) := ⟨rfl, rfl, rfl, by decide +kernel, rfl, by decide +kernel, by decide +kernel⟩
abbrev S_q_check_here : Stmt := topS 24
abbrev N_q_check_here : List Str := ["drawing", "body"]
theorem c_q_check_here : FnScope N_q_check_here ["drawing", "body"] (defScope S_q_check_here) := ⟨rfl, rfl, rfl, by decide +kernel, rfl, by decide +kernel, by decide +kernel⟩
abbrev S_q_gap_of : Stmt := topS 26
abbrev N_q_gap_of : List Str := ["one", "other"]
theorem c_q_gap_of : FnScope N_q_gap_of ["one", "other"] (defScope S_q_gap_of) := ⟨rfl, rfl, rfl, by decide +kernel, rfl, by decide +kernel, by decide +kernel⟩
abbrev S_q_are_near : Stmt := topS 27
abbrev N_q_are_near : List Str := ["drawing", "body", "i", "j", "along"]
theorem c_q_are_near : FnScope N_q_are_near ["drawing", "body", "i", "j"] (defScope S_q_are_near) := ⟨rfl, rfl, rfl, by decide +kernel, rfl, by decide +kernel, by decide +kernel⟩
abbrev S_q_all_near : Stmt := topS 28
abbrev N_q_all_near : List Str := ["drawing", "body", "many", "i", "j"]
theorem c_q_all_near : FnScope N_q_all_near ["drawing", "body"] (defScope S_q_all_near) := ⟨rfl, rfl, rfl, by decide +kernel, rfl, by decide +kernel, by decide +kernel⟩
abbrev S_q_least_near : Stmt := topS 29
abbrev N_q_least_near : List Str := ["drawing", "i", "j", "along"]
theorem c_q_least_near : FnScope N_q_least_near ["drawing", "i", "j"] (defScope S_q_least_near) := ⟨rfl, rfl, rfl, by decide +kernel, rfl, by decide +kernel, by decide +kernel⟩
abbrev S_q_gap : Stmt := topS 30
abbrev N_q_gap : List Str := ["drawing", "i", "j"]
theorem c_q_gap : FnScope N_q_gap ["drawing", "i", "j"] (defScope S_q_gap) := ⟨rfl, rfl, rfl, by decide +kernel, rfl, by decide +kernel, by decide +kernel⟩
abbrev S_q_near : Stmt := topS 31
abbrev N_q_near : List Str := ["drawing", "body", "i", "j"]
theorem c_q_near : FnScope N_q_near ["drawing", "body", "i", "j"] (defScope S_q_near) := ⟨rfl, rfl, rfl, by decide +kernel, rfl, by decide +kernel, by decide +kernel⟩
abbrev S_q_near_pairs : Stmt := topS 32
abbrev N_q_near_pairs : List Str := ["drawing", "body"]
theorem c_q_near_pairs : FnScope N_q_near_pairs ["drawing", "body"] (defScope S_q_near_pairs) := ⟨rfl, rfl, rfl, by decide +kernel, rfl, by decide +kernel, by decide +kernel⟩
abbrev S_q_near_from : Stmt := topS 33
abbrev N_q_near_from : List Str := ["drawing", "i", "j"]
theorem c_q_near_from : FnScope N_q_near_from ["drawing", "i", "j"] (defScope S_q_near_from) := ⟨rfl, rfl, rfl, by decide +kernel, rfl, by decide +kernel, by decide +kernel⟩
abbrev S_l_begun : Stmt := topS 35
abbrev N_l_begun : List Str := ["script", "great", "cell"]
theorem c_l_begun : FnScope N_l_begun ["script"] (defScope S_l_begun) := ⟨rfl, rfl, rfl, by decide +kernel, rfl, by decide +kernel, by decide +kernel⟩
abbrev S_l_mixed : Stmt := topS 36
abbrev N_l_mixed : List Str := ["draw", "turn", "found", "prime", "blend", "cell"]
theorem c_l_mixed : FnScope N_l_mixed ["draw"] (defScope S_l_mixed) := ⟨rfl, rfl, rfl, by decide +kernel, rfl, by decide +kernel, by decide +kernel⟩
abbrev S_l_take : Stmt := topS 37
abbrev N_l_take : List Str := ["draw", "many", "found"]
theorem c_l_take : FnScope N_l_take ["draw", "many"] (defScope S_l_take) := ⟨rfl, rfl, rfl, by decide +kernel, rfl, by decide +kernel, by decide +kernel⟩
abbrev S_l_pick : Stmt := topS 38
abbrev N_l_pick : List Str := ["draw", "some"]
theorem c_l_pick : FnScope N_l_pick ["draw", "some"] (defScope S_l_pick) := ⟨rfl, rfl, rfl, by decide +kernel, rfl, by decide +kernel, by decide +kernel⟩
abbrev S_l_caught : Stmt := topS 39
abbrev N_l_caught : List Str := ["task", "caught", "error"]
theorem c_l_caught : FnScope N_l_caught ["task"] (defScope S_l_caught) := ⟨rfl, rfl, rfl, by decide +kernel, rfl, by decide +kernel, by decide +kernel⟩
abbrev S_l_is_number : Stmt := topS 40
abbrev N_l_is_number : List Str := ["item"]
theorem c_l_is_number : FnScope N_l_is_number ["item"] (defScope S_l_is_number) := ⟨rfl, rfl, rfl, by decide +kernel, rfl, by decide +kernel, by decide +kernel⟩
abbrev S_l_says : Stmt := topS 41
abbrev N_l_says : List Str := ["found", "due"]
theorem c_l_says : FnScope N_l_says ["found", "due"] (defScope S_l_says) := ⟨rfl, rfl, rfl, by decide +kernel, rfl, by decide +kernel, by decide +kernel⟩
abbrev S_l_numbers : Stmt := topS 42
abbrev N_l_numbers : List Str := ["item", "many", "one"]
theorem c_l_numbers : FnScope N_l_numbers ["item", "many"] (defScope S_l_numbers) := ⟨rfl, rfl, rfl, by decide +kernel, rfl, by decide +kernel, by decide +kernel⟩
abbrev S_l_shuffled : Stmt := topS 43
abbrev N_l_shuffled : List Str := ["draw", "some", "left", "found", "turn"]
theorem c_l_shuffled : FnScope N_l_shuffled ["draw", "some"] (defScope S_l_shuffled) := ⟨rfl, rfl, rfl, by decide +kernel, rfl, by decide +kernel, by decide +kernel⟩
abbrev S_l_block : Stmt := topS 44
abbrev N_l_block : List Str := ["draw", "wide", "left", "low"]
theorem c_l_block : FnScope N_l_block ["draw", "wide"] (defScope S_l_block) := ⟨rfl, rfl, rfl, by decide +kernel, rfl, by decide +kernel, by decide +kernel⟩
abbrev S_l_pen : Stmt := topS 45
abbrev N_l_pen : List Str := ["draw", "left", "low", "wide", "tall", "cut", "right", "high", "one", "two", "three", "four", "turn"]
theorem c_l_pen : FnScope N_l_pen ["draw", "left", "low", "wide", "tall"] (defScope S_l_pen) := ⟨rfl, rfl, rfl, by decide +kernel, rfl, by decide +kernel, by decide +kernel⟩
abbrev S_l_stretched : Stmt := topS 46
abbrev N_l_stretched : List Str := ["blocks", "across", "up", "left", "low", "right", "high"]
theorem c_l_stretched : FnScope N_l_stretched ["blocks", "across", "up"] (defScope S_l_stretched) := ⟨rfl, rfl, rfl, by decide +kernel, rfl, by decide +kernel, by decide +kernel⟩
abbrev S_l_table : Stmt := topS 47
abbrev N_l_table : List Str := ["draw", "some", "line", "way", "table", "here", "factor", "k", "old"]
theorem c_l_table : FnScope N_l_table ["draw", "some"] (defScope S_l_table) := ⟨rfl, rfl, rfl, by decide +kernel, rfl, by decide +kernel, by decide +kernel⟩
abbrev S_l_blocks : Stmt := topS 48
abbrev N_l_blocks : List Str := ["draw", "most", "way", "found", "many", "k", "turn", "block", "across", "up"]
theorem c_l_blocks : FnScope N_l_blocks ["draw", "most"] (defScope S_l_blocks) := ⟨rfl, rfl, rfl, by decide +kernel, rfl, by decide +kernel, by decide +kernel⟩
abbrev S_l_body : Stmt := topS 49
abbrev N_l_body : List Str := ["draw", "blocks", "spots", "found", "flat", "some", "way", "at"]
theorem c_l_body : FnScope N_l_body ["draw", "blocks", "spots"] (defScope S_l_body) := ⟨rfl, rfl, rfl, by decide +kernel, rfl, by decide +kernel, by decide +kernel⟩
abbrev S_l_grid : Stmt := topS 50
abbrev N_l_grid : List Str := ["blocks", "spots", "flat", "found", "block", "other", "spot", "item"]
theorem c_l_grid : FnScope N_l_grid ["blocks", "spots", "flat"] (defScope S_l_grid) := ⟨rfl, rfl, rfl, by decide +kernel, rfl, by decide +kernel, by decide +kernel⟩
abbrev S_l_due_gap : Stmt := topS 51
abbrev N_l_due_gap : List Str := ["blocks", "i", "j", "one", "other", "found", "flat"]
theorem c_l_due_gap : FnScope N_l_due_gap ["blocks", "i", "j"] (defScope S_l_due_gap) := ⟨rfl, rfl, rfl, by decide +kernel, rfl, by decide +kernel, by decide +kernel⟩
abbrev S_l_near : Stmt := topS 52
abbrev N_l_near : List Str := ["blocks", "body", "i", "j", "one", "other", "flat"]
theorem c_l_near : FnScope N_l_near ["blocks", "body", "i", "j"] (defScope S_l_near) := ⟨rfl, rfl, rfl, by decide +kernel, rfl, by decide +kernel, by decide +kernel⟩
abbrev S_l_near_pairs : Stmt := topS 53
abbrev N_l_near_pairs : List Str := ["blocks", "body", "found", "i", "j"]
theorem c_l_near_pairs : FnScope N_l_near_pairs ["blocks", "body"] (defScope S_l_near_pairs) := ⟨rfl, rfl, rfl, by decide +kernel, rfl, by decide +kernel, by decide +kernel⟩
abbrev S_l_least_near : Stmt := topS 54
abbrev N_l_least_near : List Str := ["blocks", "i", "j", "body"]
theorem c_l_least_near : FnScope N_l_least_near ["blocks", "i", "j", "body"] (defScope S_l_least_near) := ⟨rfl, rfl, rfl, by decide +kernel, rfl, by decide +kernel, by decide +kernel⟩
abbrev S_l_refusals : Stmt := topS 55
abbrev N_l_refusals : List Str := ["draw", "made", "body", "many", "k", "bad"]
theorem c_l_refusals : FnScope N_l_refusals ["draw", "made", "body", "many"] (defScope S_l_refusals) := ⟨rfl, rfl, rfl, by decide +kernel, rfl, by decide +kernel, by decide +kernel⟩
abbrev S_q_law : Stmt := topS 56
abbrev N_q_law : List Str := ["script", "draw", "turn", "blocks", "made", "body", "told", "j", "i", "one", "other", "found"]
theorem c_q_law : FnScope N_q_law ["script"] (defScope S_q_law) := ⟨rfl, rfl, rfl, by decide +kernel, rfl, by decide +kernel, by decide +kernel⟩
/-! ### what the top has written -/
/-- a def of the top -/
structure Df (K : PySem.W.Frag) (mg : Str → Option Value) (x : Str) (st : Stmt) (ps : List Str) where
  a : Addr
  d : FuncData
  F : Fun K x x st a d
  g : mg x = some (.ref a)
  b : Binds K d ps []
theorem Df.k {K : PySem.W.Frag} {mg : Str → Option Value} {x : Str} {st : Stmt} {ps : List Str} (D : Df K mg x st ps) : PySem.W.keepIn K (.ref D.a) = true := D.F.kp
/-- an own exception class -/
structure Xc (K : PySem.W.Frag) (mg : Str → Option Value) (x : Str) where
  C : Addr
  g : mg x = some (.ref C)
  q : PySem.W.excIn K C [.type "ValueError", .type "Exception", .type "BaseException", .type "object"] "ValueError.__new__" = true
  k : PySem.W.keepIn K (.ref C) = true
  b : PySem.W.subIn K (.ref C) (.type "BaseException") = some true
  t : PySem.W.typeIn K (.ref C) = some (.type "type")
  e : ExcC K C
end G21
set_option Elab.async false
set_option linter.all false
set_option maxRecDepth 100000
set_option maxHeartbeats 4000000
namespace G21
open PySem PySem.Spec PyProof.Rows L2
structure Txt (K : PySem.W.Frag) (mg : Str → Option Value) where
  z_abs : mg "abs" = none
  z_all : mg "all" = none
  z_bool : mg "bool" = none
  z_enumerate : mg "enumerate" = none
  z_int : mg "int" = none
  z_isinstance : mg "isinstance" = none
  z_len : mg "len" = none
  z_list : mg "list" = none
  z_max : mg "max" = none
  z_min : mg "min" = none
  z_range : mg "range" = none
  z_set : mg "set" = none
  z_sorted : mg "sorted" = none
  z_tuple : mg "tuple" = none
  mostT : Tok
  most : mg "MOST_BLOCKS" = some (.int 12 mostT)
  x_GapError : Xc K mg "GapError"
  x_BadBlocks : Xc K mg "BadBlocks"
  x_BadBody : Xc K mg "BadBody"
  x_BadDrawing : Xc K mg "BadDrawing"
  x_BadIndex : Xc K mg "BadIndex"
  x_BadPair : Xc K mg "BadPair"
  u_BadBlocks : PySem.W.exmOne K (.ref x_BadBlocks.C) (.ref x_GapError.C) = some true
  u_BadBody : PySem.W.exmOne K (.ref x_BadBody.C) (.ref x_GapError.C) = some true
  u_BadDrawing : PySem.W.exmOne K (.ref x_BadDrawing.C) (.ref x_GapError.C) = some true
  u_BadIndex : PySem.W.exmOne K (.ref x_BadIndex.C) (.ref x_GapError.C) = some true
  u_BadPair : PySem.W.exmOne K (.ref x_BadPair.C) (.ref x_GapError.C) = some true
  C : Addr
  fI : Addr
  dI : FuncData
  cls : Cls K C
  gC : mg "Drawing" = some (.ref C)
  nB : NoAttr K C "blocks"
  M : Mk K C fI
  FI : Fun K "__init__" "Drawing.__init__" S_q_Drawing_init fI dI
  bI : Binds K dI ["self", "blocks"] []
  iA : PySem.W.findIn K (.ref C) "__class__" = some (some (.builtin "object.__class__"))
  iN : PySem.W.specialIn K (.builtin "object.__class__") "__get__" = some (some (.builtin "getset_descriptor.__get__"))
  iT : PySem.W.takesIn K (.builtin "object.__class__") = some true
  iM : PySem.W.mroIn K C (.type "object") = some true
  kD : PySem.W.kitOne K (.ref C) (.ref C) = some true
  kL : PySem.W.kitOne K (.type "list") (.ref C) = some false
  e_BadBlocks : PySem.W.kitOne K (.ref x_BadBlocks.C) (.ref x_BadBlocks.C) = some true
  e_BadBody : PySem.W.kitOne K (.ref x_BadBody.C) (.ref x_BadBody.C) = some true
  e_BadDrawing : PySem.W.kitOne K (.ref x_BadDrawing.C) (.ref x_BadDrawing.C) = some true
  e_BadIndex : PySem.W.kitOne K (.ref x_BadIndex.C) (.ref x_BadIndex.C) = some true
  e_BadPair : PySem.W.kitOne K (.ref x_BadPair.C) (.ref x_BadPair.C) = some true
  q_is_number : Df K mg "is_number" S_q_is_number ["thing"]
  q_is_list : Df K mg "is_list" S_q_is_list ["thing"]
  q_is_index : Df K mg "is_index" S_q_is_index ["thing", "many"]
  q_is_block : Df K mg "is_block" S_q_is_block ["thing"]
  q_are_blocks : Df K mg "are_blocks" S_q_are_blocks ["thing"]
  q_check_drawing : Df K mg "check_drawing" S_q_check_drawing ["drawing"]
  q_check_index : Df K mg "check_index" S_q_check_index ["drawing", "i"]
  q_check_pair : Df K mg "check_pair" S_q_check_pair ["drawing", "i", "j"]
  q_is_size : Df K mg "is_size" S_q_is_size ["thing"]
  q_is_body : Df K mg "is_body" S_q_is_body ["thing"]
  q_check_body : Df K mg "check_body" S_q_check_body ["body"]
  q_check_here : Df K mg "check_here" S_q_check_here ["drawing", "body"]
  q_gap_of : Df K mg "gap_of" S_q_gap_of ["one", "other"]
  q_are_near : Df K mg "are_near" S_q_are_near ["drawing", "body", "i", "j"]
  q_all_near : Df K mg "all_near" S_q_all_near ["drawing", "body"]
  q_least_near : Df K mg "least_near" S_q_least_near ["drawing", "i", "j"]
  q_gap : Df K mg "gap" S_q_gap ["drawing", "i", "j"]
  q_near : Df K mg "near" S_q_near ["drawing", "body", "i", "j"]
  q_near_pairs : Df K mg "near_pairs" S_q_near_pairs ["drawing", "body"]
  q_near_from : Df K mg "near_from" S_q_near_from ["drawing", "i", "j"]
  l_begun : Df K mg "_law_begun" S_l_begun ["script"]
  l_mixed : Df K mg "_law_mixed" S_l_mixed ["draw"]
  l_take : Df K mg "_law_take" S_l_take ["draw", "many"]
  l_pick : Df K mg "_law_pick" S_l_pick ["draw", "some"]
  l_caught : Df K mg "_law_caught" S_l_caught ["task"]
  l_is_number : Df K mg "_law_is_number" S_l_is_number ["item"]
  l_says : Df K mg "_law_says" S_l_says ["found", "due"]
  l_numbers : Df K mg "_law_numbers" S_l_numbers ["item", "many"]
  l_shuffled : Df K mg "_law_shuffled" S_l_shuffled ["draw", "some"]
  l_block : Df K mg "_law_block" S_l_block ["draw", "wide"]
  l_pen : Df K mg "_law_pen" S_l_pen ["draw", "left", "low", "wide", "tall"]
  l_stretched : Df K mg "_law_stretched" S_l_stretched ["blocks", "across", "up"]
  l_table : Df K mg "_law_table" S_l_table ["draw", "some"]
  l_blocks : Df K mg "_law_blocks" S_l_blocks ["draw", "most"]
  l_body : Df K mg "_law_body" S_l_body ["draw", "blocks", "spots"]
  l_grid : Df K mg "_law_grid" S_l_grid ["blocks", "spots", "flat"]
  l_due_gap : Df K mg "_law_due_gap" S_l_due_gap ["blocks", "i", "j"]
  l_near : Df K mg "_law_near" S_l_near ["blocks", "body", "i", "j"]
  l_near_pairs : Df K mg "_law_near_pairs" S_l_near_pairs ["blocks", "body"]
  l_least_near : Df K mg "_law_least_near" S_l_least_near ["blocks", "i", "j", "body"]
  l_refusals : Df K mg "_law_refusals" S_l_refusals ["draw", "made", "body", "many"]
  q_law : Df K mg "law" S_q_law ["script"]
/-! ### kinds of values -/
inductive Kn (H : Hp) : V → String → Prop where
  | non : Kn H .non "NoneType"
  | bl (b : Bool) : Kn H (.bl b) "bool"
  | int (i : Int) : Kn H (.int i) "int"
  | str (s : Str) : Kn H (.str s) "str"
  | lst {a : Addr} {xs : List V} (e : H a = some (.lst xs)) : Kn H (.ref a) "list"
  | tup {a : Addr} {xs : List V} (e : H a = some (.tup xs)) : Kn H (.ref a) "tuple"
theorem Kn.ty {K : PySem.W.Frag} {H : Hp} {x : V} {n : String} (k : Kn H x n) : TyX K H x (.type n) := by
  cases k with
  | non => exact .base .non
  | bl b => exact .base (.bl b)
  | int i => exact .base (.int i)
  | str s => exact .base (.str s)
  | lst e => exact .base (.lst e)
  | tup e => exact .base (.tup e)
def isI : V → Bool
  | .int _ => true
  | _ => false
end G21
set_option Elab.async false
set_option linter.all false
set_option maxRecDepth 100000
set_option maxHeartbeats 4000000
namespace G21
open PySem PySem.Spec PyProof.Rows L2
def isBl : V → Bool
  | .bl _ => true
  | _ => false
theorem kn_int {H : Hp} {x : V} {n : String} (k : Kn H x n) : kitB n "int" = some (isI x || isBl x) := by
  cases k with
  | non => exact (by decide +kernel : kitB "NoneType" "int" = some false)
  | bl b => exact (by decide +kernel : kitB "bool" "int" = some true)
  | int i => exact (by decide +kernel : kitB "int" "int" = some true)
  | str s => exact (by decide +kernel : kitB "str" "int" = some false)
  | lst e => exact (by decide +kernel : kitB "list" "int" = some false)
  | tup e => exact (by decide +kernel : kitB "tuple" "int" = some false)
theorem kn_bool {H : Hp} {x : V} {n : String} (k : Kn H x n) : kitB n "bool" = some (isBl x) := by
  cases k with
  | non => exact (by decide +kernel : kitB "NoneType" "bool" = some false)
  | bl b => exact (by decide +kernel : kitB "bool" "bool" = some true)
  | int i => exact (by decide +kernel : kitB "int" "bool" = some false)
  | str s => exact (by decide +kernel : kitB "str" "bool" = some false)
  | lst e => exact (by decide +kernel : kitB "list" "bool" = some false)
  | tup e => exact (by decide +kernel : kitB "tuple" "bool" = some false)
theorem kn_tup {H : Hp} {x : V} {n : String} (k : Kn H x n) : kitB n "tuple" = some (n == "tuple") := by
  cases k with
  | non => decide +kernel
  | bl b => decide +kernel
  | int i => decide +kernel
  | str s => decide +kernel
  | lst e => decide +kernel
  | tup e => decide +kernel
def isIx (m : Int) : V → Bool
  | .int i => decide (0 ≤ i) && decide (i < m)
  | _ => false
def isSz : V → Bool
  | .int i => decide (1 ≤ i)
  | _ => false
theorem isI_int {x : V} (h : isI x = true) : ∃ i, x = .int i := by
  cases x <;> first | exact ⟨_, rfl⟩ | cases h
theorem isIx_no {x : V} {m : Int} (h : ¬ isI x = true) : isIx m x = false := by
  cases x <;> first | rfl | exact absurd rfl h
theorem isSz_no {x : V} (h : ¬ isI x = true) : isSz x = false := by
  cases x <;> first | rfl | exact absurd rfl h
/-! ### numbers, indexes, sizes -/
def spNum : Sp := fun vs H Q _ => ∃ (x : V) (n : String), vs = [x] ∧ Kn H x n ∧ Q (.bl (isI x)) H
def spIx : Sp := fun vs H Q _ => ∃ (x : V) (n : String) (m : Int), vs = [x, .int m] ∧ Kn H x n ∧ Q (.bl (isIx m x)) H
def spSz : Sp := fun vs H Q _ => ∃ (x : V) (n : String), vs = [x] ∧ Kn H x n ∧ Q (.bl (isSz x)) H
section
variable {P : Program} {w : World} {K : PySem.W.Frag} {mg : Str → Option Value} {base : Heap}
theorem ok_q_is_number (T : Txt K mg) : FnOk P w K mg base CX0 1 T.q_is_number.a T.q_is_number.d ["thing"] spNum := by
  refine T.q_is_number.F.ok c_q_is_number (fun vs H Q E h => ?_) (fun cdv A outer s H vs Q E hr h => ?_)
  · obtain ⟨x, n, rfl, _⟩ := h
    rfl
  · obtain ⟨x, n, rfl, k, q⟩ := h
    refine ⟨_,
(pss_one (ps_ret (pe_and (pe_callB call_isi (by rfl) T.z_isinstance (by decide +kernel) (pa_cons (pv 0) (pa_cons (pe_bltn (v := .ty "int") (u := .type "int") rfl T.z_int (by decide +kernel) rfl) pa_nil))) (pe_one (pe_not (pe_callB call_isi (by rfl) T.z_isinstance (by decide +kernel) (pa_cons (pv 0) (pa_cons (pe_bltn (v := .ty "bool") (u := .type "bool") rfl T.z_bool (by decide +kernel) rfl) pa_nil))))))))
      , ?_⟩
    refine ⟨x, rfl, x, _, _, _, _, rfl, .ty _, k.ty, kit_ty (kn_int k), _, rfl, ite2 (fun e => ?_) (fun e => ?_)⟩
    · refine ⟨x, rfl, x, _, _, _, _, rfl, .ty _, k.ty, kit_ty (kn_bool k), _, rfl, ?_⟩
      have e2 : (!isBl x) = isI x := by cases x <;> first | rfl | cases e
      show Q (.bl (!isBl x)) H
      rw [e2]
      exact q
    · have e2 : isI x = false := by cases x <;> first | rfl | exact absurd rfl e
      rw [e2] at q
      exact q
theorem ok_q_is_index (T : Txt K mg) : FnOk P w K mg base CX0 2 T.q_is_index.a T.q_is_index.d ["thing", "many"] spIx := by
  refine T.q_is_index.F.ok c_q_is_index (fun vs H Q E h => ?_) (fun cdv A outer s H vs Q E hr h => ?_)
  · obtain ⟨x, n, m, rfl, _⟩ := h
    rfl
  · obtain ⟨x, n, m, rfl, k, q⟩ := h
    refine ⟨_,
(pss_one (ps_ret (pe_and (pe_call (ok_q_is_number T) (hr.mono (by decide)) rfl T.q_is_number.g T.q_is_number.k T.q_is_number.b .nil pass0 (pa_cons (pv 0) pa_nil)) (pe_one (pe_chain op_le op_lt pe_int (pv 0) (pv 1))))))
      , ?_⟩
    refine ⟨x, rfl, x, n, rfl, k, _, rfl, ite2 (fun e => ?_) (fun e => ?_)⟩
    · obtain ⟨i, rfl⟩ := isI_int e
      refine ⟨_, rfl, 0, i, rfl, rfl, _, rfl, ite2 (fun e2 => ⟨_, rfl, i, m, rfl, rfl, ?_⟩) (fun e2 => ?_)⟩
      · have z : isIx m (.int i) = decide (i < m) := by
          show (decide (0 ≤ i) && decide (i < m)) = decide (i < m)
          rw [e2, Bool.true_and]
        rw [z] at q
        exact q
      · have z : isIx m (.int i) = false := by
          show (decide (0 ≤ i) && decide (i < m)) = false
          rw [Bool.eq_false_iff.mpr e2, Bool.false_and]
        rw [z] at q
        exact q
    · rw [isIx_no e] at q
      exact q
theorem ok_q_is_size (T : Txt K mg) : FnOk P w K mg base CX0 2 T.q_is_size.a T.q_is_size.d ["thing"] spSz := by
  refine T.q_is_size.F.ok c_q_is_size (fun vs H Q E h => ?_) (fun cdv A outer s H vs Q E hr h => ?_)
  · obtain ⟨x, n, rfl, _⟩ := h
    rfl
  · obtain ⟨x, n, rfl, k, q⟩ := h
    refine ⟨_,
(pss_one (ps_ret (pe_and (pe_call (ok_q_is_number T) (hr.mono (by decide)) rfl T.q_is_number.g T.q_is_number.k T.q_is_number.b .nil pass0 (pa_cons (pv 0) pa_nil)) (pe_one (pe_cmpR op_ge (pv 0) pe_int (nomark _))))))
      , ?_⟩
    refine ⟨x, rfl, x, n, rfl, k, _, rfl, ite2 (fun e => ?_) (fun e => ?_)⟩
    · obtain ⟨i, rfl⟩ := isI_int e
      exact ⟨_, rfl, i, 1, rfl, rfl, q⟩
    · rw [isSz_no e] at q
      exact q
end
end G21
set_option Elab.async false
set_option linter.all false
set_option maxRecDepth 100000
set_option maxHeartbeats 4000000
namespace G21
open PySem PySem.Spec PyProof.Rows L2
/-! ### blocks, bodies, drawings -/
structure Bk where
  l : Int
  d : Int
  r : Int
  u : Int
deriving DecidableEq
def Bk.n (b : Bk) : List Int := [b.l, b.d, b.r, b.u]
def Bk.v (b : Bk) : List V := [.int b.l, .int b.d, .int b.r, .int b.u]
theorem Bk.nv (b : Bk) : b.n.map V.int = b.v := rfl
theorem Bk.n_inj {a b : Bk} (h : a.n = b.n) : a = b := by
  obtain ⟨a1, a2, a3, a4⟩ := a
  obtain ⟨b1, b2, b3, b4⟩ := b
  have e : [a1, a2, a3, a4] = [b1, b2, b3, b4] := h
  simp only [List.cons.injEq, and_true] at e
  obtain ⟨rfl, rfl, rfl, rfl⟩ := e
  rfl
/-- the addresses rs are those of the blocks bs -/
abbrev Bks (H : Hp) (rs : List Addr) (bs : List Bk) : Prop := Paired (fun r b => H r = some (.tup (Bk.v b))) rs bs
theorem pd_len {α β : Type} {F : α → β → Prop} : ∀ {as : List α} {bs : List β}, Paired F as bs → as.length = bs.length
  | _, _, .nil => rfl
  | _, _, .cons _ t => congrArg (· + 1) (pd_len t)
theorem pd_get {α β : Type} {F : α → β → Prop} : ∀ {as : List α} {bs : List β} {i : Nat} {b : β}, Paired F as bs → bs[i]? = some b → ∃ a, as[i]? = some a ∧ F a b
  | _, _, _, _, .nil, h => by simp at h
  | _, _, 0, _, .cons r _, h => ⟨_, rfl, by cases h; exact r⟩
  | _, _, i + 1, _, .cons _ t, h => pd_get (i := i) t h
theorem pd_imp {α β : Type} {F G : α → β → Prop} : ∀ {as : List α} {bs : List β}, Paired F as bs → (∀ a b, F a b → G a b) → Paired G as bs
  | _, _, .nil, _ => .nil
  | _, _, .cons r t, f => .cons (f _ _ r) (pd_imp t f)
def Dw (C : Addr) (H : Hp) (m : Addr) (bs : List Bk) : Prop :=
  ∃ (dx t : Addr) (rs : List Addr), H m = some (.ins C dx [("blocks", .ref t)]) ∧ H t = some (.tup (rs.map V.ref)) ∧ Bks H rs bs ∧ bs.length ≤ 12
/-- a body -/
def Bo (H : Hp) (p : Addr) (a b : Int) : Prop := H p = some (.tup [.int a, .int b])
/-! ### the promises -/
def spBody : Sp := fun vs H Q _ => ∃ (t : Addr) (a b : Int), vs = [.ref t] ∧ Bo H t a b ∧ Q (.bl (decide (1 ≤ a) && decide (1 ≤ b))) H
def spChkBody (X : Addr) : Sp := fun vs H Q E => ∃ (t : Addr) (a b : Int), vs = [.ref t] ∧ Bo H t a b ∧ (1 ≤ a ∧ 1 ≤ b → Q .non H) ∧ (¬ (1 ≤ a ∧ 1 ≤ b) → E (.ref X) none H)
def spChkDw (C X : Addr) : Sp := fun vs H Q E => ∃ m : Addr, vs = [.ref m] ∧ (((∃ dx fs, H m = some (.ins C dx fs)) ∧ Q .non H) ∨ ((∃ xs, H m = some (.lst xs)) ∧ E (.ref X) none H))
def spChkIx (C X : Addr) : Sp := fun vs H Q E => ∃ (m : Addr) (x : V) (n : String) (bs : List Bk), vs = [.ref m, x] ∧ Dw C H m bs ∧ Kn H x n ∧ (isIx bs.length x = true → Q .non H) ∧ (isIx bs.length x = false → E (.ref X) none H)
def spChkPair (C X Y : Addr) : Sp := fun vs H Q E => ∃ (m : Addr) (x y : V) (n n' : String) (bs : List Bk), vs = [.ref m, x, y] ∧ Dw C H m bs ∧ Kn H x n ∧ Kn H y n' ∧
  (isIx bs.length x = false → E (.ref X) none H) ∧ (isIx bs.length x = true → isIx bs.length y = false → E (.ref X) none H) ∧
  (∀ i j : Int, x = .int i → y = .int j → isIx bs.length x = true → isIx bs.length y = true → (i ≠ j → Q .non H) ∧ (i = j → E (.ref Y) none H))
/-- drawing and body: what check_here asks -/
def spHere (C X Y : Addr) : Sp := fun vs H Q E => ∃ (m t : Addr) (a b : Int), vs = [.ref m, .ref t] ∧ Bo H t a b ∧
  (((∃ dx fs, H m = some (.ins C dx fs)) ∧ (1 ≤ a ∧ 1 ≤ b → Q .non H) ∧ (¬ (1 ≤ a ∧ 1 ≤ b) → E (.ref Y) none H)) ∨ ((∃ xs, H m = some (.lst xs)) ∧ E (.ref X) none H))
def gx (p q : Bk) : Int := max (q.l - p.r) (p.l - q.r)
def gy (p q : Bk) : Int := max (q.d - p.u) (p.d - q.u)
theorem max_if (i j : Int) : (if j > i then j else i) = max i j := by
  by_cases h : i < j
  · rw [if_pos h]
    omega
  · rw [if_neg h]
    omega
def spGapOf : Sp := fun vs H Q _ => ∃ (p q : Addr) (x y : Bk), vs = [.ref p, .ref q] ∧ H p = some (.tup x.v) ∧ H q = some (.tup y.v) ∧ ∀ z, H z = none → Q (.ref z) (upd H z (.tup [.int (gx x y), .int (gy x y)]))
theorem ix_ok {m i : Int} (h : isIx m (.int i) = true) : 0 ≤ i ∧ i < m := by
  have h2 : (decide (0 ≤ i) && decide (i < m)) = true := h
  simp only [Bool.and_eq_true, decide_eq_true_eq] at h2
  exact h2
section
variable {P : Program} {w : World} {K : PySem.W.Frag} {mg : Str → Option Value} {base : Heap}
theorem ok_q_is_body (T : Txt K mg) : FnOk P w K mg base CX0 3 T.q_is_body.a T.q_is_body.d ["thing"] spBody := by
  refine T.q_is_body.F.ok c_q_is_body (fun vs H Q E h => ?_) (fun cdv A outer s H vs Q E hr h => ?_)
  · obtain ⟨t, a, b, rfl, _⟩ := h
    rfl
  · obtain ⟨t, a, b, rfl, hb, q⟩ := h
    refine ⟨_,
      (pss_one (ps_ret (pe_and (pe_callB call_isi (by rfl) T.z_isinstance (by decide +kernel) (pa_cons (pv 0) (pa_cons (pe_bltn (v := .ty "tuple") (u := .type "tuple") rfl T.z_tuple (by decide +kernel) rfl) pa_nil))) (pe_and (pe_cmpR op_eq (pe_callB call_len_seq (by rfl) T.z_len (by decide +kernel) (pa_cons (pv 0) pa_nil)) pe_int (nomark _)) (pe_and (pe_call (ok_q_is_size T) (hr.mono (by decide)) rfl T.q_is_size.g T.q_is_size.k T.q_is_size.b .nil pass0 (pa_cons (pe_ix ix_tup (pv 0) pe_int (fun _ _ => rfl)) pa_nil)) (pe_one (pe_call (ok_q_is_size T) (hr.mono (by decide)) rfl T.q_is_size.g T.q_is_size.k T.q_is_size.b .nil pass0 (pa_cons (pe_ix ix_tup (pv 0) pe_int (fun _ _ => rfl)) pa_nil))))))))
      , ?_⟩
    have hT : SqT K H t [.int a, .int b] := SqT.of hb
    refine ⟨.ref t, rfl, .ref t, _, _, _, _, rfl, .ty _, (Kn.tup hb).ty, kit_ty (kn_tup (.tup hb)), _, rfl, iteT ?_⟩
    refine ⟨.ref t, rfl, t, _, rfl, .inr hT, rfl, _, rfl, iteT ?_⟩
    refine ⟨.ref t, rfl, t, _, 0, .int a, rfl, rfl, hT, atI_nat (j := 0) rfl, .int a, "int", rfl, .int a, _, rfl, ite2 (fun e => ?_) (fun e => ?_)⟩
    · refine ⟨.ref t, rfl, t, _, 1, .int b, rfl, rfl, hT, atI_nat (j := 1) rfl, .int b, "int", rfl, .int b, ?_⟩
      have e1 : decide (1 ≤ a) = true := e
      rw [e1, Bool.true_and] at q
      exact q
    · have e1 : decide (1 ≤ a) = false := Bool.eq_false_iff.mpr e
      rw [e1, Bool.false_and] at q
      exact q
theorem ok_q_check_body (T : Txt K mg) : FnOk P w K mg base (L2.CX P w) 4 T.q_check_body.a T.q_check_body.d ["body"] (spChkBody T.x_BadBody.C) := by
  refine T.q_check_body.F.okX c_q_check_body (fun vs H Q E h => ?_) (fun cdv A outer s H vs Q E hr h => ?_)
  · obtain ⟨t, a, b, rfl, _⟩ := h
    rfl
  · obtain ⟨t, a, b, rfl, hb, q1, q2⟩ := h
    refine ⟨_,
      (pss_one (ps_if (pt_not (pt_val (pe_call (ok_q_is_body T) (hr.mono (by decide)) rfl T.q_is_body.g T.q_is_body.k T.q_is_body.b .nil pass0 (pa_cons (pv 0) pa_nil))))
      (pss_one (ps_raise rfl (takes_of rfl rfl rfl rfl) (pmk_own PySem.F.excBase_ValueError T.x_BadBody.q T.x_BadBody.g T.x_BadBody.k (raises_own T.x_BadBody.b T.x_BadBody.t) (by exact rfl))))
      pss_nil))
      , ?_⟩
    refine ⟨.ref t, rfl, t, a, b, rfl, hb, _, rfl, ?_⟩
    by_cases e : 1 ≤ a ∧ 1 ≤ b
    · rw [decide_eq_true e.1, decide_eq_true e.2]
      exact q1 e
    · have z : (decide (1 ≤ a) && decide (1 ≤ b)) = false := by
        rw [← Bool.decide_and]
        exact decide_eq_false e
      rw [z]
      exact q2 e
theorem ok_q_check_drawing (T : Txt K mg) : FnOk P w K mg base (L2.CX P w) 1 T.q_check_drawing.a T.q_check_drawing.d ["drawing"] (spChkDw T.C T.x_BadDrawing.C) := by
  refine T.q_check_drawing.F.okX c_q_check_drawing (fun vs H Q E h => ?_) (fun cdv A outer s H vs Q E hr h => ?_)
  · obtain ⟨m, rfl, _⟩ := h
    rfl
  · obtain ⟨m, rfl, h⟩ := h
    refine ⟨_,
      (pss_one (ps_if (pt_not (pt_val (pe_callB call_isi (by rfl) T.z_isinstance (by decide +kernel) (pa_cons (pv 0) (pa_cons (pe_glob (v := .ref T.C) (u := .ref T.C) rfl T.gC rfl) pa_nil)))))
      (pss_one (ps_raise rfl (takes_of rfl rfl rfl rfl) (pmk_own PySem.F.excBase_ValueError T.x_BadDrawing.q T.x_BadDrawing.g T.x_BadDrawing.k (raises_own T.x_BadDrawing.b T.x_BadDrawing.t) (by exact rfl))))
      pss_nil))
      , ?_⟩
    rcases h with ⟨⟨dx, fs, hm⟩, q⟩ | ⟨⟨xs, hm⟩, q⟩
    · exact ⟨.ref m, rfl, .ref m, _, _, _, _, rfl, .own _, .base (.ins hm T.cls T.iA T.iN T.iT T.iM), T.kD, _, rfl, q⟩
    · exact ⟨.ref m, rfl, .ref m, _, _, _, _, rfl, .own _, (Kn.lst hm).ty, T.kL, _, rfl, q⟩
theorem ok_q_check_index (T : Txt K mg) : FnOk P w K mg base (L2.CX P w) 3 T.q_check_index.a T.q_check_index.d ["drawing", "i"] (spChkIx T.C T.x_BadIndex.C) := by
  refine T.q_check_index.F.okX c_q_check_index (fun vs H Q E h => ?_) (fun cdv A outer s H vs Q E hr h => ?_)
  · obtain ⟨m, x, n, bs, rfl, _⟩ := h
    rfl
  · obtain ⟨m, x, n, bs, rfl, ⟨dx, t, rs, hm, ht, hb, _⟩, k, q1, q2⟩ := h
    refine ⟨_,
      (pss_one (ps_if (pt_not (pt_val (pe_call (ok_q_is_index T) (hr.mono (by decide)) rfl T.q_is_index.g T.q_is_index.k T.q_is_index.b .nil pass0 (pa_cons (pv 1) (pa_cons (pe_callB call_len_seq (by rfl) T.z_len (by decide +kernel) (pa_cons (pe_fld (pv 0) rfl) pa_nil)) pa_nil)))))
      (pss_one (ps_raise rfl (takes_of rfl rfl rfl rfl) (pmk_own PySem.F.excBase_ValueError T.x_BadIndex.q T.x_BadIndex.g T.x_BadIndex.k (raises_own T.x_BadIndex.b T.x_BadIndex.t) (by exact rfl))))
      pss_nil))
      , ?_⟩
    refine ⟨x, rfl, .ref m, rfl, m, T.C, dx, _, _, rfl, hm, T.cls, T.nB, rfl, t, _, rfl, .inr (SqT.of ht), x, n, bs.length, ?_, k, _, rfl, ?_⟩
    · rw [List.length_map, pd_len hb]
      rfl
    · cases e : isIx bs.length x with
      | true => exact q1 e
      | false => exact q2 e
theorem ok_q_check_pair (T : Txt K mg) : FnOk P w K mg base (L2.CX P w) 4 T.q_check_pair.a T.q_check_pair.d ["drawing", "i", "j"] (spChkPair T.C T.x_BadIndex.C T.x_BadPair.C) := by
  refine T.q_check_pair.F.okX c_q_check_pair (fun vs H Q E h => ?_) (fun cdv A outer s H vs Q E hr h => ?_)
  · obtain ⟨m, x, y, n, n', bs, rfl, _⟩ := h
    rfl
  · obtain ⟨m, x, y, n, n', bs, rfl, hd, k, k', q1, q2, q3⟩ := h
    refine ⟨_,
      (pss_cons (ps_expr (pe_call (ok_q_check_index T) (hr.mono (by decide)) rfl T.q_check_index.g T.q_check_index.k T.q_check_index.b .nil (passes_call (takes_of rfl rfl rfl rfl) (fun _ _ _ _ h => h)) (pa_cons (pv 0) (pa_cons (pv 1) pa_nil))))
      (pss_cons (ps_expr (pe_call (ok_q_check_index T) (hr.mono (by decide)) rfl T.q_check_index.g T.q_check_index.k T.q_check_index.b .nil (passes_call (takes_of rfl rfl rfl rfl) (fun _ _ _ _ h => h)) (pa_cons (pv 0) (pa_cons (pv 2) pa_nil))))
      (pss_one (ps_if (pt_cmpR op_eq (pv 1) (pv 2) (nomark _))
      (pss_one (ps_raise rfl (takes_of rfl rfl rfl rfl) (pmk_own PySem.F.excBase_ValueError T.x_BadPair.q T.x_BadPair.g T.x_BadPair.k (raises_own T.x_BadPair.b T.x_BadPair.t) (by exact rfl))))
      pss_nil))))
      , ?_⟩
    refine ⟨.ref m, rfl, x, rfl, m, x, n, bs, rfl, hd, k, fun e => ?_, q1⟩
    refine ⟨.ref m, rfl, y, rfl, m, y, n', bs, rfl, hd, k', fun e' => ?_, q2 e⟩
    obtain ⟨i, rfl⟩ : ∃ i, x = .int i := by
      cases x <;> first | exact ⟨_, rfl⟩ | cases e
    obtain ⟨j, rfl⟩ : ∃ j, y = .int j := by
      cases y <;> first | exact ⟨_, rfl⟩ | cases e'
    obtain ⟨p1, p2⟩ := q3 i j rfl rfl e e'
    refine ⟨.int i, rfl, .int j, rfl, rfl, _, rfl, ite2 (fun z => ?_) (fun z => ?_)⟩
    · exact p2 (V.int.inj (of_decide_eq_true z))
    · exact p1 fun w => z (decide_eq_true (by rw [w]))
theorem ok_q_check_here (T : Txt K mg) : FnOk P w K mg base (L2.CX P w) 5 T.q_check_here.a T.q_check_here.d ["drawing", "body"] (spHere T.C T.x_BadDrawing.C T.x_BadBody.C) := by
  refine T.q_check_here.F.okX c_q_check_here (fun vs H Q E h => ?_) (fun cdv A outer s H vs Q E hr h => ?_)
  · obtain ⟨m, t, a, b, rfl, _⟩ := h
    rfl
  · obtain ⟨m, t, a, b, rfl, hb, h⟩ := h
    refine ⟨_,
      (pss_cons (ps_expr (pe_call (ok_q_check_drawing T) (hr.mono (by decide)) rfl T.q_check_drawing.g T.q_check_drawing.k T.q_check_drawing.b .nil (passes_call (takes_of rfl rfl rfl rfl) (fun _ _ _ _ h => h)) (pa_cons (pv 0) pa_nil)))
      (pss_one (ps_expr (pe_call (ok_q_check_body T) (hr.mono (by decide)) rfl T.q_check_body.g T.q_check_body.k T.q_check_body.b .nil (passes_call (takes_of rfl rfl rfl rfl) (fun _ _ _ _ h => h)) (pa_cons (pv 1) pa_nil)))))
      , ?_⟩
    rcases h with ⟨hm, q1, q2⟩ | ⟨hm, q⟩
    · exact ⟨.ref m, rfl, m, rfl, .inl ⟨hm, .ref t, rfl, t, a, b, rfl, hb, q1, q2⟩⟩
    · exact ⟨.ref m, rfl, m, rfl, .inr ⟨hm, q⟩⟩
theorem ok_q_gap_of (T : Txt K mg) : FnOk P w K mg base CX0 1 T.q_gap_of.a T.q_gap_of.d ["one", "other"] spGapOf := by
  refine T.q_gap_of.F.ok c_q_gap_of (fun vs H Q E h => ?_) (fun cdv A outer s H vs Q E hr h => ?_)
  · obtain ⟨p, q, x, y, rfl, _⟩ := h
    rfl
  · obtain ⟨p, q, x, y, rfl, hp, hq, k⟩ := h
    refine ⟨_,
      (pss_one (ps_ret (pe_tup (pa_cons (pe_callB (call_max2 rfl) (by rfl) T.z_max (by decide +kernel) (pa_cons (pe_op op_sub (pe_ix ix_tup (pv 1) pe_int (fun _ _ => rfl)) (pe_ix ix_tup (pv 0) pe_int (fun _ _ => rfl))) (pa_cons (pe_op op_sub (pe_ix ix_tup (pv 0) pe_int (fun _ _ => rfl)) (pe_ix ix_tup (pv 1) pe_int (fun _ _ => rfl))) pa_nil))) (pa_cons (pe_callB (call_max2 rfl) (by rfl) T.z_max (by decide +kernel) (pa_cons (pe_op op_sub (pe_ix ix_tup (pv 1) pe_int (fun _ _ => rfl)) (pe_ix ix_tup (pv 0) pe_int (fun _ _ => rfl))) (pa_cons (pe_op op_sub (pe_ix ix_tup (pv 0) pe_int (fun _ _ => rfl)) (pe_ix ix_tup (pv 1) pe_int (fun _ _ => rfl))) pa_nil))) pa_nil)))))
      , ?_⟩
    have tp : SqT K H p x.v := SqT.of hp
    have tq : SqT K H q y.v := SqT.of hq
    refine ⟨.ref q, rfl, q, _, 0, .int y.l, rfl, rfl, tq, atI_nat (j := 0) rfl, .ref p, rfl, p, _, 2, .int x.r, rfl, rfl, tp, atI_nat (j := 2) rfl, _, _, rfl, rfl, ?_⟩
    refine ⟨.ref p, rfl, p, _, 0, .int x.l, rfl, rfl, tp, atI_nat (j := 0) rfl, .ref q, rfl, q, _, 2, .int y.r, rfl, rfl, tq, atI_nat (j := 2) rfl, _, _, rfl, rfl, _, _, rfl, ?_⟩
    refine ⟨.ref q, rfl, q, _, 1, .int y.d, rfl, rfl, tq, atI_nat (j := 1) rfl, .ref p, rfl, p, _, 3, .int x.u, rfl, rfl, tp, atI_nat (j := 3) rfl, _, _, rfl, rfl, ?_⟩
    refine ⟨.ref p, rfl, p, _, 1, .int x.d, rfl, rfl, tp, atI_nat (j := 1) rfl, .ref q, rfl, q, _, 3, .int y.u, rfl, rfl, tq, atI_nat (j := 3) rfl, _, _, rfl, rfl, _, _, rfl, ?_⟩
    refine ⟨by show 2 ≤ sizeLine; decide, fun z hz => ?_⟩
    rw [max_if, max_if]
    exact k z hz
end
end G21
set_option Elab.async false
set_option linter.all false
set_option maxRecDepth 100000
set_option maxHeartbeats 4000000
namespace G21
open PySem PySem.Spec PyProof.Rows L2
/-! ### heaps that only grow -/
theorem same_new {H : Hp} {p : Addr} {o : HO} (h : H p = none) : Same H (upd H p o) := fun b x e => by
  rw [upd_ne (ne_of_none e h)]
  exact e
theorem Dw.same {C : Addr} {H H' : Hp} {m : Addr} {bs : List Bk} (e : Same H H') (h : Dw C H m bs) : Dw C H' m bs := by
  obtain ⟨dx, t, rs, h1, h2, h3, h4⟩ := h
  exact ⟨dx, t, rs, e _ _ h1, e _ _ h2, pd_imp h3 fun _ _ => e _ _, h4⟩
def nr (p q : Bk) (a b : Int) : Bool := decide (gx p q < a) && decide (gy p q < b)
/-- an index of the drawing's tuple -/
theorem at_blk {rs : List Addr} {r : Addr} {i : Nat} (h : rs[i]? = some r) : atI (rs.map V.ref) (i : Int) = some (.ref r) := by
  refine atI_nat ?_
  rw [List.getElem?_map, h]
  rfl
/-! ### pairs in a list -/
abbrev Prs (H : Hp) (as : List Addr) (ps : List (Int × Int)) : Prop := Paired (fun a p => H a = some (.tup [.int p.1, .int p.2])) as ps
def PrL (H : Hp) (z : Addr) (ps : List (Int × Int)) : Prop := ∃ as : List Addr, H z = some (.lst (as.map V.ref)) ∧ Prs H as ps
theorem pd_app {α β : Type} {F : α → β → Prop} : ∀ {as as' : List α} {bs bs' : List β}, Paired F as bs → Paired F as' bs' → Paired F (as ++ as') (bs ++ bs')
  | _, _, _, _, .nil, h => h
  | _, _, _, _, .cons r t, h => .cons r (pd_app t h)
def rowTo (f : Nat → Nat → Bool) (i k : Nat) : List (Int × Int) := ((List.range k).filter fun t => f i (i + 1 + t)).map fun t => ((i : Int), ((i + 1 + t : Nat) : Int))
def prsTo (f : Nat → Nat → Bool) (n i : Nat) : List (Int × Int) := (List.range i).flatMap fun i => rowTo f i (n - (i + 1))
theorem rowTo_succ (f : Nat → Nat → Bool) (i k : Nat) : rowTo f i (k + 1) = rowTo f i k ++ (if f i (i + 1 + k) = true then [((i : Int), ((i + 1 + k : Nat) : Int))] else []) := by
  unfold rowTo
  rw [List.range_succ, List.filter_append, List.map_append]
  congr 1
  by_cases h : f i (i + 1 + k) = true
  · rw [if_pos h]
    simp [List.filter, h]
  · rw [if_neg h]
    simp [List.filter, h]
theorem prsTo_succ (f : Nat → Nat → Bool) (n i : Nat) : prsTo f n (i + 1) = prsTo f n i ++ rowTo f i (n - (i + 1)) := by
  unfold prsTo
  rw [List.range_succ, List.flatMap_append, List.flatMap_cons, List.flatMap_nil, List.append_nil]
theorem rowTo_len (f : Nat → Nat → Bool) (i : Nat) : ∀ k, (rowTo f i k).length ≤ k
  | 0 => Nat.le_refl _
  | k + 1 => by
    rw [rowTo_succ, List.length_append]
    have h := rowTo_len f i k
    split
    · simp only [List.length_cons, List.length_nil]
      omega
    · simp only [List.length_nil]
      omega
theorem prsTo_len (f : Nat → Nat → Bool) (n : Nat) : ∀ i, (prsTo f n i).length ≤ i * n
  | 0 => by simp [prsTo]
  | i + 1 => by
    rw [prsTo_succ, List.length_append, Nat.succ_mul]
    have h := prsTo_len f n i
    have h2 := rowTo_len f i (n - (i + 1))
    omega
theorem sz_few {n : Nat} (h : n < 10000) : n < sizeLine := Nat.lt_of_lt_of_le h (by decide)
def nrF (bs : List Bk) (a b : Int) : Nat → Nat → Bool := fun i j => match bs[i]?, bs[j]? with
  | some p, some q => nr p q a b
  | _, _ => false
theorem nrF_at {bs : List Bk} {a b : Int} {i j : Nat} {p q : Bk} (hi : bs[i]? = some p) (hj : bs[j]? = some q) : nrF bs a b i j = nr p q a b := by
  unfold nrF
  rw [hi, hj]
theorem yes2 {σ : L2.St} {H : Hp} {A B : Hp → Prop} (h : A H) : tYes σ H fun b H3 => if b = true then A H3 else B H3 := by
  show (if (true : Bool) = true then A H else B H)
  rw [if_pos rfl]
  exact h
/-- a loop over a range: what its turn asks is left open (B) -/
theorem it_range {lo : Int} {n : Nat} {H1 : Hp} {Q : Hp → Prop} {B : V → Hp → (Hp → Prop) → Prop} (Pv : Nat → Hp → Prop) (h0 : Pv 0 H1) (hs : ∀ i H, i < n → Pv i H → B (.int (lo + i)) H (Pv (i + 1))) (hd : ∀ H, Pv n H → Q H) :
    ∃ W : Nat → Nat → Hp → Prop, (∃ m, W 0 m H1) ∧ ∀ i m H, W i m H →
      ((Itr lo n).stop i H ∧ Q H) ∨ ((Itr lo n).go i H ∧ ∃ Nx : Hp → Prop, (∀ H', Nx H' → ∃ m', m' < m ∧ W (i + 1) m' H') ∧ ∀ x H', (Itr lo n).yld i H x H' → B x H' Nx) := by
  refine ⟨fun i m H => m = n - i ∧ i ≤ n ∧ Pv i H, ⟨n, by simp, Nat.zero_le _, h0⟩, fun i m H hW => ?_⟩
  obtain ⟨rfl, hi, p⟩ := hW
  by_cases hlt : i < n
  · refine .inr ⟨hlt, Pv (i + 1), fun H' p' => ⟨n - (i + 1), by omega, rfl, hlt, p'⟩, fun x H' y => ?_⟩
    obtain ⟨e, z⟩ := y
    rw [e, z]
    exact hs i H hlt p
  · have e : i = n := by omega
    rw [e] at p
    exact .inl ⟨Nat.le_of_not_lt hlt, hd H p⟩
/-- a loop over a list that stays -/
theorem it_list {K : PySem.W.Frag} {a : Addr} {xs : List V} {H1 : Hp} {Q : Hp → Prop} {B : V → Hp → (Hp → Prop) → Prop} (Pv : Nat → Hp → Prop) (h0 : Pv 0 H1) (hl : ∀ i H, Pv i H → SqL K H a xs)
    (hs : ∀ i x H, xs[i]? = some x → Pv i H → B x H (Pv (i + 1))) (hd : ∀ H, Pv xs.length H → Q H) :
    ∃ W : Nat → Nat → Hp → Prop, (∃ m, W 0 m H1) ∧ ∀ i m H, W i m H →
      ((Itl K a).stop i H ∧ Q H) ∨ ((Itl K a).go i H ∧ ∃ Nx : Hp → Prop, (∀ H', Nx H' → ∃ m', m' < m ∧ W (i + 1) m' H') ∧ ∀ x H', (Itl K a).yld i H x H' → B x H' Nx) := by
  refine ⟨fun i m H => m = xs.length - i ∧ i ≤ xs.length ∧ Pv i H, ⟨xs.length, by simp, Nat.zero_le _, h0⟩, fun i m H hW => ?_⟩
  obtain ⟨rfl, hi, p⟩ := hW
  have q := hl i H p
  by_cases hlt : i < xs.length
  · refine .inr ⟨⟨xs, xs[i], q, by simp [hlt]⟩, Pv (i + 1), fun H' p' => ⟨xs.length - (i + 1), by omega, rfl, hlt, p'⟩, fun x H' y => ?_⟩
    obtain ⟨e, z⟩ := y
    rw [e]
    exact hs i x H (z xs q) p
  · have e : i = xs.length := by omega
    refine .inl ⟨⟨xs, q, Nat.le_of_not_lt hlt⟩, hd H ?_⟩
    rw [e] at p
    exact p
/-! ### promises -/
def spAreNear (C : Addr) : Sp := fun vs H Q _ => ∃ (m t : Addr) (i j : Nat) (a b : Int) (bs : List Bk) (p q : Bk), vs = [.ref m, .ref t, .int i, .int j] ∧ Dw C H m bs ∧ Bo H t a b ∧ bs[i]? = some p ∧ bs[j]? = some q ∧ ∀ H', Same H H' → Q (.bl (nr p q a b)) H'
def spAllNear (C : Addr) : Sp := fun vs H Q _ => ∃ (m t : Addr) (a b : Int) (bs : List Bk), vs = [.ref m, .ref t] ∧ Dw C H m bs ∧ Bo H t a b ∧ ∀ H' z, Same H H' → H z = none → PrL H' z (prsTo (nrF bs a b) bs.length bs.length) → Q (.ref z) H'
def lnr (p q : Bk) : List V := [.int (max 1 (gx p q + 1)), .int (max 1 (gy p q + 1))]
def spLeast (C : Addr) : Sp := fun vs H Q _ => ∃ (m : Addr) (i j : Nat) (bs : List Bk) (p q : Bk), vs = [.ref m, .int i, .int j] ∧ Dw C H m bs ∧ bs[i]? = some p ∧ bs[j]? = some q ∧ ∀ H' z, Same H H' → H z = none → H' z = some (.tup (lnr p q)) → Q (.ref z) H'
section
variable {P : Program} {w : World} {K : PySem.W.Frag} {mg : Str → Option Value} {base : Heap}
theorem ok_q_are_near (T : Txt K mg) : FnOk P w K mg base CX0 2 T.q_are_near.a T.q_are_near.d ["drawing", "body", "i", "j"] (spAreNear T.C) := by
  refine T.q_are_near.F.ok c_q_are_near (fun vs H Q E h => ?_) (fun cdv A outer s H vs Q E hr h => ?_)
  · obtain ⟨m, t, i, j, a, b, bs, p, q, rfl, _⟩ := h
    rfl
  · obtain ⟨m, t, i, j, a, b, bs, p, q, rfl, ⟨dx, u, rs, hm, hu, hb, _⟩, hB, hi, hj, k⟩ := h
    refine ⟨_,
      (pss_cons (ps_set (i := 4) c_q_are_near.nd rfl (Or.inl rfl) (pe_call (ok_q_gap_of T) (hr.mono (by decide)) rfl T.q_gap_of.g T.q_gap_of.k T.q_gap_of.b .nil pass0 (pa_cons (pe_ix ix_tup (pe_fld (pv 0) rfl) (pv 2) (fun _ _ => rfl)) (pa_cons (pe_ix ix_tup (pe_fld (pv 0) rfl) (pv 3) (fun _ _ => rfl)) pa_nil))))
      (pss_one (ps_ret (pe_and (pe_cmpR op_lt (pe_ix ix_tup (pv 4) pe_int (fun _ _ => rfl)) (pe_ix ix_tup (pv 1) pe_int (fun _ _ => rfl)) (nomark _)) (pe_one (pe_cmpR op_lt (pe_ix ix_tup (pv 4) pe_int (fun _ _ => rfl)) (pe_ix ix_tup (pv 1) pe_int (fun _ _ => rfl)) (nomark _)))))))
      , ?_⟩
    obtain ⟨r1, g1, e1⟩ := pd_get hb hi
    obtain ⟨r2, g2, e2⟩ := pd_get hb hj
    refine ⟨.ref m, rfl, m, T.C, dx, _, _, rfl, hm, T.cls, T.nB, rfl, .int i, rfl, u, _, i, .ref r1, rfl, rfl, SqT.of hu, at_blk g1, ?_⟩
    refine ⟨.ref m, rfl, m, T.C, dx, _, _, rfl, hm, T.cls, T.nB, rfl, .int j, rfl, u, _, j, .ref r2, rfl, rfl, SqT.of hu, at_blk g2, ?_⟩
    refine ⟨r1, r2, p, q, rfl, e1, e2, fun z hz => ?_⟩
    have S1 : Same H (upd H z (.tup [.int (gx p q), .int (gy p q)])) := same_new hz
    have tz : SqT K (upd H z (.tup [.int (gx p q), .int (gy p q)])) z [.int (gx p q), .int (gy p q)] := SqT.of upd_same
    have tB : SqT K (upd H z (.tup [.int (gx p q), .int (gy p q)])) t [.int a, .int b] := SqT.of (S1 _ _ hB)
    refine ⟨.ref z, rfl, z, _, 0, .int (gx p q), rfl, rfl, tz, atI_nat (j := 0) rfl, .ref t, rfl, t, _, 0, .int a, rfl, rfl, tB, atI_nat (j := 0) rfl, _, _, rfl, rfl, _, rfl, ite2 (fun e => ?_) (fun e => ?_)⟩
    · refine ⟨.ref z, rfl, z, _, 1, .int (gy p q), rfl, rfl, tz, atI_nat (j := 1) rfl, .ref t, rfl, t, _, 1, .int b, rfl, rfl, tB, atI_nat (j := 1) rfl, _, _, rfl, rfl, ?_⟩
      have k' := k _ S1
      unfold nr at k'
      rw [e, Bool.true_and] at k'
      exact k'
    · have k' := k _ S1
      unfold nr at k'
      rw [Bool.eq_false_iff.mpr e, Bool.false_and] at k'
      exact k'
theorem ok_q_least_near (T : Txt K mg) : FnOk P w K mg base CX0 2 T.q_least_near.a T.q_least_near.d ["drawing", "i", "j"] (spLeast T.C) := by
  refine T.q_least_near.F.ok c_q_least_near (fun vs H Q E h => ?_) (fun cdv A outer s H vs Q E hr h => ?_)
  · obtain ⟨m, i, j, bs, p, q, rfl, _⟩ := h
    rfl
  · obtain ⟨m, i, j, bs, p, q, rfl, ⟨dx, u, rs, hm, hu, hb, _⟩, hi, hj, k⟩ := h
    refine ⟨_,
      (pss_cons (ps_set (i := 3) c_q_least_near.nd rfl (Or.inl rfl) (pe_call (ok_q_gap_of T) (hr.mono (by decide)) rfl T.q_gap_of.g T.q_gap_of.k T.q_gap_of.b .nil pass0 (pa_cons (pe_ix ix_tup (pe_fld (pv 0) rfl) (pv 1) (fun _ _ => rfl)) (pa_cons (pe_ix ix_tup (pe_fld (pv 0) rfl) (pv 2) (fun _ _ => rfl)) pa_nil))))
      (pss_one (ps_ret (pe_tup (pa_cons (pe_callB (call_max2 rfl) (by rfl) T.z_max (by decide +kernel) (pa_cons pe_int (pa_cons (pe_op op_add (pe_ix ix_tup (pv 3) pe_int (fun _ _ => rfl)) pe_int) pa_nil))) (pa_cons (pe_callB (call_max2 rfl) (by rfl) T.z_max (by decide +kernel) (pa_cons pe_int (pa_cons (pe_op op_add (pe_ix ix_tup (pv 3) pe_int (fun _ _ => rfl)) pe_int) pa_nil))) pa_nil))))))
      , ?_⟩
    obtain ⟨r1, g1, e1⟩ := pd_get hb hi
    obtain ⟨r2, g2, e2⟩ := pd_get hb hj
    refine ⟨.ref m, rfl, m, T.C, dx, _, _, rfl, hm, T.cls, T.nB, rfl, .int i, rfl, u, _, i, .ref r1, rfl, rfl, SqT.of hu, at_blk g1, ?_⟩
    refine ⟨.ref m, rfl, m, T.C, dx, _, _, rfl, hm, T.cls, T.nB, rfl, .int j, rfl, u, _, j, .ref r2, rfl, rfl, SqT.of hu, at_blk g2, ?_⟩
    refine ⟨r1, r2, p, q, rfl, e1, e2, fun z hz => ?_⟩
    have S1 : Same H (upd H z (.tup [.int (gx p q), .int (gy p q)])) := same_new hz
    have tz : SqT K (upd H z (.tup [.int (gx p q), .int (gy p q)])) z [.int (gx p q), .int (gy p q)] := SqT.of upd_same
    refine ⟨.ref z, rfl, z, _, 0, .int (gx p q), rfl, rfl, tz, atI_nat (j := 0) rfl, _, _, rfl, rfl, _, _, rfl, ?_⟩
    refine ⟨.ref z, rfl, z, _, 1, .int (gy p q), rfl, rfl, tz, atI_nat (j := 1) rfl, _, _, rfl, rfl, _, _, rfl, by show 2 ≤ sizeLine; decide, fun y hy => ?_⟩
    rw [max_if, max_if]
    refine k _ y (S1.trans (same_new hy)) (S1.free hy) upd_same
theorem ok_q_all_near (T : Txt K mg) : FnOk P w K mg base CX0 3 T.q_all_near.a T.q_all_near.d ["drawing", "body"] (spAllNear T.C) := by
  refine T.q_all_near.F.ok c_q_all_near (fun vs H Q E h => ?_) (fun cdv A outer s H vs Q E hr h => ?_)
  · obtain ⟨m, t, a, b, bs, rfl, _⟩ := h
    rfl
  · obtain ⟨m, t, a, b, bs, rfl, hD, hB, k⟩ := h
    refine ⟨_,
      (pss_cons (ps_set (i := 2) c_q_all_near.nd rfl (Or.inr rfl) (pe_callB call_len_seq (by rfl) T.z_len (by decide +kernel) (pa_cons (pe_fld (pv 0) rfl) pa_nil)))
      (pss_one (ps_ret (pe_lc2 (own := [("i", 3), ("j", 4)]) (g := gName 3) (g1 := gName 4) (vs1 := [4]) (by rfl) c_q_all_near.nd (pi_range1 rfl T.z_range (pa_cons (pv 2) pa_nil)) (blkOk_by (own := [("i", 3), ("j", 4)]) (N := N_q_all_near) (sc := defScope S_q_all_near) (by decide +kernel)) (by decide) (fun _ _ _ _ _ => pg_name (i := 3) c_q_all_near.nd rfl (Or.inl rfl)) (fun _ _ _ _ _ => pts_nil) (fun _ _ _ _ _ => (pi_range2 rfl T.z_range (pa_cons (pe_op op_add (pv 3) pe_int) (pa_cons (pv 2) pa_nil)))) (fun _ _ _ _ _ => pg_name (i := 4) c_q_all_near.nd rfl (Or.inl rfl)) (fun _ _ _ _ _ => (pts_one (pt_val (pe_call (ok_q_are_near T) (hr.mono (by decide)) rfl T.q_are_near.g T.q_are_near.k T.q_are_near.b .nil pass0 (pa_cons (pv 0) (pa_cons (pv 1) (pa_cons (pv 3) (pa_cons (pv 4) pa_nil)))))))) (fun _ _ _ _ _ => (pe_tup (pa_cons (pv 3) (pa_cons (pv 4) pa_nil))))))))
      , ?_⟩
    obtain ⟨dx, u, rs, hm, hu, hb, h12⟩ := id hD
    have el : ((rs.map V.ref).length : Int) = (bs.length : Int) := by
      rw [List.length_map, pd_len hb]
    refine ⟨.ref m, rfl, m, T.C, dx, _, _, rfl, hm, T.cls, T.nB, rfl, u, _, rfl, .inr (SqT.of hu), ?_⟩
    rw [el]
    have n63 : bs.length ≤ 1000 := by omega
    -- the list D so far: ps
    have grow : ∀ (D : Addr) (H3 : Hp) (ps : List (Int × Int)) (x y : Int) (z : Addr), H D = none → Same H H3 → PrL H3 D ps → H3 z = none →
        ∀ acc : List V, upd H3 z (.tup [.int x, .int y]) D = some (.lst acc) → Same H (upd (upd H3 z (.tup [.int x, .int y])) D (.lst (acc ++ [.ref z]))) ∧ PrL (upd (upd H3 z (.tup [.int x, .int y])) D (.lst (acc ++ [.ref z]))) D (ps ++ [(x, y)]) := by
      intro D H3 ps x y z hD0 S3 hP hz acc hacc
      obtain ⟨as, h1, h2⟩ := hP
      have nD : D ≠ z := ne_of_none h1 hz
      rw [upd_ne nD, h1] at hacc
      have ea : acc = as.map V.ref := (HO.lst.inj (Option.some.inj hacc)).symm
      refine ⟨fun b o e => ?_, as ++ [z], ?_, ?_⟩
      · have nb : b ≠ D := fun q => by
          rw [q, hD0] at e
          cases e
        rw [upd_ne nb, upd_ne (ne_of_none (S3 _ _ e) hz)]
        exact S3 _ _ e
      · rw [upd_same, ea, List.map_append]
        rfl
      · refine pd_app (pd_imp h2 fun r p e => ?_) (.cons ?_ .nil)
        · have nb : r ≠ D := ne_of e h1 (by intro q; cases q)
          rw [upd_ne nb, upd_ne (ne_of_none e hz)]
          exact e
        · rw [upd_ne nD.symm, upd_same]
    refine ⟨.int bs.length, rfl, bs.length, rfl, by omega, by omega, fun D hD0 => it_range (Pv := fun i H3 => Same H H3 ∧ PrL H3 D (prsTo (nrF bs a b) bs.length i)) ⟨same_new hD0, [], upd_same, .nil⟩ ?_ ?_⟩
    · intro i H3 hi hP
      obtain ⟨S3, hP⟩ := hP
      refine ⟨rfl, ?_⟩
      refine yes2 ?_
      refine ⟨.int (0 + i), rfl, _, _, rfl, rfl, .int bs.length, rfl, _, _, rfl, ⟨by omega, by omega, by omega, by omega⟩, ?_⟩
      have e1 : ((bs.length : Int) - (0 + (i : Int) + 1)).toNat = bs.length - (i + 1) := by omega
      rw [e1]
      refine it_range (Pv := fun k H4 => Same H H4 ∧ PrL H4 D (prsTo (nrF bs a b) bs.length i ++ rowTo (nrF bs a b) i k)) ⟨S3, ?_⟩ ?_ ?_
      · show PrL H3 D (prsTo _ _ _ ++ [])
        rw [List.append_nil]
        exact hP
      · intro k H4 hk hP4
        obtain ⟨S4, hP4⟩ := hP4
        have hj : i + 1 + k < bs.length := by omega
        have gi := List.getElem?_eq_getElem hi
        have gj := List.getElem?_eq_getElem hj
        have ei : (0 + (i : Int)) = ((i : Nat) : Int) := by omega
        have ej : (0 + (i : Int) + 1 + (k : Int)) = ((i + 1 + k : Nat) : Int) := by omega
        refine ⟨rfl, ?_⟩
        refine ⟨.ref m, rfl, .ref t, rfl, .int (0 + i), rfl, .int (0 + (i : Int) + 1 + k), rfl, m, t, i, i + 1 + k, a, b, bs, _, _, ?_, hD.same S4, S4 _ _ hB, gi, gj, fun H5 S5 => ⟨_, rfl, ?_⟩⟩
        · show [V.ref m, V.ref t, V.int (0 + (i : Int)), V.int (0 + (i : Int) + 1 + (k : Int))] = _
          rw [ej, ei]
        have hP5 : PrL H5 D (prsTo (nrF bs a b) bs.length i ++ rowTo (nrF bs a b) i k) := by
          obtain ⟨as, h1, h2⟩ := hP4
          exact ⟨as, S5 _ _ h1, pd_imp h2 fun _ _ => S5 _ _⟩
        have ef := nrF_at (a := a) (b := b) gi gj
        refine ite2 (fun e => ?_) (fun e => ?_)
        · refine ⟨.int (0 + i), rfl, .int (0 + (i : Int) + 1 + k), rfl, by show 2 ≤ sizeLine; decide, fun z hz => ?_⟩
          obtain ⟨as, h1, h2⟩ := id hP5
          have nD : D ≠ z := ne_of_none h1 hz
          refine ⟨as.map V.ref, by rw [upd_ne nD]; exact h1, ?_, ?_⟩
          · rw [List.length_map, pd_len h2, List.length_append]
            have l1 := prsTo_len (nrF bs a b) bs.length i
            have l2 := rowTo_len (nrF bs a b) i k
            have l3 : i * bs.length ≤ 12 * 12 := Nat.mul_le_mul (by omega) h12
            exact sz_few (by omega)
          · have g := grow D H5 _ (0 + i) (0 + (i : Int) + 1 + k) z hD0 (S4.trans S5) hP5 hz (as.map V.ref) (by rw [upd_ne nD]; exact h1)
            refine ⟨g.1, ?_⟩
            have eP : ((i : Int), ((i + 1 + k : Nat) : Int)) = (0 + (i : Int), 0 + (i : Int) + 1 + (k : Int)) := by
              rw [ej, ei]
            rw [rowTo_succ, ef, if_pos e, ← List.append_assoc, eP]
            exact g.2
        · refine ⟨S4.trans S5, ?_⟩
          rw [rowTo_succ, ef, if_neg e, List.append_nil]
          exact hP5
      · intro H4 hP4
        refine ⟨hP4.1, ?_⟩
        rw [prsTo_succ]
        exact hP4.2
    · intro H3 hP
      exact k H3 D hP.1 hD0 hP.2
end
end G21
set_option Elab.async false
set_option linter.all false
set_option maxRecDepth 100000
set_option maxHeartbeats 4000000
namespace G21
open PySem PySem.Spec PyProof.Rows L2
/-- what becomes of two indexes: refused, one block twice, or two blocks -/
def PC (n : Nat) (x y : V) (EI EP : Prop) (G : Nat → Nat → Prop) : Prop :=
  (isIx n x = false → EI) ∧ (isIx n x = true → isIx n y = false → EI) ∧ ∀ i j : Nat, x = .int i → y = .int j → i < n → j < n → (i ≠ j → G i j) ∧ (i = j → EP)
/-- in the words of check_pair -/
theorem PC.three {n : Nat} {x y : V} {EI EP GG : Prop} {G : Nat → Nat → Prop} (h : PC n x y EI EP G) (f : ∀ i j : Nat, x = .int i → y = .int j → i < n → j < n → i ≠ j → G i j → GG) :
    (isIx n x = false → EI) ∧ (isIx n x = true → isIx n y = false → EI) ∧ (∀ i j : Int, x = .int i → y = .int j → isIx n x = true → isIx n y = true → (i ≠ j → GG) ∧ (i = j → EP)) := by
  refine ⟨h.1, h.2.1, fun i j hx hy e1 e2 => ?_⟩
  subst hx hy
  obtain ⟨a1, a2⟩ := ix_ok e1
  obtain ⟨b1, b2⟩ := ix_ok e2
  obtain ⟨i', rfl⟩ := Int.eq_ofNat_of_zero_le a1
  obtain ⟨j', rfl⟩ := Int.eq_ofNat_of_zero_le b1
  obtain ⟨c1, c2⟩ := h.2.2 i' j' rfl rfl (by omega) (by omega)
  exact ⟨fun z => f i' j' rfl rfl (by omega) (by omega) (fun w => z (by rw [w])) (c1 fun w => z (by rw [w])), fun z => c2 (by omega)⟩
def spGap (C XD XI XP : Addr) : Sp := fun vs H Q E => ∃ (m : Addr) (x y : V) (n n' : String) (bs : List Bk), vs = [.ref m, x, y] ∧ Dw C H m bs ∧ Kn H x n ∧ Kn H y n' ∧
  PC bs.length x y (E (.ref XI) none H) (E (.ref XP) none H) fun i j => ∃ p q, bs[i]? = some p ∧ bs[j]? = some q ∧ ∀ z, H z = none → Q (.ref z) (upd H z (.tup [.int (gx p q), .int (gy p q)]))
def spFrom (C XD XI XP : Addr) : Sp := fun vs H Q E => ∃ (m : Addr) (x y : V) (n n' : String) (bs : List Bk), vs = [.ref m, x, y] ∧ Dw C H m bs ∧ Kn H x n ∧ Kn H y n' ∧
  PC bs.length x y (E (.ref XI) none H) (E (.ref XP) none H) fun i j => ∃ p q, bs[i]? = some p ∧ bs[j]? = some q ∧ ∀ H' z, Same H H' → H z = none → H' z = some (.tup (lnr p q)) → Q (.ref z) H'
def spNear (C XB XI XP : Addr) : Sp := fun vs H Q E => ∃ (m t : Addr) (a b : Int) (x y : V) (n n' : String) (bs : List Bk), vs = [.ref m, .ref t, x, y] ∧ Dw C H m bs ∧ Bo H t a b ∧ Kn H x n ∧ Kn H y n' ∧
  (¬ (1 ≤ a ∧ 1 ≤ b) → E (.ref XB) none H) ∧ (1 ≤ a ∧ 1 ≤ b → PC bs.length x y (E (.ref XI) none H) (E (.ref XP) none H) fun i j => ∃ p q, bs[i]? = some p ∧ bs[j]? = some q ∧ ∀ H', Same H H' → Q (.bl (nr p q a b)) H')
def spPairs (C XD : Addr) : Sp := fun vs H Q E => ∃ (m t : Addr) (a b : Int), vs = [.ref m, .ref t] ∧ Bo H t a b ∧
  ((∃ bs, Dw C H m bs ∧ 1 ≤ a ∧ 1 ≤ b ∧ ∀ H' z, Same H H' → H z = none → PrL H' z (prsTo (nrF bs a b) bs.length bs.length) → Q (.ref z) H') ∨ ((∃ xs, H m = some (.lst xs)) ∧ E (.ref XD) none H))
theorem Dw.ins {C : Addr} {H : Hp} {m : Addr} {bs : List Bk} (h : Dw C H m bs) : ∃ dx fs, H m = some (.ins C dx fs) := by
  obtain ⟨dx, t, rs, h1, _⟩ := h
  exact ⟨dx, _, h1⟩
section
variable {P : Program} {w : World} {K : PySem.W.Frag} {mg : Str → Option Value} {base : Heap}
theorem ok_q_gap (T : Txt K mg) : FnOk P w K mg base (L2.CX P w) 5 T.q_gap.a T.q_gap.d ["drawing", "i", "j"] (spGap T.C T.x_BadDrawing.C T.x_BadIndex.C T.x_BadPair.C) := by
  refine T.q_gap.F.okX c_q_gap (fun vs H Q E h => ?_) (fun cdv A outer s H vs Q E hr h => ?_)
  · obtain ⟨m, x, y, n, n', bs, rfl, _⟩ := h
    rfl
  · obtain ⟨m, x, y, n, n', bs, rfl, hD, k, k', hP⟩ := h
    refine ⟨_,
      (pss_cons (ps_expr (pe_call (ok_q_check_drawing T) (hr.mono (by decide)) rfl T.q_check_drawing.g T.q_check_drawing.k T.q_check_drawing.b .nil (passes_call (takes_of rfl rfl rfl rfl) (fun _ _ _ _ h => h)) (pa_cons (pv 0) pa_nil)))
      (pss_cons (ps_expr (pe_call (ok_q_check_pair T) (hr.mono (by decide)) rfl T.q_check_pair.g T.q_check_pair.k T.q_check_pair.b .nil (passes_call (takes_of rfl rfl rfl rfl) (fun _ _ _ _ h => h)) (pa_cons (pv 0) (pa_cons (pv 1) (pa_cons (pv 2) pa_nil)))))
      (pss_one (ps_ret (pe_call (ok_q_gap_of T) (hr.mono (by decide)) rfl T.q_gap_of.g T.q_gap_of.k T.q_gap_of.b .nil pass0 (pa_cons (pe_ix ix_tup (pe_fld (pv 0) rfl) (pv 1) (fun _ _ => rfl)) (pa_cons (pe_ix ix_tup (pe_fld (pv 0) rfl) (pv 2) (fun _ _ => rfl)) pa_nil)))))))
      , ?_⟩
    refine ⟨.ref m, rfl, m, rfl, .inl ⟨hD.ins, ?_⟩⟩
    refine ⟨.ref m, rfl, x, rfl, y, rfl, m, x, y, n, n', bs, rfl, hD, k, k', hP.three fun i j hx hy hi hj ne g => ?_⟩
    obtain ⟨p, q, gi, gj, kk⟩ := g
    subst hx hy
    obtain ⟨dx, u, rs, hm, hu, hb, _⟩ := id hD
    obtain ⟨r1, g1, e1⟩ := pd_get hb gi
    obtain ⟨r2, g2, e2⟩ := pd_get hb gj
    refine ⟨.ref m, rfl, m, T.C, dx, _, _, rfl, hm, T.cls, T.nB, rfl, .int i, rfl, u, _, i, .ref r1, rfl, rfl, SqT.of hu, at_blk g1, ?_⟩
    refine ⟨.ref m, rfl, m, T.C, dx, _, _, rfl, hm, T.cls, T.nB, rfl, .int j, rfl, u, _, j, .ref r2, rfl, rfl, SqT.of hu, at_blk g2, ?_⟩
    exact ⟨r1, r2, p, q, rfl, e1, e2, kk⟩
theorem ok_q_near_from (T : Txt K mg) : FnOk P w K mg base (L2.CX P w) 5 T.q_near_from.a T.q_near_from.d ["drawing", "i", "j"] (spFrom T.C T.x_BadDrawing.C T.x_BadIndex.C T.x_BadPair.C) := by
  refine T.q_near_from.F.okX c_q_near_from (fun vs H Q E h => ?_) (fun cdv A outer s H vs Q E hr h => ?_)
  · obtain ⟨m, x, y, n, n', bs, rfl, _⟩ := h
    rfl
  · obtain ⟨m, x, y, n, n', bs, rfl, hD, k, k', hP⟩ := h
    refine ⟨_,
      (pss_cons (ps_expr (pe_call (ok_q_check_drawing T) (hr.mono (by decide)) rfl T.q_check_drawing.g T.q_check_drawing.k T.q_check_drawing.b .nil (passes_call (takes_of rfl rfl rfl rfl) (fun _ _ _ _ h => h)) (pa_cons (pv 0) pa_nil)))
      (pss_cons (ps_expr (pe_call (ok_q_check_pair T) (hr.mono (by decide)) rfl T.q_check_pair.g T.q_check_pair.k T.q_check_pair.b .nil (passes_call (takes_of rfl rfl rfl rfl) (fun _ _ _ _ h => h)) (pa_cons (pv 0) (pa_cons (pv 1) (pa_cons (pv 2) pa_nil)))))
      (pss_one (ps_ret (pe_call (ok_q_least_near T) (hr.mono (by decide)) rfl T.q_least_near.g T.q_least_near.k T.q_least_near.b .nil pass0 (pa_cons (pv 0) (pa_cons (pv 1) (pa_cons (pv 2) pa_nil))))))))
      , ?_⟩
    refine ⟨.ref m, rfl, m, rfl, .inl ⟨hD.ins, ?_⟩⟩
    refine ⟨.ref m, rfl, x, rfl, y, rfl, m, x, y, n, n', bs, rfl, hD, k, k', hP.three fun i j hx hy hi hj ne g => ?_⟩
    obtain ⟨p, q, gi, gj, kk⟩ := g
    subst hx hy
    exact ⟨.ref m, rfl, .int i, rfl, .int j, rfl, m, i, j, bs, p, q, rfl, hD, gi, gj, kk⟩
theorem ok_q_near (T : Txt K mg) : FnOk P w K mg base (L2.CX P w) 6 T.q_near.a T.q_near.d ["drawing", "body", "i", "j"] (spNear T.C T.x_BadBody.C T.x_BadIndex.C T.x_BadPair.C) := by
  refine T.q_near.F.okX c_q_near (fun vs H Q E h => ?_) (fun cdv A outer s H vs Q E hr h => ?_)
  · obtain ⟨m, t, a, b, x, y, n, n', bs, rfl, _⟩ := h
    rfl
  · obtain ⟨m, t, a, b, x, y, n, n', bs, rfl, hD, hB, k, k', q1, q2⟩ := h
    refine ⟨_,
      (pss_cons (ps_expr (pe_call (ok_q_check_here T) (hr.mono (by decide)) rfl T.q_check_here.g T.q_check_here.k T.q_check_here.b .nil (passes_call (takes_of rfl rfl rfl rfl) (fun _ _ _ _ h => h)) (pa_cons (pv 0) (pa_cons (pv 1) pa_nil))))
      (pss_cons (ps_expr (pe_call (ok_q_check_pair T) (hr.mono (by decide)) rfl T.q_check_pair.g T.q_check_pair.k T.q_check_pair.b .nil (passes_call (takes_of rfl rfl rfl rfl) (fun _ _ _ _ h => h)) (pa_cons (pv 0) (pa_cons (pv 2) (pa_cons (pv 3) pa_nil)))))
      (pss_one (ps_ret (pe_call (ok_q_are_near T) (hr.mono (by decide)) rfl T.q_are_near.g T.q_are_near.k T.q_are_near.b .nil pass0 (pa_cons (pv 0) (pa_cons (pv 1) (pa_cons (pv 2) (pa_cons (pv 3) pa_nil)))))))))
      , ?_⟩
    refine ⟨.ref m, rfl, .ref t, rfl, m, t, a, b, rfl, hB, .inl ⟨hD.ins, fun ok => ?_, q1⟩⟩
    refine ⟨.ref m, rfl, x, rfl, y, rfl, m, x, y, n, n', bs, rfl, hD, k, k', (q2 ok).three fun i j hx hy hi hj ne g => ?_⟩
    obtain ⟨p, q, gi, gj, kk⟩ := g
    subst hx hy
    exact ⟨.ref m, rfl, .ref t, rfl, .int i, rfl, .int j, rfl, m, t, i, j, a, b, bs, p, q, rfl, hD, hB, gi, gj, kk⟩
theorem ok_q_near_pairs (T : Txt K mg) : FnOk P w K mg base (L2.CX P w) 6 T.q_near_pairs.a T.q_near_pairs.d ["drawing", "body"] (spPairs T.C T.x_BadDrawing.C) := by
  refine T.q_near_pairs.F.okX c_q_near_pairs (fun vs H Q E h => ?_) (fun cdv A outer s H vs Q E hr h => ?_)
  · obtain ⟨m, t, a, b, rfl, _⟩ := h
    rfl
  · obtain ⟨m, t, a, b, rfl, hB, h⟩ := h
    refine ⟨_,
      (pss_cons (ps_expr (pe_call (ok_q_check_here T) (hr.mono (by decide)) rfl T.q_check_here.g T.q_check_here.k T.q_check_here.b .nil (passes_call (takes_of rfl rfl rfl rfl) (fun _ _ _ _ h => h)) (pa_cons (pv 0) (pa_cons (pv 1) pa_nil))))
      (pss_one (ps_ret (pe_call (ok_q_all_near T) (hr.mono (by decide)) rfl T.q_all_near.g T.q_all_near.k T.q_all_near.b .nil pass0 (pa_cons (pv 0) (pa_cons (pv 1) pa_nil))))))
      , ?_⟩
    rcases h with ⟨bs, hD, h1, h2, kk⟩ | ⟨hm, q⟩
    · refine ⟨.ref m, rfl, .ref t, rfl, m, t, a, b, rfl, hB, .inl ⟨hD.ins, fun _ => ?_, fun no => absurd ⟨h1, h2⟩ no⟩⟩
      exact ⟨.ref m, rfl, .ref t, rfl, m, t, a, b, bs, rfl, hD, hB, kk⟩
    · exact ⟨.ref m, rfl, .ref t, rfl, m, t, a, b, rfl, hB, .inr ⟨hm, q⟩⟩
end
end G21
set_option Elab.async false
set_option linter.all false
set_option maxRecDepth 100000
set_option maxHeartbeats 4000000
namespace G21
open PySem PySem.Spec PyProof.Rows L2
/-- a loop over a tuple that stays -/
theorem it_tup {K : PySem.W.Frag} {a : Addr} {xs : List V} {H1 : Hp} {Q : Hp → Prop} {B : V → Hp → (Hp → Prop) → Prop} (Pv : Nat → Hp → Prop) (h0 : Pv 0 H1) (hl : ∀ i H, Pv i H → SqT K H a xs)
    (hs : ∀ i x H, xs[i]? = some x → Pv i H → B x H (Pv (i + 1))) (hd : ∀ H, Pv xs.length H → Q H) :
    ∃ W : Nat → Nat → Hp → Prop, (∃ m, W 0 m H1) ∧ ∀ i m H, W i m H →
      ((Itt K a).stop i H ∧ Q H) ∨ ((Itt K a).go i H ∧ ∃ Nx : Hp → Prop, (∀ H', Nx H' → ∃ m', m' < m ∧ W (i + 1) m' H') ∧ ∀ x H', (Itt K a).yld i H x H' → B x H' Nx) := by
  refine ⟨fun i m H => m = xs.length - i ∧ i ≤ xs.length ∧ Pv i H, ⟨xs.length, by simp, Nat.zero_le _, h0⟩, fun i m H hW => ?_⟩
  obtain ⟨rfl, hi, p⟩ := hW
  have q := hl i H p
  by_cases hlt : i < xs.length
  · refine .inr ⟨⟨xs, xs[i], q, by simp [hlt]⟩, Pv (i + 1), fun H' p' => ⟨xs.length - (i + 1), by omega, rfl, hlt, p'⟩, fun x H' y => ?_⟩
    obtain ⟨e, z⟩ := y
    rw [e]
    exact hs i x H (z xs q) p
  · have e : i = xs.length := by omega
    refine .inl ⟨⟨xs, q, Nat.le_of_not_lt hlt⟩, hd H ?_⟩
    rw [e] at p
    exact p
theorem rep_snoc (n : Nat) (b : Bool) : (List.replicate n b).map V.bl ++ [V.bl b] = (List.replicate (n + 1) b).map V.bl := by
  rw [List.replicate_succ', List.map_append]
  rfl
/-- one truth more in a list that is ours alone -/
theorem more_true {H H3 H4 : Hp} {D : Addr} {i : Nat} {b : Bool} (hD0 : H D = none) (S3 : Same H H3) (e3 : H3 D = some (.lst ((List.replicate i b).map V.bl))) (S4 : Same H3 H4) :
    H4 D = some (.lst ((List.replicate i b).map V.bl)) ∧ Same H (upd H4 D (.lst ((List.replicate i b).map V.bl ++ [.bl b]))) ∧ upd H4 D (.lst ((List.replicate i b).map V.bl ++ [.bl b])) D = some (.lst ((List.replicate (i + 1) b).map V.bl)) := by
  refine ⟨S4 _ _ e3, fun c o e => ?_, ?_⟩
  · have nb : c ≠ D := fun q => by
      rw [q, hD0] at e
      cases e
    rw [upd_ne nb]
    exact S4 _ _ (S3 _ _ e)
  · rw [upd_same, rep_snoc]
theorem all_rep (n : Nat) : (List.replicate n true).all id = true := by
  induction n with
  | zero => rfl
  | succ n ih => rw [List.replicate_succ, List.all_cons, ih] <;> rfl
def Bk.ok (b : Bk) : Prop := b.l < b.r ∧ b.d < b.u
theorem pd_perm {α β : Type} {F : α → β → Prop} : ∀ {as' as : List α}, as'.Perm as → ∀ {bs : List β}, Paired F as bs → ∃ bs', Paired F as' bs' ∧ bs'.Perm bs := by
  intro as' as p
  induction p with
  | nil => exact fun h => ⟨_, h, .refl _⟩
  | cons x p ih =>
    intro bs h
    cases h with
    | cons r t =>
      obtain ⟨bs', h1, h2⟩ := ih t
      exact ⟨_ :: bs', .cons r h1, .cons _ h2⟩
  | swap x y l =>
    intro bs h
    cases h with
    | cons r t =>
      cases t with
      | cons r2 t2 => exact ⟨_, .cons r2 (.cons r t2), .swap ..⟩
  | trans p1 p2 ih1 ih2 =>
    intro bs h
    obtain ⟨b1, h1, q1⟩ := ih2 h
    obtain ⟨b2, h2, q2⟩ := ih1 h1
    exact ⟨b2, h2, q2.trans q1⟩
/-- what is told of each two of the one is told of the other -/
theorem pd_pairwise {α β : Type} {F : α → β → Prop} {R : α → α → Prop} {S : β → β → Prop} (hRS : ∀ a a' b b', F a b → F a' b' → R a a' → S b b') : ∀ {as : List α} {bs : List β}, Paired F as bs → as.Pairwise R → bs.Pairwise S
  | _, _, .nil, _ => .nil
  | a :: as, b :: bs, .cons r t, h => by
    obtain ⟨h1, h2⟩ := List.pairwise_cons.mp h
    refine List.pairwise_cons.mpr ⟨fun b' hb => ?_, pd_pairwise hRS t h2⟩
    obtain ⟨i, hi⟩ := List.mem_iff_getElem?.mp hb
    obtain ⟨a', g, f⟩ := pd_get t hi
    exact hRS _ _ _ _ r f (h1 a' (List.mem_of_getElem? g))
theorem unref {ys : List V} {rs : List Addr} (h : ys.Perm (rs.map V.ref)) : ∃ rs' : List Addr, ys = rs'.map V.ref ∧ rs'.Perm rs := by
  have m : ∀ zs : List V, (∀ y ∈ zs, ∃ a, y = V.ref a) → ∃ rs' : List Addr, zs = rs'.map V.ref := by
    intro zs
    induction zs with
    | nil => exact fun _ => ⟨[], rfl⟩
    | cons y zs ih =>
      intro hy
      obtain ⟨a, rfl⟩ := hy y (List.mem_cons_self ..)
      obtain ⟨l, rfl⟩ := ih fun z hz => hy z (List.mem_cons_of_mem _ hz)
      exact ⟨a :: l, rfl⟩
  obtain ⟨rs', rfl⟩ := m ys fun y hy => by
    obtain ⟨a, _, e⟩ := List.mem_map.mp (h.mem_iff.mp hy)
    exact ⟨a, e.symm⟩
  refine ⟨rs', rfl, ?_⟩
  have h2 := h.map fun y : V => match y with
    | .ref a => a
    | _ => 0
  rw [List.map_map, List.map_map] at h2
  have e : ∀ l : List Addr, l.map ((fun y : V => match y with
    | .ref a => a
    | _ => 0) ∘ V.ref) = l := fun l => by
    induction l with
    | nil => rfl
    | cons x l ih => rw [List.map_cons, ih] <;> rfl
  rw [e, e] at h2
  exact h2
/-- ascending blocks -/
def Asc (bs : List Bk) : Prop := bs.Pairwise fun a b => HT.lexLt b.n a.n = false
theorem v_int_inj : ∀ {ns ms : List Int}, ns.map V.int = ms.map V.int → ns = ms
  | [], [], _ => rfl
  | [], _ :: _, h => by cases h
  | _ :: _, [], h => by cases h
  | n :: ns, m :: ms, h => by
    rw [List.map_cons, List.map_cons] at h
    injection h with h1 h2
    injection h1 with h3
    rw [h3, v_int_inj h2]
/-- what a tracked tuple may be read as -/
theorem sqT_tup {K : PySem.W.Frag} {H : Hp} {t : Addr} {xs ys : List V} (hk : K.lookup t = none) (h : H t = some (.tup xs)) (q : SqT K H t ys) : ys = xs := by
  rcases q with (q | ⟨o, q⟩) | q
  · rw [h] at q
    cases q
    rfl
  · rw [h] at q
    cases q
  · obtain ⟨o, its, n, e, _⟩ := q
    rw [hk] at e
    cases e
end G21
set_option Elab.async false
set_option linter.all false
set_option maxRecDepth 100000
set_option maxHeartbeats 4000000
namespace G21
open PySem PySem.Spec PyProof.Rows L2
def spIsList : Sp := fun vs H Q _ => ∃ (l : Addr) (xs : List V), vs = [.ref l] ∧ H l = some (.lst xs) ∧ ∀ H', Same H H' → Q (.bl true) H'
def spIsBlock : Sp := fun vs H Q _ => ∃ (r : Addr) (b : Bk), vs = [.ref r] ∧ H r = some (.tup b.v) ∧ b.ok ∧ ∀ H', Same H H' → Q (.bl true) H'
def spAreBlocks : Sp := fun vs H Q _ => ∃ (l : Addr) (rs : List Addr) (bs : List Bk), vs = [.ref l] ∧ H l = some (.lst (rs.map V.ref)) ∧ Bks H rs bs ∧ (∀ b ∈ bs, b.ok) ∧ bs.Nodup ∧ bs.length ≤ 12 ∧ ∀ H', Same H H' → Q (.bl true) H'
def spInit (C : Addr) : Sp := fun vs H Q _ => ∃ (m l dx : Addr) (rs : List Addr) (bs : List Bk), vs = [.ref m, .ref l] ∧ H m = some (.ins C dx []) ∧ H l = some (.lst (rs.map V.ref)) ∧ Bks H rs bs ∧ (∀ b ∈ bs, b.ok) ∧ bs.Nodup ∧ bs.length ≤ 12 ∧
  ∀ H' bs', (∀ b o, b ≠ m → H b = some o → H' b = some o) → Dw C H' m bs' → bs'.Perm bs → Asc bs' → Q .non H'
theorem pd_all {α β : Type} {F : α → β → Prop} {G : α → Prop} : ∀ {as : List α} {bs : List β}, Paired F as bs → (∀ a b, F a b → b ∈ bs → G a) → ∀ a ∈ as, G a
  | _, _, .nil, _, a, h => absurd h (by simp)
  | _, _, .cons r t, f, a, h => by
    rcases List.mem_cons.mp h with e | h
    · rw [e]
      exact f _ _ r (List.mem_cons_self ..)
    · exact pd_all t (fun x y g m => f x y g (List.mem_cons_of_mem _ m)) a h
theorem pd_at {α β : Type} {F : α → β → Prop} : ∀ {as : List α} {bs : List β} {i : Nat} {a : α}, Paired F as bs → as[i]? = some a → ∃ b, bs[i]? = some b ∧ F a b
  | _, _, _, _, .nil, h => by simp at h
  | _, _, 0, _, .cons r _, h => ⟨_, rfl, by cases h; exact r⟩
  | _, _, i + 1, _, .cons _ t, h => pd_at (i := i) t h
theorem at_map {α : Type} {f : α → V} {l : List α} {i : Nat} {x : V} (h : (l.map f)[i]? = some x) : ∃ y, l[i]? = some y ∧ x = f y := by
  rw [List.getElem?_map] at h
  cases e : l[i]? with
  | none =>
    rw [e] at h
    cases h
  | some y =>
    rw [e] at h
    exact ⟨y, rfl, (Option.some.inj h).symm⟩
/-- the two lists as one of pairs -/
theorem pd_zip {F : Addr → Bk → Prop} : ∀ {rs : List Addr} {bs : List Bk}, Paired F rs bs → ((rs.zip (bs.map Bk.n)).map (fun p => V.ref p.1) = rs.map V.ref ∧ (rs.zip (bs.map Bk.n)).map (·.2) = bs.map Bk.n)
  | _, _, .nil => ⟨rfl, rfl⟩
  | _, _, .cons r t => by
    obtain ⟨h1, h2⟩ := pd_zip t
    exact ⟨by rw [List.map_cons, List.zip_cons_cons, List.map_cons, List.map_cons, h1], by rw [List.map_cons, List.zip_cons_cons, List.map_cons, h2]⟩
theorem pd_zip_mem {F : Addr → Bk → Prop} : ∀ {rs : List Addr} {bs : List Bk}, Paired F rs bs → ∀ p ∈ rs.zip (bs.map Bk.n), ∃ b, b ∈ bs ∧ p.2 = b.n ∧ F p.1 b
  | _, _, .nil, p, h => absurd h (by simp)
  | _, _, .cons (a := _) (b := _) r t, p, h => by
    rw [List.map_cons, List.zip_cons_cons] at h
    rcases List.mem_cons.mp h with e | h
    · exact ⟨_, List.mem_cons_self .., by rw [e], by rw [e]; exact r⟩
    · obtain ⟨b, m, e, f⟩ := pd_zip_mem t p h
      exact ⟨b, List.mem_cons_of_mem _ m, e, f⟩
theorem nodup_n : ∀ {bs : List Bk}, bs.Nodup → (bs.map Bk.n).Nodup
  | [], _ => .nil
  | b :: bs, h => by
    obtain ⟨h1, h2⟩ := List.nodup_cons.mp h
    rw [List.map_cons]
    refine List.nodup_cons.mpr ⟨fun z => ?_, nodup_n h2⟩
    obtain ⟨c, hc, e⟩ := List.mem_map.mp z
    exact h1 (by rw [← Bk.n_inj e]; exact hc)
section
variable {P : Program} {w : World} {K : PySem.W.Frag} {mg : Str → Option Value} {base : Heap}
theorem ok_q_is_list (T : Txt K mg) : FnOk P w K mg base CX0 1 T.q_is_list.a T.q_is_list.d ["thing"] spIsList := by
  refine T.q_is_list.F.ok c_q_is_list (fun vs H Q E h => ?_) (fun cdv A outer s H vs Q E hr h => ?_)
  · obtain ⟨l, xs, rfl, _⟩ := h
    rfl
  · obtain ⟨l, xs, rfl, hl, k⟩ := h
    refine ⟨_,
      (pss_one (ps_ret (pe_callB call_isiT (by rfl) T.z_isinstance (by decide +kernel) (pa_cons (pv 0) (pa_cons (pe_tup (pa_cons (pe_bltn (v := .ty "list") (u := .type "list") rfl T.z_list (by decide +kernel) rfl) (pa_cons (pe_bltn (v := .ty "tuple") (u := .type "tuple") rfl T.z_tuple (by decide +kernel) rfl) pa_nil))) pa_nil)))))
      , ?_⟩
    refine ⟨.ref l, rfl, by show 2 ≤ sizeLine; decide, fun p hp => ?_⟩
    have S1 : Same H (upd H p (.tup [.ty "list", .ty "tuple"])) := same_new hp
    refine ⟨.ref l, p, _, _, _, true, rfl, upd_same, .cons (.ty "list") (.cons (.ty "tuple") .nil), (Kn.lst (S1 _ _ hl)).ty, ?_, k _ S1⟩
    exact kitAny_cons (b := true) (kit_ty (by decide +kernel)) (fun z => nomatch z) (fun _ => rfl)
theorem ok_q_is_block (T : Txt K mg) : FnOk P w K mg base CX0 2 T.q_is_block.a T.q_is_block.d ["thing"] spIsBlock := by
  refine T.q_is_block.F.ok c_q_is_block (fun vs H Q E h => ?_) (fun cdv A outer s H vs Q E hr h => ?_)
  · obtain ⟨r, b, rfl, _⟩ := h
    rfl
  · obtain ⟨r, b, rfl, hr0, hok, k⟩ := h
    refine ⟨_,
      (pss_cons (ps_if (PW.pt (pw_or (pt_not (pt_val (pe_callB call_isi (by rfl) T.z_isinstance (by decide +kernel) (pa_cons (pv 0) (pa_cons (pe_bltn (v := .ty "tuple") (u := .type "tuple") rfl T.z_tuple (by decide +kernel) rfl) pa_nil))))) (pw_or (pt_cmpR op_ne (pe_callB call_len_seq (by rfl) T.z_len (by decide +kernel) (pa_cons (pv 0) pa_nil)) pe_int (nomark _)) (pw_or1 (pt_not (pt_val (pe_callB (cr_all rfl) (by rfl) T.z_all (by decide +kernel) (pa_cons (pe_lc (own := [("item", 1)]) (g := gName 1) (by rfl) c_q_is_block.nd (pi_tup (pv 0)) (blkOk_by (own := [("item", 1)]) (N := N_q_is_block) (sc := defScope S_q_is_block) (by decide +kernel)) (fun _ _ _ _ _ => pg_name (i := 1) c_q_is_block.nd rfl (Or.inl rfl)) (fun _ _ _ _ _ => pts_nil) (fun _ _ _ _ _ => (pe_call (ok_q_is_number T) (hr.mono (by decide)) rfl T.q_is_number.g T.q_is_number.k T.q_is_number.b .nil pass0 (pa_cons (pv 1) pa_nil)))) pa_nil))))))))
      (pss_one (ps_ret pe_bl))
      pss_nil)
      (pss_one (ps_ret (pe_and (pe_cmpR op_lt (pe_ix ix_tup (pv 0) pe_int (fun _ _ => rfl)) (pe_ix ix_tup (pv 0) pe_int (fun _ _ => rfl)) (nomark _)) (pe_one (pe_cmpR op_lt (pe_ix ix_tup (pv 0) pe_int (fun _ _ => rfl)) (pe_ix ix_tup (pv 0) pe_int (fun _ _ => rfl)) (nomark _)))))))
      , ?_⟩
    have hT : SqT K H r b.v := SqT.of hr0
    refine ⟨.ref r, rfl, .ref r, _, _, _, _, rfl, .ty _, (Kn.tup hr0).ty, kit_ty (kn_tup (.tup hr0)), _, rfl, iteF ?_⟩
    refine ⟨.ref r, rfl, r, _, rfl, .inr hT, rfl, _, rfl, iteF ?_⟩
    refine ⟨.ref r, rfl, r, rfl, ⟨_, hT⟩, fun D hD => it_tup (Pv := fun i H3 => Same H H3 ∧ H3 D = some (.lst ((List.replicate i true).map V.bl))) ⟨same_new hD, upd_same⟩ (fun i H3 hP => SqT.of (hP.1 _ _ hr0)) ?_ ?_⟩
    · intro i x H3 hx hP
      obtain ⟨z, hz, rfl⟩ : ∃ z, b.n[i]? = some z ∧ x = V.int z := at_map (by rw [Bk.nv]; exact hx)
      have hi : i < 4 := (List.getElem?_eq_some_iff.mp hz).1
      refine ⟨rfl, yes2 ⟨.int z, rfl, .int z, "int", rfl, .int z, ?_⟩⟩
      obtain ⟨a1, a2, a3⟩ := more_true (b := true) hD hP.1 hP.2 (Same.refl H3)
      exact ⟨_, a1, by rw [List.length_map, List.length_replicate]; exact sz_few (by omega), a2, a3⟩
    · intro H3 hP
      have hT3 : SqT K H3 r b.v := SqT.of (hP.1 _ _ hr0)
      refine ⟨D, List.replicate 4 true, rfl, SqL.of hP.2, _, rfl, ?_⟩
      rw [all_rep]
      refine iteF ?_
      refine ⟨.ref r, rfl, r, _, 0, .int b.l, rfl, rfl, hT3, atI_nat (j := 0) rfl, .ref r, rfl, r, _, 2, .int b.r, rfl, rfl, hT3, atI_nat (j := 2) rfl, _, _, rfl, rfl, _, rfl, ite2 (fun _ => ?_) (fun e => absurd (decide_eq_true hok.1) e)⟩
      refine ⟨.ref r, rfl, r, _, 1, .int b.d, rfl, rfl, hT3, atI_nat (j := 1) rfl, .ref r, rfl, r, _, 3, .int b.u, rfl, rfl, hT3, atI_nat (j := 3) rfl, _, _, rfl, rfl, ?_⟩
      show Q (V.bl (decide (b.d < b.u))) H3
      rw [decide_eq_true hok.2]
      exact k _ hP.1
theorem ok_q_are_blocks (T : Txt K mg) : FnOk P w K mg base CX0 3 T.q_are_blocks.a T.q_are_blocks.d ["thing"] spAreBlocks := by
  refine T.q_are_blocks.F.ok c_q_are_blocks (fun vs H Q E h => ?_) (fun cdv A outer s H vs Q E hr h => ?_)
  · obtain ⟨l, rs, bs, rfl, _⟩ := h
    rfl
  · obtain ⟨l, rs, bs, rfl, hl, hb, hv, hn, h12, k⟩ := h
    refine ⟨_,
      (pss_cons (ps_if (PW.pt (pw_or (pt_not (pt_val (pe_call (ok_q_is_list T) (hr.mono (by decide)) rfl T.q_is_list.g T.q_is_list.k T.q_is_list.b .nil pass0 (pa_cons (pv 0) pa_nil)))) (pw_or (pt_cmpR op_gt (pe_callB call_len_seq (by rfl) T.z_len (by decide +kernel) (pa_cons (pv 0) pa_nil)) (pe_glob (v := .int 12) rfl T.most ⟨_, rfl⟩) (nomark _)) (pw_or1 (pt_not (pt_val (pe_callB (cr_all rfl) (by rfl) T.z_all (by decide +kernel) (pa_cons (pe_lc (own := [("block", 1)]) (g := gName 1) (by rfl) c_q_are_blocks.nd (pi_list (pv 0)) (blkOk_by (own := [("block", 1)]) (N := N_q_are_blocks) (sc := defScope S_q_are_blocks) (by decide +kernel)) (fun _ _ _ _ _ => pg_name (i := 1) c_q_are_blocks.nd rfl (Or.inl rfl)) (fun _ _ _ _ _ => pts_nil) (fun _ _ _ _ _ => (pe_call (ok_q_is_block T) (hr.mono (by decide)) rfl T.q_is_block.g T.q_is_block.k T.q_is_block.b .nil pass0 (pa_cons (pv 1) pa_nil)))) pa_nil))))))))
      (pss_one (ps_ret pe_bl))
      pss_nil)
      (pss_one (ps_ret (pe_cmpR op_eq (pe_callB GS.call_lenT (by rfl) T.z_len (by decide +kernel) (pa_cons (pe_callTy (cr_setOfT rfl hr.units) (by rfl) T.z_set (by decide +kernel) (pa_cons (pv 0) pa_nil)) pa_nil)) (pe_callB call_len_seq (by rfl) T.z_len (by decide +kernel) (pa_cons (pv 0) pa_nil)) (nomark _)))))
      , ?_⟩
    have lrs : rs.length = bs.length := pd_len hb
    refine ⟨.ref l, rfl, l, _, rfl, hl, fun H1 S1 => ⟨_, rfl, iteF ?_⟩⟩
    have hl1 := S1 _ _ hl
    refine ⟨.ref l, rfl, l, _, rfl, .inl (SqL.of hl1), _, _, rfl, rfl, _, rfl, ?_⟩
    rw [List.length_map, lrs, decide_eq_false (show ¬ (12 : Int) < (bs.length : Int) by omega)]
    refine iteF ?_
    refine ⟨.ref l, rfl, l, rfl, ⟨_, SqL.of hl1⟩, fun D hD => it_list (Pv := fun i H3 => Same H1 H3 ∧ H3 D = some (.lst ((List.replicate i true).map V.bl))) ⟨same_new hD, upd_same⟩ (fun i H3 hP => SqL.of (hP.1 _ _ hl1)) ?_ ?_⟩
    · intro i x H3 hx hP
      obtain ⟨r, hr1, rfl⟩ := at_map hx
      obtain ⟨b, gb, hb1⟩ := pd_at hb hr1
      have hi : i < bs.length := (List.getElem?_eq_some_iff.mp gb).1
      refine ⟨rfl, yes2 ⟨.ref r, rfl, r, b, rfl, hP.1 _ _ (S1 _ _ hb1), hv b (List.mem_of_getElem? gb), fun H4 S4 => ?_⟩⟩
      obtain ⟨a1, a2, a3⟩ := more_true (b := true) hD hP.1 hP.2 S4
      exact ⟨_, a1, by rw [List.length_map, List.length_replicate]; exact sz_few (by omega), a2, a3⟩
    · intro H3 hP
      refine ⟨D, List.replicate _ true, rfl, SqL.of hP.2, _, rfl, ?_⟩
      rw [all_rep]
      refine iteF ?_
      have S3 : Same H H3 := S1.trans hP.1
      have hl3 := S3 _ _ hl
      obtain ⟨z1, z2⟩ := pd_zip hb
      have m3 : ∀ p ∈ rs.zip (bs.map Bk.n), SqT K H3 p.1 (p.2.map V.int) := fun p hp => by
        obtain ⟨b, _, e, f⟩ := pd_zip_mem hb p hp
        rw [e]
        exact SqT.of (S3 _ _ f)
      refine ⟨.ref l, rfl, l, rs.zip (bs.map Bk.n), rfl, by rw [z1]; exact SqL.of hl3, m3, ?_, fun a L ha hL1 hL2 => ?_⟩
      · rw [List.length_zip, List.length_map]
        omega
      have S5 := same_new (o := SetTO P w a L) ha
      refine ⟨a, L, rfl, upd_same, fun p hp => ?_, fun nd => ?_⟩
      · obtain ⟨b, _, e, f⟩ := pd_zip_mem hb p (hL1 p hp)
        rw [e]
        exact SqT.of (S5 _ _ (S3 _ _ f))
      · have e1 : L.length = bs.length := by
          have q := GS.nodup_len (l := L.map (·.2)) (m := bs.map Bk.n) nd (nodup_n hn) (fun x hx => ?_) (fun x hx => ?_)
          · rw [List.length_map, List.length_map] at q
            exact q
          · obtain ⟨p, hp, e⟩ := List.mem_map.mp hx
            rw [← z2]
            exact List.mem_map.mpr ⟨p, hL1 p hp, e⟩
          · rw [← z2] at hx
            obtain ⟨p, hp, e⟩ := List.mem_map.mp hx
            rw [← e]
            exact hL2 p hp
        refine ⟨.ref l, rfl, l, _, rfl, .inl (SqL.of (S5 _ _ hl3)), rfl, ?_⟩
        have e2 : decide (V.int (L.length : Int) = V.int ((rs.map V.ref).length : Int)) = true := by
          rw [List.length_map, lrs, e1]
          exact decide_eq_true rfl
        show Q (.bl (decide (V.int (L.length : Int) = V.int ((rs.map V.ref).length : Int)))) _
        rw [e2]
        exact k _ (S3.trans S5)
theorem ok_q_Drawing_init (T : Txt K mg) : FnOk P w K mg base (L2.CX P w) 4 T.fI T.dI ["self", "blocks"] (spInit T.C) := by
  refine T.FI.okX c_q_Drawing_init (fun vs H Q E h => ?_) (fun cdv A outer s H vs Q E hr h => ?_)
  · obtain ⟨m, l, dx, rs, bs, rfl, _⟩ := h
    rfl
  · obtain ⟨m, l, dx, rs, bs, rfl, hm, hl, hb, hv, hn, h12, k⟩ := h
    refine ⟨_,
      (pss_cons (ps_if (pt_not (pt_val (pe_call (ok_q_are_blocks T) (hr.mono (by decide)) rfl T.q_are_blocks.g T.q_are_blocks.k T.q_are_blocks.b .nil pass0 (pa_cons (pv 1) pa_nil))))
      (pss_one (ps_raise rfl (takes_of rfl rfl rfl rfl) (pmk_own PySem.F.excBase_ValueError T.x_BadBlocks.q T.x_BadBlocks.g T.x_BadBlocks.k (raises_own T.x_BadBlocks.b T.x_BadBlocks.t) (by exact rfl))))
      pss_nil)
      (pss_one (ps_fld (pv 0) (pe_callTy call_tuple_of (by rfl) T.z_tuple (by decide +kernel) (pa_cons (pe_callB (GS.cr_sortL (d := 4) (by decide)) (by rfl) T.z_sorted (by decide +kernel) (pa_cons (pv 1) pa_nil)) pa_nil)) rfl)))
      , ?_⟩
    refine ⟨.ref l, rfl, l, rs, bs, rfl, hl, hb, hv, hn, h12, fun H1 S1 => ⟨_, rfl, iteF ?_⟩⟩
    have hl1 := S1 _ _ hl
    have hb1 : Bks H1 rs bs := pd_imp hb fun _ _ => S1 _ _
    refine ⟨.ref l, rfl, l, _, rfl, SqL.of hl1, fun x hx => ?_, fun ys p pm pw hp => ?_⟩
    · obtain ⟨r, hr1, rfl⟩ := List.mem_map.mp hx
      obtain ⟨i, hi⟩ := List.mem_iff_getElem?.mp hr1
      obtain ⟨b, _, f⟩ := pd_at hb1 hi
      exact ⟨b.n, ⟨r, rfl, SqT.of f⟩, rfl⟩
    obtain ⟨rs', rfl, pr⟩ := unref pm
    obtain ⟨bs', hb', pb⟩ := pd_perm pr hb1
    have as' : Asc bs' := pd_pairwise (F := fun r b => H1 r = some (.tup (Bk.v b))) (R := fun a a' => ∀ n m, TupI K H1 (.ref a) n → TupI K H1 (.ref a') m → HT.lexLt m n = false) (fun a a' b b' f f' h => h b.n b'.n ⟨a, rfl, SqT.of f⟩ ⟨a', rfl, SqT.of f'⟩) hb' (List.pairwise_map.mp pw)
    have S2 := same_new (o := .lst (rs'.map V.ref)) hp
    refine ⟨p, _, rfl, .inl ⟨SqL.of upd_same, fun t ht => ?_⟩⟩
    have S3 := same_new (o := .tup (rs'.map V.ref)) ht
    have S4 := S1.trans (S2.trans S3)
    have hm4 := S4 _ _ hm
    refine ⟨.ref m, rfl, m, T.C, dx, [], rfl, hm4, T.cls, T.nB, (by show 0 < 1000; decide), ?_⟩
    have tm : t ≠ m := ne_of_none (S2 _ _ (S1 _ _ hm)) ht |>.symm
    refine k _ bs' (fun b o nb e => by rw [upd_ne nb]; exact S4 _ _ e) ⟨dx, t, rs', upd_same, by rw [upd_ne tm, upd_same], pd_imp hb' fun r b e => ?_, by rw [pb.length_eq]; exact h12⟩ pb as'
    have nr : r ≠ m := ne_of e (S1 _ _ hm) (by intro q; cases q)
    rw [upd_ne nr]
    exact S3 _ _ (S2 _ _ e)
end
end G21
set_option Elab.async false
set_option linter.all false
set_option maxRecDepth 100000
set_option maxHeartbeats 4000000
namespace G21
open PySem PySem.Spec PyProof.Rows L2
/-! ### the draws -/
abbrev drK (g c : Addr) (n t : Int) : List (Key × V) := [(.inr "great", .ref g), (.inr "cells", .ref c), (.inr "left", .int n), (.inr "turn", .int t)]
/-- a dict of draws stands at d -/
def Dr (H : Hp) (d g c : Addr) (t : Int) : Prop := ∃ (gs cs : List Int) (n : Int), H d = some (.dK (drK g c n t)) ∧ H g = some (.lst (gs.map V.int)) ∧ H c = some (.lst (cs.map V.int)) ∧ g ≠ c ∧
  (∀ x ∈ gs, 0 ≤ x) ∧ (∀ x ∈ cs, 0 ≤ x ∧ x < 2147483629) ∧ 0 ≤ n ∧ 0 ≤ t
/-- what a draw leaves as it was -/
def Fr (d g : Addr) (H H' : Hp) : Prop := ∀ b o, b ≠ d → b ≠ g → H b = some o → H' b = some o
theorem Fr.refl (d g : Addr) (H : Hp) : Fr d g H H := fun _ _ _ _ h => h
theorem Fr.trans {d g : Addr} {H H1 H2 : Hp} (a : Fr d g H H1) (b : Fr d g H1 H2) : Fr d g H H2 := fun c o h1 h2 h => b c o h1 h2 (a c o h1 h2 h)
theorem Fr.of {d g : Addr} {H H' : Hp} (e : Same H H') : Fr d g H H' := fun b o _ _ h => e b o h
theorem val_great (g c : Addr) (n t : Int) : valV (drK g c n t) (.inr "great") = some (.ref g) := by rfl
theorem val_cells (g c : Addr) (n t : Int) : valV (drK g c n t) (.inr "cells") = some (.ref c) := by rfl
theorem val_left (g c : Addr) (n t : Int) : valV (drK g c n t) (.inr "left") = some (.int n) := by rfl
theorem val_turn (g c : Addr) (n t : Int) : valV (drK g c n t) (.inr "turn") = some (.int t) := by rfl
theorem put_left (g c : Addr) (n t m : Int) : putK (drK g c n t) (.inr "left") (.int m) = drK g c m t := by rfl
theorem put_turn (g c : Addr) (n t m : Int) : putK (drK g c n t) (.inr "turn") (.int m) = drK g c n m := by rfl
def spBegun (K : PySem.W.Frag) : Sp := fun vs H Q _ => ∃ (a : Addr) (ns : List Int), vs = [.ref a] ∧ SqL K H a (ns.map V.int) ∧ ns.length ≤ 63 ∧
  ∀ H' d g c, Same H H' → H d = none → H g = none → H c = none → Dr H' d g c 0 → Q (.ref d) H'
theorem pow18 : (10 : Int) ^ (18 : Int).toNat = 1000000000000000000 := by decide
/-- a list of our own, written -/
theorem own_w {H H3 H4 : Hp} {D : Addr} {o : HO} (hD0 : H D = none) (S3 : Same H H3) (S4 : Same H3 H4) : Same H (upd H4 D o) := fun c x e => by
  have nb : c ≠ D := fun q => by
    rw [q, hD0] at e
    cases e
  rw [upd_ne nb]
  exact S4 _ _ (S3 _ _ e)
theorem snoc_int (gs : List Int) (x : Int) : gs.map V.int ++ [V.int x] = (gs ++ [x]).map V.int := by
  rw [List.map_append]
  rfl
theorem nn_abs (z : Int) : 0 ≤ (if z < 0 then -z else z) := by
  by_cases h : z < 0
  · rw [if_pos h]
    omega
  · rw [if_neg h]
    omega
section
variable {P : Program} {w : World} {K : PySem.W.Frag} {mg : Str → Option Value} {base : Heap}
theorem ok_l_begun (T : Txt K mg) : FnOk P w K mg base CX0 1 T.l_begun.a T.l_begun.d ["script"] (spBegun K) := by
  refine T.l_begun.F.ok c_l_begun (fun vs H Q E h => ?_) (fun cdv A outer s H vs Q E hr h => ?_)
  · obtain ⟨a, ns, rfl, _⟩ := h
    rfl
  · obtain ⟨a, ns, rfl, hS, h63, k⟩ := h
    refine ⟨_,
      (pss_cons (ps_setLc (i := 1) (own := [("cell", 2)]) (g := gName 2) (by rfl) c_l_begun.nd rfl rfl (sw_true rfl rfl rfl (by decide +kernel)) (pi_list (pv 0)) (blkOk_by (own := [("cell", 2)]) (N := N_l_begun) (sc := defScope S_l_begun) (by decide +kernel)) (fun _ _ _ _ _ => pg_name (i := 2) c_l_begun.nd rfl (Or.inl rfl)) (fun _ _ _ _ _ => (pts_one (pt_cmpR op_ge (pe_callB call_abs (by rfl) T.z_abs (by decide +kernel) (pa_cons (pv 2) pa_nil)) (pe_op op_pow pe_int pe_int) (nomark _)))) (fun _ _ _ _ _ => (pe_op op_sub (pe_callB call_abs (by rfl) T.z_abs (by decide +kernel) (pa_cons (pv 2) pa_nil)) (pe_op op_pow pe_int pe_int))))
      (pss_one (ps_ret (pe_disp (pps_cons pe_str (pv 1) (pps_cons pe_str (pe_lc (own := [("cell", 2)]) (g := gName 2) (by rfl) c_l_begun.nd (pi_list (pv 0)) (blkOk_by (own := [("cell", 2)]) (N := N_l_begun) (sc := defScope S_l_begun) (by decide +kernel)) (fun _ _ _ _ _ => pg_name (i := 2) c_l_begun.nd rfl (Or.inl rfl)) (fun _ _ _ _ _ => pts_nil) (fun _ _ _ _ _ => (pe_op op_mod (pe_callTy call_int1 (by rfl) T.z_int (by decide +kernel) (pa_cons (pe_callB call_abs (by rfl) T.z_abs (by decide +kernel) (pa_cons (pv 2) pa_nil)) pa_nil)) pe_int))) (pps_cons pe_str pe_int (pps_cons pe_str pe_int pps_nil)))) (by rfl) (by rfl) (fun z => by cases z) (by decide)))))
      , ?_⟩
    refine ⟨.ref a, rfl, a, rfl, ⟨_, hS⟩, fun D hD => it_list (Pv := fun i H3 => Same H H3 ∧ ∃ gs : List Int, H3 D = some (.lst (gs.map V.int)) ∧ (∀ x ∈ gs, 0 ≤ x) ∧ gs.length ≤ i) ⟨same_new hD, [], upd_same, (fun x h => absurd h (by simp)), Nat.le_refl _⟩ (fun i H3 hP => hP.1.seq hS) ?_ ?_⟩
    · intro i x H3 hx hP
      obtain ⟨z, hz, rfl⟩ := at_map hx
      obtain ⟨S3, gs, hg, hp, hlen⟩ := hP
      have hi : i < ns.length := (List.getElem?_eq_some_iff.mp hz).1
      refine ⟨rfl, ?_⟩
      refine ⟨.int z, rfl, z, rfl, 10, 18, rfl, rfl, ⟨by decide, by decide, by decide⟩, _, _, rfl, rfl, _, rfl, ite2 (fun e => ?_) (fun e => ?_)⟩
      · refine ⟨.int z, rfl, z, rfl, 10, 18, rfl, rfl, ⟨by decide, by decide, by decide⟩, _, _, rfl, rfl, _, hg, ?_, own_w hD S3 (Same.refl _), gs ++ [_], by rw [upd_same, snoc_int], fun x hx => ?_, ?_⟩
        · rw [List.length_map]
          exact sz_few (by omega)
        · rcases List.mem_append.mp hx with m | m
          · exact hp x m
          · have e1 := of_decide_eq_true e
            rw [List.mem_singleton.mp m]
            omega
        · rw [List.length_append, List.length_singleton]
          omega
      · exact ⟨S3, gs, hg, hp, by omega⟩
    · intro H3 hP
      obtain ⟨S3, gs, hg, hp, hlen⟩ := hP
      refine fun p hpn => ?_
      have nDp : D ≠ p := ne_of_none hg hpn
      have S4 : Same H (upd H3 p (.dK [])) := S3.trans (same_new hpn)
      have hg4 : upd H3 p (.dK []) D = some (.lst (gs.map V.int)) := by
        rw [upd_ne nDp]
        exact hg
      refine ⟨.ref D, rfl, ?_⟩
      refine ⟨.ref a, rfl, a, rfl, ⟨_, S4.seq hS⟩, fun C hC => it_list (Pv := fun i H5 => Same (upd H3 p (.dK [])) H5 ∧ ∃ cs : List Int, H5 C = some (.lst (cs.map V.int)) ∧ (∀ x ∈ cs, 0 ≤ x ∧ x < 2147483629) ∧ cs.length ≤ i) ⟨same_new hC, [], upd_same, (fun x h => absurd h (by simp)), Nat.le_refl _⟩ (fun i H5 hP => (S4.trans hP.1).seq hS) ?_ ?_⟩
      · intro i x H5 hx hP5
        obtain ⟨z, hz, rfl⟩ := at_map hx
        obtain ⟨S5, cs, hc, hcp, hcl⟩ := hP5
        have hi : i < ns.length := (List.getElem?_eq_some_iff.mp hz).1
        refine ⟨rfl, yes2 ⟨.int z, rfl, z, rfl, .inl ⟨_, rfl, _, 2147483629, rfl, rfl, (by show (0 : Int) < 2147483629; decide), _, hc, ?_, own_w hC S5 (Same.refl _), cs ++ [_], by rw [upd_same, snoc_int], fun x hx => ?_, ?_⟩⟩⟩
        · rw [List.length_map]
          exact sz_few (by omega)
        · rcases List.mem_append.mp hx with m | m
          · exact hcp x m
          · rw [List.mem_singleton.mp m]
            exact ⟨Int.emod_nonneg _ (by decide), Int.emod_lt_of_pos _ (by decide)⟩
        · rw [List.length_append, List.length_singleton]
          omega
      · intro H5 hP5
        obtain ⟨S5, cs, hc, hcp, hcl⟩ := hP5
        have nDC : D ≠ C := ne_of_none hg4 hC
        have nCp : C ≠ p := fun q => by
          rw [q, upd_same] at hC
          cases hC
        have hp5 : H5 p = some (.dK []) := S5 _ _ upd_same
        refine ⟨hp5, drK D C 0 0, rfl, (by show 4 ≤ 15; decide), ?_⟩
        have em : mergeK [] (drK D C 0 0) = drK D C 0 0 := by rfl
        rw [em]
        have hp0 : H p = none := S3.free hpn
        have hC0 : H C = none := S4.free hC
        refine k _ p D C (own_w hp0 (S4.trans S5) (Same.refl _)) hp0 hD hC0 ⟨gs, cs, 0, upd_same, ?_, ?_, nDC, hp, hcp, Int.le_refl _, Int.le_refl _⟩
        · rw [upd_ne nDp]
          exact S5 _ _ hg4
        · rw [upd_ne nCp]
          exact hc
end
theorem dg_great {H : Hp} {d g c : Addr} {n t : Int} (h : H d = some (.dK (drK g c n t))) : DGet H d (.str "great") (some (.ref g)) := by
  have q := DGet.k (k := .inr "great") h
  rw [val_great] at q
  exact q
theorem dg_cells {H : Hp} {d g c : Addr} {n t : Int} (h : H d = some (.dK (drK g c n t))) : DGet H d (.str "cells") (some (.ref c)) := by
  have q := DGet.k (k := .inr "cells") h
  rw [val_cells] at q
  exact q
theorem dg_left {H : Hp} {d g c : Addr} {n t : Int} (h : H d = some (.dK (drK g c n t))) : DGet H d (.str "left") (some (.int n)) := by
  have q := DGet.k (k := .inr "left") h
  rw [val_left] at q
  exact q
theorem dg_turn {H : Hp} {d g c : Addr} {n t : Int} (h : H d = some (.dK (drK g c n t))) : DGet H d (.str "turn") (some (.int t)) := by
  have q := DGet.k (k := .inr "turn") h
  rw [val_turn] at q
  exact q
theorem dp_left {H : Hp} {d g c : Addr} {n t : Int} (m : Int) (h : H d = some (.dK (drK g c n t))) : DPut H d (.str "left") (.int m) (upd H d (.dK (drK g c m t))) := by
  have q := DPut.k (k := .inr "left") (v := .int m) h (by show 4 < sizeLine; decide)
  rw [put_left] at q
  exact q
theorem dp_turn {H : Hp} {d g c : Addr} {n t : Int} (m : Int) (h : H d = some (.dK (drK g c n t))) : DPut H d (.str "turn") (.int m) (upd H d (.dK (drK g c n m))) := by
  have q := DPut.k (k := .inr "turn") (v := .int m) h (by show 4 < sizeLine; decide)
  rw [put_turn] at q
  exact q
/-! ### one more long number -/
def spMixed : Sp := fun vs H Q _ => ∃ (d g c : Addr) (t : Int), vs = [.ref d] ∧ Dr H d g c t ∧ t ≤ 1000000000000 ∧ ∀ H' n, 0 ≤ n → Fr d g H H' → Dr H' d g c (t + 1) → Q (.int n) H'
section
variable {P : Program} {w : World} {K : PySem.W.Frag} {mg : Str → Option Value} {base : Heap}
theorem ok_l_mixed (T : Txt K mg) : FnOk P w K mg base CX0 1 T.l_mixed.a T.l_mixed.d ["draw"] spMixed := by
  refine T.l_mixed.F.ok c_l_mixed (fun vs H Q E h => ?_) (fun cdv A outer s H vs Q E hr h => ?_)
  · obtain ⟨d, g, c, t, rfl, _⟩ := h
    rfl
  · obtain ⟨d, g, c, t, rfl, ⟨gs, cs, n, hd, hg, hc, ngc, hgp, hcp, hn, ht⟩, ht2, k⟩ := h
    refine ⟨_,
      (pss_cons (ps_par (i := 1) (j := 2) rfl c_l_mixed.nd rfl rfl (by decide) rfl rfl (pa_cons (pe_op op_add (pe_dget (hu_of hr) (pv 0) pe_str (fun _ _ => rfl)) pe_int) (pa_cons pe_int pa_nil)) (by with_unfolding_all rfl))
      (pss_cons (ps_dput (hu_of hr) (pv 0) pe_str (pv 1) rfl)
      (pss_cons (ps_for PassesOwn.never rfl (pi_list (pe_lst (pa_cons pe_int (pa_cons pe_int (pa_cons pe_int (pa_cons pe_int pa_nil)))))) (pg_name (i := 3) c_l_mixed.nd rfl (Or.inl rfl))
      (pss_cons (ps_set (i := 4) c_l_mixed.nd rfl (Or.inl rfl) (pe_op op_add (pe_op op_mul pe_int (pv 1)) (pe_op op_fdiv (pv 3) pe_int)))
      (pss_cons (ps_for PassesOwn.never rfl (pi_list (pe_dget (hu_of hr) (pv 0) pe_str (fun _ _ => rfl))) (pg_name (i := 5) c_l_mixed.nd rfl (Or.inl rfl))
      (pss_one (ps_set (i := 4) c_l_mixed.nd rfl (Or.inl rfl) (pe_op op_mod (pe_callTy call_int1 (by rfl) T.z_int (by decide +kernel) (pa_cons (pe_op op_add (pe_op op_add (pe_op op_mul (pv 4) pe_int) (pv 5)) (pv 1)) pa_nil)) (pv 3)))))
      (pss_one (ps_set (i := 2) c_l_mixed.nd rfl (Or.inl rfl) (pe_op op_add (pe_op op_mul (pv 2) pe_int) (pe_op op_mod (pe_callTy call_int1 (by rfl) T.z_int (by decide +kernel) (pa_cons (pe_op op_pow (pv 4) pe_int) pa_nil)) (pv 3))))))))
      (pss_one (ps_ret (pv 2))))))
      , ?_⟩
    have ndg : d ≠ g := ne_of hd hg (by intro q; cases q)
    have ndc : d ≠ c := ne_of hd hc (by intro q; cases q)
    refine ⟨.ref d, rfl, d, .int t, rfl, dg_turn hd, _, _, rfl, rfl, .int (t + 1), .int 0, rfl, ?_⟩
    refine ⟨.int (t + 1), rfl, .ref d, rfl, d, _, rfl, dp_turn (t + 1) hd, ?_⟩
    have hd2 : upd H d (.dK (drK g c n (t + 1))) d = some (.dK (drK g c n (t + 1))) := upd_same
    have F2 : Fr d g H (upd H d (.dK (drK g c n (t + 1)))) := fun b o h1 _ h => by
      rw [upd_ne h1]
      exact h
    have D2 : Dr (upd H d (.dK (drK g c n (t + 1)))) d g c (t + 1) := ⟨gs, cs, n, upd_same, by rw [upd_ne ndg.symm]; exact hg, by rw [upd_ne ndc.symm]; exact hc, ngc, hgp, hcp, hn, by omega⟩
    generalize upd H d (.dK (drK g c n (t + 1))) = H2 at hd2 F2 D2 ⊢
    refine ⟨by show 4 ≤ sizeLine; decide, fun l hl => ⟨l, rfl, ⟨_, SqL.of upd_same⟩, ?_⟩⟩
    have D3 : Dr (upd H2 l (.lst [.int 2147483647, .int 2147483629, .int 2147483587, .int 2147483579])) d g c (t + 1) := by
      obtain ⟨gs', cs', n', a1, a2, a3, a4, a5, a6, a7, a8⟩ := D2
      exact ⟨gs', cs', n', by rw [upd_ne (ne_of_none a1 hl)]; exact a1, by rw [upd_ne (ne_of_none a2 hl)]; exact a2, by rw [upd_ne (ne_of_none a3 hl)]; exact a3, a4, a5, a6, a7, a8⟩
    have F3 : Fr d g H (upd H2 l (.lst [.int 2147483647, .int 2147483629, .int 2147483587, .int 2147483579])) := F2.trans (Fr.of (same_new hl))
    have hl3 : SqL K (upd H2 l (.lst [.int 2147483647, .int 2147483629, .int 2147483587, .int 2147483579])) l [.int 2147483647, .int 2147483629, .int 2147483587, .int 2147483579] := SqL.of upd_same
    generalize upd H2 l (.lst [.int 2147483647, .int 2147483629, .int 2147483587, .int 2147483579]) = H3 at D3 F3 hl3 ⊢
    obtain ⟨gs', cs', n', a1, a2, a3, a4, a5, a6, a7, a8⟩ := id D3
    refine for_list (K := K) (a := l) (xs := [.int 2147483647, .int 2147483629, .int 2147483587, .int 2147483579]) (fun i σ H4 => H3 = H4 ∧ ∃ (f : Int) (x3 x4 x5 : Option V), σ = [some (.ref d), some (.int (t + 1)), some (.int f), x3, x4, x5] ∧ 0 ≤ f)
      ⟨rfl, 0, none, none, none, rfl, Int.le_refl _⟩ (fun i σ H4 _ hP => by rw [← hP.1]; exact hl3) ?_ ?_
    · intro i x σ H4 hx hP
      obtain ⟨rfl, f, x3, x4, x5, rfl, hf⟩ := hP
      obtain ⟨p, rfl, hp1, hp2⟩ : ∃ p : Int, x = .int p ∧ 0 < p ∧ p ≤ 2147483647 := by
        match i, hx with
        | 0, hx => exact ⟨2147483647, (Option.some.inj hx).symm, by decide, by decide⟩
        | 1, hx => exact ⟨2147483629, (Option.some.inj hx).symm, by decide, by decide⟩
        | 2, hx => exact ⟨2147483587, (Option.some.inj hx).symm, by decide, by decide⟩
        | 3, hx => exact ⟨2147483579, (Option.some.inj hx).symm, by decide, by decide⟩
        | i + 4, hx => simp at hx
      refine ⟨.int (t + 1), rfl, 48271, t + 1, rfl, rfl, .inl ⟨by decide, by decide⟩, .int p, rfl, p, 37, rfl, rfl, ⟨by show (0 : Int) < 37; decide, by show (37 : Int) < 1073741824; decide⟩, _, _, rfl, rfl, ?_⟩
      have b0 : 0 ≤ 48271 * (t + 1) + p / 37 := by omega
      have b1 : 48271 * (t + 1) + p / 37 < 9000000000000000000 := by omega
      refine ⟨.ref d, rfl, d, .ref c, rfl, dg_cells a1, c, rfl, ⟨_, SqL.of a3⟩, ?_⟩
      refine for_list (K := K) (a := c) (xs := cs'.map V.int) (fun j σ H4 => H3 = H4 ∧ ∃ (bl : Int) (x5 : Option V), σ = [some (.ref d), some (.int (t + 1)), some (.int f), some (.int p), some (.int bl), x5] ∧ 0 ≤ bl ∧ bl < 9000000000000000000)
        ⟨rfl, 48271 * (t + 1) + p / 37, x5, rfl, b0, b1⟩ (fun j σ H4 _ hP => by rw [← hP.1]; exact SqL.of a3) ?_ ?_
      · intro j y σ H4 hy hP
        obtain ⟨rfl, bl, y5, rfl, hb0, hb1⟩ := hP
        obtain ⟨z, hz, rfl⟩ := at_map hy
        refine ⟨.int bl, rfl, bl, 69621, rfl, rfl, .inl ⟨by omega, by omega⟩, .int z, rfl, _, _, rfl, rfl, .int (t + 1), rfl, _, _, rfl, rfl, .inl ⟨_, rfl, .int p, rfl, _, p, rfl, rfl, hp1, ?_⟩⟩
        have c1 := Int.emod_nonneg (bl * 69621 + z + (t + 1)) (show p ≠ 0 by omega)
        have c2 := Int.emod_lt_of_pos (bl * 69621 + z + (t + 1)) hp1
        exact ⟨rfl, _, some (.int z), rfl, c1, by omega⟩
      · intro σ H4 hP
        obtain ⟨rfl, bl, y5, rfl, hb0, hb1⟩ := hP
        refine ⟨.int f, rfl, f, 2147483647, rfl, rfl, .inr ⟨by decide, by decide⟩, .int bl, rfl, bl, 5, rfl, rfl, ⟨by decide, by decide, by omega⟩, .inl ⟨_, rfl, .int p, rfl, _, p, rfl, rfl, hp1, _, _, rfl, rfl, ?_⟩⟩
        have c1 := Int.emod_nonneg (bl ^ (5 : Int).toNat) (show p ≠ 0 by omega)
        exact ⟨rfl, _, _, _, _, rfl, by omega⟩
    · intro σ H4 hP
      obtain ⟨rfl, f, x3, x4, x5, rfl, hf⟩ := hP
      exact ⟨.int f, rfl, k _ f hf F3 D3⟩
end
end G21
set_option Elab.async false
set_option linter.all false
set_option maxRecDepth 100000
set_option maxHeartbeats 4000000
namespace G21
open PySem PySem.Spec PyProof.Rows L2
def spTake : Sp := fun vs H Q _ => ∃ (d g c : Addr) (t m : Int), vs = [.ref d, .int m] ∧ Dr H d g c t ∧ t ≤ 1000000000000 ∧ 0 < m ∧ m < 1000000000 ∧ ∀ H' r t', 0 ≤ r → r < m → t' ≤ t + 1 → Fr d g H H' → Dr H' d g c t' → Q (.int r) H'
/-- some(xs) of what was drawn -/
def spPick : Sp := fun vs H Q _ => ∃ (d g c l : Addr) (t : Int) (xs : List V), vs = [.ref d, .ref l] ∧ Dr H d g c t ∧ t ≤ 1000000000000 ∧ l ≠ g ∧ H l = some (.lst xs) ∧ xs ≠ [] ∧ xs.length < 1000000 ∧ ∀ H' x t', x ∈ xs → t' ≤ t + 1 → Fr d g H H' → Dr H' d g c t' → Q x H'
/-- another heap in which the draws stand as they stood -/
theorem Dr.grow {H H' : Hp} {d g c : Addr} {t : Int} (h : Dr H d g c t) (e : Same H H') : Dr H' d g c t := by
  obtain ⟨gs, cs, n, a1, a2, a3, r⟩ := h
  exact ⟨gs, cs, n, e _ _ a1, e _ _ a2, e _ _ a3, r⟩
theorem seq_at {j n : Nat} (h : j < n) : seqIndex? (j : Int) n = some j := by
  unfold seqIndex?
  simp
  omega
section
variable {P : Program} {w : World} {K : PySem.W.Frag} {mg : Str → Option Value} {base : Heap}
theorem ok_l_take (T : Txt K mg) : FnOk P w K mg base CX0 2 T.l_take.a T.l_take.d ["draw", "many"] spTake := by
  refine T.l_take.F.ok c_l_take (fun vs H Q E h => ?_) (fun cdv A outer s H vs Q E hr h => ?_)
  · obtain ⟨d, g, c, t, m, rfl, _⟩ := h
    rfl
  · obtain ⟨d, g, c, t, m, rfl, hD, ht2, hm0, hm1, k⟩ := h
    refine ⟨_,
      (C8.pss_cut (ps_if (pt_cmpR op_eq (pe_dget (hu_of hr) (pv 0) pe_str (fun _ _ => rfl)) pe_int (nomark _))
      (pss_one (ps_dput (hu_of hr) (pv 0) pe_str (pe_ifExp (pt_cmpR (op_neD hr.units) (pe_dget (hu_of hr) (pv 0) pe_str (fun _ _ => rfl)) (pe_lst pa_nil) (nomark _)) (pe_bm PySem.F.plainAttrs_list PySem.F.slot_list_pop PySem.F.type_list_pop mt_popAt (pe_dget (hu_of hr) (pv 0) pe_str (fun _ _ => rfl)) (pa_cons pe_int pa_nil)) (pe_call (ok_l_mixed T) (hr.mono (by decide)) rfl T.l_mixed.g T.l_mixed.k T.l_mixed.b .nil pass0 (pa_cons (pv 0) pa_nil))) rfl))
      pss_nil)
      (pss_cons (ps_set (i := 2) c_l_take.nd rfl (Or.inl rfl) (pe_op op_mod (pe_callTy call_int1 (by rfl) T.z_int (by decide +kernel) (pa_cons (pe_dget (hu_of hr) (pv 0) pe_str (fun _ _ => rfl)) pa_nil)) (pv 1)))
      (pss_cons (ps_dput (hu_of hr) (pv 0) pe_str (pe_op op_fdiv (pe_dget (hu_of hr) (pv 0) pe_str (fun _ _ => rfl)) (pv 1)) rfl)
      (pss_one (ps_ret (pv 2))))))
      , ?_⟩
    obtain ⟨gs, cs, n, hd, hg, hc, ngc, hgp, hcp, hn, ht⟩ := id hD
    have ndg : d ≠ g := ne_of hd hg (by intro q; cases q)
    have ndc : d ≠ c := ne_of hd hc (by intro q; cases q)
    refine ⟨fun σ H1 => σ = [some (.ref d), some (.int m), none] ∧ ∃ t', t' ≤ t + 1 ∧ Fr d g H H1 ∧ Dr H1 d g c t', ?_, ?_⟩
    · refine ⟨.ref d, rfl, d, .int n, rfl, dg_left hd, rfl, _, rfl, ite2 (fun _ => ?_) (fun _ => ?_)⟩
      · refine ⟨.ref d, rfl, d, .ref g, rfl, dg_great hd, Nat.zero_le _, fun e he => ?_⟩
        have S1 : Same H (upd H e (.lst [])) := same_new he
        have hd1 := S1 _ _ hd
        have hg1 := S1 _ _ hg
        have hc1 := S1 _ _ hc
        have he1 : upd H e (.lst []) e = some (.lst []) := upd_same
        refine ⟨.list (GS.dIs gs), .list (GS.dIs []), GS.dp_l (SqL.of hg1), GS.dp_l (ns := []) (SqL.of he1), GS.shaped_is _, GS.shaped_is _, _, rfl, ?_⟩
        rw [GS.eqv_lis]
        cases gs with
        | nil =>
          refine iteF ?_
          refine ⟨.ref d, rfl, d, g, c, t, rfl, hD.grow S1, ht2, fun H2 n2 hn2 F2 D2 => ?_⟩
          obtain ⟨gs', cs', n', a1, a2, a3, a4, a5, a6, a7, a8⟩ := D2
          refine ⟨.ref d, rfl, d, _, rfl, dp_left n2 a1, rfl, t + 1, Int.le_refl _, ?_, gs', cs', n2, upd_same, ?_, ?_, a4, a5, a6, hn2, a8⟩
          · exact fun b o h1 h2 h => by
              rw [upd_ne h1]
              exact F2 b o h1 h2 (S1 _ _ h)
          · rw [upd_ne ndg.symm]
            exact a2
          · rw [upd_ne ndc.symm]
            exact a3
        | cons x gs =>
          refine iteT ?_
          refine ⟨.ref d, rfl, d, .ref g, rfl, dg_great hd1, .inl ⟨rfl, _, SqL.of hg1⟩, g, _, 0, 0, .int x, rfl, rfl, hg1, by decide, by decide, seq_at (j := 0) (Nat.succ_pos _), rfl, ?_⟩
          have hx : 0 ≤ x := hgp x (List.mem_cons_self ..)
          have F2 : Fr d g H (upd (upd H e (.lst [])) g (.lst (gs.map V.int))) := fun b o h1 h2 h => by
            rw [upd_ne h2]
            exact S1 _ _ h
          have hd2 : upd (upd H e (.lst [])) g (.lst (gs.map V.int)) d = some (.dK (drK g c n t)) := by
            rw [upd_ne ndg]
            exact hd1
          refine ⟨.ref d, rfl, d, _, rfl, dp_left x hd2, rfl, t, by omega, ?_, gs, cs, x, upd_same, ?_, ?_, ngc, (fun y hy => hgp y (List.mem_cons_of_mem _ hy)), hcp, hx, ht⟩
          · exact fun b o h1 h2 h => by
              rw [upd_ne h1]
              exact F2 b o h1 h2 h
          · rw [upd_ne ndg.symm, upd_same]
            rfl
          · rw [upd_ne ndc.symm, upd_ne ngc.symm]
            exact hc1
      · exact ⟨rfl, t, by omega, Fr.refl d g H, hD⟩
    · intro σ H1 hP
      obtain ⟨rfl, t', ht', F1, gs', cs', n', a1, a2, a3, a4, a5, a6, a7, a8⟩ := hP
      refine ⟨.ref d, rfl, d, .int n', rfl, dg_left a1, .inl ⟨n', rfl, .int m, rfl, n', m, rfl, rfl, hm0, ?_⟩⟩
      refine ⟨.ref d, rfl, d, .int n', rfl, dg_left a1, .int m, rfl, n', m, rfl, rfl, ⟨hm0, by omega⟩, .ref d, rfl, d, _, rfl, dp_left (n' / m) a1, _, rfl, ?_⟩
      refine k _ (n' % m) t' (Int.emod_nonneg _ (by omega)) (Int.emod_lt_of_pos _ hm0) ht' (fun b o h1 h2 h => ?_) ⟨gs', cs', n' / m, upd_same, ?_, ?_, a4, a5, a6, Int.ediv_nonneg a7 (by omega), a8⟩
      · rw [upd_ne h1]
        exact F1 b o h1 h2 h
      · rw [upd_ne ndg.symm]
        exact a2
      · rw [upd_ne ndc.symm]
        exact a3
theorem ok_l_pick (T : Txt K mg) : FnOk P w K mg base CX0 3 T.l_pick.a T.l_pick.d ["draw", "some"] spPick := by
  refine T.l_pick.F.ok c_l_pick (fun vs H Q E h => ?_) (fun cdv A outer s H vs Q E hr h => ?_)
  · obtain ⟨d, g, c, l, t, xs, rfl, _⟩ := h
    rfl
  · obtain ⟨d, g, c, l, t, xs, rfl, hD, ht, nlg, hl, hne, hlen, k⟩ := h
    refine ⟨_,
      (pss_one (ps_ret (pe_ix ix_list (pv 1) (pe_call (ok_l_take T) (hr.mono (by decide)) rfl T.l_take.g T.l_take.k T.l_take.b .nil pass0 (pa_cons (pv 0) (pa_cons (pe_callB call_len_seq (by rfl) T.z_len (by decide +kernel) (pa_cons (pv 1) pa_nil)) pa_nil))) (fun _ _ => rfl))))
      , ?_⟩
    have nld : l ≠ d := by
      obtain ⟨gs, cs, n, hd, _⟩ := id hD
      exact ne_of hl hd (by intro q; cases q)
    have hpos : 0 < xs.length := List.length_pos_iff.mpr hne
    refine ⟨.ref l, rfl, .ref d, rfl, .ref l, rfl, l, xs, rfl, .inl (SqL.of hl), d, g, c, t, xs.length, rfl, hD, ht, by omega, by omega, fun H1 r t' h0 h1 ht' F1 D1 => ?_⟩
    obtain ⟨j, rfl⟩ := Int.eq_ofNat_of_zero_le h0
    have hj : j < xs.length := by omega
    exact ⟨l, xs, j, xs[j], rfl, rfl, SqL.of (F1 _ _ nld nlg hl), atI_nat (List.getElem?_eq_getElem hj), k H1 _ t' (List.getElem_mem hj) ht' F1 D1⟩
end
end G21
set_option Elab.async false
set_option linter.all false
set_option maxRecDepth 100000
set_option maxHeartbeats 4000000
namespace G21
open PySem PySem.Spec PyProof.Rows L2
/-! ### an error caught and told -/
theorem takes_len {X : Cx} {W : WX} (t : Takes X W) : Takes X (fun cls d σ H => σ.length = X.N.length → W cls d σ H) := fun u s' z => by
  obtain ⟨a, B, sI, pins, σ, H, cls, d, e, I, nb, up, sky, na, os, ag, w⟩ := z
  exact t u s' ⟨a, B, sI, pins, σ, H, cls, d, e, I, nb, up, sky, na, os, ag, w I.len⟩
def TTc (K : PySem.W.Frag) (CS : Addr) : (XK → Hp → VK → Prop) → Hp → VK → Prop := fun tl H Q =>
  tl (fun cls d H' => d = none ∧ PySem.W.exmOne K cls (.ref CS) = some true ∧ ∀ a, H' a = none → Q (.ref a) (upd H' a (GS.ExT cls a))) H (fun _ H' => ∃ v, (some (some V.non) : Option (Option V)) = some (some v) ∧ Q v H')
/-- isinstance(e, C), e a kept exception -/
def rIsT (K : PySem.W.Frag) : List V → Hp → VK → Prop := fun xs H Q => ∃ (a D C : Addr) (b : Bool), xs = [.ref a, .ref C] ∧ ExcC K D ∧ H a = some (GS.ExT (.ref D) a) ∧ PySem.W.kitOne K (.ref D) (.ref C) = some b ∧ Q (.bl b) H
theorem call_isT {X : Cx} : CallR X (.builtin "isinstance") (rIsT X.K) := by
  intro pins s σ H xs us Q I r h
  obtain ⟨a, D, C, b, rfl, Z, ha, e, q⟩ := h
  obtain ⟨u1, u2, rfl, r1, r2⟩ := vals2 r
  cases r1
  cases r2
  obtain ⟨⟨ob, us, eob, zob, dob⟩, _, _⟩ := I.hok a _ ha
  have J : PySem.W.InstAt s.heap a ob D none := by
    obtain ⟨oc, od, odt, osl⟩ := ob
    obtain ⟨h1, h2⟩ := zob
    dsimp only at h1 h2 dob
    subst h1 h2 dob
    exact ⟨eob, rfl, rfl, trivial⟩
  exact PySem.W.kia_one (PySem.W.handS_kitx_exc Z.hg Z.hk Z.hs Z.hd Z.ha Z.hn Z.ht Z.hm) I.kIn J e (fun z => nomatch z) fun tk => ⟨.bl b, H, I.tok tk, rfl, q⟩
theorem caught_gives {X : Cx} {q : Str} {g CS : Addr} {cdg : Value} (hme : X.mg "GapError" = some (.ref CS)) :
    LamX.GivesTo X N_l_caught "_law_caught" (defScope S_l_caught) g cdg (defBody S_l_caught) "task" q (TTc X.K CS) := by
  intro f c' s H Q tl act hc h
  refine ⟨_, pss_cons (ps_set (i := 1) c_l_caught.nd rfl (Or.inl rfl) pe_non) (pss_cons (GS.ps_try_keep (i := 2) (j := 1) (c := .ref CS)
      (tb := fun W D σ H => ∃ Ech : XK, (∀ cls d σ' H', Ech cls d H' → σ'.length = 3 → W cls d σ' H') ∧ σ[0]? = some (some (.ref f)) ∧ H c' = some (LamX.CodeO c' q) ∧ tl Ech H (fun _ H' => D.nx σ H'))
      rfl rfl rfl c_l_caught.nd rfl rfl rfl rfl (by decide) (by decide) ⟨by rfl, by decide, .inl hme⟩ (by rfl) (fun W pn xe tk _ => ?_)) (pss_one (ps_ret (pv 1)))), ?_⟩
  · refine ⟨fun pins s' σ H' D I h' => ?_⟩
    obtain ⟨Ech, hW, h1, h2, h3⟩ := h'
    exact (pss_one (ps_expr (act (fun cls d σ H => σ.length = 3 → W cls d σ H) pn xe Ech _ _ (takes_len tk) hW))).run pins s' σ H' D I ⟨h1, h2, h3⟩
  · refine ⟨fun cls d H' => d = none ∧ PySem.W.exmOne X.K cls (.ref CS) = some true ∧ ∀ a, H' a = none → Q (.ref a) (upd H' a (GS.ExT cls a)), fun cls d σ' H' hE hl => ⟨hE.1, hE.2.1, fun a ha => ?_⟩, rfl, hc, h⟩
    refine ⟨.ref a, ?_, hE.2.2 a ha⟩
    match σ', hl with
    | [_, _, _], _ => rfl
end G21
set_option Elab.async false
set_option linter.all false
set_option maxRecDepth 100000
set_option maxHeartbeats 4000000
namespace G21
open PySem PySem.Spec PyProof.Rows L2
def spSays : Sp := fun vs H Q _ => ∃ b c : Bool, vs = [.bl b, .bl c] ∧ Q (.bl (b == c)) H
def spNumbers : Sp := fun vs H Q _ => ∃ (z : Addr) (x y : Int), vs = [.ref z, .int 2] ∧ Bo H z x y ∧ ∀ H', Same H H' → Q (.bl true) H'
/-- the law's list of blocks -/
def Bl (H : Hp) (l : Addr) (bs : List Bk) : Prop := ∃ rs : List Addr, H l = some (.lst (rs.map V.ref)) ∧ Bks H rs bs
theorem Bl.same {H H' : Hp} {l : Addr} {bs : List Bk} (e : Same H H') (h : Bl H l bs) : Bl H' l bs := by
  obtain ⟨rs, h1, h2⟩ := h
  exact ⟨rs, e _ _ h1, pd_imp h2 fun _ _ => e _ _⟩
def spDue : Sp := fun vs H Q _ => ∃ (l : Addr) (i j : Nat) (bs : List Bk) (p q : Bk), vs = [.ref l, .int i, .int j] ∧ Bl H l bs ∧ bs[i]? = some p ∧ bs[j]? = some q ∧ ∀ H' z, Same H H' → H z = none → Bo H' z (gx p q) (gy p q) → Q (.ref z) H'
def spLNear : Sp := fun vs H Q _ => ∃ (l t : Addr) (i j : Nat) (a b : Int) (bs : List Bk) (p q : Bk), vs = [.ref l, .ref t, .int i, .int j] ∧ Bl H l bs ∧ bs[i]? = some p ∧ bs[j]? = some q ∧ p.ok ∧ q.ok ∧ Bo H t a b ∧ 1 ≤ a ∧ 1 ≤ b ∧ Q (.bl (nr p q a b)) H
theorem nr_iff {p q : Bk} {a b : Int} (hp : p.ok) (hq : q.ok) (ha : 1 ≤ a) (hb : 1 ≤ b) : nr p q a b = (!decide (min p.r q.r ≤ max p.l q.l - a) && !decide (min p.u q.u ≤ max p.d q.d - b)) := by
  obtain ⟨p1, p2⟩ := hp
  obtain ⟨q1, q2⟩ := hq
  unfold nr gx gy
  rw [← decide_not, ← decide_not]
  have e1 : (max (q.l - p.r) (p.l - q.r) < a) = ¬ (min p.r q.r ≤ max p.l q.l - a) := propext (by omega)
  have e2 : (max (q.d - p.u) (p.d - q.u) < b) = ¬ (min p.u q.u ≤ max p.d q.d - b) := propext (by omega)
  simp only [e1, e2]
theorem min_if (i j : Int) : (if j < i then j else i) = min i j := by
  by_cases h : j < i
  · rw [if_pos h]
    omega
  · rw [if_neg h]
    omega
section
variable {P : Program} {w : World} {K : PySem.W.Frag} {mg : Str → Option Value} {base : Heap}
theorem ok_l_is_number (T : Txt K mg) : FnOk P w K mg base CX0 1 T.l_is_number.a T.l_is_number.d ["item"] spNum := by
  refine T.l_is_number.F.ok c_l_is_number (fun vs H Q E h => ?_) (fun cdv A outer s H vs Q E hr h => ?_)
  · obtain ⟨x, n, rfl, _⟩ := h
    rfl
  · obtain ⟨x, n, rfl, k, q⟩ := h
    refine ⟨_,
      (pss_one (ps_ret (pe_and (pe_callB call_isi (by rfl) T.z_isinstance (by decide +kernel) (pa_cons (pv 0) (pa_cons (pe_bltn (v := .ty "int") (u := .type "int") rfl T.z_int (by decide +kernel) rfl) pa_nil))) (pe_one (pe_not (pe_callB call_isi (by rfl) T.z_isinstance (by decide +kernel) (pa_cons (pv 0) (pa_cons (pe_bltn (v := .ty "bool") (u := .type "bool") rfl T.z_bool (by decide +kernel) rfl) pa_nil))))))))
      , ?_⟩
    refine ⟨x, rfl, x, _, _, _, _, rfl, .ty _, k.ty, kit_ty (kn_int k), _, rfl, ite2 (fun e => ?_) (fun e => ?_)⟩
    · refine ⟨x, rfl, x, _, _, _, _, rfl, .ty _, k.ty, kit_ty (kn_bool k), _, rfl, ?_⟩
      have e2 : (!isBl x) = isI x := by cases x <;> first | rfl | cases e
      show Q (.bl (!isBl x)) H
      rw [e2]
      exact q
    · have e2 : isI x = false := by cases x <;> first | rfl | exact absurd rfl e
      rw [e2] at q
      exact q
theorem ok_l_says (T : Txt K mg) : FnOk P w K mg base CX0 1 T.l_says.a T.l_says.d ["found", "due"] spSays := by
  refine T.l_says.F.ok c_l_says (fun vs H Q E h => ?_) (fun cdv A outer s H vs Q E hr h => ?_)
  · obtain ⟨b, c, rfl, _⟩ := h
    rfl
  · obtain ⟨b, c, rfl, q⟩ := h
    refine ⟨_,
      (pss_one (ps_ret (pe_ifExp (pt_val (pv 1)) (pe_cmpR op_isBl (pv 0) pe_bl (nomark _)) (pe_cmpR op_isBl (pv 0) pe_bl (nomark _)))))
      , ?_⟩
    refine ⟨.bl c, rfl, c, rfl, ?_⟩
    cases c with
    | true =>
      refine iteT ⟨.bl b, rfl, b, true, rfl, rfl, ?_⟩
      cases b <;> exact q
    | false =>
      refine iteF ⟨.bl b, rfl, b, false, rfl, rfl, ?_⟩
      cases b <;> exact q
theorem ok_l_numbers (T : Txt K mg) : FnOk P w K mg base CX0 2 T.l_numbers.a T.l_numbers.d ["item", "many"] spNumbers := by
  refine T.l_numbers.F.ok c_l_numbers (fun vs H Q E h => ?_) (fun cdv A outer s H vs Q E hr h => ?_)
  · obtain ⟨z, x, y, rfl, _⟩ := h
    rfl
  · obtain ⟨z, x, y, rfl, hz, k⟩ := h
    refine ⟨_,
      (pss_one (ps_ret (pe_and (pe_callB call_isi (by rfl) T.z_isinstance (by decide +kernel) (pa_cons (pv 0) (pa_cons (pe_bltn (v := .ty "tuple") (u := .type "tuple") rfl T.z_tuple (by decide +kernel) rfl) pa_nil))) (pe_and (pe_cmpR op_eq (pe_callB call_len_seq (by rfl) T.z_len (by decide +kernel) (pa_cons (pv 0) pa_nil)) (pv 1) (nomark _)) (pe_one (pe_cmpR (op_eqD hr.units) (pe_lc (own := [("one", 2)]) (g := gName 2) (by rfl) c_l_numbers.nd (pi_tup (pv 0)) (blkOk_by (own := [("one", 2)]) (N := N_l_numbers) (sc := defScope S_l_numbers) (by decide +kernel)) (fun _ _ _ _ _ => pg_name (i := 2) c_l_numbers.nd rfl (Or.inl rfl)) (fun _ _ _ _ _ => (pts_one (pt_not (pt_val (pe_call (ok_l_is_number T) (hr.mono (by decide)) rfl T.l_is_number.g T.l_is_number.k T.l_is_number.b .nil pass0 (pa_cons (pv 2) pa_nil)))))) (fun _ _ _ _ _ => pe_int)) (pe_lst pa_nil) (nomark _)))))))
      , ?_⟩
    have hT : SqT K H z [.int x, .int y] := SqT.of hz
    refine ⟨.ref z, rfl, .ref z, _, _, _, _, rfl, .ty _, (Kn.tup hz).ty, kit_ty (kn_tup (.tup hz)), _, rfl, iteT ?_⟩
    refine ⟨.ref z, rfl, z, _, rfl, .inr hT, .int 2, rfl, rfl, _, rfl, iteT ?_⟩
    refine ⟨.ref z, rfl, z, rfl, ⟨_, hT⟩, fun D hD => it_tup (Pv := fun i H3 => Same H H3 ∧ H3 D = some (.lst [])) ⟨same_new hD, upd_same⟩ (fun i H3 hP => SqT.of (hP.1 _ _ hz)) ?_ ?_⟩
    · intro i v H3 hv hP
      obtain ⟨u, hu, rfl⟩ : ∃ u, [x, y][i]? = some u ∧ v = V.int u := at_map hv
      exact ⟨rfl, .int u, rfl, .int u, "int", rfl, .int u, _, rfl, iteF hP⟩
    · intro H3 hP
      refine ⟨Nat.zero_le _, fun e he => ?_⟩
      have S4 := same_new (o := .lst []) he
      refine ⟨.list (GS.dIs []), .list (GS.dIs []), GS.dp_l (ns := []) (SqL.of (S4 _ _ hP.2)), GS.dp_l (ns := []) (SqL.of upd_same), GS.shaped_is _, GS.shaped_is _, ?_⟩
      rw [GS.eqv_lis]
      exact k _ (hP.1.trans S4)
theorem ok_l_due_gap (T : Txt K mg) : FnOk P w K mg base CX0 1 T.l_due_gap.a T.l_due_gap.d ["blocks", "i", "j"] spDue := by
  refine T.l_due_gap.F.ok c_l_due_gap (fun vs H Q E h => ?_) (fun cdv A outer s H vs Q E hr h => ?_)
  · obtain ⟨l, i, j, bs, p, q, rfl, _⟩ := h
    rfl
  · obtain ⟨l, i, j, bs, p, q, rfl, ⟨rs, hl, hb⟩, hi, hj, k⟩ := h
    refine ⟨_,
      (pss_cons (ps_par (i := 3) (j := 4) rfl c_l_due_gap.nd rfl rfl (by decide) rfl rfl (pa_cons (pe_ix ix_list (pv 0) (pv 1) (fun _ _ => rfl)) (pa_cons (pe_ix ix_list (pv 0) (pv 2) (fun _ _ => rfl)) pa_nil)) (by with_unfolding_all rfl))
      (pss_cons (ps_set (i := 5) c_l_due_gap.nd rfl (Or.inl rfl) (pe_lst pa_nil))
      (pss_cons (ps_for PassesOwn.never rfl (pi_range1 rfl T.z_range (pa_cons pe_int pa_nil)) (pg_name (i := 6) c_l_due_gap.nd rfl (Or.inl rfl))
      (pss_one (ps_expr (pe_bm PySem.F.plainAttrs_list PySem.F.slot_list_append PySem.F.type_list_append mt_append (pv 5) (pa_cons (pe_callB (call_max2 rfl) (by rfl) T.z_max (by decide +kernel) (pa_cons (pe_op op_sub (pe_ix ix_tup (pv 4) (pv 6) (fun _ _ => rfl)) (pe_ix ix_tup (pv 3) (pe_op op_add (pv 6) pe_int) (fun _ _ => rfl))) (pa_cons (pe_op op_sub (pe_ix ix_tup (pv 3) (pv 6) (fun _ _ => rfl)) (pe_ix ix_tup (pv 4) (pe_op op_add (pv 6) pe_int) (fun _ _ => rfl))) pa_nil))) pa_nil)))))
      (pss_one (ps_ret (pe_tup (pa_cons (pe_ix ix_list (pv 5) pe_int (fun _ _ => rfl)) (pa_cons (pe_ix ix_list (pv 5) pe_int (fun _ _ => rfl)) pa_nil))))))))
      , ?_⟩
    obtain ⟨r1, g1, e1⟩ := pd_get hb hi
    obtain ⟨r2, g2, e2⟩ := pd_get hb hj
    refine ⟨.ref l, rfl, .int i, rfl, l, _, i, .ref r1, rfl, rfl, SqL.of hl, at_blk g1, .ref l, rfl, .int j, rfl, l, _, j, .ref r2, rfl, rfl, SqL.of hl, at_blk g2, _, _, rfl, ?_⟩
    refine ⟨Nat.zero_le _, fun F hF => ?_⟩
    have gp : ∀ f : Nat, f < 2 → p.n[f]? = some (if f = 0 then p.l else p.d) ∧ p.n[f + 2]? = some (if f = 0 then p.r else p.u) ∧ q.n[f]? = some (if f = 0 then q.l else q.d) ∧ q.n[f + 2]? = some (if f = 0 then q.r else q.u) := fun f hf => by
      match f, hf with
      | 0, _ => exact ⟨rfl, rfl, rfl, rfl⟩
      | 1, _ => exact ⟨rfl, rfl, rfl, rfl⟩
    have at_ : ∀ (b : Bk) (f : Nat) (x : Int), b.n[f]? = some x → atI b.v (f : Int) = some (.int x) := fun b f x h => by
      refine atI_nat ?_
      rw [← Bk.nv, List.getElem?_map, h]
      rfl
    refine ⟨2, rfl, by decide, by decide, for_range (lo := 0) (n := 2) (fun f σ H3 => Same H H3 ∧ (∃ x6, σ = [some (.ref l), some (.int i), some (.int j), some (.ref r1), some (.ref r2), some (.ref F), x6]) ∧ H3 F = some (.lst ([V.int (gx p q), V.int (gy p q)].take f))) ⟨same_new hF, ⟨none, rfl⟩, upd_same⟩ ?_ ?_⟩
    · intro f σ H3 hf hP
      obtain ⟨S3, ⟨x6, rfl⟩, h3⟩ := hP
      obtain ⟨a1, a2, a3, a4⟩ := gp f hf
      have ef : (0 : Int) + (f : Int) = ((f : Nat) : Int) := by omega
      have ef2 : (0 : Int) + (f : Int) + 2 = ((f + 2 : Nat) : Int) := by omega
      have t1 : SqT K H3 r1 p.v := SqT.of (S3 _ _ e1)
      have t2 : SqT K H3 r2 q.v := SqT.of (S3 _ _ e2)
      have b1 := at_ p f _ a1
      have b2 := at_ p (f + 2) _ a2
      have b3 := at_ q f _ a3
      have b4 := at_ q (f + 2) _ a4
      rw [← ef] at b1 b3
      rw [← ef2] at b2 b4
      refine ⟨.ref F, rfl, .inl ⟨rfl, _, SqL.of h3⟩, ?_⟩
      refine ⟨.ref r2, rfl, .int (0 + f), rfl, r2, _, _, _, rfl, rfl, t2, b3, .ref r1, rfl, .int (0 + f), rfl, _, _, rfl, rfl, r1, _, _, _, rfl, rfl, t1, b2, _, _, rfl, rfl, ?_⟩
      refine ⟨.ref r1, rfl, .int (0 + f), rfl, r1, _, _, _, rfl, rfl, t1, b1, .ref r2, rfl, .int (0 + f), rfl, _, _, rfl, rfl, r2, _, _, _, rfl, rfl, t2, b4, _, _, rfl, rfl, _, _, rfl, ?_⟩
      refine ⟨F, _, _, rfl, rfl, h3, ?_, own_w hF S3 (Same.refl _), ⟨_, rfl⟩, ?_⟩
      · rw [List.length_take]
        exact sz_few (by omega)
      · rw [upd_same, max_if]
        match f, hf with
        | 0, _ => rfl
        | 1, _ => rfl
    · intro σ H3 hP
      obtain ⟨S3, ⟨x6, rfl⟩, h3⟩ := hP
      have hL : SqL K H3 F [V.int (gx p q), V.int (gy p q)] := SqL.of h3
      refine ⟨.ref F, rfl, F, _, 0, _, rfl, rfl, hL, atI_nat (j := 0) rfl, .ref F, rfl, F, _, 1, _, rfl, rfl, hL, atI_nat (j := 1) rfl, by show 2 ≤ sizeLine; decide, fun z hz => ?_⟩
      exact k _ z (S3.trans (same_new hz)) (S3.free hz) upd_same
theorem ok_l_near (T : Txt K mg) : FnOk P w K mg base CX0 1 T.l_near.a T.l_near.d ["blocks", "body", "i", "j"] spLNear := by
  refine T.l_near.F.ok c_l_near (fun vs H Q E h => ?_) (fun cdv A outer s H vs Q E hr h => ?_)
  · obtain ⟨l, t, i, j, a, b, bs, p, q, rfl, _⟩ := h
    rfl
  · obtain ⟨l, t, i, j, a, b, bs, p, q, rfl, ⟨rs, hl, hb⟩, hi, hj, hp, hq, hB, ha1, hb1, k⟩ := h
    refine ⟨_,
      (pss_cons (ps_par (i := 4) (j := 5) rfl c_l_near.nd rfl rfl (by decide) rfl rfl (pa_cons (pe_ix ix_list (pv 0) (pv 2) (fun _ _ => rfl)) (pa_cons (pe_ix ix_list (pv 0) (pv 3) (fun _ _ => rfl)) pa_nil)) (by with_unfolding_all rfl))
      (pss_cons (ps_for PassesOwn.never rfl (pi_range1 rfl T.z_range (pa_cons pe_int pa_nil)) (pg_name (i := 6) c_l_near.nd rfl (Or.inl rfl))
      (pss_one (ps_if (pt_cmpR op_ge (pe_op op_sub (pe_callB (call_max2 rfl) (by rfl) T.z_max (by decide +kernel) (pa_cons (pe_ix ix_tup (pv 4) (pv 6) (fun _ _ => rfl)) (pa_cons (pe_ix ix_tup (pv 5) (pv 6) (fun _ _ => rfl)) pa_nil))) (pe_ix ix_tup (pv 1) (pv 6) (fun _ _ => rfl))) (pe_callB (call_min2 rfl) (by rfl) T.z_min (by decide +kernel) (pa_cons (pe_ix ix_tup (pv 4) (pe_op op_add (pv 6) pe_int) (fun _ _ => rfl)) (pa_cons (pe_ix ix_tup (pv 5) (pe_op op_add (pv 6) pe_int) (fun _ _ => rfl)) pa_nil))) (nomark _))
      (pss_one (ps_ret pe_bl))
      pss_nil)))
      (pss_one (ps_ret pe_bl))))
      , ?_⟩
    obtain ⟨r1, g1, e1⟩ := pd_get hb hi
    obtain ⟨r2, g2, e2⟩ := pd_get hb hj
    rw [nr_iff hp hq ha1 hb1] at k
    have t1 : SqT K H r1 p.v := SqT.of e1
    have t2 : SqT K H r2 q.v := SqT.of e2
    have tB : SqT K H t [.int a, .int b] := SqT.of hB
    refine ⟨.ref l, rfl, .int i, rfl, l, _, i, .ref r1, rfl, rfl, SqL.of hl, at_blk g1, .ref l, rfl, .int j, rfl, l, _, j, .ref r2, rfl, rfl, SqL.of hl, at_blk g2, _, _, rfl, ?_⟩
    refine ⟨2, rfl, by decide, by decide, for_range (lo := 0) (n := 2) (fun f σ H3 => H = H3 ∧ (∃ x6, σ = [some (.ref l), some (.ref t), some (.int i), some (.int j), some (.ref r1), some (.ref r2), x6]) ∧ (1 ≤ f → decide (min p.r q.r ≤ max p.l q.l - a) = false) ∧ (2 ≤ f → decide (min p.u q.u ≤ max p.d q.d - b) = false)) ⟨rfl, ⟨none, rfl⟩, fun z => by omega, fun z => by omega⟩ ?_ ?_⟩
    · intro f σ H3 hf hP
      obtain ⟨rfl, ⟨x6, rfl⟩, c1, c2⟩ := hP
      match f, hf with
      | 0, _ =>
        refine ⟨.ref r1, rfl, .int 0, rfl, r1, _, 0, .int p.l, rfl, rfl, t1, atI_nat (j := 0) rfl, .ref r2, rfl, .int 0, rfl, r2, _, 0, .int q.l, rfl, rfl, t2, atI_nat (j := 0) rfl, _, _, rfl, .ref t, rfl, .int 0, rfl, t, _, 0, .int a, rfl, rfl, tB, atI_nat (j := 0) rfl, _, _, rfl, rfl, ?_⟩
        refine ⟨.ref r1, rfl, .int 0, rfl, 0, 2, rfl, rfl, r1, _, 2, .int p.r, rfl, rfl, t1, atI_nat (j := 2) rfl, .ref r2, rfl, .int 0, rfl, 0, 2, rfl, rfl, r2, _, 2, .int q.r, rfl, rfl, t2, atI_nat (j := 2) rfl, _, _, rfl, _, _, rfl, rfl, _, rfl, ?_⟩
        rw [max_if, min_if]
        refine ite2 (fun e => ?_) (fun e => ?_)
        · rw [e, Bool.not_true, Bool.false_and] at k
          exact k
        · exact ⟨rfl, ⟨_, rfl⟩, fun _ => Bool.eq_false_iff.mpr e, fun z => by omega⟩
      | 1, _ =>
        refine ⟨.ref r1, rfl, .int 1, rfl, r1, _, 1, .int p.d, rfl, rfl, t1, atI_nat (j := 1) rfl, .ref r2, rfl, .int 1, rfl, r2, _, 1, .int q.d, rfl, rfl, t2, atI_nat (j := 1) rfl, _, _, rfl, .ref t, rfl, .int 1, rfl, t, _, 1, .int b, rfl, rfl, tB, atI_nat (j := 1) rfl, _, _, rfl, rfl, ?_⟩
        refine ⟨.ref r1, rfl, .int 1, rfl, 1, 2, rfl, rfl, r1, _, 3, .int p.u, rfl, rfl, t1, atI_nat (j := 3) rfl, .ref r2, rfl, .int 1, rfl, 1, 2, rfl, rfl, r2, _, 3, .int q.u, rfl, rfl, t2, atI_nat (j := 3) rfl, _, _, rfl, _, _, rfl, rfl, _, rfl, ?_⟩
        rw [max_if, min_if]
        refine ite2 (fun e => ?_) (fun e => ?_)
        · rw [e, Bool.not_true, Bool.and_false] at k
          exact k
        · exact ⟨rfl, ⟨_, rfl⟩, fun _ => c1 (Nat.le_refl _), fun _ => Bool.eq_false_iff.mpr e⟩
    · intro σ H3 hP
      obtain ⟨rfl, ⟨x6, rfl⟩, c1, c2⟩ := hP
      rw [c1 (by decide), c2 (by decide)] at k
      exact k
end
end G21
set_option Elab.async false
set_option linter.all false
set_option maxRecDepth 100000
set_option maxHeartbeats 4000000
namespace G21
open PySem PySem.Spec PyProof.Rows L2
def spLPairs : Sp := fun vs H Q _ => ∃ (l t : Addr) (a b : Int) (bs : List Bk), vs = [.ref l, .ref t] ∧ Bl H l bs ∧ (∀ x ∈ bs, x.ok) ∧ bs.length ≤ 12 ∧ Bo H t a b ∧ 1 ≤ a ∧ 1 ≤ b ∧ ∀ H' z, Same H H' → H z = none → PrL H' z (prsTo (nrF bs a b) bs.length bs.length) → Q (.ref z) H'
def spLLeast : Sp := fun vs H Q _ => ∃ (l z : Addr) (i j : Nat) (bs : List Bk) (p q : Bk), vs = [.ref l, .int i, .int j, .ref z] ∧ Bl H l bs ∧ bs[i]? = some p ∧ bs[j]? = some q ∧ p.ok ∧ q.ok ∧ H z = some (.tup (lnr p q)) ∧ ∀ H', Same H H' → Q (.bl true) H'
theorem Bl.len {H : Hp} {l : Addr} {bs : List Bk} (h : Bl H l bs) : ∃ rs : List Addr, H l = some (.lst (rs.map V.ref)) ∧ (rs.map V.ref).length = bs.length := by
  obtain ⟨rs, h1, h2⟩ := h
  exact ⟨rs, h1, by rw [List.length_map, pd_len h2]⟩
theorem PrL.same {H H' : Hp} {z : Addr} {ps : List (Int × Int)} (e : Same H H') (h : PrL H z ps) : PrL H' z ps := by
  obtain ⟨as, h1, h2⟩ := h
  exact ⟨as, e _ _ h1, pd_imp h2 fun _ _ => e _ _⟩
/-- a pair more in a list D of our own -/
theorem pr_more {H H3 : Hp} {D z : Addr} {ps : List (Int × Int)} {x y : Int} (hD0 : H D = none) (S3 : Same H H3) (hP : PrL H3 D ps) (hz : H3 z = none) :
    ∃ acc : List V, upd H3 z (.tup [.int x, .int y]) D = some (.lst acc) ∧ acc.length = ps.length ∧ Same H (upd (upd H3 z (.tup [.int x, .int y])) D (.lst (acc ++ [.ref z]))) ∧ PrL (upd (upd H3 z (.tup [.int x, .int y])) D (.lst (acc ++ [.ref z]))) D (ps ++ [(x, y)]) := by
  obtain ⟨as, h1, h2⟩ := hP
  have nD : D ≠ z := ne_of_none h1 hz
  refine ⟨as.map V.ref, by rw [upd_ne nD]; exact h1, by rw [List.length_map, pd_len h2], own_w hD0 S3 (same_new hz), as ++ [z], ?_, ?_⟩
  · rw [upd_same, List.map_append]
    rfl
  · refine pd_app (pd_imp h2 fun r p e => ?_) (.cons ?_ .nil)
    · have nb : r ≠ D := ne_of e h1 (by intro q; cases q)
      rw [upd_ne nb, upd_ne (ne_of_none e hz)]
      exact e
    · rw [upd_ne nD.symm, upd_same]
section
variable {P : Program} {w : World} {K : PySem.W.Frag} {mg : Str → Option Value} {base : Heap}
theorem ok_l_near_pairs (T : Txt K mg) : FnOk P w K mg base CX0 2 T.l_near_pairs.a T.l_near_pairs.d ["blocks", "body"] spLPairs := by
  refine T.l_near_pairs.F.ok c_l_near_pairs (fun vs H Q E h => ?_) (fun cdv A outer s H vs Q E hr h => ?_)
  · obtain ⟨l, t, a, b, bs, rfl, _⟩ := h
    rfl
  · obtain ⟨l, t, a, b, bs, rfl, hl, hok, h12, hB, ha, hb, k⟩ := h
    refine ⟨_,
      (pss_cons (ps_set (i := 2) c_l_near_pairs.nd rfl (Or.inl rfl) (pe_lst pa_nil))
      (pss_cons (ps_for PassesOwn.never rfl (pi_range1 rfl T.z_range (pa_cons (pe_callB call_len_seq (by rfl) T.z_len (by decide +kernel) (pa_cons (pv 0) pa_nil)) pa_nil)) (pg_name (i := 3) c_l_near_pairs.nd rfl (Or.inr rfl))
      (pss_one (ps_set (i := 2) c_l_near_pairs.nd rfl (Or.inl rfl) (pe_op op_cat (pv 2) (pe_lc (own := [("j", 4)]) (g := gName 4) (by rfl) c_l_near_pairs.nd (pi_range2 rfl T.z_range (pa_cons (pe_op op_add (pv 3) pe_int) (pa_cons (pe_callB call_len_seq (by rfl) T.z_len (by decide +kernel) (pa_cons (pv 0) pa_nil)) pa_nil))) (blkOk_by (own := [("j", 4)]) (N := N_l_near_pairs) (sc := defScope S_l_near_pairs) (by decide +kernel)) (fun _ _ _ _ _ => pg_name (i := 4) c_l_near_pairs.nd rfl (Or.inl rfl)) (fun _ _ _ _ _ => (pts_one (pt_val (pe_call (ok_l_near T) (hr.mono (by decide)) rfl T.l_near.g T.l_near.k T.l_near.b .nil pass0 (pa_cons (pv 0) (pa_cons (pv 1) (pa_cons (pv 3) (pa_cons (pv 4) pa_nil)))))))) (fun _ _ _ _ _ => (pe_tup (pa_cons (pv 3) (pa_cons (pv 4) pa_nil)))))))))
      (pss_one (ps_ret (pv 2)))))
      , ?_⟩
    refine ⟨Nat.zero_le _, fun F0 hF0 => ?_⟩
    have hlF := hl.same (same_new (o := .lst []) hF0)
    obtain ⟨rs, h1, h2⟩ := hlF.len
    refine ⟨.ref l, rfl, l, _, rfl, .inl (SqL.of h1), _, rfl, by omega, by omega, ?_⟩
    rw [h2]
    refine for_range (lo := 0) (n := (bs.length : Int).toNat) (fun i σ H3 => Same H H3 ∧ ∃ (F : Addr) (x3 x4 : Option V), σ = [some (.ref l), some (.ref t), some (.ref F), x3, x4] ∧ H F = none ∧ PrL H3 F (prsTo (nrF bs a b) bs.length i)) ⟨same_new hF0, F0, none, none, rfl, hF0, [], upd_same, .nil⟩ ?_ ?_
    · intro i σ H3 hi hP
      obtain ⟨S3, F, x3, x4, rfl, hF, hPr⟩ := hP
      have hl3 := hl.same S3
      obtain ⟨rs3, h31, h32⟩ := hl3.len
      have hi2 : i < bs.length := by omega
      have ei : (0 : Int) + (i : Int) = ((i : Nat) : Int) := by omega
      have gi := List.getElem?_eq_getElem hi2
      have lP := prsTo_len (nrF bs a b) bs.length i
      have lP2 : i * bs.length ≤ 12 * 12 := Nat.mul_le_mul (by omega) h12
      refine ⟨.ref F, rfl, .int (0 + i), rfl, _, _, rfl, rfl, .ref l, rfl, l, _, rfl, .inl (SqL.of h31), _, _, rfl, ⟨by omega, by omega, by omega, by omega⟩, ?_⟩
      rw [h32]
      have e1 : ((bs.length : Int) - (0 + (i : Int) + 1)).toNat = bs.length - (i + 1) := by omega
      rw [e1]
      refine fun D hD => it_range (Pv := fun k H4 => Same H3 H4 ∧ PrL H4 D (rowTo (nrF bs a b) i k)) ⟨same_new hD, [], upd_same, .nil⟩ ?_ ?_
      · intro m H4 hm hP4
        obtain ⟨S4, hP4⟩ := hP4
        have hj : i + 1 + m < bs.length := by omega
        have gj := List.getElem?_eq_getElem hj
        have ej : (0 + (i : Int) + 1 + (m : Int)) = ((i + 1 + m : Nat) : Int) := by omega
        have ef := nrF_at (a := a) (b := b) gi gj
        refine ⟨rfl, ?_⟩
        refine ⟨.ref l, rfl, .ref t, rfl, .int (0 + i), rfl, .int (0 + (i : Int) + 1 + m), rfl, l, t, i, i + 1 + m, a, b, bs, _, _, ?_, hl3.same S4, gi, gj, hok _ (List.getElem_mem hi2), hok _ (List.getElem_mem hj), S4 _ _ (S3 _ _ hB), ha, hb, _, rfl, ?_⟩
        · show [V.ref l, V.ref t, V.int (0 + (i : Int)), V.int (0 + (i : Int) + 1 + (m : Int))] = _
          rw [ej, ei]
        refine ite2 (fun e => ?_) (fun e => ?_)
        · refine ⟨.int (0 + i), rfl, .int (0 + (i : Int) + 1 + m), rfl, by show 2 ≤ sizeLine; decide, fun z hz => ?_⟩
          obtain ⟨acc, q1, q2, q3, q4⟩ := pr_more (x := 0 + (i : Int)) (y := 0 + (i : Int) + 1 + (m : Int)) hD S4 hP4 hz
          have l2 := rowTo_len (nrF bs a b) i m
          refine ⟨acc, q1, by rw [q2]; exact sz_few (by omega), q3, ?_⟩
          have eP : ((i : Int), ((i + 1 + m : Nat) : Int)) = (0 + (i : Int), 0 + (i : Int) + 1 + (m : Int)) := by
            rw [ej, ei]
          rw [rowTo_succ, ef, if_pos e, eP]
          exact q4
        · refine ⟨S4, ?_⟩
          rw [rowTo_succ, ef, if_neg e, List.append_nil]
          exact hP4
      · intro H4 hP4
        obtain ⟨S4, hP4⟩ := hP4
        obtain ⟨as1, a1, a2⟩ := hPr.same S4
        obtain ⟨as2, b1, b2⟩ := id hP4
        have l2 := rowTo_len (nrF bs a b) i (bs.length - (i + 1))
        refine ⟨F, D, _, _, rfl, rfl, a1, b1, ?_, fun z hz => ?_⟩
        · rw [List.length_map, List.length_map, pd_len a2, pd_len b2]
          exact Nat.le_of_lt (sz_few (by omega))
        · have S5 := same_new (o := .lst (as1.map V.ref ++ as2.map V.ref)) hz
          refine ⟨S3.trans (S4.trans S5), z, _, _, rfl, (S3.trans S4).free hz, as1 ++ as2, ?_, ?_⟩
          · rw [upd_same, List.map_append]
          · rw [prsTo_succ]
            exact pd_app (pd_imp a2 fun _ _ => S5 _ _) (pd_imp b2 fun _ _ => S5 _ _)
    · intro σ H3 hP
      obtain ⟨S3, F, x3, x4, rfl, hF, hPr⟩ := hP
      have en : (bs.length : Int).toNat = bs.length := by omega
      rw [en] at hPr
      exact ⟨.ref F, rfl, k H3 F S3 hF hPr⟩
theorem ok_l_least_near (T : Txt K mg) : FnOk P w K mg base CX0 3 T.l_least_near.a T.l_least_near.d ["blocks", "i", "j", "body"] spLLeast := by
  refine T.l_least_near.F.ok c_l_least_near (fun vs H Q E h => ?_) (fun cdv A outer s H vs Q E hr h => ?_)
  · obtain ⟨l, z, i, j, bs, p, q, rfl, _⟩ := h
    rfl
  · obtain ⟨l, z, i, j, bs, p, q, rfl, hl, hi, hj, hp, hq, hz, k⟩ := h
    refine ⟨_,
      (C8.pss_cut (ps_if (PW.pt (pw_or (pt_not (pt_val (pe_call (ok_l_numbers T) (hr.mono (by decide)) rfl T.l_numbers.g T.l_numbers.k T.l_numbers.b .nil pass0 (pa_cons (pv 3) (pa_cons pe_int pa_nil))))) (pw_or (pt_cmpR op_lt (pe_ix ix_tup (pv 3) pe_int (fun _ _ => rfl)) pe_int (nomark _)) (pw_or (pt_cmpR op_lt (pe_ix ix_tup (pv 3) pe_int (fun _ _ => rfl)) pe_int (nomark _)) (pw_or1 (pt_not (pt_val (pe_call (ok_l_near T) (hr.mono (by decide)) rfl T.l_near.g T.l_near.k T.l_near.b .nil pass0 (pa_cons (pv 0) (pa_cons (pv 3) (pa_cons (pv 1) (pa_cons (pv 2) pa_nil))))))))))))
      (pss_one (ps_ret pe_bl))
      pss_nil)
      (C8.pss_cut (ps_if (PW.pt (pw_and (pt_cmpR op_gt (pe_ix ix_tup (pv 3) pe_int (fun _ _ => rfl)) pe_int (nomark _)) (pw_and1 (pt_val (pe_call (ok_l_near T) (hr.mono (by decide)) rfl T.l_near.g T.l_near.k T.l_near.b .nil pass0 (pa_cons (pv 0) (pa_cons (pe_tup (pa_cons (pe_op op_sub (pe_ix ix_tup (pv 3) pe_int (fun _ _ => rfl)) pe_int) (pa_cons (pe_ix ix_tup (pv 3) pe_int (fun _ _ => rfl)) pa_nil))) (pa_cons (pv 1) (pa_cons (pv 2) pa_nil)))))))))
      (pss_one (ps_ret pe_bl))
      pss_nil)
      (pss_one (ps_ret (pe_or (pe_cmpR op_eq (pe_ix ix_tup (pv 3) pe_int (fun _ _ => rfl)) pe_int (nomark _)) (pe_one (pe_not (pe_call (ok_l_near T) (hr.mono (by decide)) rfl T.l_near.g T.l_near.k T.l_near.b .nil pass0 (pa_cons (pv 0) (pa_cons (pe_tup (pa_cons (pe_ix ix_tup (pv 3) pe_int (fun _ _ => rfl)) (pa_cons (pe_op op_sub (pe_ix ix_tup (pv 3) pe_int (fun _ _ => rfl)) pe_int) pa_nil))) (pa_cons (pv 1) (pa_cons (pv 2) pa_nil))))))))))))
      , ?_⟩
    have hT : SqT K H z [.int (max 1 (gx p q + 1)), .int (max 1 (gy p q + 1))] := SqT.of hz
    have X1 : 1 ≤ max 1 (gx p q + 1) := by omega
    have Y1 : 1 ≤ max 1 (gy p q + 1) := by omega
    have n1 : nr p q (max 1 (gx p q + 1)) (max 1 (gy p q + 1)) = true := by
      unfold nr
      rw [decide_eq_true (show gx p q < max 1 (gx p q + 1) by omega), decide_eq_true (show gy p q < max 1 (gy p q + 1) by omega)]
      rfl
    have tz : ∀ H1, Same H H1 → SqT K H1 z [.int (max 1 (gx p q + 1)), .int (max 1 (gy p q + 1))] := fun H1 S1 => SqT.of (S1 _ _ hz)
    refine ⟨fun σ H1 => σ = [some (.ref l), some (.int i), some (.int j), some (.ref z)] ∧ Same H H1, ?_, ?_⟩
    · refine ⟨.ref z, rfl, z, _, _, rfl, hz, fun H1 S1 => ?_⟩
      refine ⟨_, rfl, iteF ?_⟩
      refine ⟨.ref z, rfl, z, _, 0, _, rfl, rfl, tz H1 S1, atI_nat (j := 0) rfl, _, 1, rfl, rfl, _, rfl, ?_⟩
      rw [decide_eq_false (show ¬ max 1 (gx p q + 1) < 1 by omega)]
      refine iteF ⟨.ref z, rfl, z, _, 1, _, rfl, rfl, tz H1 S1, atI_nat (j := 1) rfl, _, 1, rfl, rfl, _, rfl, ?_⟩
      rw [decide_eq_false (show ¬ max 1 (gy p q + 1) < 1 by omega)]
      refine iteF ⟨.ref l, rfl, .ref z, rfl, .int i, rfl, .int j, rfl, l, z, i, j, _, _, bs, p, q, rfl, hl.same S1, hi, hj, hp, hq, S1 _ _ hz, X1, Y1, _, rfl, ?_⟩
      rw [n1]
      exact iteF ⟨rfl, S1⟩
    · intro σ H1 hP
      obtain ⟨rfl, S1⟩ := hP
      refine ⟨fun σ H2 => σ = [some (.ref l), some (.int i), some (.int j), some (.ref z)] ∧ Same H H2, ?_, ?_⟩
      · refine ⟨.ref z, rfl, z, _, 0, _, rfl, rfl, tz H1 S1, atI_nat (j := 0) rfl, _, 1, rfl, rfl, _, rfl, ite2 (fun e => ?_) (fun _ => iteF ⟨rfl, S1⟩)⟩
        have e1 := of_decide_eq_true e
        refine ⟨.ref l, rfl, .ref z, rfl, z, _, 0, _, rfl, rfl, tz H1 S1, atI_nat (j := 0) rfl, _, 1, rfl, rfl, .ref z, rfl, z, _, 1, _, rfl, rfl, tz H1 S1, atI_nat (j := 1) rfl, by show 2 ≤ sizeLine; decide, fun w hw => ?_⟩
        have S2 := S1.trans (same_new (o := .tup [.int (max 1 (gx p q + 1) - 1), .int (max 1 (gy p q + 1))]) hw)
        refine ⟨.int i, rfl, .int j, rfl, l, w, i, j, max 1 (gx p q + 1) - 1, max 1 (gy p q + 1), bs, p, q, rfl, hl.same S2, hi, hj, hp, hq, upd_same, by omega, Y1, _, rfl, ?_⟩
        have n2 : nr p q (max 1 (gx p q + 1) - 1) (max 1 (gy p q + 1)) = false := by
          unfold nr
          rw [decide_eq_false (show ¬ gx p q < max 1 (gx p q + 1) - 1 by omega), Bool.false_and]
        rw [n2]
        exact iteF ⟨rfl, S2⟩
      · intro σ H2 hP
        obtain ⟨rfl, S2⟩ := hP
        refine ⟨.ref z, rfl, z, _, 1, _, rfl, rfl, tz H2 S2, atI_nat (j := 1) rfl, rfl, _, rfl, ite2 (fun e => k _ S2) (fun e => ?_)⟩
        have e1 : ¬ max 1 (gy p q + 1) = 1 := fun y => e (decide_eq_true (by rw [y]))
        refine ⟨.ref l, rfl, .ref z, rfl, z, _, 0, _, rfl, rfl, tz H2 S2, atI_nat (j := 0) rfl, .ref z, rfl, z, _, 1, _, rfl, rfl, tz H2 S2, atI_nat (j := 1) rfl, _, 1, rfl, rfl, by show 2 ≤ sizeLine; decide, fun w hw => ?_⟩
        have S3 := S2.trans (same_new (o := .tup [.int (max 1 (gx p q + 1)), .int (max 1 (gy p q + 1) - 1)]) hw)
        refine ⟨.int i, rfl, .int j, rfl, l, w, i, j, max 1 (gx p q + 1), max 1 (gy p q + 1) - 1, bs, p, q, rfl, hl.same S3, hi, hj, hp, hq, upd_same, X1, by omega, _, rfl, ?_⟩
        have n2 : nr p q (max 1 (gx p q + 1)) (max 1 (gy p q + 1) - 1) = false := by
          unfold nr
          rw [decide_eq_false (show ¬ gy p q < max 1 (gy p q + 1) - 1 by omega), Bool.and_false]
        rw [n2]
        exact k _ S3
end
end G21
set_option Elab.async false
set_option linter.all false
set_option maxRecDepth 100000
set_option maxHeartbeats 4000000
namespace G21
open PySem PySem.Spec PyProof.Rows L2
/-- all in a new list, in some order -/
def spShuf : Sp := fun vs H Q _ => ∃ (d g c l : Addr) (t : Int) (xs : List V), vs = [.ref d, .ref l] ∧ Dr H d g c t ∧ t ≤ 900000000000 ∧ l ≠ g ∧ H l = some (.lst xs) ∧ xs.length ≤ 100 ∧
  ∀ H' z ys t', ys.Perm xs → t' ≤ t + xs.length → H z = none → H' z = some (.lst ys) → Fr d g H H' → Dr H' d g c t' → Q (.ref z) H'
def spBlock : Sp := fun vs H Q _ => ∃ (d g c : Addr) (t m : Int), vs = [.ref d, .int m] ∧ Dr H d g c t ∧ t ≤ 900000000000 ∧ 0 < m ∧ m < 1000000000 ∧
  ∀ H' z b t', b.ok → t' ≤ t + 4 → H z = none → H' z = some (.tup (Bk.v b)) → Fr d g H H' → Dr H' d g c t' → Q (.ref z) H'
theorem Dr.dg {H : Hp} {d g c : Addr} {t : Int} (h : Dr H d g c t) : (∃ kvs, H d = some (.dK kvs)) ∧ (∃ xs, H g = some (.lst xs)) ∧ d ≠ g := by
  obtain ⟨gs, cs, n, h1, h2, _⟩ := h
  exact ⟨⟨_, h1⟩, ⟨_, h2⟩, ne_of h1 h2 (by intro q; cases q)⟩
/-- what is new is none of the draws' -/
theorem Dr.new {H : Hp} {d g c z : Addr} {t : Int} (h : Dr H d g c t) (hz : H z = none) : z ≠ d ∧ z ≠ g := by
  obtain ⟨⟨_, h1⟩, ⟨_, h2⟩, _⟩ := h.dg
  refine ⟨fun e => ?_, fun e => ?_⟩
  · rw [e, h1] at hz
    cases hz
  · rw [e, h2] at hz
    cases hz
theorem Fr.tup {d g c : Addr} {t : Int} {H H' : Hp} (h : Dr H d g c t) (f : Fr d g H H') {b : Addr} {xs : List V} (e : H b = some (.tup xs)) : H' b = some (.tup xs) := by
  obtain ⟨⟨_, h1⟩, ⟨_, h2⟩, _⟩ := h.dg
  exact f b _ (ne_of e h1 (by intro q; cases q)) (ne_of e h2 (by intro q; cases q)) e
/-- fresh behind, fresh ahead -/
theorem Fr.free {d g c z : Addr} {t : Int} {H H' : Hp} (h : Dr H d g c t) (h' : Dr H' d g c t') (f : Fr d g H H') (hz : H' z = none) : H z = none := by
  obtain ⟨n1, n2⟩ := h'.new hz
  cases e : H z with
  | none => rfl
  | some o =>
    rw [f z o n1 n2 e] at hz
    cases hz
/-- a list of our own written: the draws stand -/
theorem Dr.own {H H3 : Hp} {d g c z : Addr} {t t3 : Int} {o : HO} (h : Dr H d g c t) (h3 : Dr H3 d g c t3) (hz : H z = none) (hzc : H3 c ≠ none → z ≠ c) : Dr (upd H3 z o) d g c t3 := by
  obtain ⟨gs, cs, n, h1, h2, hc, r⟩ := h3
  obtain ⟨n1, n2⟩ := h.new hz
  have n3 : z ≠ c := hzc (by rw [hc]; exact fun q => nomatch q)
  exact ⟨gs, cs, n, by rw [upd_ne n1.symm]; exact h1, by rw [upd_ne n2.symm]; exact h2, by rw [upd_ne n3.symm]; exact hc, r⟩
theorem Dr.newc {H : Hp} {d g c z : Addr} {t : Int} (h : Dr H d g c t) (hz : H z = none) : z ≠ c := by
  obtain ⟨gs, cs, n, h1, h2, hc, r⟩ := h
  exact fun e => by
    rw [e, hc] at hz
    cases hz
theorem Fr.own {H H3 : Hp} {d g z : Addr} {o : HO} (hz : H z = none) (f : Fr d g H H3) : Fr d g H (upd H3 z o) := fun b x h1 h2 e => by
  have nb : b ≠ z := fun q => by
    rw [q, hz] at e
    cases e
  rw [upd_ne nb]
  exact f b x h1 h2 e
theorem perm_pop {xs ls fs : List V} {k : Nat} {y : V} (h : (ls ++ fs).Perm xs) (hk : ls[k]? = some y) : (ls.eraseIdx k ++ (fs ++ [y])).Perm xs := by
  obtain ⟨hk2, rfl⟩ := List.getElem?_eq_some_iff.mp hk
  refine List.Perm.trans ?_ h
  rw [← List.append_assoc]
  refine (List.perm_append_singleton _ _).trans ?_
  rw [← List.cons_append]
  refine List.Perm.append_right _ ?_
  rw [List.eraseIdx_eq_take_drop_succ]
  have e : ls = ls.take k ++ ls[k] :: ls.drop (k + 1) := by
    rw [← List.drop_eq_getElem_cons hk2, List.take_append_drop]
  refine (List.perm_middle.symm).trans (List.Perm.of_eq e.symm)
section
variable {P : Program} {w : World} {K : PySem.W.Frag} {mg : Str → Option Value} {base : Heap}
theorem ok_l_shuffled (T : Txt K mg) : FnOk P w K mg base CX0 3 T.l_shuffled.a T.l_shuffled.d ["draw", "some"] spShuf := by
  refine T.l_shuffled.F.ok c_l_shuffled (fun vs H Q E h => ?_) (fun cdv A outer s H vs Q E hr h => ?_)
  · obtain ⟨d, g, c, l, t, xs, rfl, _⟩ := h
    rfl
  · obtain ⟨d, g, c, l, t, xs, rfl, hD, ht, nlg, hl, h100, k⟩ := h
    refine ⟨_,
      (pss_cons (ps_par (i := 2) (j := 3) rfl c_l_shuffled.nd rfl rfl (by decide) rfl rfl (pa_cons (pe_callTy call_list_of (by rfl) T.z_list (by decide +kernel) (pa_cons (pv 1) pa_nil)) (pa_cons (pe_lst pa_nil) pa_nil)) (by with_unfolding_all rfl))
      (pss_cons (ps_for PassesOwn.never rfl (pi_range1 rfl T.z_range (pa_cons (pe_callB call_len_seq (by rfl) T.z_len (by decide +kernel) (pa_cons (pv 1) pa_nil)) pa_nil)) (pg_name (i := 4) c_l_shuffled.nd rfl (Or.inl rfl))
      (pss_one (ps_expr (pe_bm PySem.F.plainAttrs_list PySem.F.slot_list_append PySem.F.type_list_append mt_append (pv 3) (pa_cons (pe_bm PySem.F.plainAttrs_list PySem.F.slot_list_pop PySem.F.type_list_pop mt_popAt (pv 2) (pa_cons (pe_call (ok_l_take T) (hr.mono (by decide)) rfl T.l_take.g T.l_take.k T.l_take.b .nil pass0 (pa_cons (pv 0) (pa_cons (pe_callB call_len_seq (by rfl) T.z_len (by decide +kernel) (pa_cons (pv 2) pa_nil)) pa_nil))) pa_nil)) pa_nil)))))
      (pss_one (ps_ret (pv 3)))))
      , ?_⟩
    refine ⟨.ref l, rfl, l, _, rfl, .inl (SqL.of hl), fun L hL => ?_⟩
    have S1 := same_new (o := .lst xs) hL
    refine ⟨Nat.zero_le _, fun F hF => ?_⟩
    have S2 := same_new (o := .lst []) hF
    have nLF : L ≠ F := fun e => by
      rw [← e, upd_same] at hF
      cases hF
    have hF0 : H F = none := S1.free hF
    have hD2 := hD.grow (S1.trans S2)
    refine ⟨_, _, rfl, ?_⟩
    refine ⟨.ref l, rfl, l, _, rfl, .inl (SqL.of ((S1.trans S2) _ _ hl)), _, rfl, by omega, by omega, ?_⟩
    refine for_range (lo := 0) (n := (xs.length : Int).toNat) (fun i σ H3 => (∃ x4, σ = [some (.ref d), some (.ref l), some (.ref L), some (.ref F), x4]) ∧ ∃ (ls fs : List V) (t3 : Int), H3 L = some (.lst ls) ∧ H3 F = some (.lst fs) ∧ (ls ++ fs).Perm xs ∧ fs.length = i ∧ Fr d g H H3 ∧ Dr H3 d g c t3 ∧ t3 ≤ t + i)
      ⟨⟨none, rfl⟩, xs, [], t, by rw [upd_ne nLF, upd_same], upd_same, by rw [List.append_nil], rfl, Fr.of (S1.trans S2), hD2, by omega⟩ ?_ ?_
    · intro i σ H3 hi hP
      obtain ⟨⟨x4, rfl⟩, ls, fs, t3, h1, h2, hp, hlen, f3, d3, ht3⟩ := hP
      have hlens := hp.length_eq
      rw [List.length_append] at hlens
      refine ⟨.ref F, rfl, .inl ⟨rfl, _, SqL.of h2⟩, .ref L, rfl, .inl ⟨rfl, _, SqL.of h1⟩, .ref d, rfl, .ref L, rfl, L, _, rfl, .inl (SqL.of h1), d, g, c, t3, ls.length, rfl, d3, by omega, by omega, by omega, fun H4 r t4 hr0 hr1 ht4 f4 d4 => ?_⟩
      obtain ⟨j, rfl⟩ := Int.eq_ofNat_of_zero_le hr0
      have hj : j < ls.length := by omega
      obtain ⟨nLd, nLg⟩ := hD.new hL
      obtain ⟨nFd, nFg⟩ := hD.new hF0
      have h14 := f4 L _ nLd nLg h1
      have h24 := f4 F _ nFd nFg h2
      refine ⟨L, ls, j, j, ls[j], rfl, rfl, h14, by omega, by omega, seq_at hj, List.getElem?_eq_getElem hj, ?_⟩
      refine ⟨F, fs, ls[j], rfl, rfl, by rw [upd_ne nLF.symm]; exact h24, sz_few (by omega), ⟨_, rfl⟩, ls.eraseIdx j, fs ++ [ls[j]], t4, ?_, upd_same, perm_pop hp (List.getElem?_eq_getElem hj), ?_, Fr.own hF0 (Fr.own hL (f3.trans f4)), ?_, by omega⟩
      · rw [upd_ne nLF, upd_same]
      · rw [List.length_append, List.length_singleton, hlen]
      · exact Dr.own hD (Dr.own hD d4 hL (fun _ => hD.newc hL)) hF0 (fun _ => hD.newc hF0)
    · intro σ H3 hP
      obtain ⟨⟨x4, rfl⟩, ls, fs, t3, h1, h2, hp, hlen, f3, d3, ht3⟩ := hP
      have hlens := hp.length_eq
      rw [List.length_append] at hlens
      have e0 : ls = [] := List.eq_nil_of_length_eq_zero (by omega)
      rw [e0, List.nil_append] at hp
      exact ⟨.ref F, rfl, k H3 F fs t3 hp (by omega) hF0 h2 f3 d3⟩
theorem ok_l_block (T : Txt K mg) : FnOk P w K mg base CX0 4 T.l_block.a T.l_block.d ["draw", "wide"] spBlock := by
  refine T.l_block.F.ok c_l_block (fun vs H Q E h => ?_) (fun cdv A outer s H vs Q E hr h => ?_)
  · obtain ⟨d, g, c, t, m, rfl, _⟩ := h
    rfl
  · obtain ⟨d, g, c, t, m, rfl, hD, ht, hm0, hm1, k⟩ := h
    refine ⟨_,
      (pss_cons (ps_par (i := 2) (j := 3) rfl c_l_block.nd rfl rfl (by decide) rfl rfl (pa_cons (pe_call (ok_l_take T) (hr.mono (by decide)) rfl T.l_take.g T.l_take.k T.l_take.b .nil pass0 (pa_cons (pv 0) (pa_cons (pv 1) pa_nil))) (pa_cons (pe_call (ok_l_take T) (hr.mono (by decide)) rfl T.l_take.g T.l_take.k T.l_take.b .nil pass0 (pa_cons (pv 0) (pa_cons (pv 1) pa_nil))) pa_nil)) (by with_unfolding_all rfl))
      (pss_one (ps_ret (pe_tup (pa_cons (pv 2) (pa_cons (pv 3) (pa_cons (pe_op op_add (pe_op op_add (pv 2) pe_int) (pe_call (ok_l_pick T) (hr.mono (by decide)) rfl T.l_pick.g T.l_pick.k T.l_pick.b .nil pass0 (pa_cons (pv 0) (pa_cons (pe_lst (pa_cons pe_int (pa_cons pe_int (pa_cons pe_int (pa_cons pe_int (pa_cons pe_int (pa_cons pe_int pa_nil))))))) pa_nil)))) (pa_cons (pe_op op_add (pe_op op_add (pv 3) pe_int) (pe_call (ok_l_pick T) (hr.mono (by decide)) rfl T.l_pick.g T.l_pick.k T.l_pick.b .nil pass0 (pa_cons (pv 0) (pa_cons (pe_lst (pa_cons pe_int (pa_cons pe_int (pa_cons pe_int (pa_cons pe_int (pa_cons pe_int (pa_cons pe_int pa_nil))))))) pa_nil)))) pa_nil))))))))
      , ?_⟩
    refine ⟨.ref d, rfl, .int m, rfl, d, g, c, t, m, rfl, hD, by omega, hm0, hm1, fun H1 x t1 hx0 hx1 ht1 f1 d1 => ?_⟩
    refine ⟨.ref d, rfl, .int m, rfl, d, g, c, t1, m, rfl, d1, by omega, hm0, hm1, fun H2 y t2 hy0 hy1 ht2 f2 d2 => ⟨_, _, rfl, ?_⟩⟩
    have six : ∀ x : V, x ∈ [V.int 0, .int 0, .int 1, .int 2, .int 3, .int 6] → ∃ n : Int, x = .int n ∧ 0 ≤ n := fun x hx => by
      simp only [List.mem_cons, List.not_mem_nil, or_false] at hx
      rcases hx with rfl | rfl | rfl | rfl | rfl | rfl <;> exact ⟨_, rfl, by decide⟩
    have f02 := f1.trans f2
    refine ⟨.int x, rfl, .int y, rfl, .int x, rfl, _, _, rfl, rfl, .ref d, rfl, by show 6 ≤ sizeLine; decide, fun l1 hl1 => ?_⟩
    have d3 := d2.grow (same_new (o := .lst [V.int 0, .int 0, .int 1, .int 2, .int 3, .int 6]) hl1)
    refine ⟨d, g, c, l1, t2, _, rfl, d3, by omega, (d2.new hl1).2, upd_same, by simp, by show 6 < 1000000; decide, fun H4 v t4 hv ht4 f4 d4 => ?_⟩
    obtain ⟨n1, rfl, hn1⟩ := six v hv
    refine ⟨_, _, rfl, rfl, .int y, rfl, _, _, rfl, rfl, .ref d, rfl, by show 6 ≤ sizeLine; decide, fun l2 hl2 => ?_⟩
    have d5 := d4.grow (same_new (o := .lst [V.int 0, .int 0, .int 1, .int 2, .int 3, .int 6]) hl2)
    refine ⟨d, g, c, l2, t4, _, rfl, d5, by omega, (d4.new hl2).2, upd_same, by simp, by show 6 < 1000000; decide, fun H6 v2 t6 hv2 ht6 f6 d6 => ?_⟩
    obtain ⟨n2, rfl, hn2⟩ := six v2 hv2
    refine ⟨_, _, rfl, rfl, by show 4 ≤ sizeLine; decide, fun z hz => ?_⟩
    have ff : Fr d g H H6 := f02.trans ((Fr.of (same_new hl1)).trans (f4.trans ((Fr.of (same_new hl2)).trans f6)))
    exact k _ z ⟨x, y, x + 1 + n1, y + 1 + n2⟩ t6 ⟨by show x < x + 1 + n1; omega, by show y < y + 1 + n2; omega⟩ (by omega) (Fr.free hD d6 ff hz) upd_same (ff.trans (Fr.of (same_new hz))) (d6.grow (same_new hz))
end
end G21
set_option Elab.async false
set_option linter.all false
set_option maxRecDepth 100000
set_option maxHeartbeats 4000000
namespace G21
open PySem PySem.Spec PyProof.Rows L2
def spPen : Sp := fun vs H Q _ => ∃ (d g c : Addr) (t L W wd tl : Int), vs = [.ref d, .int L, .int W, .int wd, .int tl] ∧ Dr H d g c t ∧ t ≤ 800000000000 ∧ 1 ≤ wd ∧ 1 ≤ tl ∧
  ∀ H' z bs t', Bl H' z bs → bs.length = 4 → (∀ b ∈ bs, b.ok) → bs.Nodup → t' ≤ t + 6 → H z = none → Fr d g H H' → Dr H' d g c t' → Q (.ref z) H'
/-- the blocks of a list of our own, in the heap behind draws -/
theorem Bl.fr {d g c l : Addr} {t : Int} {H H' : Hp} {bs : List Bk} (hD : Dr H d g c t) (f : Fr d g H H') (h : Bl H l bs) (hl : l ≠ g) : Bl H' l bs := by
  obtain ⟨rs, h1, h2⟩ := h
  obtain ⟨⟨_, e1⟩, _, _⟩ := hD.dg
  exact ⟨rs, f l _ (ne_of h1 e1 (by intro q; cases q)) hl h1, pd_imp h2 fun _ _ e => f.tup hD e⟩
theorem Fr.bo {d g c p : Addr} {t a b : Int} {H H' : Hp} (hD : Dr H d g c t) (f : Fr d g H H') (h : Bo H p a b) : Bo H' p a b := f.tup hD h
section
variable {P : Program} {w : World} {K : PySem.W.Frag} {mg : Str → Option Value} {base : Heap}
theorem ok_l_pen (T : Txt K mg) : FnOk P w K mg base CX0 4 T.l_pen.a T.l_pen.d ["draw", "left", "low", "wide", "tall"] spPen := by
  refine T.l_pen.F.ok c_l_pen (fun vs H Q E h => ?_) (fun cdv A outer s H vs Q E hr h => ?_)
  · obtain ⟨d, g, c, t, L, W, wd, tl, rfl, _⟩ := h
    rfl
  · obtain ⟨d, g, c, t, L, W, wd, tl, rfl, hD, ht, hw, htl, k⟩ := h
    refine ⟨_,
      (pss_cons (ps_setLc (i := 5) (own := [("turn", 12)]) (g := gName 12) (by rfl) c_l_pen.nd rfl rfl (sw_true rfl rfl rfl (by decide +kernel)) (pi_range1 rfl T.z_range (pa_cons pe_int pa_nil)) (blkOk_by (own := [("turn", 12)]) (N := N_l_pen) (sc := defScope S_l_pen) (by decide +kernel)) (fun _ _ _ _ _ => pg_name (i := 12) c_l_pen.nd rfl (Or.inl rfl)) (fun _ _ _ _ _ => pts_nil) (fun _ _ _ _ _ => (pe_call (ok_l_pick T) (hr.mono (by decide)) rfl T.l_pick.g T.l_pick.k T.l_pick.b .nil pass0 (pa_cons (pv 0) (pa_cons (pe_lst (pa_cons pe_int (pa_cons pe_int (pa_cons pe_int (pa_cons pe_int (pa_cons pe_int (pa_cons pe_int (pa_cons pe_int pa_nil)))))))) pa_nil)))))
      (pss_cons (ps_par (i := 6) (j := 7) rfl c_l_pen.nd rfl rfl (by decide) rfl rfl (pa_cons (pe_op op_add (pv 1) (pv 3)) (pa_cons (pe_op op_add (pv 2) (pv 4)) pa_nil)) (by with_unfolding_all rfl))
      (pss_cons (ps_set (i := 8) c_l_pen.nd rfl (Or.inl rfl) (pe_tup (pa_cons (pe_op op_sub (pv 1) pe_int) (pa_cons (pe_op op_sub (pv 2) pe_int) (pa_cons (pe_op op_sub (pe_op op_add (pv 6) pe_int) (pe_callB (call_min2 rfl) (by rfl) T.z_min (by decide +kernel) (pa_cons (pe_ix ix_list (pv 5) pe_int (fun _ _ => rfl)) (pa_cons (pv 3) pa_nil)))) (pa_cons (pv 2) pa_nil))))))
      (pss_cons (ps_set (i := 9) c_l_pen.nd rfl (Or.inl rfl) (pe_tup (pa_cons (pv 6) (pa_cons (pe_op op_add (pe_op op_sub (pv 2) pe_int) (pe_call (ok_l_pick T) (hr.mono (by decide)) rfl T.l_pick.g T.l_pick.k T.l_pick.b .nil pass0 (pa_cons (pv 0) (pa_cons (pe_lst (pa_cons pe_int (pa_cons pe_int (pa_cons pe_int pa_nil)))) pa_nil)))) (pa_cons (pe_op op_add (pv 6) pe_int) (pa_cons (pe_op op_sub (pe_op op_add (pv 7) pe_int) (pe_callB (call_min2 rfl) (by rfl) T.z_min (by decide +kernel) (pa_cons (pe_ix ix_list (pv 5) pe_int (fun _ _ => rfl)) (pa_cons (pv 4) pa_nil)))) pa_nil))))))
      (pss_cons (ps_set (i := 10) c_l_pen.nd rfl (Or.inl rfl) (pe_tup (pa_cons (pe_op op_add (pe_op op_sub (pv 1) pe_int) (pe_callB (call_min2 rfl) (by rfl) T.z_min (by decide +kernel) (pa_cons (pe_ix ix_list (pv 5) pe_int (fun _ _ => rfl)) (pa_cons (pv 3) pa_nil)))) (pa_cons (pv 7) (pa_cons (pe_op op_add (pv 6) pe_int) (pa_cons (pe_op op_add (pv 7) pe_int) pa_nil))))))
      (pss_cons (ps_set (i := 11) c_l_pen.nd rfl (Or.inl rfl) (pe_tup (pa_cons (pe_op op_sub (pv 1) pe_int) (pa_cons (pe_op op_add (pe_op op_sub (pv 2) pe_int) (pe_callB (call_min2 rfl) (by rfl) T.z_min (by decide +kernel) (pa_cons (pe_ix ix_list (pv 5) pe_int (fun _ _ => rfl)) (pa_cons (pv 4) pa_nil)))) (pa_cons (pv 1) (pa_cons (pe_op op_add (pv 7) (pe_call (ok_l_pick T) (hr.mono (by decide)) rfl T.l_pick.g T.l_pick.k T.l_pick.b .nil pass0 (pa_cons (pv 0) (pa_cons (pe_lst (pa_cons pe_int (pa_cons pe_int (pa_cons pe_int pa_nil)))) pa_nil)))) pa_nil))))))
      (pss_one (ps_ret (pe_lst (pa_cons (pv 8) (pa_cons (pv 9) (pa_cons (pv 10) (pa_cons (pv 11) pa_nil)))))))))))))
      , ?_⟩
    refine ⟨4, rfl, by decide, by decide, fun D hD0 => it_range (Pv := fun i H3 => ∃ (cs : List Int) (t3 : Int), H3 D = some (.lst (cs.map V.int)) ∧ (∀ x ∈ cs, 0 ≤ x) ∧ cs.length = i ∧ Fr d g H H3 ∧ Dr H3 d g c t3 ∧ t3 ≤ t + i)
      ⟨[], t, upd_same, (fun x h => absurd h (by simp)), rfl, Fr.of (same_new hD0), hD.grow (same_new hD0), by omega⟩ ?_ ?_⟩
    · intro i H3 hi hP
      obtain ⟨cs, t3, h1, h2, h3, f3, d3, ht3⟩ := hP
      have hi4 : i < 4 := hi
      refine ⟨rfl, yes2 ?_⟩
      refine ⟨.ref d, rfl, by show 7 ≤ sizeLine; decide, fun l hl => ?_⟩
      have d4 := d3.grow (same_new (o := .lst [V.int 0, .int 0, .int 0, .int 1, .int 1, .int 2, .int 3]) hl)
      refine ⟨d, g, c, l, t3, _, rfl, d4, by omega, (d3.new hl).2, upd_same, by simp, by show 7 < 1000000; decide, fun H5 x t5 hx ht5 f5 d5 => ?_⟩
      obtain ⟨n, rfl, hn⟩ : ∃ n : Int, x = .int n ∧ 0 ≤ n := by
        simp only [List.mem_cons, List.not_mem_nil, or_false] at hx
        rcases hx with rfl | rfl | rfl | rfl | rfl | rfl | rfl <;> exact ⟨_, rfl, by decide⟩
      obtain ⟨nDd, nDg⟩ := hD.new hD0
      have f6 := (Fr.of (same_new (o := .lst [V.int 0, .int 0, .int 0, .int 1, .int 1, .int 2, .int 3]) hl)).trans f5
      refine ⟨_, f6 D _ nDd nDg h1, by rw [List.length_map]; exact sz_few (by omega), cs ++ [n], t5, by rw [upd_same, snoc_int], fun y hy => ?_, by rw [List.length_append, List.length_singleton, h3], Fr.own hD0 (f3.trans f6), Dr.own hD d5 hD0 (fun _ => hD.newc hD0), by omega⟩
      rcases List.mem_append.mp hy with m | m
      · exact h2 y m
      · rw [List.mem_singleton.mp m]
        exact hn
    · intro H3 hP
      obtain ⟨cs, t3, h1, h2, h3, f3, d3, ht3⟩ := hP
      obtain ⟨c0, c1, c2, c3, rfl⟩ : ∃ c0 c1 c2 c3, cs = [c0, c1, c2, c3] := by
        match cs, h3 with
        | [a, b, c, e], _ => exact ⟨a, b, c, e, rfl⟩
      have p0 := h2 c0 (by simp)
      have p1 := h2 c1 (by simp)
      have p2 := h2 c2 (by simp)
      have p3 := h2 c3 (by simp)
      have cut : ∀ H4 : Hp, H4 D = some (.lst [V.int c0, .int c1, .int c2, .int c3]) → SqL K H4 D [V.int c0, .int c1, .int c2, .int c3] := fun H4 e => SqL.of e
      have hc3 := cut H3 h1
      obtain ⟨nDd, nDg⟩ := hD.new hD0
      have three : ∀ x : V, x ∈ [V.int 0, .int 1, .int 1] → ∃ n : Int, x = .int n ∧ 0 ≤ n ∧ n ≤ 1 := fun x hx => by
        simp only [List.mem_cons, List.not_mem_nil, or_false] at hx
        rcases hx with rfl | rfl | rfl <;> exact ⟨_, rfl, by decide, by decide⟩
      have m0 : (if wd < c0 then wd else c0) ≤ wd := by split <;> omega
      have m1 : (if tl < c1 then tl else c1) ≤ tl := by split <;> omega
      have m2 : (if wd < c2 then wd else c2) ≤ wd := by split <;> omega
      have m3 : (if tl < c3 then tl else c3) ≤ tl := by split <;> omega
      refine ⟨.int L, rfl, .int wd, rfl, _, _, rfl, rfl, .int W, rfl, .int tl, rfl, _, _, rfl, rfl, _, _, rfl, ?_⟩
      -- one
      refine ⟨.int L, rfl, L, 1, rfl, rfl, .int W, rfl, W, 1, rfl, rfl, .int (L + wd), rfl, L + wd, 1, rfl, rfl, .ref D, rfl, D, _, 0, .int c0, rfl, rfl, hc3, atI_nat (j := 0) rfl, .int wd, rfl, c0, wd, rfl, _, _, rfl, rfl, .int W, rfl, by show 4 ≤ sizeLine; decide, fun z1 hz1 => ?_⟩
      have f4 := f3.trans (Fr.of (same_new (o := .tup (Bk.v ⟨L - 1, W - 1, L + wd + 1 - (if wd < c0 then wd else c0), W⟩)) hz1))
      have d4 := d3.grow (same_new (o := .tup (Bk.v ⟨L - 1, W - 1, L + wd + 1 - (if wd < c0 then wd else c0), W⟩)) hz1)
      have e41 : upd H3 z1 (.tup (Bk.v ⟨L - 1, W - 1, L + wd + 1 - (if wd < c0 then wd else c0), W⟩)) z1 = some (.tup (Bk.v ⟨L - 1, W - 1, L + wd + 1 - (if wd < c0 then wd else c0), W⟩)) := upd_same
      have h41 : upd H3 z1 (.tup (Bk.v ⟨L - 1, W - 1, L + wd + 1 - (if wd < c0 then wd else c0), W⟩)) D = some (.lst [V.int c0, .int c1, .int c2, .int c3]) := same_new hz1 _ _ h1
      -- two
      refine ⟨.int (L + wd), rfl, .int W, rfl, W, 1, rfl, rfl, .ref d, rfl, by show 3 ≤ sizeLine; decide, fun l5 hl5 => ?_⟩
      refine ⟨d, g, c, l5, t3, _, rfl, d4.grow (same_new hl5), by omega, (d4.new hl5).2, upd_same, by simp, by show 3 < 1000000; decide, fun H5 x5 t5 hx5 ht5 f5 d5 => ?_⟩
      obtain ⟨n5, rfl, hn5, hn5'⟩ := three x5 hx5
      have g5 := (Fr.of (same_new (o := .lst [V.int 0, .int 1, .int 1]) hl5)).trans f5
      have h51 := g5 D _ nDd nDg h41
      have e51 := g5.tup d4 e41
      refine ⟨_, _, rfl, rfl, .int (L + wd), rfl, L + wd, 1, rfl, rfl, .int (W + tl), rfl, W + tl, 1, rfl, rfl, .ref D, rfl, D, _, 1, .int c1, rfl, rfl, SqL.of h51, atI_nat (j := 1) rfl, .int tl, rfl, c1, tl, rfl, _, _, rfl, rfl, by show 4 ≤ sizeLine; decide, fun z2 hz2 => ?_⟩
      have S6 := same_new (o := .tup (Bk.v ⟨L + wd, W - 1 + n5, L + wd + 1, W + tl + 1 - (if tl < c1 then tl else c1)⟩)) hz2
      have d6 := d5.grow S6
      have e62 : upd H5 z2 (.tup (Bk.v ⟨L + wd, W - 1 + n5, L + wd + 1, W + tl + 1 - (if tl < c1 then tl else c1)⟩)) z2 = some (.tup (Bk.v ⟨L + wd, W - 1 + n5, L + wd + 1, W + tl + 1 - (if tl < c1 then tl else c1)⟩)) := upd_same
      have h61 := S6 _ _ h51
      have e61 := S6 _ _ e51
      have f6 := f4.trans (g5.trans (Fr.of S6))
      -- three
      refine ⟨.int L, rfl, L, 1, rfl, rfl, .ref D, rfl, D, _, 2, .int c2, rfl, rfl, SqL.of h61, atI_nat (j := 2) rfl, .int wd, rfl, c2, wd, rfl, _, _, rfl, rfl, .int (W + tl), rfl, .int (L + wd), rfl, L + wd, 1, rfl, rfl, .int (W + tl), rfl, W + tl, 1, rfl, rfl, by show 4 ≤ sizeLine; decide, fun z3 hz3 => ?_⟩
      have S7 := same_new (o := .tup (Bk.v ⟨L - 1 + (if wd < c2 then wd else c2), W + tl, L + wd + 1, W + tl + 1⟩)) hz3
      have d7 := d6.grow S7
      have e73 : upd (upd H5 z2 (.tup (Bk.v ⟨L + wd, W - 1 + n5, L + wd + 1, W + tl + 1 - (if tl < c1 then tl else c1)⟩))) z3 (.tup (Bk.v ⟨L - 1 + (if wd < c2 then wd else c2), W + tl, L + wd + 1, W + tl + 1⟩)) z3 = some (.tup (Bk.v ⟨L - 1 + (if wd < c2 then wd else c2), W + tl, L + wd + 1, W + tl + 1⟩)) := upd_same
      have h71 := S7 _ _ h61
      have e71 := S7 _ _ e61
      have e72 := S7 _ _ e62
      have f7 := f6.trans (Fr.of S7)
      -- four
      refine ⟨.int L, rfl, L, 1, rfl, rfl, .int W, rfl, W, 1, rfl, rfl, .ref D, rfl, D, _, 3, .int c3, rfl, rfl, SqL.of h71, atI_nat (j := 3) rfl, .int tl, rfl, c3, tl, rfl, _, _, rfl, rfl, .int L, rfl, .int (W + tl), rfl, .ref d, rfl, by show 3 ≤ sizeLine; decide, fun l8 hl8 => ?_⟩
      refine ⟨d, g, c, l8, t5, _, rfl, d7.grow (same_new hl8), by omega, (d7.new hl8).2, upd_same, by simp, by show 3 < 1000000; decide, fun H8 x8 t8 hx8 ht8 f8 d8 => ?_⟩
      obtain ⟨n8, rfl, hn8, hn8'⟩ := three x8 hx8
      have g8 := (Fr.of (same_new (o := .lst [V.int 0, .int 1, .int 1]) hl8)).trans f8
      refine ⟨_, _, rfl, rfl, by show 4 ≤ sizeLine; decide, fun z4 hz4 => ?_⟩
      have S9 := same_new (o := .tup (Bk.v ⟨L - 1, W - 1 + (if tl < c3 then tl else c3), L, W + tl + n8⟩)) hz4
      have d9 := d8.grow S9
      have e94 : upd H8 z4 (.tup (Bk.v ⟨L - 1, W - 1 + (if tl < c3 then tl else c3), L, W + tl + n8⟩)) z4 = some (.tup (Bk.v ⟨L - 1, W - 1 + (if tl < c3 then tl else c3), L, W + tl + n8⟩)) := upd_same
      have e91 := S9 _ _ (g8.tup d7 e71)
      have e92 := S9 _ _ (g8.tup d7 e72)
      have e93 := S9 _ _ (g8.tup d7 e73)
      have f9 := f7.trans (g8.trans (Fr.of S9))
      refine ⟨.ref z1, rfl, .ref z2, rfl, .ref z3, rfl, .ref z4, rfl, by show 4 ≤ sizeLine; decide, fun z hz => ?_⟩
      have SZ := same_new (o := .lst [V.ref z1, .ref z2, .ref z3, .ref z4]) hz
      refine k _ z [⟨L - 1, W - 1, L + wd + 1 - (if wd < c0 then wd else c0), W⟩, ⟨L + wd, W - 1 + n5, L + wd + 1, W + tl + 1 - (if tl < c1 then tl else c1)⟩, ⟨L - 1 + (if wd < c2 then wd else c2), W + tl, L + wd + 1, W + tl + 1⟩, ⟨L - 1, W - 1 + (if tl < c3 then tl else c3), L, W + tl + n8⟩] t8
        ⟨[z1, z2, z3, z4], upd_same, .cons (SZ _ _ e91) (.cons (SZ _ _ e92) (.cons (SZ _ _ e93) (.cons (SZ _ _ e94) .nil)))⟩ rfl ?_ ?_ (by omega) (Fr.free hD d9 f9 hz) (f9.trans (Fr.of SZ)) (d9.grow SZ)
      · generalize (if wd < c0 then wd else c0) = v0 at m0 ⊢
        generalize (if tl < c1 then tl else c1) = v1 at m1 ⊢
        generalize (if wd < c2 then wd else c2) = v2 at m2 ⊢
        generalize (if tl < c3 then tl else c3) = v3 at m3 ⊢
        intro b hb
        simp only [List.mem_cons, List.not_mem_nil, or_false] at hb
        rcases hb with rfl | rfl | rfl | rfl
        · exact ⟨by show L - 1 < L + wd + 1 - v0; omega, by show W - 1 < W; omega⟩
        · exact ⟨by show L + wd < L + wd + 1; omega, by show W - 1 + n5 < W + tl + 1 - v1; omega⟩
        · exact ⟨by show L - 1 + v2 < L + wd + 1; omega, by show W + tl < W + tl + 1; omega⟩
        · exact ⟨by show L - 1 < L; omega, by show W - 1 + v3 < W + tl + n8; omega⟩
      · generalize (if wd < c0 then wd else c0) = v0 at m0 ⊢
        generalize (if tl < c1 then tl else c1) = v1 at m1 ⊢
        generalize (if wd < c2 then wd else c2) = v2 at m2 ⊢
        generalize (if tl < c3 then tl else c3) = v3 at m3 ⊢
        simp only [List.nodup_cons, List.mem_cons, List.not_mem_nil, or_false, Bk.mk.injEq, not_or, not_false_eq_true, List.nodup_nil, and_true]
        omega
end
end G21
set_option Elab.async false
set_option linter.all false
set_option maxRecDepth 100000
set_option maxHeartbeats 4000000
namespace G21
open PySem PySem.Spec PyProof.Rows L2
/-- a dict that tells f of the ints ns -/
def Tab (H : Hp) (A : Addr) (f : Int → Int) (ns : List Int) : Prop := ∃ kvs : List (Key × V), H A = some (.dK kvs) ∧ ∀ n ∈ ns, valV kvs (.inl n) = some (.int (f n))
theorem Tab.get {H : Hp} {A : Addr} {f : Int → Int} {ns : List Int} {n : Int} (h : Tab H A f ns) (hn : n ∈ ns) : DGet H A (.int n) (some (.int (f n))) := by
  obtain ⟨kvs, h1, h2⟩ := h
  have q := DGet.k (k := .inl n) h1
  rw [h2 n hn] at q
  exact q
theorem Tab.same {H H' : Hp} {A : Addr} {f : Int → Int} {ns : List Int} (e : Same H H') (h : Tab H A f ns) : Tab H' A f ns := by
  obtain ⟨kvs, h1, h2⟩ := h
  exact ⟨kvs, e _ _ h1, h2⟩
def stB (fa fu : Int → Int) (b : Bk) : Bk := ⟨fa b.l, fu b.d, fa b.r, fu b.u⟩
def spStr : Sp := fun vs H Q _ => ∃ (l A U : Addr) (bs : List Bk) (fa fu : Int → Int) (xs ys : List Int), vs = [.ref l, .ref A, .ref U] ∧ Bl H l bs ∧ Tab H A fa xs ∧ Tab H U fu ys ∧ (∀ b ∈ bs, b.l ∈ xs ∧ b.r ∈ xs ∧ b.d ∈ ys ∧ b.u ∈ ys) ∧ bs.length ≤ 100 ∧
  ∀ H' z, Same H H' → H z = none → Bl H' z (bs.map (stB fa fu)) → Q (.ref z) H'
/-- a block more in a list D of our own -/
theorem bl_more {H H3 : Hp} {D z : Addr} {bs : List Bk} {b : Bk} (hD0 : H D = none) (S3 : Same H H3) (hP : Bl H3 D bs) (hz : H3 z = none) :
    ∃ acc : List V, upd H3 z (.tup b.v) D = some (.lst acc) ∧ acc.length = bs.length ∧ Same H (upd (upd H3 z (.tup b.v)) D (.lst (acc ++ [.ref z]))) ∧ Bl (upd (upd H3 z (.tup b.v)) D (.lst (acc ++ [.ref z]))) D (bs ++ [b]) := by
  obtain ⟨as, h1, h2⟩ := hP
  have nD : D ≠ z := ne_of_none h1 hz
  refine ⟨as.map V.ref, by rw [upd_ne nD]; exact h1, by rw [List.length_map, pd_len h2], own_w hD0 S3 (same_new hz), as ++ [z], ?_, ?_⟩
  · rw [upd_same, List.map_append]
    rfl
  · refine pd_app (pd_imp h2 fun r p e => ?_) (.cons ?_ .nil)
    · have nb : r ≠ D := ne_of e h1 (by intro q; cases q)
      rw [upd_ne nb, upd_ne (ne_of_none e hz)]
      exact e
    · rw [upd_ne nD.symm, upd_same]
/-- a table of what was given, strictly rising -/
def spTable (K : PySem.W.Frag) : Sp := fun vs H Q _ => ∃ (d g c l : Addr) (t : Int) (ns : List Int), vs = [.ref d, .ref l] ∧ Dr H d g c t ∧ t ≤ 700000000000 ∧ SqL K H l (ns.map V.int) ∧ l ≠ g ∧ ns.length < 60 ∧
  ∀ H' z t' f, t' ≤ t + 70 → H z = none → Tab H' z f ns → (∀ n ∈ ns, ∀ m ∈ ns, n < m → f n < f m) → Fr d g H H' → Dr H' d g c t' → Q (.ref z) H'
/-- for k, x in enumerate(xs) -/
theorem for_enumL {K : PySem.W.Frag} {a : Addr} {xs : List V} {g : TG} {tb : TS} {D : Ends} {σ : L2.St} {H : Hp} (Pv : Nat → L2.St → Hp → Prop) (h0 : Pv 0 σ H) (hl : ∀ i σ H, Pv i σ H → SqL K H a xs)
    (hs : ∀ i x T σ H, xs[i]? = some x → Pv i σ H → H T = none → g (.ref T) σ (upd H T (.tup [.int (i : Nat), x])) fun σ2 H2 => tb { D with nx := Pv (i + 1), ct := Pv (i + 1), bk := D.nx } σ2 H2) (hd : ∀ σ H, Pv xs.length σ H → D.nx σ H) :
    ∃ W : Nat → Nat → L2.St → Hp → Prop, (∃ m, W 0 m σ H) ∧ ∀ i m σ H, W i m σ H →
      ((Ite K a).stop i H ∧ D.nx σ H) ∨ ((Ite K a).go i H ∧ ∃ N : L2.St → Hp → Prop, (∀ σ' H', N σ' H' → ∃ m', m' < m ∧ W (i + 1) m' σ' H') ∧ ∀ x H', (Ite K a).yld i H x H' → g x σ H' fun σ2 H2 => tb { D with nx := N, ct := N, bk := D.nx } σ2 H2) := by
  refine ⟨fun i m σ H => m = xs.length - i ∧ i ≤ xs.length ∧ Pv i σ H, ⟨xs.length, by simp, Nat.zero_le _, h0⟩, fun i m σ H hW => ?_⟩
  obtain ⟨rfl, hi, p⟩ := hW
  have q := hl i σ H p
  by_cases hlt : i < xs.length
  · refine .inr ⟨⟨xs, xs[i], q, by simp [hlt]⟩, Pv (i + 1), fun σ' H' p' => ⟨xs.length - (i + 1), by omega, rfl, hlt, p'⟩, fun x H' y => ?_⟩
    obtain ⟨T, x', e1, e2, e3, e4⟩ := y
    rw [e1, e3]
    exact hs i x' T σ H (e4 xs q) p e2
  · have e : i = xs.length := by omega
    refine .inl ⟨⟨xs, q, Nat.le_of_not_lt hlt⟩, hd σ H ?_⟩
    rw [e] at p
    exact p
theorem take_lt {line : List Int} {i : Nat} {old : Int} (up : line.Pairwise (· < ·)) (hi : line[i]? = some old) : ∀ n ∈ line.take i, n < old := fun n hn => by
  obtain ⟨hi2, e⟩ := List.getElem?_eq_some_iff.mp hi
  obtain ⟨j, hj, ej⟩ := List.mem_take_iff_getElem.mp hn
  have z := List.pairwise_iff_getElem.mp up j i (by omega) hi2 (by omega)
  rw [e, ej] at z
  exact z
theorem tab_step {line : List Int} {i : Nat} {old v : Int} {kvs : List (Key × V)} {f : Int → Int} (up : line.Pairwise (· < ·)) (hi : line[i]? = some old) (h1 : ∀ n ∈ line.take i, valV kvs (.inl n) = some (.int (f n)))
    (h2 : ∀ n ∈ line.take i, ∀ m ∈ line.take i, n < m → f n < f m) (h3 : ∀ n ∈ line.take i, f n < v) :
    ∃ f' : Int → Int, (∀ n ∈ line.take (i + 1), valV (putK kvs (.inl old) (.int v)) (.inl n) = some (.int (f' n))) ∧ (∀ n ∈ line.take (i + 1), ∀ m ∈ line.take (i + 1), n < m → f' n < f' m) ∧ (∀ n ∈ line.take i, f' n = f n) ∧ f' old = v := by
  have lt := take_lt up hi
  have split_ : ∀ n ∈ line.take (i + 1), n ∈ line.take i ∨ n = old := fun n hn => by
    rw [List.take_add_one, hi] at hn
    rcases List.mem_append.mp hn with m | m
    · exact .inl m
    · exact .inr (List.mem_singleton.mp m)
  have e1 : ∀ n ∈ line.take i, (if n = old then v else f n) = f n := fun n hn => if_neg (by have := lt n hn; omega)
  refine ⟨fun n => if n = old then v else f n, fun n hn => ?_, fun n hn m hm hnm => ?_, e1, if_pos rfl⟩
  · show valV (putK kvs (.inl old) (.int v)) (.inl n) = some (.int (if n = old then v else f n))
    rw [valV_put]
    rcases split_ n hn with m | m
    · have ne : ¬ n = old := by have := lt n m; omega
      rw [if_neg (fun z : (Sum.inl n : Key) = Sum.inl old => ne (Sum.inl.inj z)), if_neg ne]
      exact h1 n m
    · subst m
      rw [if_pos rfl, if_pos rfl]
  · rcases split_ n hn with a | a <;> rcases split_ m hm with b | b
    · show (if n = old then v else f n) < (if m = old then v else f m)
      rw [e1 n a, e1 m b]
      exact h2 n a m b hnm
    · subst b
      show (if n = m then v else f n) < (if m = m then v else f m)
      rw [e1 n a, if_pos rfl]
      exact h3 n a
    · subst a
      have := lt m b
      omega
    · omega
theorem putK_le (kvs : List (Key × V)) (k : Key) (v : V) : (putK kvs k v).length ≤ kvs.length + 1 := by
  unfold putK
  split
  · rw [List.length_map]
    omega
  · rw [List.length_append]
    exact Nat.le_refl _
/-- what stands ahead of turn i of the table's loop -/
def TI (d g c l q A : Addr) (way fac t : Int) (line : List Int) (H : Hp) (i : Nat) (σ : L2.St) (H9 : Hp) : Prop := ∃ (here : Int) (x7 x8 : Option V) (kvs : List (Key × V)) (f : Int → Int) (t9 : Int), σ = [some (.ref d), some (.ref l), some (.ref q), some (.int way), some (.ref A), some (.int here), some (.int fac), x7, x8] ∧
        H9 A = some (.dK kvs) ∧ kvs.length ≤ i ∧ (∀ n ∈ line.take i, valV kvs (.inl n) = some (.int (f n))) ∧ (∀ n ∈ line.take i, ∀ m ∈ line.take i, n < m → f n < f m) ∧ (way < 2 → ∀ n ∈ line.take i, f n = n + here) ∧ (way = 2 → ∀ n ∈ line.take i, f n = n * fac + here) ∧
        (2 < way → ∀ n ∈ line.take i, f n ≤ here) ∧ Fr d g H H9 ∧ Dr H9 d g c t9 ∧ t9 ≤ t + 3 + i ∧ H9 q = some (.lst (line.map V.int))
theorem TI.next {d g c l q A : Addr} {way fac t here here' v t11 : Int} {line : List Int} {H H11 : Hp} {i : Nat} {old : Int} {kvs : List (Key × V)} {f : Int → Int} {x7 x8 : Option V} {ct : Int} (hD : Dr H d g c ct) (hA0 : H A = none) (up : line.Pairwise (· < ·)) (ho : line[i]? = some old)
    (hk : kvs.length ≤ i) (h1 : ∀ n ∈ line.take i, valV kvs (.inl n) = some (.int (f n))) (h2 : ∀ n ∈ line.take i, ∀ m ∈ line.take i, n < m → f n < f m) (ca : way < 2 → ∀ n ∈ line.take i, f n = n + here) (cb : way = 2 → ∀ n ∈ line.take i, f n = n * fac + here) (cc : 2 < way → ∀ n ∈ line.take i, f n ≤ here)
    (h3 : ∀ n ∈ line.take i, f n < v) (ka : way < 2 → v = old + here' ∧ here' = here) (kb : way = 2 → v = old * fac + here' ∧ here' = here) (kc : 2 < way → v = here' ∧ here ≤ here') (F11 : Fr d g H H11) (d11 : Dr H11 d g c t11) (ht : t11 ≤ t + 3 + (i + 1 : Nat)) (hq : H11 q = some (.lst (line.map V.int))) (nqA : q ≠ A) :
    TI d g c l q A way fac t line H (i + 1) [some (.ref d), some (.ref l), some (.ref q), some (.int way), some (.ref A), some (.int here'), some (.int fac), x7, x8] (upd H11 A (.dK (putK kvs (.inl old) (.int v)))) := by
  obtain ⟨f', g1, g2, g3, g4⟩ := tab_step up ho h1 h2 h3
  have split_ : ∀ n ∈ line.take (i + 1), n ∈ line.take i ∨ n = old := fun n hn => by
    rw [List.take_add_one, ho] at hn
    rcases List.mem_append.mp hn with m | m
    · exact .inl m
    · exact .inr (List.mem_singleton.mp m)
  refine ⟨here', x7, x8, putK kvs (.inl old) (.int v), f', t11, rfl, upd_same, ?_, g1, g2, fun z n hn => ?_, fun z n hn => ?_, fun z n hn => ?_, Fr.own hA0 F11, Dr.own hD d11 hA0 (fun _ => hD.newc hA0), ht, ?_⟩
  · have := putK_le kvs (.inl old) (.int v)
    omega
  · obtain ⟨a1, a2⟩ := ka z
    rcases split_ n hn with m | m
    · rw [g3 n m, ca z n m, a2]
    · rw [m, g4, a1]
  · obtain ⟨a1, a2⟩ := kb z
    rcases split_ n hn with m | m
    · rw [g3 n m, cb z n m, a2]
    · rw [m, g4, a1]
  · obtain ⟨a1, a2⟩ := kc z
    rcases split_ n hn with m | m
    · rw [g3 n m]
      exact Int.le_trans (cc z n m) a2
    · rw [m, g4, a1]
      exact Int.le_refl _
  · rw [upd_ne nqA]
    exact hq
section
variable {P : Program} {w : World} {K : PySem.W.Frag} {mg : Str → Option Value} {base : Heap}
theorem ok_l_stretched (T : Txt K mg) : FnOk P w K mg base CX0 1 T.l_stretched.a T.l_stretched.d ["blocks", "across", "up"] spStr := by
  refine T.l_stretched.F.ok c_l_stretched (fun vs H Q E h => ?_) (fun cdv A outer s H vs Q E hr h => ?_)
  · obtain ⟨l, A, U, bs, fa, fu, xs, ys, rfl, _⟩ := h
    rfl
  · obtain ⟨l, A, U, bs, fa, fu, xs, ys, rfl, hl, hA, hU, hm, h100, k⟩ := h
    refine ⟨_,
      (pss_one (ps_ret (pe_lc (own := [("left", 3), ("low", 4), ("right", 5), ("high", 6)]) (g := gTup K 4 (gCons (gName 3) (gCons (gName 4) (gCons (gName 5) (gCons (gName 6) gNil))))) (by rfl) c_l_stretched.nd (pi_list (pv 0)) (blkOk_by (own := [("left", 3), ("low", 4), ("right", 5), ("high", 6)]) (N := N_l_stretched) (sc := defScope S_l_stretched) (by decide +kernel)) (fun _ _ _ _ _ => pg_tup rfl (pgs_cons (pg_name (i := 3) c_l_stretched.nd rfl (Or.inl rfl) (hf := Or.inr rfl)) (pgs_cons (pg_name (i := 4) c_l_stretched.nd rfl (Or.inl rfl) (hf := Or.inr rfl)) (pgs_cons (pg_name (i := 5) c_l_stretched.nd rfl (Or.inl rfl) (hf := Or.inr rfl)) (pgs_cons (pg_name (i := 6) c_l_stretched.nd rfl (Or.inl rfl) (hf := Or.inr rfl)) pgs_nil))))) (fun _ _ _ _ _ => pts_nil) (fun _ _ _ _ _ => (pe_tup (pa_cons (pe_dget (hu_of hr) (pv 1) (pv 3) (fun _ _ => rfl)) (pa_cons (pe_dget (hu_of hr) (pv 2) (pv 4) (fun _ _ => rfl)) (pa_cons (pe_dget (hu_of hr) (pv 1) (pv 5) (fun _ _ => rfl)) (pa_cons (pe_dget (hu_of hr) (pv 2) (pv 6) (fun _ _ => rfl)) pa_nil)))))))))
      , ?_⟩
    obtain ⟨rs, h1, hb⟩ := id hl
    refine ⟨.ref l, rfl, l, rfl, ⟨_, SqL.of h1⟩, fun D hD => it_list (Pv := fun i H3 => Same H H3 ∧ Bl H3 D ((bs.map (stB fa fu)).take i)) ⟨same_new hD, [], upd_same, .nil⟩ (fun i H3 hP => SqL.of (hP.1 _ _ h1)) ?_ ?_⟩
    · intro i x H3 hx hP
      obtain ⟨S3, hP⟩ := hP
      obtain ⟨r, hr1, rfl⟩ := at_map hx
      obtain ⟨b, gb, hb1⟩ := pd_at hb hr1
      obtain ⟨m1, m2, m3, m4⟩ := hm b (List.mem_of_getElem? gb)
      have hi : i < bs.length := (List.getElem?_eq_some_iff.mp gb).1
      refine ⟨r, b.v, rfl, SqT.of (S3 _ _ hb1), rfl, _, _, rfl, _, _, rfl, _, _, rfl, _, _, rfl, rfl, rfl, yes2 ?_⟩
      refine ⟨.ref A, rfl, .int b.l, rfl, A, _, rfl, (hA.same S3).get m1, .ref U, rfl, .int b.d, rfl, U, _, rfl, (hU.same S3).get m3, .ref A, rfl, .int b.r, rfl, A, _, rfl, (hA.same S3).get m2, .ref U, rfl, .int b.u, rfl, U, _, rfl, (hU.same S3).get m4, by show 4 ≤ sizeLine; decide, fun z hz => ?_⟩
      obtain ⟨acc, q1, q2, q3, q4⟩ := bl_more (b := stB fa fu b) hD S3 hP hz
      refine ⟨acc, q1, ?_, q3, ?_⟩
      · rw [q2, List.length_take, List.length_map]
        exact sz_few (by omega)
      · rw [List.take_add_one, List.getElem?_map, gb]
        exact q4
    · intro H3 hP
      obtain ⟨S3, hP⟩ := hP
      rw [List.length_map, pd_len hb, List.take_of_length_le (by rw [List.length_map]; exact Nat.le_refl _)] at hP
      exact k H3 D S3 hD hP
theorem ok_l_table (T : Txt K mg) : FnOk P w K mg base CX0 4 T.l_table.a T.l_table.d ["draw", "some"] (spTable K) := by
  refine T.l_table.F.ok c_l_table (fun vs H Q E h => ?_) (fun cdv A outer s H vs Q E hr h => ?_)
  · obtain ⟨d, g, c, l, t, ns, rfl, _⟩ := h
    rfl
  · obtain ⟨d, g, c, l, t, ns, rfl, hD, ht, hl, nlg, h60, k⟩ := h
    refine ⟨_,
      (pss_cons (ps_set (i := 2) c_l_table.nd rfl (Or.inl rfl) (pe_callB (cr_sortedSet rfl) (by rfl) T.z_sorted (by decide +kernel) (pa_cons (pe_callTy (GS.cr_setL rfl) (by rfl) T.z_set (by decide +kernel) (pa_cons (pv 1) pa_nil)) pa_nil)))
      (pss_cons (ps_par3 (i := 3) (j := 4) (l := 5) rfl c_l_table.nd rfl rfl rfl (by decide) (by decide) (by decide) rfl rfl rfl (pa_cons (pe_call (ok_l_take T) (hr.mono (by decide)) rfl T.l_take.g T.l_take.k T.l_take.b .nil pass0 (pa_cons (pv 0) (pa_cons pe_int pa_nil))) (pa_cons pe_dnewK (pa_cons (pe_call (ok_l_pick T) (hr.mono (by decide)) rfl T.l_pick.g T.l_pick.k T.l_pick.b .nil pass0 (pa_cons (pv 0) (pa_cons (pe_lst (pa_cons pe_int (pa_cons pe_int (pa_cons (pe_un un_neg pe_int) (pa_cons pe_int (pa_cons (pe_un un_neg pe_int) pa_nil)))))) pa_nil))) pa_nil))) (by with_unfolding_all rfl))
      (pss_cons (ps_set (i := 6) c_l_table.nd rfl (Or.inl rfl) (pe_call (ok_l_pick T) (hr.mono (by decide)) rfl T.l_pick.g T.l_pick.k T.l_pick.b .nil pass0 (pa_cons (pv 0) (pa_cons (pe_lst (pa_cons pe_int (pa_cons pe_int (pa_cons pe_int (pa_cons pe_int (pa_cons pe_int pa_nil)))))) pa_nil))))
      (pss_cons (ps_for PassesOwn.never rfl (pi_enum (by rfl) T.z_enumerate (pa_cons (pv 2) pa_nil)) (pg_tup rfl (pgs_cons (pg_name (i := 7) c_l_table.nd rfl (Or.inl rfl) (hf := Or.inr rfl)) (pgs_cons (pg_name (i := 8) c_l_table.nd rfl (Or.inl rfl) (hf := Or.inr rfl)) pgs_nil)))
      (pss_one (ps_if (pt_cmpR op_lt (pv 3) pe_int (nomark _))
      (pss_one (ps_dput (hu_of hr) (pv 4) (pv 8) (pe_op op_add (pv 8) (pv 5)) rfl))
      (pss_one (ps_if (pt_cmpR op_eq (pv 3) pe_int (nomark _))
      (pss_one (ps_dput (hu_of hr) (pv 4) (pv 8) (pe_op op_add (pe_op op_mul (pv 8) (pv 6)) (pv 5)) rfl))
      (pss_cons (ps_set (i := 5) c_l_table.nd rfl (Or.inl rfl) (pe_op op_add (pv 5) (pe_ifExp (pt_cmpR op_eq (pv 7) pe_int (nomark _)) pe_int (pe_op op_add pe_int (pe_call (ok_l_pick T) (hr.mono (by decide)) rfl T.l_pick.g T.l_pick.k T.l_pick.b .nil pass0 (pa_cons (pv 0) (pa_cons (pe_lst (pa_cons pe_int (pa_cons pe_int (pa_cons pe_int (pa_cons pe_int (pa_cons pe_int (pa_cons pe_int (pa_cons pe_int pa_nil)))))))) pa_nil)))))))
      (pss_one (ps_dput (hu_of hr) (pv 4) (pv 8) (pv 5) rfl))))))))
      (pss_one (ps_ret (pv 4)))))))
      , ?_⟩
    refine ⟨.ref l, rfl, l, ns, rfl, hl, by omega, fun p n0 hp hn0 => ?_⟩
    have S1 := same_new (o := SetO w p (fun j => decide (j ∈ ns)) n0) hp
    refine ⟨p, _, n0, rfl, upd_same, by omega, fun line q up mem hlen hq => ?_⟩
    have S2 := S1.trans (same_new (o := .lst (line.map V.int)) hq)
    have d2 := hD.grow S2
    refine ⟨.ref d, rfl, d, g, c, t, 4, rfl, d2, by omega, by decide, by decide, fun H3 way t3 hw0 hw1 ht3 f3 d3 => ?_⟩
    refine fun A hA => ?_
    have d4 := d3.grow (same_new (o := .dK []) hA)
    refine ⟨.ref d, rfl, 7, rfl, 99999, rfl, by show 5 ≤ sizeLine; decide, fun l2 hl2 => ?_⟩
    have S5 := same_new (o := .lst [V.int 0, .int 0, .int (-7), .int 40, .int (-99999)]) hl2
    have d5 := d4.grow S5
    refine ⟨d, g, c, l2, t3, _, rfl, d5, by omega, (d4.new hl2).2, upd_same, by simp, by show 5 < 1000000; decide, fun H6 x6 t6 hx6 ht6 f6 d6 => ?_⟩
    obtain ⟨here0, rfl⟩ : ∃ n : Int, x6 = .int n := by
      simp only [List.mem_cons, List.not_mem_nil, or_false] at hx6
      rcases hx6 with rfl | rfl | rfl | rfl | rfl <;> exact ⟨_, rfl⟩
    refine ⟨_, _, _, rfl, ?_⟩
    refine ⟨.ref d, rfl, by show 5 ≤ sizeLine; decide, fun l7 hl7 => ?_⟩
    have S7 := same_new (o := .lst [V.int 1, .int 2, .int 3, .int 97, .int 4001]) hl7
    have d7 := d6.grow S7
    refine ⟨d, g, c, l7, t6, _, rfl, d7, by omega, (d6.new hl7).2, upd_same, by simp, by show 5 < 1000000; decide, fun H8 x8 t8 hx8 ht8 f8 d8 => ?_⟩
    obtain ⟨fac, rfl, hf1, hf2⟩ : ∃ n : Int, x8 = .int n ∧ 1 ≤ n ∧ n ≤ 4001 := by
      simp only [List.mem_cons, List.not_mem_nil, or_false] at hx8
      rcases hx8 with rfl | rfl | rfl | rfl | rfl <;> exact ⟨_, rfl, by decide, by decide⟩
    have hq0 : H q = none := S1.free hq
    have hA0 : H A = none := S2.free (Fr.free d2 d3 f3 hA)
    obtain ⟨nqd, nqg⟩ := hD.new hq0
    obtain ⟨nAd, nAg⟩ := hD.new hA0
    have eq3 := f3 q _ nqd nqg upd_same
    have nqA : q ≠ A := ne_of_none eq3 hA
    have eq5 := S5 _ _ (same_new (o := .dK []) hA _ _ eq3)
    have eq8 := f8 q _ nqd nqg (S7 _ _ (f6 q _ nqd nqg eq5))
    have eA8 := f8 A _ nAd nAg (S7 _ _ (f6 A _ nAd nAg (S5 _ _ (upd_same (H := H3) (a := A) (o := .dK [])))))
    have F8 : Fr d g H H8 := (Fr.of S2).trans (f3.trans ((Fr.of (same_new hA)).trans ((Fr.of S5).trans (f6.trans ((Fr.of S7).trans f8)))))
    refine ⟨.ref q, rfl, q, _, rfl, SqL.of eq8, ?_⟩
    refine for_enumL (K := K) (a := q) (xs := line.map V.int) (TI d g c l q A way fac t line H)
      ⟨here0, none, none, [], fun _ => 0, t8, rfl, eA8, Nat.le_refl _, (fun n h => absurd h (by simp)), (fun n h => absurd h (by simp)), (fun _ n h => absurd h (by simp)), (fun _ n h => absurd h (by simp)), (fun _ n h => absurd h (by simp)), F8, d8, by omega, eq8⟩ ?_ ?_ ?_
    · intro i σ H9 hP
      obtain ⟨here, x7, x8, kvs, f, t9, _, _, _, _, _, _, _, _, _, _, _, e⟩ := hP
      exact SqL.of e
    · intro i x Tt σ H9 hx hP hT
      obtain ⟨here, x7, x8, kvs, f, t9, rfl, hA9, hk, h1, h2, ca, cb, cc, F9, d9, ht9, hq9⟩ := hP
      obtain ⟨old, ho, rfl⟩ := at_map hx
      have hi : i < line.length := (List.getElem?_eq_some_iff.mp ho).1
      have ST := same_new (o := .tup [V.int (i : Nat), .int old]) hT
      have d10 := d9.grow ST
      have F10 := F9.trans (Fr.of ST)
      have hA10 := ST _ _ hA9
      have hq10 := ST _ _ hq9
      have lt := take_lt up ho
      refine ⟨Tt, _, rfl, SqT.of upd_same, rfl, _, _, rfl, _, _, rfl, rfl, ?_⟩
      have sz : kvs.length < sizeLine := sz_few (by omega)
      refine ⟨.int way, rfl, way, 2, rfl, rfl, _, rfl, ite2 (fun e => ?_) (fun e => ?_)⟩
      · have hw := of_decide_eq_true e
        refine ⟨.int old, rfl, .int here, rfl, _, _, rfl, rfl, .ref A, rfl, .int old, rfl, A, _, rfl, DPut.k (k := .inl old) hA10 sz, ?_⟩
        refine TI.next hD hA0 up ho hk h1 h2 ca cb cc (fun n hn => ?_) (fun _ => ⟨rfl, rfl⟩) (fun z => by omega) (fun z => by omega) F10 d10 (by omega) hq10 nqA
        have z1 := lt n hn
        rw [ca hw n hn]
        show n + here < old + here
        omega
      · have hw : ¬ way < 2 := fun z => e (decide_eq_true z)
        refine ⟨.int way, rfl, rfl, _, rfl, ite2 (fun e2 => ?_) (fun e2 => ?_)⟩
        · have hw2 : way = 2 := V.int.inj (of_decide_eq_true e2)
          refine ⟨.int old, rfl, .int fac, rfl, old, fac, rfl, rfl, .inr ⟨by omega, by omega⟩, .int here, rfl, _, _, rfl, rfl, .ref A, rfl, .int old, rfl, A, _, rfl, DPut.k (k := .inl old) hA10 sz, ?_⟩
          refine TI.next hD hA0 up ho hk h1 h2 ca cb cc (fun n hn => ?_) (fun z => by omega) (fun _ => ⟨rfl, rfl⟩) (fun z => by omega) F10 d10 (by omega) hq10 nqA
          have z1 := lt n hn
          rw [cb hw2 n hn]
          show n * fac + here < old * fac + here
          have z2 := Int.mul_lt_mul_of_pos_right z1 (show 0 < fac by omega)
          omega
        · have hw2 : ¬ way = 2 := fun z => e2 (decide_eq_true (by rw [z]))
          refine ⟨.int here, rfl, .int i, rfl, rfl, _, rfl, ite2 (fun e3 => ?_) (fun e3 => ?_)⟩
          · have hi0 : (i : Int) = 0 := V.int.inj (of_decide_eq_true e3)
            refine ⟨_, _, rfl, rfl, .int (here + 0), rfl, .ref A, rfl, .int old, rfl, A, _, rfl, DPut.k (k := .inl old) hA10 sz, ?_⟩
            refine TI.next hD hA0 up ho hk h1 h2 ca cb cc (fun n hn => ?_) (fun z => by omega) (fun z => by omega) (fun _ => ⟨rfl, by omega⟩) F10 d10 (by omega) hq10 nqA
            have i0 : i = 0 := by omega
            rw [i0] at hn
            exact absurd hn (by simp)
          · refine ⟨.ref d, rfl, by show 7 ≤ sizeLine; decide, fun lp hlp => ?_⟩
            have SP := same_new (o := .lst [V.int 0, .int 0, .int 1, .int 2, .int 5, .int 13, .int 997]) hlp
            refine ⟨d, g, c, lp, t9, _, rfl, d10.grow SP, by omega, (d10.new hlp).2, upd_same, by simp, by show 7 < 1000000; decide, fun H12 y t12 hy ht12 f12 d12 => ?_⟩
            obtain ⟨n2, rfl, hn2⟩ : ∃ n : Int, y = .int n ∧ 0 ≤ n := by
              simp only [List.mem_cons, List.not_mem_nil, or_false] at hy
              rcases hy with rfl | rfl | rfl | rfl | rfl | rfl | rfl <;> exact ⟨_, rfl, by decide⟩
            refine ⟨_, _, rfl, rfl, _, _, rfl, rfl, .int (here + (1 + n2)), rfl, .ref A, rfl, .int old, rfl, A, _, rfl, DPut.k (k := .inl old) (f12 A _ nAd nAg (SP _ _ hA10)) sz, ?_⟩
            refine TI.next hD hA0 up ho hk h1 h2 ca cb cc (fun n hn => ?_) (fun z => by omega) (fun z => by omega) (fun _ => ⟨rfl, by omega⟩) (F10.trans ((Fr.of SP).trans f12)) d12 (by omega) (f12 q _ nqd nqg (SP _ _ hq10)) nqA
            have z1 := cc (by omega) n hn
            omega
    · intro σ H9 hP
      obtain ⟨here, x7, x8, kvs, f, t9, rfl, hA9, hk, h1, h2, ca, cb, cc, F9, d9, ht9, hq9⟩ := hP
      rw [List.length_map, List.take_length] at h1 h2
      rw [List.length_map] at ht9
      have inl : ∀ n ∈ ns, n ∈ line := fun n hn => (mem n).mpr (decide_eq_true hn)
      exact ⟨.ref A, rfl, k H9 A t9 f (by omega) hA0 ⟨kvs, hA9, fun n hn => h1 n (inl n hn)⟩ (fun n hn m hm => h2 n (inl n hn) m (inl m hm)) F9 d9⟩
end
end G21
set_option Elab.async false
set_option linter.all false
set_option maxRecDepth 100000
set_option maxHeartbeats 4000000
namespace G21
open PySem PySem.Spec PyProof.Rows L2
theorem un65 {A : Around} {k : Nat} (hr : Room k A) : A.units + 65 < cLine := by
  have := hr.un
  omega
/-- law's blocks: at most m, in order, of draws -/
def spBlocks : Sp := fun vs H Q _ => ∃ (d g c : Addr) (t m : Int), vs = [.ref d, .int m] ∧ Dr H d g c t ∧ t ≤ 600000000000 ∧ 1 ≤ m ∧ m ≤ 12 ∧
  ∀ H' z bs t', Bl H' z bs → (∀ b ∈ bs, b.ok) → bs.Nodup → (bs.length : Int) ≤ m → Asc bs → H z = none → t' ≤ t + 300 → Fr d g H H' → Dr H' d g c t' → Q (.ref z) H'
/-- a block more in a list of our own, whatever else stands there -/
theorem bl_add {H3 : Hp} {D z : Addr} {bs : List Bk} {b : Bk} (hP : Bl H3 D bs) (hz : H3 z = none) :
    ∃ acc : List V, upd H3 z (.tup b.v) D = some (.lst acc) ∧ acc.length = bs.length ∧ Bl (upd (upd H3 z (.tup b.v)) D (.lst (acc ++ [.ref z]))) D (bs ++ [b]) := by
  obtain ⟨acc, q1, q2, _, q4⟩ := bl_more (H := fun _ => none) rfl (fun a o e => by cases e) hP hz
  exact ⟨acc, q1, q2, q4⟩
/-- the same of a block that stands there -/
theorem bl_put {H3 : Hp} {D z : Addr} {bs : List Bk} {b : Bk} (hP : Bl H3 D bs) (hz : H3 z = some (.tup b.v)) :
    ∃ acc : List V, H3 D = some (.lst acc) ∧ acc.length = bs.length ∧ Bl (upd H3 D (.lst (acc ++ [.ref z]))) D (bs ++ [b]) := by
  obtain ⟨as, h1, h2⟩ := hP
  have nD : D ≠ z := ne_of h1 hz (by intro q; cases q)
  refine ⟨as.map V.ref, h1, by rw [List.length_map, pd_len h2], as ++ [z], ?_, ?_⟩
  · rw [upd_same, List.map_append]
    rfl
  · refine pd_app (pd_imp h2 fun r p e => ?_) (.cons ?_ .nil)
    · have nb : r ≠ D := ne_of e h1 (by intro q; cases q)
      rw [upd_ne nb]
      exact e
    · rw [upd_ne nD.symm]
      exact hz
theorem any_blk (b : Bk) : ∀ bs : List Bk, (((bs.map Bk.n).map GS.dT).any fun z => PyData.eqv z (GS.dT b.n)) = decide (b ∈ bs)
  | [] => by simp
  | a :: bs => by
    rw [List.map_cons, List.map_cons, List.any_cons, any_blk b bs, GS.eqv_t]
    by_cases e : a = b
    · subst e
      simp
    · have e1 : ¬ a.n = b.n := fun z => e (Bk.n_inj z)
      rw [decide_eq_false e1, Bool.false_or]
      have e2 : b ∈ a :: bs ↔ b ∈ bs := ⟨fun z => by
        rcases List.mem_cons.mp z with z | z
        · exact absurd z.symm e
        · exact z, fun z => List.mem_cons_of_mem _ z⟩
      exact decide_eq_decide.mpr e2.symm
/-- one number of each block -/
theorem col_step {H H3 : Hp} {D : Addr} {f : Bk → Int} {bs : List Bk} {i : Nat} {b : Bk} (hD : H D = none) (S3 : Same H H3) (gb : bs[i]? = some b) :
    Same H (upd H3 D (.lst (((bs.take i).map fun b => V.int (f b)) ++ [.int (f b)]))) ∧ upd H3 D (.lst (((bs.take i).map fun b => V.int (f b)) ++ [.int (f b)])) D = some (.lst ((bs.take (i + 1)).map fun b => V.int (f b))) := by
  refine ⟨own_w hD S3 (Same.refl _), ?_⟩
  rw [upd_same, List.take_add_one, gb, List.map_append]
  rfl
theorem st_nodup {fa fu : Int → Int} {xs ys : List Int} {bs : List Bk} (ha : ∀ n ∈ xs, ∀ m ∈ xs, n < m → fa n < fa m) (hu : ∀ n ∈ ys, ∀ m ∈ ys, n < m → fu n < fu m) (hm : ∀ b ∈ bs, b.l ∈ xs ∧ b.r ∈ xs ∧ b.d ∈ ys ∧ b.u ∈ ys) (hn : bs.Nodup) : (bs.map (stB fa fu)).Nodup := by
  have inj : ∀ (f : Int → Int) (zs : List Int), (∀ n ∈ zs, ∀ m ∈ zs, n < m → f n < f m) → ∀ n ∈ zs, ∀ m ∈ zs, f n = f m → n = m := fun f zs h n hn m hm e => by
    rcases Int.lt_trichotomy n m with q | q | q
    · have := h n hn m hm q
      omega
    · exact q
    · have := h m hm n hn q
      omega
  refine List.pairwise_map.mpr (List.Pairwise.imp_of_mem (fun {a b} ma mb ne e => ne ?_) hn)
  obtain ⟨a1, a2, a3, a4⟩ := hm a ma
  obtain ⟨b1, b2, b3, b4⟩ := hm b mb
  unfold stB at e
  injection e with e1 e2 e3 e4
  have q1 := inj fa xs ha _ a1 _ b1 e1
  have q2 := inj fu ys hu _ a3 _ b3 e2
  have q3 := inj fa xs ha _ a2 _ b2 e3
  have q4 := inj fu ys hu _ a4 _ b4 e4
  obtain ⟨l, dd, r, u⟩ := a
  obtain ⟨l2, d2, r2, u2⟩ := b
  dsimp only at q1 q2 q3 q4
  rw [q1, q2, q3, q4]
theorem st_ok {fa fu : Int → Int} {xs ys : List Int} {bs : List Bk} (ha : ∀ n ∈ xs, ∀ m ∈ xs, n < m → fa n < fa m) (hu : ∀ n ∈ ys, ∀ m ∈ ys, n < m → fu n < fu m) (hm : ∀ b ∈ bs, b.l ∈ xs ∧ b.r ∈ xs ∧ b.d ∈ ys ∧ b.u ∈ ys) (hk : ∀ b ∈ bs, b.ok) : ∀ b ∈ bs.map (stB fa fu), b.ok := fun b hb => by
  obtain ⟨a, ma, rfl⟩ := List.mem_map.mp hb
  obtain ⟨a1, a2, a3, a4⟩ := hm a ma
  obtain ⟨k1, k2⟩ := hk a ma
  exact ⟨ha _ a1 _ a2 k1, hu _ a3 _ a4 k2⟩
/-- what stands behind each part of law's blocks -/
def BI (d g c : Addr) (m t u : Int) (H : Hp) (σ : L2.St) (H1 : Hp) : Prop := ∃ (F : Addr) (bs : List Bk) (way many : Int) (x5 x6 x7 : Option V) (t1 : Int),
  σ = [some (.ref d), some (.int m), some (.int way), some (.ref F), some (.int many), x5, x6, x7, none, none] ∧ H F = none ∧ Bl H1 F bs ∧ (∀ b ∈ bs, b.ok) ∧ bs.Nodup ∧ (bs.length : Int) ≤ m ∧ 0 ≤ many ∧ many ≤ 12 ∧ Fr d g H H1 ∧ Dr H1 d g c t1 ∧ t1 ≤ t + u ∧ (u ≤ 12 → way = 5 → bs = [])
/-- ahead of turn i of the loop that lays blocks in a row -/
def B5 (d g c F : Addr) (m way many t : Int) (x6 x7 : Option V) (H : Hp) (i : Nat) (σ : L2.St) (H3 : Hp) : Prop := ∃ (bs : List Bk) (x5 : Option V) (t3 : Int),
      σ = [some (.ref d), some (.int m), some (.int way), some (.ref F), some (.int many), x5, x6, x7, none, none] ∧ Bl H3 F bs ∧ (∀ b ∈ bs, b.ok) ∧ bs.Nodup ∧ bs.length = i ∧ (∀ b ∈ bs, b.l < 3 * (i : Int)) ∧ Fr d g H H3 ∧ Dr H3 d g c t3 ∧ t3 ≤ t + 12 + 2 * i
/-- ahead of turn i of the loop that draws blocks -/
def BJ (d g c F : Addr) (m way many t : Int) (H : Hp) (i : Nat) (σ : L2.St) (H3 : Hp) : Prop := ∃ (bs : List Bk) (x5 x6 x7 : Option V) (t3 : Int),
      σ = [some (.ref d), some (.int m), some (.int way), some (.ref F), some (.int many), x5, x6, x7, none, none] ∧ Bl H3 F bs ∧ (∀ b ∈ bs, b.ok) ∧ bs.Nodup ∧ (bs.length : Int) ≤ m ∧ Fr d g H H3 ∧ Dr H3 d g c t3 ∧ t3 ≤ t + 41 + 4 * i
section
variable {P : Program} {w : World} {K : PySem.W.Frag} {mg : Str → Option Value} {base : Heap}
theorem ok_l_blocks (T : Txt K mg) : FnOk P w K mg base CX0 5 T.l_blocks.a T.l_blocks.d ["draw", "most"] spBlocks := by
  refine T.l_blocks.F.ok c_l_blocks (fun vs H Q E h => ?_) (fun cdv A outer s H vs Q E hr h => ?_)
  · obtain ⟨d, g, c, t, m, rfl, _⟩ := h
    rfl
  · obtain ⟨d, g, c, t, m, rfl, hD, ht, hm1, hm2, k⟩ := h
    refine ⟨_,
      (pss_cons (ps_par (i := 2) (j := 3) rfl c_l_blocks.nd rfl rfl (by decide) rfl rfl (pa_cons (pe_call (ok_l_take T) (hr.mono (by decide)) rfl T.l_take.g T.l_take.k T.l_take.b .nil pass0 (pa_cons (pv 0) (pa_cons pe_int pa_nil))) (pa_cons (pe_lst pa_nil) pa_nil)) (by with_unfolding_all rfl))
      (pss_cons (ps_set (i := 4) c_l_blocks.nd rfl (Or.inl rfl) (pe_op op_add pe_int (pe_call (ok_l_take T) (hr.mono (by decide)) rfl T.l_take.g T.l_take.k T.l_take.b .nil pass0 (pa_cons (pv 0) (pa_cons (pv 1) pa_nil)))))
      (C8.pss_cut (ps_if (PW.pt (pw_and (pt_cmpR op_lt (pv 2) pe_int (nomark _)) (pw_and1 (pt_cmpR op_ge (pv 1) pe_int (nomark _)))))
      (pss_cons (ps_set (i := 3) c_l_blocks.nd rfl (Or.inl rfl) (pe_call (ok_l_pen T) (hr.mono (by decide)) rfl T.l_pen.g T.l_pen.k T.l_pen.b .nil pass0 (pa_cons (pv 0) (pa_cons pe_int (pa_cons pe_int (pa_cons (pe_op op_add pe_int (pe_call (ok_l_take T) (hr.mono (by decide)) rfl T.l_take.g T.l_take.k T.l_take.b .nil pass0 (pa_cons (pv 0) (pa_cons pe_int pa_nil)))) (pa_cons (pe_op op_add pe_int (pe_call (ok_l_take T) (hr.mono (by decide)) rfl T.l_take.g T.l_take.k T.l_take.b .nil pass0 (pa_cons (pv 0) (pa_cons pe_int pa_nil)))) pa_nil)))))))
      (pss_one (ps_set (i := 4) c_l_blocks.nd rfl (Or.inl rfl) (pe_callB (call_min2 rfl) (by rfl) T.z_min (by decide +kernel) (pa_cons (pe_call (ok_l_take T) (hr.mono (by decide)) rfl T.l_take.g T.l_take.k T.l_take.b .nil pass0 (pa_cons (pv 0) (pa_cons (pe_op op_sub (pv 1) pe_int) pa_nil))) (pa_cons (pe_call (ok_l_take T) (hr.mono (by decide)) rfl T.l_take.g T.l_take.k T.l_take.b .nil pass0 (pa_cons (pv 0) (pa_cons pe_int pa_nil))) pa_nil))))))
      pss_nil)
      (C8.pss_cut (ps_if (pt_cmpR op_eq (pv 2) pe_int (nomark _))
      (pss_cons (ps_for PassesOwn.never rfl (pi_range1 rfl T.z_range (pa_cons (pe_callB (call_min2 rfl) (by rfl) T.z_min (by decide +kernel) (pa_cons (pv 4) (pa_cons (pv 1) pa_nil))) pa_nil)) (pg_name (i := 5) c_l_blocks.nd rfl (Or.inl rfl))
      (pss_one (ps_expr (pe_bm PySem.F.plainAttrs_list PySem.F.slot_list_append PySem.F.type_list_append mt_append (pv 3) (pa_cons (pe_tup (pa_cons (pe_op op_mul pe_int (pv 5)) (pa_cons (pe_op op_mul pe_int (pv 5)) (pa_cons (pe_op op_add (pe_op op_add (pe_op op_mul pe_int (pv 5)) pe_int) (pe_call (ok_l_take T) (hr.mono (by decide)) rfl T.l_take.g T.l_take.k T.l_take.b .nil pass0 (pa_cons (pv 0) (pa_cons pe_int pa_nil)))) (pa_cons (pe_op op_add (pe_op op_add (pe_op op_mul pe_int (pv 5)) pe_int) (pe_call (ok_l_take T) (hr.mono (by decide)) rfl T.l_take.g T.l_take.k T.l_take.b .nil pass0 (pa_cons (pv 0) (pa_cons pe_int pa_nil)))) pa_nil))))) pa_nil)))))
      (pss_one (ps_set (i := 4) c_l_blocks.nd rfl (Or.inl rfl) (pe_ifExp (pt_cmpR op_gt (pv 4) pe_int (nomark _)) (pe_op op_sub (pv 1) (pe_callB call_len_seq (by rfl) T.z_len (by decide +kernel) (pa_cons (pv 3) pa_nil))) pe_int))))
      pss_nil)
      (C8.pss_cut (ps_if (PW.pt (pw_and (pt_cmpR op_eq (pv 2) pe_int (nomark _)) (pw_and1 (pt_cmpR op_eq (pe_call (ok_l_take T) (hr.mono (by decide)) rfl T.l_take.g T.l_take.k T.l_take.b .nil pass0 (pa_cons (pv 0) (pa_cons pe_int pa_nil))) pe_int (nomark _)))))
      (pss_one (ps_set (i := 4) c_l_blocks.nd rfl (Or.inl rfl) pe_int))
      pss_nil)
      (pss_cons (ps_for PassesOwn.never rfl (pi_range1 rfl T.z_range (pa_cons (pv 4) pa_nil)) (pg_name (i := 6) c_l_blocks.nd rfl (Or.inl rfl))
      (pss_cons (ps_set (i := 7) c_l_blocks.nd rfl (Or.inl rfl) (pe_call (ok_l_block T) (hr.mono (by decide)) rfl T.l_block.g T.l_block.k T.l_block.b .nil pass0 (pa_cons (pv 0) (pa_cons pe_int pa_nil))))
      (pss_one (ps_if (PW.pt (pw_and (pt_cmpR (op_notInD (un65 hr)) (pv 7) (pv 3) rfl) (pw_and1 (pt_cmpR op_lt (pe_callB call_len_seq (by rfl) T.z_len (by decide +kernel) (pa_cons (pv 3) pa_nil)) (pv 1) (nomark _)))))
      (pss_one (ps_expr (pe_bm PySem.F.plainAttrs_list PySem.F.slot_list_append PySem.F.type_list_append mt_append (pv 3) (pa_cons (pv 7) pa_nil))))
      pss_nil))))
      (pss_cons (ps_set (i := 8) c_l_blocks.nd rfl (Or.inl rfl) (pe_call (ok_l_table T) (hr.mono (by decide)) rfl T.l_table.g T.l_table.k T.l_table.b .nil pass0 (pa_cons (pv 0) (pa_cons (pe_op op_cat (pe_lc (own := [("block", 7)]) (g := gName 7) (by rfl) c_l_blocks.nd (pi_list (pv 3)) (blkOk_by (own := [("block", 7)]) (N := N_l_blocks) (sc := defScope S_l_blocks) (by decide +kernel)) (fun _ _ _ _ _ => pg_name (i := 7) c_l_blocks.nd rfl (Or.inl rfl)) (fun _ _ _ _ _ => pts_nil) (fun _ _ _ _ _ => (pe_ix (r := rIxT K) ix_tup (pv 7) pe_int (fun _ _ => rfl)))) (pe_lc (own := [("block", 7)]) (g := gName 7) (by rfl) c_l_blocks.nd (pi_list (pv 3)) (blkOk_by (own := [("block", 7)]) (N := N_l_blocks) (sc := defScope S_l_blocks) (by decide +kernel)) (fun _ _ _ _ _ => pg_name (i := 7) c_l_blocks.nd rfl (Or.inl rfl)) (fun _ _ _ _ _ => pts_nil) (fun _ _ _ _ _ => (pe_ix (r := rIxT K) ix_tup (pv 7) pe_int (fun _ _ => rfl))))) pa_nil))))
      (pss_cons (ps_set (i := 9) c_l_blocks.nd rfl (Or.inl rfl) (pe_call (ok_l_table T) (hr.mono (by decide)) rfl T.l_table.g T.l_table.k T.l_table.b .nil pass0 (pa_cons (pv 0) (pa_cons (pe_op op_cat (pe_lc (own := [("block", 7)]) (g := gName 7) (by rfl) c_l_blocks.nd (pi_list (pv 3)) (blkOk_by (own := [("block", 7)]) (N := N_l_blocks) (sc := defScope S_l_blocks) (by decide +kernel)) (fun _ _ _ _ _ => pg_name (i := 7) c_l_blocks.nd rfl (Or.inl rfl)) (fun _ _ _ _ _ => pts_nil) (fun _ _ _ _ _ => (pe_ix (r := rIxT K) ix_tup (pv 7) pe_int (fun _ _ => rfl)))) (pe_lc (own := [("block", 7)]) (g := gName 7) (by rfl) c_l_blocks.nd (pi_list (pv 3)) (blkOk_by (own := [("block", 7)]) (N := N_l_blocks) (sc := defScope S_l_blocks) (by decide +kernel)) (fun _ _ _ _ _ => pg_name (i := 7) c_l_blocks.nd rfl (Or.inl rfl)) (fun _ _ _ _ _ => pts_nil) (fun _ _ _ _ _ => (pe_ix (r := rIxT K) ix_tup (pv 7) pe_int (fun _ _ => rfl))))) pa_nil))))
      (pss_one (ps_ret (pe_callB (GS.cr_sortL (d := 4) (by decide)) (by rfl) T.z_sorted (by decide +kernel) (pa_cons (pe_call (ok_l_stretched T) (hr.mono (by decide)) rfl T.l_stretched.g T.l_stretched.k T.l_stretched.b .nil pass0 (pa_cons (pv 3) (pa_cons (pv 8) (pa_cons (pv 9) pa_nil)))) pa_nil))))))))))))
      , ?_⟩
    refine ⟨.ref d, rfl, d, g, c, t, 8, rfl, hD, by omega, by decide, by decide, fun H1 way t1 hw0 hw1 ht1 f1 d1 => ?_⟩
    refine ⟨Nat.zero_le _, fun F hF => ?_⟩
    have d2 := d1.grow (same_new (o := .lst []) hF)
    have f2 := f1.trans (Fr.of (same_new (o := .lst []) hF))
    have hF0 : H F = none := Fr.free hD d1 f1 hF
    obtain ⟨nFd, nFg⟩ := hD.new hF0
    have nFc := hD.newc hF0
    refine ⟨_, _, rfl, ?_⟩
    refine ⟨.ref d, rfl, .int m, rfl, d, g, c, t1, m, rfl, d2, by omega, by omega, by omega, fun H3 r t3 hr0 hr1 ht3 f3 d3 => ⟨_, _, rfl, rfl, ?_⟩⟩
    have f13 := f2.trans f3
    have hF3 : Bl H3 F [] := ⟨[], f3 F _ nFd nFg upd_same, .nil⟩
    -- a pen, or none
    refine ⟨BI d g c m t 12 H, ?_, ?_⟩
    · have els : BI d g c m t 12 H [some (.ref d), some (.int m), some (.int way), some (.ref F), some (.int (1 + r)), none, none, none, none, none] H3 :=
        ⟨F, [], way, 1 + r, none, none, none, t3, rfl, hF0, hF3, (fun b hb => absurd hb (by simp)), List.nodup_nil, by show ((0 : Nat) : Int) ≤ m; omega, by omega, by omega, f13, d3, by omega, fun _ _ => rfl⟩
      refine ⟨.int way, rfl, way, 5, rfl, rfl, _, rfl, ite2 (fun e5 => ?_) (fun _ => els)⟩
      have w5 : way < 5 := of_decide_eq_true e5
      refine ⟨.int m, rfl, m, 4, rfl, rfl, _, rfl, ite2 (fun e4 => ?_) (fun _ => els)⟩
      have hm4 : m ≥ 4 := of_decide_eq_true e4
      refine ⟨.ref d, rfl, .ref d, rfl, d, g, c, t3, 5, rfl, d3, by omega, by decide, by decide, fun H4 r4 t4 h40 h41 ht4 f4 d4 => ⟨_, _, rfl, rfl, ?_⟩⟩
      refine ⟨.ref d, rfl, d, g, c, t4, 5, rfl, d4, by omega, by decide, by decide, fun H5 r5 t5 h50 h51 ht5 f5 d5 => ⟨_, _, rfl, rfl, ?_⟩⟩
      refine ⟨d, g, c, t5, 2, 2, 2 + r4, 2 + r5, rfl, d5, by omega, by omega, by omega, fun H6 z bs t6 hbl hlen hok hnd ht6 hz f6 d6 => ?_⟩
      refine ⟨.ref d, rfl, .int m, rfl, m, 3, rfl, rfl, d, g, c, t6, m - 3, rfl, d6, by omega, by omega, by omega, fun H7 r7 t7 h70 h71 ht7 f7 d7 => ?_⟩
      refine ⟨.ref d, rfl, d, g, c, t7, 4, rfl, d7, by omega, by decide, by decide, fun H8 r8 t8 h80 h81 ht8 f8 d8 => ⟨_, _, rfl, ?_⟩⟩
      have f15 := f13.trans (f4.trans f5)
      refine ⟨z, bs, way, (if r8 < r7 then r8 else r7), none, none, none, t8, rfl, Fr.free hD d5 f15 hz, ?_, hok, hnd, by rw [hlen]; exact hm4, by split <;> omega, by split <;> omega, f15.trans (f6.trans (f7.trans f8)), d8, by omega, fun _ z => by omega⟩
      have ng : z ≠ g := (d5.new hz).2
      exact (hbl.fr d6 f7 ng).fr d7 f8 ng
    clear f3 d3 d2 f2 f1 d1 hF hF3 f13 hF0 nFd nFg nFc
    rintro σ H9 ⟨F, bs, way, many, x5, x6, x7, t9, rfl, hF0, hbl, hok, hnd, hlen, hn0, hn1, f9, d9, ht9, h5⟩
    -- a row of blocks, or none
    refine ⟨BI d g c m t 40 H, ?_, ?_⟩
    · refine ⟨.int way, rfl, rfl, _, rfl, ite2 (fun e5 => ?_) (fun _ => ⟨F, bs, way, many, x5, x6, x7, t9, rfl, hF0, hbl, hok, hnd, hlen, hn0, hn1, f9, d9, by omega, fun z => absurd z (by decide)⟩)⟩
      refine ⟨.int many, rfl, .int m, rfl, many, m, rfl, ?_⟩
      have h0 : 0 ≤ (if m < many then m else many) := by split <;> omega
      have h12 : (if m < many then m else many) ≤ 12 := by split <;> omega
      have hmn : (if m < many then m else many) ≤ m := by split <;> omega
      generalize (if m < many then m else many) = n at h0 h12 hmn ⊢
      have w5 : way = 5 := V.int.inj (of_decide_eq_true e5)
      have e0 := h5 (by decide) w5
      subst e0
      clear hok hnd hlen h5
      obtain ⟨nFd, nFg⟩ := hD.new hF0
      have nFc := hD.newc hF0
      refine ⟨n, rfl, by omega, by omega, ?_⟩
      refine for_range (lo := 0) (n := n.toNat) (B5 d g c F m way many t x6 x7 H) ⟨[], x5, t9, rfl, hbl, (fun b hb => absurd hb (by simp)), List.nodup_nil, rfl, (fun b hb => absurd hb (by simp)), f9, d9, by omega⟩ ?_ ?_
      · intro i σ H3 hi hP
        obtain ⟨bs, x5, t3, rfl, hbl, hok, hnd, hlen, hlt, f3, d3, ht3⟩ := hP
        have hi12 : i < 12 := by omega
        obtain ⟨rs, h1, hb⟩ := id hbl
        refine ⟨.ref F, rfl, .inl ⟨rfl, _, SqL.of h1⟩, ?_⟩
        refine ⟨.int (0 + i), rfl, 3, _, rfl, rfl, .inl ⟨by decide, by decide⟩, .int (0 + i), rfl, 2, _, rfl, rfl, .inl ⟨by decide, by decide⟩, ?_⟩
        refine ⟨.int (0 + i), rfl, 3, _, rfl, rfl, .inl ⟨by decide, by decide⟩, _, _, rfl, rfl, .ref d, rfl, d, g, c, t3, 4, rfl, d3, by omega, by decide, by decide, fun H4 r4 t4 h40 h41 ht4 f4 d4 => ⟨_, _, rfl, rfl, ?_⟩⟩
        refine ⟨.int (0 + i), rfl, 2, _, rfl, rfl, .inl ⟨by decide, by decide⟩, _, _, rfl, rfl, .ref d, rfl, d, g, c, t4, 3, rfl, d4, by omega, by decide, by decide, fun H5 r5 t5 h50 h51 ht5 f5 d5 => ⟨_, _, rfl, rfl, by show 4 ≤ sizeLine; decide, fun z hz => ?_⟩⟩
        have hbl5 := (hbl.fr d3 f4 nFg).fr d4 f5 nFg
        obtain ⟨acc, q1, q2, q3⟩ := bl_add (b := Bk.mk (3 * (0 + (i : Int))) (2 * (0 + (i : Int))) (3 * (0 + (i : Int)) + 1 + r4) (2 * (0 + (i : Int)) + 1 + r5)) hbl5 hz
        refine ⟨F, acc, _, rfl, rfl, q1, by rw [q2]; exact sz_few (by omega), bs ++ [Bk.mk (3 * (0 + (i : Int))) (2 * (0 + (i : Int))) (3 * (0 + (i : Int)) + 1 + r4) (2 * (0 + (i : Int)) + 1 + r5)], _, t5, rfl, q3, fun y hy => ?_, ?_, by rw [List.length_append, List.length_singleton, hlen], fun y hy => ?_, Fr.own hF0 ((f3.trans (f4.trans f5)).trans (Fr.of (same_new hz))), Dr.own hD (d5.grow (same_new hz)) hF0 (fun _ => nFc), by omega⟩
        · rcases List.mem_append.mp hy with q | q
          · exact hok y q
          · rw [List.mem_singleton.mp q]
            exact ⟨by show 3 * (0 + (i : Int)) < 3 * (0 + (i : Int)) + 1 + r4; omega, by show 2 * (0 + (i : Int)) < 2 * (0 + (i : Int)) + 1 + r5; omega⟩
        · refine List.nodup_append.mpr ⟨hnd, List.nodup_cons.mpr ⟨by simp, List.nodup_nil⟩, fun x hx y hy e => ?_⟩
          have q := hlt x hx
          rw [e, List.mem_singleton.mp hy] at q
          have q2 : 3 * (0 + (i : Int)) < 3 * (i : Int) := q
          omega
        · rcases List.mem_append.mp hy with q | q
          · have := hlt y q
            omega
          · rw [List.mem_singleton.mp q]
            show 3 * (0 + (i : Int)) < 3 * ((i + 1 : Nat) : Int)
            omega
      · intro σ H3 hP
        obtain ⟨bs, x5, t3, rfl, hbl, hok, hnd, hlen, hlt, f3, d3, ht3⟩ := hP
        obtain ⟨rs, h1, hb⟩ := id hbl
        have hlr : (rs.map V.ref).length = bs.length := by rw [List.length_map, pd_len hb]
        have hle : (bs.length : Int) ≤ m := by omega
        refine ⟨.int many, rfl, many, 2, rfl, rfl, _, rfl, ite2 (fun _ => ?_) (fun _ => ?_)⟩
        · refine ⟨.int m, rfl, .ref F, rfl, F, _, rfl, .inl (SqL.of h1), m, _, rfl, rfl, ?_⟩
          exact ⟨F, bs, way, _, x5, x6, x7, t3, rfl, hF0, hbl, hok, hnd, hle, by rw [hlr]; omega, by rw [hlr]; omega, f3, d3, by omega, fun z => absurd z (by decide)⟩
        · exact ⟨F, bs, way, 0, x5, x6, x7, t3, rfl, hF0, hbl, hok, hnd, hle, by decide, by decide, f3, d3, by omega, fun z => absurd z (by decide)⟩
    clear f9 d9 ht9 hbl hF0 hok hnd hlen hn0 hn1
    rintro σ H9 ⟨F, bs, way, many, x5, x6, x7, t9, rfl, hF0, hbl, hok, hnd, hlen, hn0, hn1, f9, d9, ht9, _⟩
    -- none at all, now and then
    refine ⟨BI d g c m t 41 H, ?_, ?_⟩
    · have els : BI d g c m t 41 H [some (.ref d), some (.int m), some (.int way), some (.ref F), some (.int many), x5, x6, x7, none, none] H9 :=
        ⟨F, bs, way, many, x5, x6, x7, t9, rfl, hF0, hbl, hok, hnd, hlen, hn0, hn1, f9, d9, by omega, fun z => absurd z (by decide)⟩
      refine ⟨.int way, rfl, rfl, _, rfl, ite2 (fun _ => ?_) (fun _ => els)⟩
      refine ⟨.ref d, rfl, d, g, c, t9, 4, rfl, d9, by omega, by decide, by decide, fun H3 r t3 r0 r1 ht3 f3 d3 => ⟨rfl, _, rfl, ?_⟩⟩
      obtain ⟨nFd, nFg⟩ := hD.new hF0
      exact ite2 (fun _ => ⟨F, bs, way, 0, x5, x6, x7, t3, rfl, hF0, hbl.fr d9 f3 nFg, hok, hnd, hlen, by decide, by decide, f9.trans f3, d3, by omega, fun z => absurd z (by decide)⟩)
        (fun _ => ⟨F, bs, way, many, x5, x6, x7, t3, rfl, hF0, hbl.fr d9 f3 nFg, hok, hnd, hlen, hn0, hn1, f9.trans f3, d3, by omega, fun z => absurd z (by decide)⟩)
    clear f9 d9 ht9 hbl hF0 hok hnd hlen hn0 hn1
    rintro σ H9 ⟨F, bs0, way, many, x5, x6, x7, t9, rfl, hF0, hbl0, hok0, hnd0, hlen0, hn0, hn1, f9, d9, ht9, _⟩
    obtain ⟨nFd, nFg⟩ := hD.new hF0
    have nFc := hD.newc hF0
    refine ⟨.int many, rfl, many, rfl, by omega, by omega, ?_⟩
    refine for_range (lo := 0) (n := many.toNat) (BJ d g c F m way many t H)
      ⟨bs0, x5, x6, x7, t9, rfl, hbl0, hok0, hnd0, hlen0, f9, d9, by omega⟩ ?_ ?_
    · intro i σ H3 hi hP
      obtain ⟨bs, x5, x6, x7, t3, rfl, hbl, hok, hnd, hlen, f3, d3, ht3⟩ := hP
      have hi12 : i < 12 := by omega
      refine ⟨.ref d, rfl, d, g, c, t3, 9, rfl, d3, by omega, by decide, by decide, fun H4 z b t4 bok ht4 hz3 hz4 f4 d4 => ?_⟩
      have hbl4 := hbl.fr d3 f4 nFg
      obtain ⟨rs, h1, hb⟩ := id hbl4
      have f34 := f3.trans f4
      have els : BJ d g c F m way many t H (i + 1) [some (.ref d), some (.int m), some (.int way), some (.ref F), some (.int many), x5, some (.int (0 + (i : Int))), some (.ref z), none, none] H4 :=
        ⟨bs, x5, _, _, t4, rfl, hbl4, hok, hnd, hlen, f34, d4, by omega⟩
      refine ⟨.ref z, rfl, .ref F, rfl, _, _, GS.dp_t (ns := b.n) (SqT.of hz4), GS.dp_lrefs (f := Bk.n) (F := fun r b => H4 r = some (.tup (Bk.v b))) (fun _ _ e => e) (SqL.of h1) hb, GS.shaped_t _, GS.shaped_ts _, _, rfl, ?_⟩
      rw [any_blk]
      refine ite2 (fun e => ?_) (fun _ => iteF els)
      have nin : b ∉ bs := fun q => by
        rw [decide_eq_true q] at e
        cases e
      refine ⟨.ref F, rfl, F, _, rfl, .inl (SqL.of h1), .int m, rfl, _, m, rfl, rfl, _, rfl, ite2 (fun e2 => ?_) (fun _ => els)⟩
      have lt : ((rs.map V.ref).length : Int) < m := of_decide_eq_true e2
      rw [List.length_map, pd_len hb] at lt
      obtain ⟨acc, q1, q2, q3⟩ := bl_put hbl4 hz4
      refine ⟨.ref F, rfl, .inl ⟨rfl, _, SqL.of q1⟩, .ref z, rfl, F, acc, _, rfl, rfl, q1, by rw [q2]; exact sz_few (by omega), bs ++ [b], x5, _, _, t4, rfl, q3, fun y hy => ?_, ?_, ?_, Fr.own hF0 f34, Dr.own hD d4 hF0 (fun _ => nFc), by omega⟩
      · rcases List.mem_append.mp hy with q | q
        · exact hok y q
        · rw [List.mem_singleton.mp q]
          exact bok
      · exact List.nodup_append.mpr ⟨hnd, List.nodup_cons.mpr ⟨by simp, List.nodup_nil⟩, fun x hx y hy e => nin (by rw [← List.mem_singleton.mp hy, ← e]; exact hx)⟩
      · rw [List.length_append, List.length_singleton]
        omega
    · intro σ H3 hP
      obtain ⟨bs, x5, x6, x7, t3, rfl, hbl, hok, hnd, hlen, f3, d3, ht3⟩ := hP
      clear hlen0 hbl0 hok0 hnd0 f9 d9 ht9
      have F0g := nFg
      obtain ⟨rs, h1, hb⟩ := id hbl
      have hlr : (rs.map V.ref).length = bs.length := by rw [List.length_map, pd_len hb]
      have h12 : bs.length ≤ 12 := by omega
      -- across
      have hbH3 : Bks H3 rs bs := hb
      refine ⟨.ref d, rfl, ?_⟩
      refine ⟨.ref F, rfl, F, rfl, ⟨_, SqL.of h1⟩, fun DA hDA => it_list (Pv := fun i Hq => Same H3 Hq ∧ Hq DA = some (.lst ((bs.take i).map fun b => V.int b.l))) ⟨same_new hDA, upd_same⟩ (fun i Hq hP => SqL.of (hP.1 _ _ h1)) ?_ ?_⟩
      · intro i x Hq hx hP
        obtain ⟨S4, h4⟩ := hP
        obtain ⟨r, hr1, rfl⟩ := at_map hx
        obtain ⟨b, gb, hb1⟩ := pd_at hbH3 hr1
        obtain ⟨c1, c2⟩ := col_step (f := fun b => b.l) hDA S4 gb
        exact ⟨rfl, yes2 ⟨.ref r, rfl, r, b.v, 0, .int b.l, rfl, rfl, SqT.of (S4 _ _ hb1), atI_nat (j := 0) rfl, _, h4, by rw [List.length_map, List.length_take]; exact sz_few (by omega), c1, c2⟩⟩
      rintro H4 ⟨SH4, hDA4⟩
      rw [hlr, List.take_length] at hDA4
      have hbH4 : Bks H4 rs bs := pd_imp hbH3 fun _ _ => SH4 _ _
      have h1H4 := SH4 _ _ h1
      refine ⟨.ref F, rfl, F, rfl, ⟨_, SqL.of h1H4⟩, fun E hE => it_list (Pv := fun i Hq => Same H4 Hq ∧ Hq E = some (.lst ((bs.take i).map fun b => V.int b.r))) ⟨same_new hE, upd_same⟩ (fun i Hq hP => SqL.of (hP.1 _ _ h1H4)) ?_ ?_⟩
      · intro i x Hq hx hP
        obtain ⟨S4, h4⟩ := hP
        obtain ⟨r, hr1, rfl⟩ := at_map hx
        obtain ⟨b, gb, hb1⟩ := pd_at hbH4 hr1
        obtain ⟨c1, c2⟩ := col_step (f := fun b => b.r) hE S4 gb
        exact ⟨rfl, yes2 ⟨.ref r, rfl, r, b.v, 2, .int b.r, rfl, rfl, SqT.of (S4 _ _ hb1), atI_nat (j := 2) rfl, _, h4, by rw [List.length_map, List.length_take]; exact sz_few (by omega), c1, c2⟩⟩
      rintro H5 ⟨SH5, hE5⟩
      rw [hlr, List.take_length] at hE5
      refine ⟨DA, E, _, _, rfl, rfl, SH5 _ _ hDA4, hE5, by rw [List.length_map, List.length_map]; exact Nat.le_of_lt (sz_few (by omega)), fun zDA hzDA => ?_⟩
      have SH6 := SH4.trans (SH5.trans (same_new (o := .lst ((bs.map fun b => V.int b.l) ++ bs.map fun b => V.int b.r)) hzDA))
      have dH6 := d3.grow SH6
      refine ⟨d, g, c, zDA, t3, (bs.map fun b => b.l) ++ bs.map fun b => b.r, rfl, dH6, by omega, ?_, ((d3.grow (SH4.trans SH5)).new hzDA).2, by rw [List.length_append, List.length_map, List.length_map]; omega, fun H7 A tA fa htA hzA hTA mono fH7 dH7 => ?_⟩
      · refine SqL.of ?_
        rw [upd_same, List.map_append, List.map_map, List.map_map]
        rfl
      have ffH7 : Fr d g H3 H7 := (Fr.of SH6).trans fH7
      have hbl7 := hbl.fr d3 ffH7 nFg
      obtain ⟨rs7, h17, hb7⟩ := id hbl7
      clear hlr hbH3 hb h1
      obtain ⟨rs, h1, hb⟩ := id hbl7
      have hlr : (rs.map V.ref).length = bs.length := by rw [List.length_map, pd_len hb]
      -- up
      have hbH7 : Bks H7 rs bs := hb
      refine ⟨.ref d, rfl, ?_⟩
      refine ⟨.ref F, rfl, F, rfl, ⟨_, SqL.of h1⟩, fun D2 hD2 => it_list (Pv := fun i Hq => Same H7 Hq ∧ Hq D2 = some (.lst ((bs.take i).map fun b => V.int b.d))) ⟨same_new hD2, upd_same⟩ (fun i Hq hP => SqL.of (hP.1 _ _ h1)) ?_ ?_⟩
      · intro i x Hq hx hP
        obtain ⟨S4, h4⟩ := hP
        obtain ⟨r, hr1, rfl⟩ := at_map hx
        obtain ⟨b, gb, hb1⟩ := pd_at hbH7 hr1
        obtain ⟨c1, c2⟩ := col_step (f := fun b => b.d) hD2 S4 gb
        exact ⟨rfl, yes2 ⟨.ref r, rfl, r, b.v, 1, .int b.d, rfl, rfl, SqT.of (S4 _ _ hb1), atI_nat (j := 1) rfl, _, h4, by rw [List.length_map, List.length_take]; exact sz_few (by omega), c1, c2⟩⟩
      rintro H8 ⟨SH8, hD24⟩
      rw [hlr, List.take_length] at hD24
      have hbH8 : Bks H8 rs bs := pd_imp hbH7 fun _ _ => SH8 _ _
      have h1H8 := SH8 _ _ h1
      refine ⟨.ref F, rfl, F, rfl, ⟨_, SqL.of h1H8⟩, fun E2 hE2 => it_list (Pv := fun i Hq => Same H8 Hq ∧ Hq E2 = some (.lst ((bs.take i).map fun b => V.int b.u))) ⟨same_new hE2, upd_same⟩ (fun i Hq hP => SqL.of (hP.1 _ _ h1H8)) ?_ ?_⟩
      · intro i x Hq hx hP
        obtain ⟨S4, h4⟩ := hP
        obtain ⟨r, hr1, rfl⟩ := at_map hx
        obtain ⟨b, gb, hb1⟩ := pd_at hbH8 hr1
        obtain ⟨c1, c2⟩ := col_step (f := fun b => b.u) hE2 S4 gb
        exact ⟨rfl, yes2 ⟨.ref r, rfl, r, b.v, 3, .int b.u, rfl, rfl, SqT.of (S4 _ _ hb1), atI_nat (j := 3) rfl, _, h4, by rw [List.length_map, List.length_take]; exact sz_few (by omega), c1, c2⟩⟩
      rintro H9 ⟨SH9, hE25⟩
      rw [hlr, List.take_length] at hE25
      refine ⟨D2, E2, _, _, rfl, rfl, SH9 _ _ hD24, hE25, by rw [List.length_map, List.length_map]; exact Nat.le_of_lt (sz_few (by omega)), fun zD2 hzD2 => ?_⟩
      have SH10 := SH8.trans (SH9.trans (same_new (o := .lst ((bs.map fun b => V.int b.d) ++ bs.map fun b => V.int b.u)) hzD2))
      have dH10 := dH7.grow SH10
      refine ⟨d, g, c, zD2, tA, (bs.map fun b => b.d) ++ bs.map fun b => b.u, rfl, dH10, by omega, ?_, ((dH7.grow (SH8.trans SH9)).new hzD2).2, by rw [List.length_append, List.length_map, List.length_map]; omega, fun H11 U tU fu htU hzU hTU mono2 fH11 dH11 => ?_⟩
      · refine SqL.of ?_
        rw [upd_same, List.map_append, List.map_map, List.map_map]
        rfl
      have ffH11 : Fr d g H7 H11 := (Fr.of SH10).trans fH11
      have fall := ffH7.trans ffH11
      have hbl11 := hbl7.fr dH7 ffH11 nFg
      have hA0 : H3 A = none := Fr.free d3 dH6 (Fr.of SH6) hzA
      have hTA11 : Tab H11 A fa ((bs.map fun b => b.l) ++ bs.map fun b => b.r) := by
        obtain ⟨kvs, k1, k2⟩ := hTA
        obtain ⟨nAd, nAg⟩ := d3.new hA0
        exact ⟨kvs, ffH11 A _ nAd nAg k1, k2⟩
      have mem : ∀ b ∈ bs, b.l ∈ ((bs.map fun b => b.l) ++ bs.map fun b => b.r) ∧ b.r ∈ ((bs.map fun b => b.l) ++ bs.map fun b => b.r) ∧ b.d ∈ ((bs.map fun b => b.d) ++ bs.map fun b => b.u) ∧ b.u ∈ ((bs.map fun b => b.d) ++ bs.map fun b => b.u) := fun b hb =>
        ⟨List.mem_append.mpr (.inl (List.mem_map.mpr ⟨b, hb, rfl⟩)), List.mem_append.mpr (.inr (List.mem_map.mpr ⟨b, hb, rfl⟩)), List.mem_append.mpr (.inl (List.mem_map.mpr ⟨b, hb, rfl⟩)), List.mem_append.mpr (.inr (List.mem_map.mpr ⟨b, hb, rfl⟩))⟩
      refine ⟨.ref F, rfl, .ref A, rfl, .ref U, rfl, F, A, U, bs, fa, fu, _, _, rfl, hbl11, hTA11, hTU, mem, by omega, fun H12 z12 S12 hz12 hb12 => ?_⟩
      obtain ⟨rs12, e12, p12⟩ := hb12
      refine ⟨z12, _, rfl, SqL.of e12, fun x hx => ?_, fun ys p pm pw hp => ?_⟩
      · obtain ⟨r, hr1, rfl⟩ := List.mem_map.mp hx
        obtain ⟨i, hi⟩ := List.mem_iff_getElem?.mp hr1
        obtain ⟨b, _, f⟩ := pd_at p12 hi
        exact ⟨b.n, ⟨r, rfl, SqT.of f⟩, rfl⟩
      obtain ⟨rs', rfl, pr⟩ := unref pm
      obtain ⟨bs', hb', pb⟩ := pd_perm pr p12
      have as' : Asc bs' := pd_pairwise (F := fun r b => H12 r = some (.tup (Bk.v b))) (R := fun a a' => ∀ n m, TupI K H12 (.ref a) n → TupI K H12 (.ref a') m → HT.lexLt m n = false) (fun a a' b b' f f' h => h b.n b'.n ⟨a, rfl, SqT.of f⟩ ⟨a', rfl, SqT.of f'⟩) hb' (List.pairwise_map.mp pw)
      have SP := same_new (o := .lst (rs'.map V.ref)) hp
      have fend := f3.trans (fall.trans ((Fr.of S12).trans (Fr.of SP)))
      have d12 := dH11.grow S12
      refine k _ p bs' tU ⟨rs', upd_same, pd_imp hb' fun r b e => SP _ _ e⟩ (fun b hb => st_ok mono mono2 mem hok b (pb.mem_iff.mp hb)) (pb.nodup_iff.mpr (st_nodup mono mono2 mem hnd)) (by rw [pb.length_eq, List.length_map]; exact hlen) as' (Fr.free hD d12 (f3.trans (fall.trans (Fr.of S12))) hp) (by omega) fend (d12.grow SP)
end
end G21
set_option Elab.async false
set_option linter.all false
set_option maxRecDepth 100000
set_option maxHeartbeats 4000000
namespace G21
open PySem PySem.Spec PyProof.Rows L2
/-- some ascending numbers from 1 on -/
def spGrid : Sp := fun vs H Q _ => ∃ (l s : Addr) (f : Int) (bs : List Bk), vs = [.ref l, .ref s, .int f] ∧ Bl H l bs ∧ H s = some (.lst []) ∧ (f = 0 ∨ f = 1) ∧ bs.length ≤ 7 ∧
  ∀ H' z (ns : List Int), Same H H' → H z = none → H' z = some (.lst (ns.map V.int)) → (∀ n ∈ ns, 1 ≤ n) → ns.length ≤ 60 → Q (.ref z) H'
def spLBody : Sp := fun vs H Q _ => ∃ (d g c l s : Addr) (t : Int) (bs : List Bk), vs = [.ref d, .ref l, .ref s] ∧ Dr H d g c t ∧ t ≤ 900000000000 ∧ Bl H l bs ∧ l ≠ g ∧ H s = some (.lst []) ∧ s ≠ g ∧ bs.length ≤ 7 ∧
  ∀ H' z a b t', 1 ≤ a → 1 ≤ b → Bo H' z a b → H z = none → t' ≤ t + 8 → Fr d g H H' → Dr H' d g c t' → Q (.ref z) H'
/-- ahead of turn i of the grid's loop -/
def GI (l s : Addr) (f : Int) (H : Hp) (i : Nat) (σ : L2.St) (H3 : Hp) : Prop := ∃ (F : Addr) (x4 x5 x6 x7 : Option V) (ns : List Int), σ = [some (.ref l), some (.ref s), some (.int f), some (.ref F), x4, x5, x6, x7] ∧ H F = none ∧ H3 F = some (.lst (ns.map V.int)) ∧ ns.length ≤ 7 * i ∧ Same H H3
/-- ahead of turn i of the body's loop -/
def BD (d g c l s F : Addr) (t : Int) (H : Hp) (i : Nat) (σ : L2.St) (H3 : Hp) : Prop := ∃ (x4 x5 x6 x7 : Option V) (ns : List Int) (t3 : Int), σ = [some (.ref d), some (.ref l), some (.ref s), some (.ref F), x4, x5, x6, x7] ∧ H3 F = some (.lst (ns.map V.int)) ∧ ns.length = i ∧ (∀ n ∈ ns, 1 ≤ n) ∧ Fr d g H H3 ∧ Dr H3 d g c t3 ∧ t3 ≤ t + 4 * i
/-- one number more in a list of our own -/
theorem int_more {H3 : Hp} {D : Addr} {ns : List Int} (x : Int) : upd H3 D (.lst (ns.map V.int ++ [.int x])) D = some (.lst ((ns ++ [x]).map V.int)) := by
  rw [upd_same, snoc_int]
theorem at_bk (b : Bk) {f : Int} (hf : f = 0 ∨ f = 1) : ∃ x y : Int, atI b.v f = some (.int x) ∧ atI b.v (f + 2) = some (.int y) := by
  rcases hf with rfl | rfl
  · exact ⟨b.l, b.r, atI_nat (j := 0) rfl, atI_nat (j := 2) rfl⟩
  · exact ⟨b.d, b.u, atI_nat (j := 1) rfl, atI_nat (j := 3) rfl⟩
section
variable {P : Program} {w : World} {K : PySem.W.Frag} {mg : Str → Option Value} {base : Heap}
theorem ok_l_grid (T : Txt K mg) : FnOk P w K mg base CX0 1 T.l_grid.a T.l_grid.d ["blocks", "spots", "flat"] spGrid := by
  refine T.l_grid.F.ok c_l_grid (fun vs H Q E h => ?_) (fun cdv A outer s H vs Q E hr h => ?_)
  · obtain ⟨l, s, f, bs, rfl, _⟩ := h
    rfl
  · obtain ⟨l, s, f, bs, rfl, hl, hs, hf, h7, k⟩ := h
    refine ⟨_,
      (pss_cons (ps_set (i := 3) c_l_grid.nd rfl (Or.inl rfl) (pe_lst pa_nil))
      (pss_cons (ps_for PassesOwn.never rfl (pi_list (pv 0)) (pg_name (i := 4) c_l_grid.nd rfl (Or.inr rfl))
      (pss_cons (ps_set (i := 3) c_l_grid.nd rfl (Or.inl rfl) (pe_op op_cat (pv 3) (pe_lc (own := [("other", 5)]) (g := gName 5) (by rfl) c_l_grid.nd (pi_list (pv 0)) (blkOk_by (own := [("other", 5)]) (N := N_l_grid) (sc := defScope S_l_grid) (by decide +kernel)) (fun _ _ _ _ _ => pg_name (i := 5) c_l_grid.nd rfl (Or.inl rfl)) (fun _ _ _ _ _ => pts_nil) (fun _ _ _ _ _ => (pe_op op_sub (pe_ix (r := rIxT K) ix_tup (pv 4) (pv 2) (fun _ _ => rfl)) (pe_ix (r := rIxT K) ix_tup (pv 5) (pe_op op_add (pv 2) pe_int) (fun _ _ => rfl)))))))
      (pss_one (ps_set (i := 3) c_l_grid.nd rfl (Or.inl rfl) (pe_op op_cat (pv 3) (pe_lc (own := [("spot", 6)]) (g := gName 6) (by rfl) c_l_grid.nd (pi_list (pv 1)) (blkOk_by (own := [("spot", 6)]) (N := N_l_grid) (sc := defScope S_l_grid) (by decide +kernel)) (fun _ _ _ _ _ => pg_name (i := 6) c_l_grid.nd rfl (Or.inl rfl)) (fun _ _ _ _ _ => pts_nil) (fun _ _ _ _ _ => (pe_op op_sub (pe_ix (r := rIxT K) ix_tup (pv 4) (pv 2) (fun _ _ => rfl)) (pe_ix (r := rIxT K) ix_tup (pv 6) (pv 2) (fun _ _ => rfl))))))))))
      (pss_one (ps_ret (pe_callB (cr_sortedSet rfl) (by rfl) T.z_sorted (by decide +kernel) (pa_cons (pe_callTy (GS.cr_setL rfl) (by rfl) T.z_set (by decide +kernel) (pa_cons (pe_lc (own := [("item", 7)]) (g := gName 7) (by rfl) c_l_grid.nd (pi_list (pv 3)) (blkOk_by (own := [("item", 7)]) (N := N_l_grid) (sc := defScope S_l_grid) (by decide +kernel)) (fun _ _ _ _ _ => pg_name (i := 7) c_l_grid.nd rfl (Or.inl rfl)) (fun _ _ _ _ _ => (pts_one (pt_cmpR op_ge (pv 7) pe_int (nomark _)))) (fun _ _ _ _ _ => (pv 7))) pa_nil)) pa_nil))))))
      , ?_⟩
    refine ⟨Nat.zero_le _, fun F0 hF0 => ?_⟩
    have S0 := same_new (o := .lst []) hF0
    obtain ⟨rs, h1, hb⟩ := id hl
    have hlr : (rs.map V.ref).length = bs.length := by rw [List.length_map, pd_len hb]
    refine ⟨.ref l, rfl, l, rfl, ⟨_, SqL.of (S0 _ _ h1)⟩, ?_⟩
    refine for_list (K := K) (a := l) (xs := rs.map V.ref) (GI l s f H) ⟨F0, none, none, none, none, [], rfl, hF0, upd_same, Nat.le_refl _, S0⟩ ?_ ?_ ?_
    · intro i σ H3 _ hP
      obtain ⟨F, x4, x5, x6, x7, ns, _, _, _, _, S3⟩ := hP
      exact SqL.of (S3 _ _ h1)
    · intro i x σ H3 hx hP
      obtain ⟨F, x4, x5, x6, x7, ns, rfl, hF, h3, hn, S3⟩ := hP
      obtain ⟨r, hr1, rfl⟩ := at_map hx
      obtain ⟨b, gb, hb1⟩ := pd_at hb hr1
      obtain ⟨b1, b2, e1, e2⟩ := at_bk b hf
      have hi : i < bs.length := (List.getElem?_eq_some_iff.mp gb).1
      have hb3 : Bks H3 rs bs := pd_imp hb fun _ _ => S3 _ _
      have h13 := S3 _ _ h1
      -- found + the gaps to all blocks
      refine ⟨.ref F, rfl, ?_⟩
      refine ⟨.ref l, rfl, l, rfl, ⟨_, SqL.of h13⟩, fun D hD => it_list (Pv := fun j Hq => Same H3 Hq ∧ ∃ ms : List Int, Hq D = some (.lst (ms.map V.int)) ∧ ms.length = j) ⟨same_new hD, [], upd_same, rfl⟩ (fun j Hq hP => SqL.of (hP.1 _ _ h13)) ?_ ?_⟩
      · intro j y Hq hy hP
        obtain ⟨S4, ms, h4, hms⟩ := hP
        obtain ⟨r2, hr2, rfl⟩ := at_map hy
        obtain ⟨p, gp, hp1⟩ := pd_at hb3 hr2
        obtain ⟨p1, p2, g1, g2⟩ := at_bk p hf
        have hj : j < bs.length := (List.getElem?_eq_some_iff.mp gp).1
        refine ⟨rfl, yes2 ⟨.ref r, rfl, .int f, rfl, r, b.v, f, .int b1, rfl, rfl, SqT.of (S4 _ _ (S3 _ _ hb1)), e1, .ref r2, rfl, .int f, rfl, f, 2, rfl, rfl, r2, p.v, f + 2, .int p2, rfl, rfl, SqT.of (S4 _ _ hp1), g2, b1, p2, rfl, rfl, ?_⟩⟩
        exact ⟨_, h4, by rw [List.length_map]; exact sz_few (by omega), own_w hD S4 (Same.refl _), ms ++ [b1 - p2], int_more _, by rw [List.length_append, List.length_singleton, hms]⟩
      rintro H4 ⟨S4, ms, h4, hms⟩
      rw [hlr] at hms
      refine ⟨F, D, _, _, rfl, rfl, S4 _ _ h3, h4, by rw [List.length_map, List.length_map]; exact Nat.le_of_lt (sz_few (by omega)), fun F2 hF2 => ?_⟩
      have S5 := S4.trans (same_new (o := .lst (ns.map V.int ++ ms.map V.int)) hF2)
      -- and nothing more
      refine ⟨.ref F2, rfl, ?_⟩
      refine ⟨.ref s, rfl, s, rfl, ⟨_, SqL.of (S5 _ _ (S3 _ _ hs))⟩, fun D2 hD2 => it_list (xs := []) (Pv := fun j Hq => Same _ Hq ∧ Hq D2 = some (.lst [])) ⟨same_new hD2, upd_same⟩ (fun j Hq hP => SqL.of (hP.1 _ _ (S5 _ _ (S3 _ _ hs)))) (fun j y Hq hy _ => by simp at hy) ?_⟩
      rintro H6 ⟨S6, h6⟩
      refine ⟨F2, D2, _, _, rfl, rfl, S6 _ _ upd_same, h6, by rw [List.length_append, List.length_map, List.length_map]; exact Nat.le_of_lt (sz_few (by show ns.length + ms.length + 0 < 10000; omega)), fun F3 hF3 => ?_⟩
      have S7 := S5.trans (S6.trans (same_new (o := .lst (ns.map V.int ++ ms.map V.int ++ [])) hF3))
      refine ⟨F3, _, _, _, _, ns ++ ms, rfl, S3.free ((S5.trans S6).free hF3), ?_, by rw [List.length_append, hms]; omega, S3.trans S7⟩
      rw [upd_same, List.append_nil, List.map_append]
    · intro σ H3 hP
      obtain ⟨F, x4, x5, x6, x7, ns, rfl, hF, h3, hn, S3⟩ := hP
      rw [hlr] at hn
      refine ⟨.ref F, rfl, F, rfl, ⟨_, SqL.of h3⟩, fun D hD => it_list (Pv := fun j Hq => Same H3 Hq ∧ ∃ ms : List Int, Hq D = some (.lst (ms.map V.int)) ∧ ms.length ≤ j ∧ ∀ n ∈ ms, 1 ≤ n) ⟨same_new hD, [], upd_same, Nat.le_refl _, (fun n h => absurd h (by simp))⟩ (fun j Hq hP => SqL.of (hP.1 _ _ h3)) ?_ ?_⟩
      · intro j y Hq hy hP
        obtain ⟨S4, ms, h4, hms, hall⟩ := hP
        obtain ⟨n, gn, rfl⟩ := at_map hy
        have hj : j < ns.length := (List.getElem?_eq_some_iff.mp gn).1
        refine ⟨rfl, .int n, rfl, n, 1, rfl, rfl, _, rfl, ite2 (fun e => ?_) (fun _ => ⟨S4, ms, h4, by omega, hall⟩)⟩
        have hn1 : n ≥ 1 := of_decide_eq_true e
        refine ⟨.int n, rfl, _, h4, by rw [List.length_map]; exact sz_few (by omega), own_w hD S4 (Same.refl _), ms ++ [n], int_more _, by rw [List.length_append, List.length_singleton]; omega, fun q hq => ?_⟩
        rcases List.mem_append.mp hq with m | m
        · exact hall q m
        · rw [List.mem_singleton.mp m]
          exact hn1
      rintro H4 ⟨S4, ms, h4, hms, hall⟩
      rw [List.length_map] at hms
      refine ⟨D, ms, rfl, SqL.of h4, by omega, fun p n hp hn2 => ?_⟩
      have S5 := same_new (o := SetO w p (fun j => decide (j ∈ ms)) n) hp
      refine ⟨p, _, n, rfl, upd_same, by omega, fun line q up mem hlen hq => ?_⟩
      exact k _ q line (S3.trans (S4.trans (S5.trans (same_new hq)))) ((S3.trans (S4.trans S5)).free hq) upd_same (fun x hx => hall x (of_decide_eq_true ((mem x).mp hx))) (by omega)
theorem ok_l_body (T : Txt K mg) : FnOk P w K mg base CX0 4 T.l_body.a T.l_body.d ["draw", "blocks", "spots"] spLBody := by
  refine T.l_body.F.ok c_l_body (fun vs H Q E h => ?_) (fun cdv A outer s H vs Q E hr h => ?_)
  · obtain ⟨d, g, c, l, s, t, bs, rfl, _⟩ := h
    rfl
  · obtain ⟨d, g, c, l, s, t, bs, rfl, hD, ht, hl, nlg, hs, nsg, h7, k⟩ := h
    refine ⟨_,
      (pss_cons (ps_set (i := 3) c_l_body.nd rfl (Or.inl rfl) (pe_lst pa_nil))
      (pss_cons (ps_for PassesOwn.never rfl (pi_range1 rfl T.z_range (pa_cons pe_int pa_nil)) (pg_name (i := 4) c_l_body.nd rfl (Or.inl rfl))
      (pss_cons (ps_set (i := 5) c_l_body.nd rfl (Or.inl rfl) (pe_call (ok_l_grid T) (hr.mono (by decide)) rfl T.l_grid.g T.l_grid.k T.l_grid.b .nil pass0 (pa_cons (pv 1) (pa_cons (pv 2) (pa_cons (pv 4) pa_nil)))))
      (pss_cons (ps_set (i := 6) c_l_body.nd rfl (Or.inl rfl) (pe_call (ok_l_take T) (hr.mono (by decide)) rfl T.l_take.g T.l_take.k T.l_take.b .nil pass0 (pa_cons (pv 0) (pa_cons pe_int pa_nil))))
      (pss_one (ps_if (PW.pt (pw_or (pt_cmpR (op_eqD hr.units) (pv 5) (pe_lst pa_nil) (nomark _)) (pw_or1 (pt_cmpR op_eq (pv 6) pe_int (nomark _)))))
      (pss_one (ps_expr (pe_bm PySem.F.plainAttrs_list PySem.F.slot_list_append PySem.F.type_list_append mt_append (pv 3) (pa_cons (pe_call (ok_l_pick T) (hr.mono (by decide)) rfl T.l_pick.g T.l_pick.k T.l_pick.b .nil pass0 (pa_cons (pv 0) (pa_cons (pe_lst (pa_cons pe_int (pa_cons pe_int (pa_cons pe_int (pa_cons pe_int (pa_cons pe_int pa_nil)))))) pa_nil))) pa_nil))))
      (pss_cons (ps_set (i := 7) c_l_body.nd rfl (Or.inl rfl) (pe_callB (call_min2 rfl) (by rfl) T.z_min (by decide +kernel) (pa_cons (pe_call (ok_l_take T) (hr.mono (by decide)) rfl T.l_take.g T.l_take.k T.l_take.b .nil pass0 (pa_cons (pv 0) (pa_cons (pe_callB call_len_seq (by rfl) T.z_len (by decide +kernel) (pa_cons (pv 5) pa_nil)) pa_nil))) (pa_cons (pe_call (ok_l_take T) (hr.mono (by decide)) rfl T.l_take.g T.l_take.k T.l_take.b .nil pass0 (pa_cons (pv 0) (pa_cons (pe_callB call_len_seq (by rfl) T.z_len (by decide +kernel) (pa_cons (pv 5) pa_nil)) pa_nil))) pa_nil))))
      (pss_one (ps_expr (pe_bm PySem.F.plainAttrs_list PySem.F.slot_list_append PySem.F.type_list_append mt_append (pv 3) (pa_cons (pe_op op_add (pe_ix ix_list (pv 5) (pv 7) (fun _ _ => rfl)) (pe_call (ok_l_pick T) (hr.mono (by decide)) rfl T.l_pick.g T.l_pick.k T.l_pick.b .nil pass0 (pa_cons (pv 0) (pa_cons (pe_lst (pa_cons pe_int (pa_cons pe_int (pa_cons pe_int (pa_cons pe_int (pa_cons pe_int (pa_cons pe_int pa_nil))))))) pa_nil)))) pa_nil))))))))))
      (pss_one (ps_ret (pe_tup (pa_cons (pe_ix ix_list (pv 3) pe_int (fun _ _ => rfl)) (pa_cons (pe_ix ix_list (pv 3) pe_int (fun _ _ => rfl)) pa_nil)))))))
      , ?_⟩
    refine ⟨Nat.zero_le _, fun F hF => ?_⟩
    obtain ⟨nFd, nFg⟩ := hD.new hF
    have nFc := hD.newc hF
    have nsd : s ≠ d := by
      obtain ⟨⟨_, e1⟩, _, _⟩ := hD.dg
      exact ne_of hs e1 (by intro q; cases q)
    refine ⟨2, rfl, by decide, by decide, for_range (lo := 0) (n := 2) (BD d g c l s F t H) ⟨none, none, none, none, [], t, upd_same |> fun e => ⟨rfl, e, rfl, (fun n h => absurd h (by simp)), Fr.of (same_new hF), hD.grow (same_new hF), by omega⟩⟩ ?_ ?_⟩
    · intro i σ H3 hi hP
      obtain ⟨x4, x5, x6, x7, ns, t3, rfl, h3, hn, h1, f3, d3, ht3⟩ := hP
      have hl3 := hl.fr hD f3 nlg
      have hs3 := f3 s _ nsd nsg hs
      refine ⟨.ref l, rfl, .ref s, rfl, .int (0 + i), rfl, l, s, 0 + i, bs, rfl, hl3, hs3, (by omega), h7, fun H4 z zs S4 hz4 h4 z1 zl => ?_⟩
      have d4 := d3.grow S4
      have h34 := S4 _ _ h3
      have f4 := f3.trans (Fr.of S4)
      refine ⟨.ref d, rfl, d, g, c, t3, 8, rfl, d4, by omega, by decide, by decide, fun H5 way t5 w0 w1 ht5 f5 d5 => ?_⟩
      have nzd := (d3.new hz4).1
      have nzg := (d3.new hz4).2
      have h5 := f5 z _ nzd nzg h4
      have h35 := f5 F _ nFd nFg h34
      have f35 := f4.trans f5
      refine ⟨.ref z, rfl, Nat.zero_le _, fun e he => ?_⟩
      have S6 := same_new (o := .lst []) he
      have h6z := S6 _ _ h5
      have h6F := S6 _ _ h35
      have d6 := d5.grow S6
      have f36 := f35.trans (Fr.of S6)
      have fin : ∀ (H8 : Hp) (n t8 : Int) (x7' : Option V), 1 ≤ n → Fr d g H H8 → Dr H8 d g c t8 → t8 ≤ t + 4 * (i + 1 : Nat) → BD d g c l s F t H (i + 1) [some (.ref d), some (.ref l), some (.ref s), some (.ref F), some (.int (0 + (i : Int))), some (.ref z), some (.int way), x7'] (upd H8 F (.lst (ns.map V.int ++ [.int n]))) := fun H8 n t8 x7' hn1 f8 d8 ht8 =>
        ⟨_, _, _, _, ns ++ [n], t8, rfl, int_more n, by rw [List.length_append, List.length_singleton, hn], fun q hq => by
          rcases List.mem_append.mp hq with m | m
          · exact h1 q m
          · rw [List.mem_singleton.mp m]
            exact hn1, Fr.own hF f8, Dr.own hD d8 hF (fun _ => nFc), ht8⟩
      refine ⟨.list (GS.dIs zs), .list (GS.dIs []), GS.dp_l (SqL.of h6z), GS.dp_l (ns := []) (SqL.of upd_same), GS.shaped_is _, GS.shaped_is _, _, rfl, ?_⟩
      rw [GS.eqv_lis]
      cases zs with
      | nil =>
        refine iteT (iteT ?_)
        · refine ⟨.ref F, rfl, .inl ⟨rfl, _, SqL.of h6F⟩, .ref d, rfl, by show 5 ≤ sizeLine; decide, fun lp hlp => ?_⟩
          have SP := same_new (o := .lst [V.int 1, .int 1, .int 2, .int 3, .int 50000]) hlp
          refine ⟨d, g, c, lp, t5, _, rfl, d6.grow SP, by omega, (d6.new hlp).2, upd_same, by simp, by show 5 < 1000000; decide, fun H8 x t8 hx ht8 f8 d8 => ?_⟩
          obtain ⟨n, rfl, hn1⟩ : ∃ n : Int, x = .int n ∧ 1 ≤ n := by
            simp only [List.mem_cons, List.not_mem_nil, or_false] at hx
            rcases hx with rfl | rfl | rfl | rfl | rfl <;> exact ⟨_, rfl, by decide⟩
          exact ⟨F, _, _, rfl, rfl, f8 F _ nFd nFg (SP _ _ h6F), by rw [List.length_map]; exact sz_few (by omega), fin H8 n t8 _ hn1 (f36.trans ((Fr.of SP).trans f8)) d8 (by omega)⟩
      | cons x zs =>
        have hzp : (0 : Int) < ((x :: zs).map V.int).length := by rw [List.length_map, List.length_cons]; omega
        have hzl : (((x :: zs).map V.int).length : Int) < 1000000000 := by rw [List.length_map]; omega
        refine iteF ⟨.int way, rfl, rfl, _, rfl, ite2 (fun _ => ?_) (fun _ => ?_)⟩
        · refine ⟨.ref F, rfl, .inl ⟨rfl, _, SqL.of h6F⟩, .ref d, rfl, by show 5 ≤ sizeLine; decide, fun lp hlp => ?_⟩
          have SP := same_new (o := .lst [V.int 1, .int 1, .int 2, .int 3, .int 50000]) hlp
          refine ⟨d, g, c, lp, t5, _, rfl, d6.grow SP, by omega, (d6.new hlp).2, upd_same, by simp, by show 5 < 1000000; decide, fun H8 x t8 hx ht8 f8 d8 => ?_⟩
          obtain ⟨n, rfl, hn1⟩ : ∃ n : Int, x = .int n ∧ 1 ≤ n := by
            simp only [List.mem_cons, List.not_mem_nil, or_false] at hx
            rcases hx with rfl | rfl | rfl | rfl | rfl <;> exact ⟨_, rfl, by decide⟩
          exact ⟨F, _, _, rfl, rfl, f8 F _ nFd nFg (SP _ _ h6F), by rw [List.length_map]; exact sz_few (by omega), fin H8 n t8 _ hn1 (f36.trans ((Fr.of SP).trans f8)) d8 (by omega)⟩
        · skip
          refine ⟨.ref d, rfl, .ref z, rfl, z, _, rfl, .inl (SqL.of h6z), d, g, c, t5, _, rfl, d6, by omega, hzp, hzl, fun H7 r7 t7 h70 h71 ht7 f7 d7 => ?_⟩
          have h7z := f7 z _ nzd nzg h6z
          refine ⟨.ref d, rfl, .ref z, rfl, z, _, rfl, .inl (SqL.of h7z), d, g, c, t7, _, rfl, d7, by omega, hzp, hzl, fun H8 r8 t8 h80 h81 ht8 f8 d8 => ⟨_, _, rfl, ?_⟩⟩
          have a0 : 0 ≤ (if r8 < r7 then r8 else r7) := by split <;> omega
          have a1 : (if r8 < r7 then r8 else r7) < ((x :: zs).map V.int).length := by split <;> omega
          obtain ⟨j, ej⟩ := Int.eq_ofNat_of_zero_le a0
          rw [ej] at a1 ⊢
          have h8z := f8 z _ nzd nzg h7z
          have h8F := f8 F _ nFd nFg (f7 F _ nFd nFg h6F)
          have jl : j < ((x :: zs).map V.int).length := by omega
          have jl2 : j < (x :: zs).length := by rw [List.length_map] at jl; exact jl
          refine ⟨.ref F, rfl, .inl ⟨rfl, _, SqL.of h8F⟩, .ref z, rfl, .int j, rfl, z, _, j, .int ((x :: zs)[j]), rfl, rfl, SqL.of h8z, atI_nat (by rw [List.getElem?_map, List.getElem?_eq_getElem jl2]; rfl), ?_⟩
          refine ⟨.ref d, rfl, by show 6 ≤ sizeLine; decide, fun lp hlp => ?_⟩
          have SP := same_new (o := .lst [V.int 0, .int 0, .int 0, .int 1, .int 1, .int 2]) hlp
          refine ⟨d, g, c, lp, t8, _, rfl, d8.grow SP, by omega, (d8.new hlp).2, upd_same, by simp, by show 6 < 1000000; decide, fun H9 y t9 hy ht9 f9 d9 => ?_⟩
          obtain ⟨n, rfl, hn1⟩ : ∃ n : Int, y = .int n ∧ 0 ≤ n := by
            simp only [List.mem_cons, List.not_mem_nil, or_false] at hy
            rcases hy with rfl | rfl | rfl | rfl | rfl | rfl <;> exact ⟨_, rfl, by decide⟩
          have q1 := z1 _ (List.getElem_mem jl2)
          exact ⟨_, _, rfl, rfl, F, _, _, rfl, rfl, f9 F _ nFd nFg (SP _ _ h8F), by rw [List.length_map]; exact sz_few (by omega), fin H9 ((x :: zs)[j] + n) t9 _ (by omega) (f36.trans (f7.trans (f8.trans ((Fr.of SP).trans f9)))) d9 (by omega)⟩
    · intro σ H3 hP
      obtain ⟨x4, x5, x6, x7, ns, t3, rfl, h3, hn, h1, f3, d3, ht3⟩ := hP
      obtain ⟨a, b, rfl⟩ : ∃ a b, ns = [a, b] := by
        match ns, hn with
        | [a, b], _ => exact ⟨a, b, rfl⟩
      have hL : SqL K H3 F [V.int a, V.int b] := SqL.of h3
      refine ⟨.ref F, rfl, F, _, 0, .int a, rfl, rfl, hL, atI_nat (j := 0) rfl, .ref F, rfl, F, _, 1, .int b, rfl, rfl, hL, atI_nat (j := 1) rfl, by show 2 ≤ sizeLine; decide, fun z hz => ?_⟩
      exact k _ z a b t3 (h1 a (by simp)) (h1 b (by simp)) upd_same (Fr.free hD d3 f3 hz) (by omega) (f3.trans (Fr.of (same_new hz))) (d3.grow (same_new hz))
end
end G21
set_option Elab.async false
set_option linter.all false
set_option maxRecDepth 100000
set_option maxHeartbeats 4000000
namespace G21
open PySem PySem.Spec PyProof.Rows L2
/-- the name of all lambdas of law's refusals -/
def lamQ : Str := Str.ofString "_law_refusals.<locals>.<lambda>"
/-- the code object of law's refusals and its table -/
structure TxtC {K : PySem.W.Frag} {mg : Str → Option Value} (T : Txt K mg) where
  c : Addr
  P : Addr
  h : T.l_refusals.d.code = .ref c
abbrev LT {K : PySem.W.Frag} {mg : Str → Option Value} {T : Txt K mg} (Z : TxtC T) : List (Addr × Str) := [(Z.P, lamQ)]
theorem ltu {K : PySem.W.Frag} {mg : Str → Option Value} {T : Txt K mg} (Z : TxtC T) : ∀ p ∈ LT Z, p.1 = Z.P → p.2 = lamQ := fun p hp _ => by
  rw [List.mem_singleton.mp hp]
theorem okC {P : Program} {w : World} {K : PySem.W.Frag} {mg : Str → Option Value} {base : Heap} {x qual : Str} {st : Stmt} {f c : Addr} {fd : FuncData} {N ps : List Str} {k : Nat} {sp : Sp} (F : Fun K x qual st f fd) (hc : fd.code = .ref c) (S : FnScope N ps (defScope st)) (len : ∀ vs H Q E, sp vs H Q E → vs.length = ps.length)
    (hbody : ∀ (A : Around) (outer : List Env) (s : Shared) (H : Hp) (vs : List V) (Q : VK) (E : XK), Room k (A.deeper (envOfC qual (defScope st) s.heap.objs.size f (.ref c))) → sp vs H Q E →
      ∃ t, PSs (cxOf CX0 P w K mg base N qual (defScope st) f (.ref c) A outer s H E).nox (defBody st) t ∧ t { nx := fun _ H' => Q .non H', rt := Q } (start N vs) H) : FnOk P w K mg base CX0 (k + 1) f fd ps sp := by
  obtain ⟨oc, od, kV, doc, pm, an, cdv, ct, osl, rfl, lk, hcd⟩ := F.ex
  have e : cdv = .ref c := hc
  subst e
  refine fn_of lk hcd S len fun A outer s H vs Q E hr hsp => ?_
  obtain ⟨t, h, q⟩ := hbody A outer s H vs Q E hr hsp
  exact ⟨t, h.nox, q⟩
/-- what stands while the refusals are asked -/
structure RS (C : Addr) (d g c m p : Addr) (a b t : Int) (bs : List Bk) (bad : V) (nb : String) (H : Hp) : Prop where
  dr : Dr H d g c t
  dw : Dw C H m bs
  bo : Bo H p a b
  kn : Kn H bad nb
theorem Kn.ext {H H' : Hp} {x : V} {n : String} (e : LamX.ExtN H H') (k : Kn H x n) : Kn H' x n := by
  cases k with
  | non => exact .non
  | bl b => exact .bl b
  | int i => exact .int i
  | str s => exact .str s
  | lst h => exact .lst (e _ _ h (by intro ps q; cases q))
  | tup h => exact .tup (e _ _ h (by intro ps q; cases q))
theorem Dr.ext {H H' : Hp} {d g c : Addr} {t : Int} (e : LamX.ExtN H H') (h : Dr H d g c t) : Dr H' d g c t := by
  obtain ⟨gs, cs, n, a1, a2, a3, r⟩ := h
  exact ⟨gs, cs, n, e _ _ a1 (by intro ps q; cases q), e _ _ a2 (by intro ps q; cases q), e _ _ a3 (by intro ps q; cases q), r⟩
theorem Dw.ext {C : Addr} {H H' : Hp} {m : Addr} {bs : List Bk} (e : LamX.ExtN H H') (h : Dw C H m bs) : Dw C H' m bs := by
  obtain ⟨dx, t, rs, h1, h2, h3, h4⟩ := h
  exact ⟨dx, t, rs, e _ _ h1 (by intro ps q; cases q), e _ _ h2 (by intro ps q; cases q), pd_imp h3 fun _ _ z => e _ _ z (by intro ps q; cases q), h4⟩
theorem RS.ext {C d g c m p : Addr} {a b t : Int} {bs : List Bk} {bad : V} {nb : String} {H H' : Hp} (e : LamX.ExtN H H') (h : RS C d g c m p a b t bs bad nb H) : RS C d g c m p a b t bs bad nb H' :=
  ⟨h.dr.ext e, h.dw.ext e, e _ _ h.bo (by intro ps q; cases q), h.kn.ext e⟩
theorem tabs_fr {TL : List (Addr × Str)} {H H' : Hp} {d g c : Addr} {t : Int} (hD : Dr H d g c t) (f : Fr d g H H') (h : LamX.Tabs TL H) : LamX.Tabs TL H' := fun q hq => by
  obtain ⟨ps, h1, h2, h3⟩ := h q hq
  obtain ⟨⟨_, e1⟩, ⟨_, e2⟩, _⟩ := hD.dg
  refine ⟨ps, f _ _ (ne_of h1 e1 (by intro q; cases q)) (ne_of h1 e2 (by intro q; cases q)) h1, h2, fun pos cv hc => ?_⟩
  obtain ⟨c', e3, e4⟩ := h3 pos cv hc
  exact ⟨c', e3, f _ _ (ne_of e4 e1 (by intro q; unfold LamX.CodeO at q; cases q)) (ne_of e4 e2 (by intro q; unfold LamX.CodeO at q; cases q)) e4⟩
theorem Dw.fr {C : Addr} {H H' : Hp} {d g c m : Addr} {t : Int} {bs : List Bk} (hD : Dr H d g c t) (f : Fr d g H H') (h : Dw C H m bs) : Dw C H' m bs := by
  obtain ⟨dx, tt, rs, h1, h2, h3, h4⟩ := h
  obtain ⟨⟨_, e1⟩, ⟨_, e2⟩, _⟩ := hD.dg
  exact ⟨dx, tt, rs, f _ _ (ne_of h1 e1 (by intro q; cases q)) (ne_of h1 e2 (by intro q; cases q)) h1, f.tup hD h2, pd_imp h3 fun _ _ z => f.tup hD z, h4⟩
theorem Kn.same {H H' : Hp} {x : V} {n : String} (e : Same H H') (k : Kn H x n) : Kn H' x n := k.ext fun b o h _ => e b o h
theorem RS.same {C d g c m p : Addr} {a b t : Int} {bs : List Bk} {bad : V} {nb : String} {H H' : Hp} (e : Same H H') (h : RS C d g c m p a b t bs bad nb H) : RS C d g c m p a b t bs bad nb H' := h.ext fun b o h _ => e b o h
theorem isIx_nat {n i : Nat} (h : i < n) : isIx n (.int i) = true := by
  show (decide ((0 : Int) ≤ i) && decide ((i : Int) < n)) = true
  rw [decide_eq_true (by omega), decide_eq_true (by omega)]
  rfl
def spRef (C : Addr) (TL : List (Addr × Str)) : Sp := fun vs H Q _ => ∃ (d g c m p : Addr) (t a b : Int) (bs : List Bk), vs = [.ref d, .ref m, .ref p, .int bs.length] ∧ Dr H d g c t ∧ t ≤ 900000000000 ∧ Dw C H m bs ∧ Bo H p a b ∧ 1 ≤ a ∧ 1 ≤ b ∧ 0 < bs.length ∧ bs.length ≤ 12 ∧ LamX.Tabs TL H ∧
  ∀ H' t', t' ≤ t + 2 → Dr H' d g c t' → LamX.Tabs TL H' → Q (.bl true) H'
section
variable {P : Program} {w : World} {K : PySem.W.Frag} {mg : Str → Option Value} {base : Heap}
theorem ok_l_refusals (T : Txt K mg) (Z : TxtC T) (TB : LamX.TabB base mg Z.c Z.P) : FnOk P w K mg base CX0 9 T.l_refusals.a T.l_refusals.d ["draw", "made", "body", "many"] (spRef T.C (LT Z)) := by
  obtain ⟨ocC, odC, kVC, docC, pmC, anC, cdvC, ctC, oslC, edC, lkC, hcC⟩ := T.l_caught.F.ex
  have bC := T.l_caught.b
  rw [edC] at lkC bC
  refine okC T.l_refusals.F Z.h c_l_refusals (fun vs H Q E h => ?_) (fun A outer s H vs Q E hr h => ?_)
  · obtain ⟨d, g, c, m, p, t, a, b, bs, rfl, _⟩ := h
    rfl
  · obtain ⟨d, g, c, m, p, t, a, b, bs, rfl, hD, ht, hw, hb, ha1, hb1, hn0, hn1, hT, k⟩ := h
    refine ⟨_,
      (pss_cons (ps_asg (pe_tup (pa_cons (pe_call (ok_l_take T) (hr.mono (by decide)) rfl T.l_take.g T.l_take.k T.l_take.b .nil pass0 (pa_cons (pv 0) (pa_cons (pv 3) pa_nil))) (pa_cons (pe_call (ok_l_pick T) (hr.mono (by decide)) rfl T.l_pick.g T.l_pick.k T.l_pick.b .nil pass0 (pa_cons (pv 0) (pa_cons (pe_lst (pa_cons (pv 3) (pa_cons (pe_un un_neg pe_int) (pa_cons (pe_op op_add (pv 3) pe_int) (pa_cons pe_non (pa_cons pe_str (pa_cons (pe_tup (pa_cons pe_int pa_nil)) (pa_cons pe_bl (pa_cons (pe_lst (pa_cons pe_int pa_nil)) pa_nil))))))))) pa_nil))) pa_nil))) (pg_tup rfl (pgs_cons (pg_name (i := 4) c_l_refusals.nd rfl (Or.inr rfl) (hf := Or.inl rfl)) (pgs_cons (pg_name (i := 5) c_l_refusals.nd rfl (Or.inr rfl) (hf := Or.inl rfl)) pgs_nil))))
      (pss_cons (ps_if (pt_not (pt_val (pe_callB call_isT (by rfl) T.z_isinstance (by decide +kernel) (pa_cons (LamX.pe_lamcall (T := LT Z) (Ng := N_l_caught) (k := 6) rfl T.l_caught.g T.l_caught.k lkC hcC bC c_l_caught rfl (Or.inl rfl) (caught_gives T.x_GapError.g) TB rfl (List.mem_singleton.mpr rfl) (ltu Z) (hr.mono (by decide)) (LamX.lamS_by (sc := defScope S_l_refusals) (by decide +kernel)) rfl (fun _ _ _ _ _ => rfl) (fun A outer s H E f c' hr => (pe_call (ok_q_gap T) (hr.mono (by decide)) rfl T.q_gap.g T.q_gap.k T.q_gap.b .nil (passes_call (takes_of rfl rfl rfl rfl) (fun _ _ _ _ h => h)) (pa_cons (pv 1) (pa_cons (pv 4) (pa_cons (pv 4) pa_nil)))))) (pa_cons (pe_glob (v := .ref T.x_BadPair.C) (u := .ref T.x_BadPair.C) rfl T.x_BadPair.g rfl) pa_nil)))))
      (pss_one (ps_ret pe_bl))
      pss_nil)
      (pss_cons (ps_if (pt_not (pt_val (pe_callB call_isT (by rfl) T.z_isinstance (by decide +kernel) (pa_cons (LamX.pe_lamcall (T := LT Z) (Ng := N_l_caught) (k := 6) rfl T.l_caught.g T.l_caught.k lkC hcC bC c_l_caught rfl (Or.inl rfl) (caught_gives T.x_GapError.g) TB rfl (List.mem_singleton.mpr rfl) (ltu Z) (hr.mono (by decide)) (LamX.lamS_by (sc := defScope S_l_refusals) (by decide +kernel)) rfl (fun _ _ _ _ _ => rfl) (fun A outer s H E f c' hr => (pe_call (ok_q_near T) (hr.mono (by decide)) rfl T.q_near.g T.q_near.k T.q_near.b .nil (passes_call (takes_of rfl rfl rfl rfl) (fun _ _ _ _ h => h)) (pa_cons (pv 1) (pa_cons (pv 2) (pa_cons (pv 4) (pa_cons (pv 5) pa_nil))))))) (pa_cons (pe_glob (v := .ref T.x_BadIndex.C) (u := .ref T.x_BadIndex.C) rfl T.x_BadIndex.g rfl) pa_nil)))))
      (pss_one (ps_ret pe_bl))
      pss_nil)
      (pss_cons (ps_if (pt_not (pt_val (pe_callB call_isT (by rfl) T.z_isinstance (by decide +kernel) (pa_cons (LamX.pe_lamcall (T := LT Z) (Ng := N_l_caught) (k := 6) rfl T.l_caught.g T.l_caught.k lkC hcC bC c_l_caught rfl (Or.inl rfl) (caught_gives T.x_GapError.g) TB rfl (List.mem_singleton.mpr rfl) (ltu Z) (hr.mono (by decide)) (LamX.lamS_by (sc := defScope S_l_refusals) (by decide +kernel)) rfl (fun _ _ _ _ _ => rfl) (fun A outer s H E f c' hr => (pe_call (ok_q_near_from T) (hr.mono (by decide)) rfl T.q_near_from.g T.q_near_from.k T.q_near_from.b .nil (passes_call (takes_of rfl rfl rfl rfl) (fun _ _ _ _ h => h)) (pa_cons (pv 1) (pa_cons (pv 5) (pa_cons (pv 5) pa_nil)))))) (pa_cons (pe_glob (v := .ref T.x_BadIndex.C) (u := .ref T.x_BadIndex.C) rfl T.x_BadIndex.g rfl) pa_nil)))))
      (pss_one (ps_ret pe_bl))
      pss_nil)
      (pss_cons (ps_if (pt_not (pt_val (pe_callB call_isT (by rfl) T.z_isinstance (by decide +kernel) (pa_cons (LamX.pe_lamcall (T := LT Z) (Ng := N_l_caught) (k := 6) rfl T.l_caught.g T.l_caught.k lkC hcC bC c_l_caught rfl (Or.inl rfl) (caught_gives T.x_GapError.g) TB rfl (List.mem_singleton.mpr rfl) (ltu Z) (hr.mono (by decide)) (LamX.lamS_by (sc := defScope S_l_refusals) (by decide +kernel)) rfl (fun _ _ _ _ _ => rfl) (fun A outer s H E f c' hr => (pe_call (ok_q_near T) (hr.mono (by decide)) rfl T.q_near.g T.q_near.k T.q_near.b .nil (passes_call (takes_of rfl rfl rfl rfl) (fun _ _ _ _ h => h)) (pa_cons (pv 1) (pa_cons (pe_tup (pa_cons pe_int (pa_cons pe_int pa_nil))) (pa_cons (pv 5) (pa_cons (pv 4) pa_nil))))))) (pa_cons (pe_glob (v := .ref T.x_BadBody.C) (u := .ref T.x_BadBody.C) rfl T.x_BadBody.g rfl) pa_nil)))))
      (pss_one (ps_ret pe_bl))
      pss_nil)
      (pss_one (ps_ret (pe_callB call_isT (by rfl) T.z_isinstance (by decide +kernel) (pa_cons (LamX.pe_lamcall (T := LT Z) (Ng := N_l_caught) (k := 6) rfl T.l_caught.g T.l_caught.k lkC hcC bC c_l_caught rfl (Or.inl rfl) (caught_gives T.x_GapError.g) TB rfl (List.mem_singleton.mpr rfl) (ltu Z) (hr.mono (by decide)) (LamX.lamS_by (sc := defScope S_l_refusals) (by decide +kernel)) rfl (fun _ _ _ _ _ => rfl) (fun A outer s H E f c' hr => (pe_call (ok_q_near_pairs T) (hr.mono (by decide)) rfl T.q_near_pairs.g T.q_near_pairs.k T.q_near_pairs.b .nil (passes_call (takes_of rfl rfl rfl rfl) (fun _ _ _ _ h => h)) (pa_cons (pe_lst (pa_cons (pv 1) pa_nil)) (pa_cons (pe_tup (pa_cons pe_int (pa_cons pe_int pa_nil))) pa_nil))))) (pa_cons (pe_glob (v := .ref T.x_BadDrawing.C) (u := .ref T.x_BadDrawing.C) rfl T.x_BadDrawing.g rfl) pa_nil))))))))))
      , ?_⟩
    refine ⟨.ref d, rfl, .int bs.length, rfl, d, g, c, t, bs.length, rfl, hD, by omega, by omega, by omega, fun H1 k0 t1 k00 k01 ht1 f1 d1 => ?_⟩
    obtain ⟨kn, rfl⟩ := Int.eq_ofNat_of_zero_le k00
    refine ⟨.ref d, rfl, .int bs.length, rfl, 1, rfl, .int bs.length, rfl, _, 7, rfl, rfl, by show 1 ≤ sizeLine; decide, fun zt hzt => ?_⟩
    refine ⟨by show 1 ≤ sizeLine; decide, fun zl hzl => ?_⟩
    refine ⟨by show 8 ≤ sizeLine; decide, fun lp hlp => ?_⟩
    have S2 := (same_new (o := .tup [V.int 0]) hzt).trans ((same_new (o := .lst [V.int 0]) hzl).trans (same_new (o := .lst [V.int bs.length, .int (-1), .int ((bs.length : Int) + 7), .non, .str (Str.ofString "0"), .ref zt, .bl true, .ref zl]) hlp))
    have d2 := d1.grow S2
    refine ⟨d, g, c, lp, t1, _, rfl, d2, by omega, ((d1.grow ((same_new hzt).trans (same_new hzl))).new hlp).2, upd_same, by simp, by show 8 < 1000000; decide, fun H3 bad t3 hbad ht3 f3 d3 => ?_⟩
    refine ⟨by show 2 ≤ sizeLine; decide, fun zz hzz => ?_⟩
    have SZ := same_new (o := .tup [V.int kn, bad]) hzz
    refine ⟨zz, _, rfl, SqT.of upd_same, rfl, _, _, rfl, _, _, rfl, rfl, ?_⟩
    have lkn : kn < bs.length := by omega
    have ik := isIx_nat lkn
    have fall := f1.trans ((Fr.of S2).trans (f3.trans (Fr.of SZ)))
    obtain ⟨nb, kb, ib⟩ : ∃ nb, Kn H3 bad nb ∧ isIx bs.length bad = false := by
      obtain ⟨ntd, ntg⟩ := d1.new hzt
      obtain ⟨nld, nlg⟩ := (d1.grow (same_new hzt)).new hzl
      simp only [List.mem_cons, List.not_mem_nil, or_false] at hbad
      rcases hbad with rfl | rfl | rfl | rfl | rfl | rfl | rfl | rfl
      · exact ⟨_, .int _, by show (decide ((0 : Int) ≤ bs.length) && decide ((bs.length : Int) < bs.length)) = false; simp⟩
      · exact ⟨_, .int _, rfl⟩
      · exact ⟨_, .int _, by show (decide ((0 : Int) ≤ (bs.length : Int) + 7) && decide ((bs.length : Int) + 7 < bs.length)) = false; rw [decide_eq_false (show ¬ ((bs.length : Int) + 7 < bs.length) by omega), Bool.and_false]⟩
      · exact ⟨_, .non, rfl⟩
      · exact ⟨_, .str _, rfl⟩
      · exact ⟨_, .tup (f3 _ _ ntd ntg (((same_new (o := .lst [V.int 0]) hzl).trans (same_new hlp)) _ _ upd_same)), rfl⟩
      · exact ⟨_, .bl _, rfl⟩
      · exact ⟨_, .lst (f3 _ _ nld nlg ((same_new hlp) _ _ upd_same)), rfl⟩
    have nob : ∀ j : Nat, bad = .int j → j < bs.length → False := fun j e hj => by
      rw [e, isIx_nat hj] at ib
      cases ib
    have R0 : RS T.C d g c m p a b t3 bs bad nb (upd H3 zz (.tup [V.int kn, bad])) := ⟨d3.grow SZ, hw.fr hD fall, fall.tup hD hb, kb.same SZ⟩
    have T0 : LamX.Tabs (LT Z) (upd H3 zz (.tup [V.int kn, bad])) := tabs_fr hD fall hT
    -- a pair of one block
    refine ⟨T0, fun H1x eN1 TX1 => ?_⟩
    have R1x := R0.ext eN1
    refine ⟨.ref m, rfl, .int kn, rfl, .int kn, rfl, m, .int kn, .int kn, _, _, bs, rfl, R1x.dw, .int _, .int _, (fun e => by rw [ik] at e; cases e), (fun _ e => by rw [ik] at e; cases e), fun i j ei ej _ _ => ⟨fun ne => absurd ?_ ne, fun _ => ⟨rfl, T.u_BadPair, fun e1 he1 => ⟨e1, T.x_BadPair.C, T.x_BadPair.C, true, rfl, T.x_BadPair.e, upd_same, T.e_BadPair, _, rfl, iteF ?_⟩⟩⟩⟩
    · have q1 := V.int.inj ei
      have q2 := V.int.inj ej
      omega
    have S1 := same_new (o := GS.ExT (.ref T.x_BadPair.C) e1) he1
    have R1 := R1x.same S1
    have T1 := LamX.Tabs.ext TX1 S1
    -- an index that is none
    refine ⟨T1, fun H2x eN2 TX2 => ?_⟩
    have R2x := R1.ext eN2
    refine ⟨.ref m, rfl, .ref p, rfl, .int kn, rfl, bad, rfl, m, p, a, b, .int kn, bad, _, nb, bs, rfl, R2x.dw, R2x.bo, .int _, R2x.kn, (fun e => absurd ⟨ha1, hb1⟩ e), fun _ => ⟨(fun e => by rw [ik] at e; cases e), (fun _ _ => ⟨rfl, T.u_BadIndex, fun e2 he2 => ⟨e2, T.x_BadIndex.C, T.x_BadIndex.C, true, rfl, T.x_BadIndex.e, upd_same, T.e_BadIndex, _, rfl, iteF ?_⟩⟩), fun i j ei ej hi hj => (nob j ej hj).elim⟩⟩
    have S2 := same_new (o := GS.ExT (.ref T.x_BadIndex.C) e2) he2
    have R2 := R2x.same S2
    have T2 := LamX.Tabs.ext TX2 S2
    -- two of them
    refine ⟨T2, fun H3x eN3 TX3 => ?_⟩
    have R3x := R2.ext eN3
    refine ⟨.ref m, rfl, bad, rfl, bad, rfl, m, bad, bad, nb, nb, bs, rfl, R3x.dw, R3x.kn, R3x.kn, (fun _ => ⟨rfl, T.u_BadIndex, fun e3 he3 => ⟨e3, T.x_BadIndex.C, T.x_BadIndex.C, true, rfl, T.x_BadIndex.e, upd_same, T.e_BadIndex, _, rfl, iteF ?_⟩⟩), (fun e => by rw [ib] at e; cases e), fun i j ei ej hi hj => (nob j ej hj).elim⟩
    have S3 := same_new (o := GS.ExT (.ref T.x_BadIndex.C) e3) he3
    have R3 := R3x.same S3
    have T3 := LamX.Tabs.ext TX3 S3
    -- no body
    refine ⟨T3, fun H4x eN4 TX4 => ?_⟩
    have R4x := R3.ext eN4
    refine ⟨.ref m, rfl, by show 2 ≤ sizeLine; decide, fun q4 hq4 => ?_⟩
    have SQ4 := same_new (o := .tup [V.int 0, .int 1]) hq4
    have R4y := R4x.same SQ4
    refine ⟨bad, rfl, .int kn, rfl, m, q4, 0, 1, bad, .int kn, nb, _, bs, rfl, R4y.dw, upd_same, R4y.kn, .int _, (fun _ => ⟨rfl, T.u_BadBody, fun e4 he4 => ⟨e4, T.x_BadBody.C, T.x_BadBody.C, true, rfl, T.x_BadBody.e, upd_same, T.e_BadBody, _, rfl, iteF ?_⟩⟩), fun e => absurd e.1 (by decide)⟩
    have S4 := same_new (o := GS.ExT (.ref T.x_BadBody.C) e4) he4
    have R4 := R4y.same S4
    have T4 := LamX.Tabs.ext (LamX.Tabs.ext TX4 SQ4) S4
    -- no drawing
    refine ⟨T4, fun H5x eN5 TX5 => ?_⟩
    have R5x := R4.ext eN5
    refine ⟨.ref m, rfl, by show 1 ≤ sizeLine; decide, fun l5 hl5 => ?_⟩
    have SL5 := same_new (o := .lst [V.ref m]) hl5
    refine ⟨by show 2 ≤ sizeLine; decide, fun q5 hq5 => ?_⟩
    have SQ5 := same_new (o := .tup [V.int 0, .int 1]) hq5
    have R5y := (R5x.same SL5).same SQ5
    refine ⟨l5, q5, 0, 1, rfl, upd_same, .inr ⟨⟨_, SQ5 _ _ upd_same⟩, rfl, T.u_BadDrawing, fun e5 he5 => ⟨e5, T.x_BadDrawing.C, T.x_BadDrawing.C, true, rfl, T.x_BadDrawing.e, upd_same, T.e_BadDrawing, ?_⟩⟩⟩
    have S5 := same_new (o := GS.ExT (.ref T.x_BadDrawing.C) e5) he5
    have R5 := R5y.same S5
    have T5 := LamX.Tabs.ext (LamX.Tabs.ext (LamX.Tabs.ext TX5 SL5) SQ5) S5
    exact k _ t3 (by omega) R5.dr T5
end
end G21
set_option Elab.async false
set_option linter.all false
set_option maxRecDepth 100000
set_option maxHeartbeats 4000000
namespace G21
open PySem PySem.Spec PyProof.Rows L2
theorem lex_anti : ∀ {xs ys : List Int}, xs.length = ys.length → HT.lexLt xs ys = false → HT.lexLt ys xs = false → xs = ys
  | [], [], _, _, _ => rfl
  | [], _ :: _, h, _, _ => by cases h
  | _ :: _, [], h, _, _ => by cases h
  | x :: xs, y :: ys, h, a, b => by
    rw [HT.lexLt_cons] at a b
    by_cases e : x = y
    · subst e
      rw [if_pos rfl] at a b
      rw [lex_anti (Nat.succ.inj h) a b]
    · rw [if_neg e] at a
      rw [if_neg fun z => e z.symm] at b
      have a2 := of_decide_eq_false a
      have b2 := of_decide_eq_false b
      omega
theorem perm_asc : ∀ {as bs : List Bk}, as.Perm bs → Asc as → Asc bs → as = bs
  | [], bs, h, _, _ => by
    have := h.length_eq
    cases bs with
    | nil => rfl
    | cons _ _ => simp at this
  | a :: as, [], h, _, _ => by
    have := h.length_eq
    simp at this
  | a :: as, b :: bs, h, ha, hb => by
    obtain ⟨a1, a2⟩ := List.pairwise_cons.mp ha
    obtain ⟨b1, b2⟩ := List.pairwise_cons.mp hb
    have e : a = b := by
      rcases List.mem_cons.mp (h.mem_iff.mp (List.mem_cons_self ..)) with q | q
      · exact q
      · rcases List.mem_cons.mp (h.mem_iff.mpr (List.mem_cons_self ..)) with z | z
        · exact z.symm
        · exact Bk.n_inj (lex_anti rfl (b1 a q) (a1 b z))
    subst e
    rw [perm_asc (List.Perm.cons_inv h) a2 b2]
theorem gx_comm (p q : Bk) : gx p q = gx q p := by
  unfold gx
  exact Int.max_comm ..
theorem gy_comm (p q : Bk) : gy p q = gy q p := by
  unfold gy
  exact Int.max_comm ..
theorem nr_comm (p q : Bk) (a b : Int) : nr p q a b = nr q p a b := by
  unfold nr
  rw [gx_comm, gy_comm]
theorem lnr_comm (p q : Bk) : lnr p q = lnr q p := by
  unfold lnr
  rw [gx_comm, gy_comm]
theorem kb_q_near_2 {K : PySem.W.Frag} {mg : Str → Option Value} (T : Txt K mg) : KBinds K T.q_near.d ["drawing", "body", "i", "j"] ["i", "j"] (GS.gA 2 2) (GS.gA 2 2) := by
  obtain ⟨oc, od, kV, doc, pm, an, cdv, ct, osl, e, lk, hcd⟩ := T.q_near.F.ex
  rw [e]
  refine ⟨fun s us ws _ hl => ?_, GS.gA_rel⟩
  obtain ⟨h1, h2⟩ := GS.gA_len (by decide) hl
  match us, ws, h1, h2 with
  | [_, _], [_, _], _, _ => exact .of_eq rfl
theorem kb_q_near_pairs_0 {K : PySem.W.Frag} {mg : Str → Option Value} (T : Txt K mg) : KBinds K T.q_near_pairs.d ["drawing", "body"] ["drawing", "body"] (GS.gA 0 2) (GS.gA 0 2) := by
  obtain ⟨oc, od, kV, doc, pm, an, cdv, ct, osl, e, lk, hcd⟩ := T.q_near_pairs.F.ex
  rw [e]
  refine ⟨fun s us ws _ hl => ?_, GS.gA_rel⟩
  obtain ⟨h1, h2⟩ := GS.gA_len (by decide) hl
  match us, ws, h1, h2 with
  | [], [_, _], _, _ => exact .of_eq rfl
def prN (p : Int × Int) : List Int := [p.1, p.2]
theorem prN_inj {ps qs : List (Int × Int)} (h : ps = qs) : ps.map prN = qs.map prN := by rw [h]
theorem PrL.dp {K : PySem.W.Frag} {H : Hp} {z : Addr} {ps : List (Int × Int)} (h : PrL H z ps) : Dp K H (.ref z) (.list ((ps.map prN).map GS.dT)) := by
  obtain ⟨as, h1, h2⟩ := h
  exact GS.dp_lrefs (f := prN) (F := fun a p => H a = some (.tup [.int p.1, .int p.2])) (fun _ _ e => e) (SqL.of h1) h2
theorem Bl.dp {K : PySem.W.Frag} {H : Hp} {z : Addr} {bs : List Bk} (h : Bl H z bs) : Dp K H (.ref z) (.list ((bs.map Bk.n).map GS.dT)) := by
  obtain ⟨rs, h1, h2⟩ := h
  exact GS.dp_lrefs (f := Bk.n) (F := fun r b => H r = some (.tup (Bk.v b))) (fun _ _ e => e) (SqL.of h1) h2
theorem Bo.dp {K : PySem.W.Frag} {H : Hp} {p : Addr} {a b : Int} (h : Bo H p a b) : Dp K H (.ref p) (GS.dT [a, b]) := GS.dp_t (ns := [a, b]) (SqT.of h)
theorem pc {n i j : Nat} {EI EP : Prop} {G : Nat → Nat → Prop} (hi : i < n) (hj : j < n) (ne : i ≠ j) (h : G i j) : PC n (.int i) (.int j) EI EP G := by
  refine ⟨(fun e => by rw [isIx_nat hi] at e; cases e), (fun _ e => by rw [isIx_nat hj] at e; cases e), fun i' j' e1 e2 _ _ => ?_⟩
  have q1 := V.int.inj e1
  have q2 := V.int.inj e2
  obtain rfl : i = i' := by omega
  obtain rfl : j = j' := by omega
  exact ⟨fun _ => h, fun e => absurd e ne⟩
/-- what stands while a turn of the law goes on -/
structure LW (C : Addr) (d g c z m p : Addr) (a b : Int) (bs : List Bk) (TL : List (Addr × Str)) (t : Int) (H : Hp) : Prop where
  dr : Dr H d g c t
  bl : Bl H z bs
  dw : Dw C H m bs
  bo : Bo H p a b
  tb : LamX.Tabs TL H
theorem LW.same {C d g c z m p : Addr} {a b t : Int} {bs : List Bk} {TL : List (Addr × Str)} {H H' : Hp} (e : Same H H') (h : LW C d g c z m p a b bs TL t H) : LW C d g c z m p a b bs TL t H' :=
  ⟨h.dr.grow e, h.bl.same e, h.dw.same e, e _ _ h.bo, h.tb.ext e⟩
theorem LW.fr {C d g c z m p : Addr} {a b t t' : Int} {bs : List Bk} {TL : List (Addr × Str)} {H H' : Hp} (zg : z ≠ g) (f : Fr d g H H') (h' : Dr H' d g c t') (h : LW C d g c z m p a b bs TL t H) : LW C d g c z m p a b bs TL t' H' :=
  ⟨h', h.bl.fr h.dr f zg, h.dw.fr h.dr f, f.tup h.dr h.bo, tabs_fr h.dr f h.tb⟩
def spLaw (K : PySem.W.Frag) (TL : List (Addr × Str)) : Sp := fun vs H Q _ => ∃ (l : Addr) (ns : List Int), vs = [.ref l] ∧ SqL K H l (ns.map V.int) ∧ ns.length ≤ 63 ∧ LamX.Tabs TL H ∧ ∀ H', Q (.bl true) H'
/-- ahead of turn i of the law -/
def LP (l d g c : Addr) (TL : List (Addr × Str)) (i : Nat) (σ : L2.St) (H3 : Hp) : Prop := ∃ (x2 x3 x4 x5 x6 x7 x8 x9 x10 x11 : Option V) (t3 : Int), σ = [some (.ref l), some (.ref d), x2, x3, x4, x5, x6, x7, x8, x9, x10, x11] ∧ Dr H3 d g c t3 ∧ t3 ≤ 600 * i ∧ LamX.Tabs TL H3
/-- ahead of turn j of the law's loop over blocks -/
def LJ (C l d g c z m p y : Addr) (x2 : Option V) (a b tb : Int) (bs : List Bk) (TL : List (Addr × Str)) (j : Nat) (σ : L2.St) (H3 : Hp) : Prop := ∃ (x7 x8 x9 x10 x11 : Option V) (t3 : Int),
  σ = [some (.ref l), some (.ref d), x2, some (.ref z), some (.ref m), some (.ref p), some (.ref y), x7, x8, x9, x10, x11] ∧ LW C d g c z m p a b bs TL t3 H3 ∧ t3 ≤ tb + 7 * j
/-- ahead of turn i of the loop in it -/
def LI (C l d g c z m p y : Addr) (x2 : Option V) (a b tb : Int) (bs : List Bk) (TL : List (Addr × Str)) (j i : Nat) (σ : L2.St) (H3 : Hp) : Prop := ∃ (x8 x9 x10 x11 : Option V) (t3 : Int),
  σ = [some (.ref l), some (.ref d), x2, some (.ref z), some (.ref m), some (.ref p), some (.ref y), some (.int j), x8, x9, x10, x11] ∧ LW C d g c z m p a b bs TL t3 H3 ∧ t3 ≤ tb + 7 * j + i
section
variable {P : Program} {w : World} {K : PySem.W.Frag} {mg : Str → Option Value} {base : Heap}
theorem ok_law (T : Txt K mg) (Z : TxtC T) (TB : LamX.TabB base mg Z.c Z.P) : FnOk P w K mg base CX0 10 T.q_law.a T.q_law.d ["script"] (spLaw K (LT Z)) := by
  refine T.q_law.F.ok c_q_law (fun vs H Q E h => ?_) (fun cdv A outer s H vs Q E hr h => ?_)
  · obtain ⟨l, ns, rfl, _⟩ := h
    rfl
  · obtain ⟨l, ns, rfl, hS, h63, hT, k⟩ := h
    refine ⟨_,
      (pss_cons (ps_set (i := 1) c_q_law.nd rfl (Or.inl rfl) (pe_call (ok_l_begun T) (hr.mono (by decide)) rfl T.l_begun.g T.l_begun.k T.l_begun.b .nil pass0 (pa_cons (pv 0) pa_nil)))
      (pss_cons (ps_for PassesOwn.never rfl (pi_range1 rfl T.z_range (pa_cons (pe_op op_add pe_int (pe_callB (call_min2 rfl) (by rfl) T.z_min (by decide +kernel) (pa_cons (pe_callB call_len_seq (by rfl) T.z_len (by decide +kernel) (pa_cons (pv 0) pa_nil)) (pa_cons pe_int pa_nil)))) pa_nil)) (pg_name (i := 2) c_q_law.nd rfl (Or.inl rfl))
      (pss_cons (ps_set (i := 3) c_q_law.nd rfl (Or.inl rfl) (pe_call (ok_l_blocks T) (hr.mono (by decide)) rfl T.l_blocks.g T.l_blocks.k T.l_blocks.b .nil pass0 (pa_cons (pv 1) (pa_cons pe_int pa_nil))))
      (pss_cons (ps_par (i := 4) (j := 5) rfl c_q_law.nd rfl rfl (by decide) rfl rfl (pa_cons (pe_make T.M (ok_q_Drawing_init T) (hr.mono (by decide)) rfl T.gC T.bI .nil passL (pa_cons (pe_call (ok_l_shuffled T) (hr.mono (by decide)) rfl T.l_shuffled.g T.l_shuffled.k T.l_shuffled.b .nil pass0 (pa_cons (pv 1) (pa_cons (pv 3) pa_nil))) pa_nil)) (pa_cons (pe_call (ok_l_body T) (hr.mono (by decide)) rfl T.l_body.g T.l_body.k T.l_body.b .nil pass0 (pa_cons (pv 1) (pa_cons (pv 3) (pa_cons (pe_lst pa_nil) pa_nil)))) pa_nil)) (by with_unfolding_all rfl))
      (pss_cons (ps_set (i := 6) c_q_law.nd rfl (Or.inl rfl) (pe_call (ok_q_near_pairs T) (hr.mono (by decide)) rfl T.q_near_pairs.g T.q_near_pairs.k T.q_near_pairs.b .nil passL (pa_cons (pv 4) (pa_cons (pv 5) pa_nil))))
      (pss_cons (ps_if (pt_cmpR (op_neD hr.units) (pv 6) (pe_call (ok_l_near_pairs T) (hr.mono (by decide)) rfl T.l_near_pairs.g T.l_near_pairs.k T.l_near_pairs.b .nil pass0 (pa_cons (pv 3) (pa_cons (pv 5) pa_nil))) (nomark _))
      (pss_one (ps_ret pe_bl))
      pss_nil)
      (pss_cons (ps_expr (pe_bm PySem.F.plainAttrs_list PySem.F.slot_list_append PySem.F.type_list_append mt_append (pv 6) (pa_cons (pe_tup (pa_cons pe_int (pa_cons pe_int pa_nil))) pa_nil)))
      (pss_cons (ps_if (pt_cmpR (op_neD hr.units) (GS.pe_callK0 (ok_q_near_pairs T) (hr.mono (by decide)) rfl T.q_near_pairs.g T.q_near_pairs.k (kb_q_near_pairs_0 T) passL (pk_cons (pv 4) (pk_cons (pv 5) pk_nil))) (pe_call (ok_l_near_pairs T) (hr.mono (by decide)) rfl T.l_near_pairs.g T.l_near_pairs.k T.l_near_pairs.b .nil pass0 (pa_cons (pv 3) (pa_cons (pv 5) pa_nil))) (nomark _))
      (pss_one (ps_ret pe_bl))
      pss_nil)
      (pss_cons (ps_for PassesOwn.never rfl (pi_range1 rfl T.z_range (pa_cons (pe_callB call_len_seq (by rfl) T.z_len (by decide +kernel) (pa_cons (pv 3) pa_nil)) pa_nil)) (pg_name (i := 7) c_q_law.nd rfl (Or.inl rfl))
      (pss_one (ps_for PassesOwn.never rfl (pi_range1 rfl T.z_range (pa_cons (pv 7) pa_nil)) (pg_name (i := 8) c_q_law.nd rfl (Or.inl rfl))
      (pss_cons (ps_asg (pe_ifExp (pt_cmpR op_eq (pe_call (ok_l_take T) (hr.mono (by decide)) rfl T.l_take.g T.l_take.k T.l_take.b .nil pass0 (pa_cons (pv 1) (pa_cons pe_int pa_nil))) pe_int (nomark _)) (pe_tup (pa_cons (pv 8) (pa_cons (pv 7) pa_nil))) (pe_tup (pa_cons (pv 7) (pa_cons (pv 8) pa_nil)))) (pg_tup rfl (pgs_cons (pg_name (i := 9) c_q_law.nd rfl (Or.inl rfl) (hf := Or.inr rfl)) (pgs_cons (pg_name (i := 10) c_q_law.nd rfl (Or.inl rfl) (hf := Or.inr rfl)) pgs_nil))))
      (pss_cons (ps_set (i := 11) c_q_law.nd rfl (Or.inl rfl) (pe_call (ok_q_gap T) (hr.mono (by decide)) rfl T.q_gap.g T.q_gap.k T.q_gap.b .nil passL (pa_cons (pv 4) (pa_cons (pv 9) (pa_cons (pv 10) pa_nil)))))
      (pss_cons (ps_if (PW.pt (pw_or (pt_not (pt_val (pe_call (ok_l_numbers T) (hr.mono (by decide)) rfl T.l_numbers.g T.l_numbers.k T.l_numbers.b .nil pass0 (pa_cons (pv 11) (pa_cons pe_int pa_nil))))) (pw_or1 (pt_cmpR (op_neD hr.units) (pv 11) (pe_call (ok_l_due_gap T) (hr.mono (by decide)) rfl T.l_due_gap.g T.l_due_gap.k T.l_due_gap.b .nil pass0 (pa_cons (pv 3) (pa_cons (pv 8) (pa_cons (pv 7) pa_nil)))) (nomark _)))))
      (pss_one (ps_ret pe_bl))
      pss_nil)
      (pss_cons (ps_if (pt_not (pt_val (pe_call (ok_l_says T) (hr.mono (by decide)) rfl T.l_says.g T.l_says.k T.l_says.b .nil pass0 (pa_cons (pe_callK (ok_q_near T) (hr.mono (by decide)) rfl T.q_near.g T.q_near.k (kb_q_near_2 T) passL (pa_cons (pv 4) (pa_cons (pv 5) pa_nil)) (pk_cons (pv 9) (pk_cons (pv 10) pk_nil))) (pa_cons (pe_call (ok_l_near T) (hr.mono (by decide)) rfl T.l_near.g T.l_near.k T.l_near.b .nil pass0 (pa_cons (pv 3) (pa_cons (pv 5) (pa_cons (pv 8) (pa_cons (pv 7) pa_nil))))) pa_nil)))))
      (pss_one (ps_ret pe_bl))
      pss_nil)
      (pss_one (ps_if (pt_not (pt_val (pe_call (ok_l_least_near T) (hr.mono (by decide)) rfl T.l_least_near.g T.l_least_near.k T.l_least_near.b .nil pass0 (pa_cons (pv 3) (pa_cons (pv 8) (pa_cons (pv 7) (pa_cons (pe_call (ok_q_near_from T) (hr.mono (by decide)) rfl T.q_near_from.g T.q_near_from.k T.q_near_from.b .nil passL (pa_cons (pv 4) (pa_cons (pv 9) (pa_cons (pv 10) pa_nil)))) pa_nil)))))))
      (pss_one (ps_ret pe_bl))
      pss_nil)))))))))
      (pss_one (ps_if (PW.pt (pw_and (pt_cmpR (op_neD hr.units) (pv 3) (pe_lst pa_nil) (nomark _)) (pw_and1 (pt_not (pt_val (pe_call (ok_l_refusals T Z TB) (hr.mono (by decide)) rfl T.l_refusals.g T.l_refusals.k T.l_refusals.b .nil pass0 (pa_cons (pv 1) (pa_cons (pv 4) (pa_cons (pv 5) (pa_cons (pe_callB call_len_seq (by rfl) T.z_len (by decide +kernel) (pa_cons (pv 3) pa_nil)) pa_nil))))))))))
      (pss_one (ps_ret pe_bl))
      pss_nil))))))))))
      (pss_one (ps_ret pe_bl))))
      , ?_⟩
    refine ⟨.ref l, rfl, l, ns, rfl, hS, h63, fun H1 d g c S1 hd0 hg0 hc0 hD => ?_⟩
    refine ⟨.ref l, rfl, l, _, rfl, .inl (S1.seq hS), _, _, rfl, _, _, rfl, rfl, _, rfl, ?_⟩
    have h0 : 0 ≤ (if (4 : Int) < ((ns.map V.int).length : Int) then (4 : Int) else ((ns.map V.int).length : Int)) := by split <;> omega
    have h5 : (if (4 : Int) < ((ns.map V.int).length : Int) then (4 : Int) else ((ns.map V.int).length : Int)) ≤ 4 := by split <;> omega
    generalize (if (4 : Int) < ((ns.map V.int).length : Int) then (4 : Int) else ((ns.map V.int).length : Int)) = few at h0 h5 ⊢
    refine ⟨by omega, by omega, ?_⟩
    refine for_range (lo := 0) (n := (1 + few).toNat) (LP l d g c (LT Z)) ⟨none, none, none, none, none, none, none, none, none, none, 0, rfl, hD, by omega, hT.ext S1⟩ ?_ (fun σ H3 hP => ?_)
    · intro turn σ H3 hturn hP
      obtain ⟨x2, x3, x4, x5, x6, x7, x8, x9, x10, x11, t3, rfl, d3, ht3, T3⟩ := hP
      have hturn5 : turn < 5 := by omega
      refine ⟨.ref d, rfl, d, g, c, t3, 7, rfl, d3, by omega, by decide, by decide, fun H4 z bs t4 hbl hok hnd hlen hasc hz ht4 f4 d4 => ?_⟩
      have h7 : bs.length ≤ 7 := by omega
      obtain ⟨nzd, nzg⟩ := d3.new hz
      obtain ⟨rs, h1, hbk⟩ := id hbl
      have hlr : (rs.map V.ref).length = bs.length := by rw [List.length_map, pd_len hbk]
      refine ⟨.ref d, rfl, .ref z, rfl, d, g, c, z, t4, _, rfl, d4, by omega, nzg, h1, by omega, fun H5 y5 ys t5 perm ht5 hy5 h5y f5 d5 => ?_⟩
      obtain ⟨rs', rfl, pr⟩ := unref perm
      obtain ⟨bs', hb', pb⟩ := pd_perm pr hbk
      have hb5 : Bks H5 rs' bs' := pd_imp hb' fun _ _ e => f5.tup d4 e
      refine fun m dx hm hdx ne => ?_
      have SA := (same_new (o := .own m) hdx)
      have hm2 : upd H5 dx (.own m) m = none := by
        rw [upd_ne ne.symm]
        exact hm
      have SB := SA.trans (same_new (o := .ins T.C dx []) hm2)
      refine ⟨m, y5, dx, rs', bs', rfl, upd_same, SB _ _ h5y, pd_imp hb5 fun _ _ e => SB _ _ e, fun b hb => hok b (pb.mem_iff.mp hb), pb.nodup_iff.mpr hnd, by rw [pb.length_eq]; omega, fun H6 bsD keep dw pD ascD => ⟨rfl, ?_⟩⟩
      have eD : bsD = bs := perm_asc (pD.trans pb) ascD hasc
      subst eD
      have S6 : Same H5 H6 := fun q o e => keep q o (ne_of_none e hm) (SB _ _ e)
      have d6 := d5.grow S6
      have hbl6 := (hbl.fr d4 f5 nzg).same S6
      refine ⟨.ref d, rfl, .ref z, rfl, Nat.zero_le _, fun e he => ?_⟩
      have SE := same_new (o := .lst []) he
      refine ⟨d, g, c, z, e, t5, bsD, rfl, d6.grow SE, by omega, hbl6.same SE, nzg, upd_same, (d6.new he).2, h7, fun H8 p a b t8 ha hb hbo hp ht8 f8 d8 => ⟨_, _, rfl, ?_⟩⟩
      have T4 := tabs_fr d3 f4 T3
      have T6 := (tabs_fr d4 f5 T4).ext S6
      have W8 : LW T.C d g c z m p a b bsD (LT Z) t8 H8 := ⟨d8, (hbl6.same SE).fr (d6.grow SE) f8 nzg, (dw.same SE).fr (d6.grow SE) f8, hbo, tabs_fr (d6.grow SE) f8 (T6.ext SE)⟩
      clear hbl6 hbl h1 hbk hb' hb5 h5y perm pr pb pD keep dw
      refine ⟨.ref m, rfl, .ref p, rfl, m, p, a, b, rfl, W8.bo, .inl ⟨bsD, W8.dw, ha, hb, fun H9 y S9 hy pr9 => ?_⟩⟩
      have W9 := W8.same S9
      refine ⟨.ref y, rfl, .ref z, rfl, .ref p, rfl, z, p, a, b, bsD, rfl, W9.bl, hok, by omega, W9.bo, ha, hb, fun H10 v S10 hv pr10 => ⟨_, _, (pr9.same S10).dp, pr10.dp, GS.shaped_ts _, GS.shaped_ts _, _, rfl, ?_⟩⟩
      rw [GS.eqv_lts, decide_eq_true rfl]
      refine iteF ?_
      have lP := prsTo_len (nrF bsD a b) bsD.length bsD.length
      have lP2 : bsD.length * bsD.length ≤ 7 * 7 := Nat.mul_le_mul h7 h7
      obtain ⟨as9, a91, a92⟩ := pr9.same S10
      refine ⟨.ref y, rfl, .inl ⟨rfl, _, SqL.of a91⟩, by show 2 ≤ sizeLine; decide, fun zq hzq => ?_⟩
      have SQ := same_new (o := .tup [V.int 0, .int 0]) hzq
      refine ⟨y, _, _, rfl, rfl, SQ _ _ a91, by rw [List.length_map, pd_len a92]; exact sz_few (by omega), ?_⟩
      have S11 := own_w (o := .lst (as9.map V.ref ++ [.ref zq])) hy (S9.trans (S10.trans SQ)) (Same.refl _)
      have W11 := W8.same S11
      refine ⟨.ref m, rfl, .ref p, rfl, m, p, a, b, rfl, W11.bo, .inl ⟨bsD, W11.dw, ha, hb, fun H12 y12 S12 hy12 pr12 => ?_⟩⟩
      have W12 := W11.same S12
      refine ⟨.ref z, rfl, .ref p, rfl, z, p, a, b, bsD, rfl, W12.bl, hok, by omega, W12.bo, ha, hb, fun H13 v13 S13 hv13 pr13 => ⟨_, _, (pr12.same S13).dp, pr13.dp, GS.shaped_ts _, GS.shaped_ts _, _, rfl, ?_⟩⟩
      rw [GS.eqv_lts, decide_eq_true rfl]
      refine iteF ?_
      have W13 := W12.same S13
      obtain ⟨rs13, h13, len13⟩ := W13.bl.len
      refine ⟨.ref z, rfl, z, _, rfl, .inl (SqL.of h13), _, rfl, by omega, by omega, ?_⟩
      rw [len13]
      refine for_range (lo := 0) (n := ((bsD.length : Nat) : Int).toNat) (LJ T.C l d g c z m p y (some (.int (0 + turn))) a b t8 bsD (LT Z)) ⟨_, _, _, _, _, t8, rfl, W13, by omega⟩ ?_ (fun σ H3 hP => ?_)
      · intro j σ H3 hj hP
        obtain ⟨x7, x8, x9, x10, x11, t3, rfl, W3, ht3⟩ := hP
        rw [show (0 : Int) + (j : Int) = j from Int.zero_add _]
        have lj : j < bsD.length := by omega
        refine ⟨.int j, rfl, _, rfl, by omega, by omega, ?_⟩
        refine for_range (lo := 0) (n := ((j : Nat) : Int).toNat) (LI T.C l d g c z m p y (some (.int (0 + turn))) a b t8 bsD (LT Z) j) ⟨_, _, _, _, t3, rfl, W3, by omega⟩ ?_ (fun σ H4 hP => ?_)
        rotate_left
        · obtain ⟨y8, y9, y10, y11, t4, rfl, W4, ht4⟩ := hP
          exact ⟨_, _, _, _, _, t4, rfl, W4, by omega⟩
        intro i σ H3 hi hP
        obtain ⟨x8, x9, x10, x11, t3, rfl, W3, ht3⟩ := hP
        rw [show (0 : Int) + (i : Int) = i from Int.zero_add _]
        have hij : i < j := by omega
        have li : i < bsD.length := by omega
        obtain ⟨pi, gi⟩ : ∃ q, bsD[i]? = some q := ⟨_, List.getElem?_eq_getElem li⟩
        obtain ⟨pj, gj⟩ : ∃ q, bsD[j]? = some q := ⟨_, List.getElem?_eq_getElem lj⟩
        refine ⟨.ref d, rfl, d, g, c, t3, 2, rfl, W3.dr, by omega, by decide, by decide, fun H4 r t4 r0 r1 ht4 f4 d4 => ⟨rfl, _, rfl, ?_⟩⟩
        have W4 := W3.fr nzg f4 d4
        refine ite2 (fun _ => ?_) (fun _ => ?_)
        · skip
          refine ⟨.int i, rfl, .int j, rfl, by show 2 ≤ sizeLine; decide, fun zt hzt => ⟨zt, _, rfl, SqT.of upd_same, rfl, _, _, rfl, _, _, rfl, rfl, ?_⟩⟩
          have W5 := W4.same (same_new (o := .tup [V.int i, .int j]) hzt)
          refine ⟨.ref m, rfl, .int i, rfl, .int j, rfl, m, .int i, .int j, _, _, bsD, rfl, W5.dw, .int _, .int _, pc li lj (Nat.ne_of_lt hij) ⟨pi, pj, gi, gj, fun zf hzf => ?_⟩⟩
          have S6 := same_new (o := .tup [V.int (gx pi pj), .int (gy pi pj)]) hzf
          refine ⟨.ref zf, rfl, zf, _, _, rfl, upd_same, fun H7 S7 => ⟨_, rfl, iteF ?_⟩⟩
          have W7 := (W5.same S6).same S7
          refine ⟨.ref zf, rfl, .ref z, rfl, .int i, rfl, .int j, rfl, z, i, j, bsD, pi, pj, rfl, W7.bl, gi, gj, fun H8 v S8 hv bo8 => ⟨_, _, Bo.dp (S8 _ _ (S7 _ _ upd_same)), bo8.dp, GS.shaped_t _, GS.shaped_t _, _, rfl, ?_⟩⟩
          rw [GS.eqv_t, decide_eq_true (show [gx pi pj, gy pi pj] = [gx pi pj, gy pi pj] from rfl)]
          refine iteF ?_
          have W8 := W7.same S8
          refine ⟨.ref m, rfl, .ref p, rfl, .int i, rfl, .int j, rfl, m, p, a, b, .int i, .int j, _, _, bsD, rfl, W8.dw, W8.bo, .int _, .int _, (fun e => absurd ⟨ha, hb⟩ e), fun _ => pc li lj (Nat.ne_of_lt hij) ⟨pi, pj, gi, gj, fun H9 S9 => ?_⟩⟩
          have W9 := W8.same S9
          refine ⟨.ref z, rfl, .ref p, rfl, .int i, rfl, .int j, rfl, z, p, i, j, a, b, bsD, pi, pj, rfl, W9.bl, gi, gj, hok _ (List.mem_of_getElem? gi), hok _ (List.mem_of_getElem? gj), W9.bo, ha, hb, _, _, rfl, _, rfl, ?_⟩
          rw [show (nr pi pj a b == nr pi pj a b) = true from beq_self_eq_true _]
          refine iteF ?_
          refine ⟨.ref z, rfl, .int i, rfl, .int j, rfl, .ref m, rfl, .int i, rfl, .int j, rfl, m, .int i, .int j, _, _, bsD, rfl, W9.dw, .int _, .int _, pc li lj (Nat.ne_of_lt hij) ⟨pi, pj, gi, gj, fun H10 v2 S10 hv2 h10 => ?_⟩⟩
          have W10 := W9.same S10
          refine ⟨z, v2, i, j, bsD, pi, pj, rfl, W10.bl, gi, gj, hok _ (List.mem_of_getElem? gi), hok _ (List.mem_of_getElem? gj), h10, fun H11 S11 => ⟨_, rfl, iteF ?_⟩⟩
          exact ⟨_, _, _, _, t4, rfl, W10.same S11, by omega⟩
        · skip
          refine ⟨.int j, rfl, .int i, rfl, by show 2 ≤ sizeLine; decide, fun zt hzt => ⟨zt, _, rfl, SqT.of upd_same, rfl, _, _, rfl, _, _, rfl, rfl, ?_⟩⟩
          have W5 := W4.same (same_new (o := .tup [V.int j, .int i]) hzt)
          refine ⟨.ref m, rfl, .int j, rfl, .int i, rfl, m, .int j, .int i, _, _, bsD, rfl, W5.dw, .int _, .int _, pc lj li (Nat.ne_of_gt hij) ⟨pj, pi, gj, gi, fun zf hzf => ?_⟩⟩
          have S6 := same_new (o := .tup [V.int (gx pj pi), .int (gy pj pi)]) hzf
          refine ⟨.ref zf, rfl, zf, _, _, rfl, upd_same, fun H7 S7 => ⟨_, rfl, iteF ?_⟩⟩
          have W7 := (W5.same S6).same S7
          refine ⟨.ref zf, rfl, .ref z, rfl, .int i, rfl, .int j, rfl, z, i, j, bsD, pi, pj, rfl, W7.bl, gi, gj, fun H8 v S8 hv bo8 => ⟨_, _, Bo.dp (S8 _ _ (S7 _ _ upd_same)), bo8.dp, GS.shaped_t _, GS.shaped_t _, _, rfl, ?_⟩⟩
          rw [GS.eqv_t, decide_eq_true (show [gx pj pi, gy pj pi] = [gx pi pj, gy pi pj] from by rw [gx_comm, gy_comm])]
          refine iteF ?_
          have W8 := W7.same S8
          refine ⟨.ref m, rfl, .ref p, rfl, .int j, rfl, .int i, rfl, m, p, a, b, .int j, .int i, _, _, bsD, rfl, W8.dw, W8.bo, .int _, .int _, (fun e => absurd ⟨ha, hb⟩ e), fun _ => pc lj li (Nat.ne_of_gt hij) ⟨pj, pi, gj, gi, fun H9 S9 => ?_⟩⟩
          have W9 := W8.same S9
          refine ⟨.ref z, rfl, .ref p, rfl, .int i, rfl, .int j, rfl, z, p, i, j, a, b, bsD, pi, pj, rfl, W9.bl, gi, gj, hok _ (List.mem_of_getElem? gi), hok _ (List.mem_of_getElem? gj), W9.bo, ha, hb, _, _, rfl, _, rfl, ?_⟩
          rw [show (nr pj pi a b == nr pi pj a b) = true from by rw [nr_comm pj pi]; exact beq_self_eq_true _]
          refine iteF ?_
          refine ⟨.ref z, rfl, .int i, rfl, .int j, rfl, .ref m, rfl, .int j, rfl, .int i, rfl, m, .int j, .int i, _, _, bsD, rfl, W9.dw, .int _, .int _, pc lj li (Nat.ne_of_gt hij) ⟨pj, pi, gj, gi, fun H10 v2 S10 hv2 h10 => ?_⟩⟩
          have W10 := W9.same S10
          refine ⟨z, v2, i, j, bsD, pi, pj, rfl, W10.bl, gi, gj, hok _ (List.mem_of_getElem? gi), hok _ (List.mem_of_getElem? gj), by rw [lnr_comm]; exact h10, fun H11 S11 => ⟨_, rfl, iteF ?_⟩⟩
          exact ⟨_, _, _, _, t4, rfl, W10.same S11, by omega⟩
      · obtain ⟨x7, x8, x9, x10, x11, t4, rfl, W4, ht4⟩ := hP
        have post : ∀ (H' : Hp) (t' : Int) , t' ≤ t8 + 60 → Dr H' d g c t' → LamX.Tabs (LT Z) H' → LP l d g c (LT Z) (turn + 1) [some (.ref l), some (.ref d), some (.int (0 + turn)), some (.ref z), some (.ref m), some (.ref p), some (.ref y), x7, x8, x9, x10, x11] H' := fun H' t' ht' d' T' => ⟨_, _, _, _, _, _, _, _, _, _, t', rfl, d', by omega, T'⟩
        refine ⟨.ref z, rfl, Nat.zero_le _, fun e he => ?_⟩
        have W5 := W4.same (same_new (o := .lst []) he)
        refine ⟨_, .list (([] : List (List Int)).map GS.dT), W5.bl.dp, GS.dp_l (ns := []) (SqL.of upd_same), GS.shaped_ts _, GS.shaped_ts _, _, rfl, ?_⟩
        rw [GS.eqv_lts]
        cases eb : bsD with
        | nil => exact iteF (iteF (post _ t4 (by rw [eb] at ht4; simp at ht4; omega) W5.dr W5.tb))
        | cons q0 q1 =>
          rw [← eb]
          have pos : 0 < bsD.length := by rw [eb]; exact Nat.succ_pos _
          have ne : decide (bsD.map Bk.n = []) = false := by rw [eb]; rfl
          rw [ne]
          refine iteT ?_
          obtain ⟨rs5, h15, len5⟩ := W5.bl.len
          refine ⟨.ref d, rfl, .ref m, rfl, .ref p, rfl, .ref z, rfl, z, _, rfl, .inl (SqL.of h15), d, g, c, m, p, t4, a, b, bsD, by rw [len5]; rfl, W5.dr, by omega, W5.dw, W5.bo, ha, hb, pos, by omega, W5.tb, fun H' t' ht' d' T' => ⟨_, rfl, iteF (post H' t' (by omega) d' T')⟩⟩
    · exact k _
end
end G21
set_option Elab.async false
set_option linter.all false
set_option maxRecDepth 100000
set_option maxHeartbeats 4000000
namespace G21
open PySem PySem.Spec PyProof.Rows L2
theorem law_at {l : PySem.W.OpenLaw} {w : World} {K : PySem.W.Frag} {h : Heap} {mg : Str → Option Value} {fa : Addr} (X : K.In h) (G : h.Ns mainGlobals mg) (hfa : mg "law" = some (.ref fa))
    {mostT : Tok}
    {C C_GapError C_BadBlocks C_BadBody C_BadDrawing C_BadIndex C_BadPair : Addr}
    {f_I : Addr} {od_I an_I : Option Addr} {sl_I : Array (Option Value)} {oc_I kV_I dc_I pm_I cd_I ct_I : Value}
    {f_q_is_number : Addr} {od_q_is_number an_q_is_number : Option Addr} {sl_q_is_number : Array (Option Value)} {oc_q_is_number kV_q_is_number dc_q_is_number pm_q_is_number cd_q_is_number ct_q_is_number : Value}
    {f_q_is_list : Addr} {od_q_is_list an_q_is_list : Option Addr} {sl_q_is_list : Array (Option Value)} {oc_q_is_list kV_q_is_list dc_q_is_list pm_q_is_list cd_q_is_list ct_q_is_list : Value}
    {f_q_is_index : Addr} {od_q_is_index an_q_is_index : Option Addr} {sl_q_is_index : Array (Option Value)} {oc_q_is_index kV_q_is_index dc_q_is_index pm_q_is_index cd_q_is_index ct_q_is_index : Value}
    {f_q_is_block : Addr} {od_q_is_block an_q_is_block : Option Addr} {sl_q_is_block : Array (Option Value)} {oc_q_is_block kV_q_is_block dc_q_is_block pm_q_is_block cd_q_is_block ct_q_is_block : Value}
    {f_q_are_blocks : Addr} {od_q_are_blocks an_q_are_blocks : Option Addr} {sl_q_are_blocks : Array (Option Value)} {oc_q_are_blocks kV_q_are_blocks dc_q_are_blocks pm_q_are_blocks cd_q_are_blocks ct_q_are_blocks : Value}
    {f_q_check_drawing : Addr} {od_q_check_drawing an_q_check_drawing : Option Addr} {sl_q_check_drawing : Array (Option Value)} {oc_q_check_drawing kV_q_check_drawing dc_q_check_drawing pm_q_check_drawing cd_q_check_drawing ct_q_check_drawing : Value}
    {f_q_check_index : Addr} {od_q_check_index an_q_check_index : Option Addr} {sl_q_check_index : Array (Option Value)} {oc_q_check_index kV_q_check_index dc_q_check_index pm_q_check_index cd_q_check_index ct_q_check_index : Value}
    {f_q_check_pair : Addr} {od_q_check_pair an_q_check_pair : Option Addr} {sl_q_check_pair : Array (Option Value)} {oc_q_check_pair kV_q_check_pair dc_q_check_pair pm_q_check_pair cd_q_check_pair ct_q_check_pair : Value}
    {f_q_is_size : Addr} {od_q_is_size an_q_is_size : Option Addr} {sl_q_is_size : Array (Option Value)} {oc_q_is_size kV_q_is_size dc_q_is_size pm_q_is_size cd_q_is_size ct_q_is_size : Value}
    {f_q_is_body : Addr} {od_q_is_body an_q_is_body : Option Addr} {sl_q_is_body : Array (Option Value)} {oc_q_is_body kV_q_is_body dc_q_is_body pm_q_is_body cd_q_is_body ct_q_is_body : Value}
    {f_q_check_body : Addr} {od_q_check_body an_q_check_body : Option Addr} {sl_q_check_body : Array (Option Value)} {oc_q_check_body kV_q_check_body dc_q_check_body pm_q_check_body cd_q_check_body ct_q_check_body : Value}
    {f_q_check_here : Addr} {od_q_check_here an_q_check_here : Option Addr} {sl_q_check_here : Array (Option Value)} {oc_q_check_here kV_q_check_here dc_q_check_here pm_q_check_here cd_q_check_here ct_q_check_here : Value}
    {f_q_gap_of : Addr} {od_q_gap_of an_q_gap_of : Option Addr} {sl_q_gap_of : Array (Option Value)} {oc_q_gap_of kV_q_gap_of dc_q_gap_of pm_q_gap_of cd_q_gap_of ct_q_gap_of : Value}
    {f_q_are_near : Addr} {od_q_are_near an_q_are_near : Option Addr} {sl_q_are_near : Array (Option Value)} {oc_q_are_near kV_q_are_near dc_q_are_near pm_q_are_near cd_q_are_near ct_q_are_near : Value}
    {f_q_all_near : Addr} {od_q_all_near an_q_all_near : Option Addr} {sl_q_all_near : Array (Option Value)} {oc_q_all_near kV_q_all_near dc_q_all_near pm_q_all_near cd_q_all_near ct_q_all_near : Value}
    {f_q_least_near : Addr} {od_q_least_near an_q_least_near : Option Addr} {sl_q_least_near : Array (Option Value)} {oc_q_least_near kV_q_least_near dc_q_least_near pm_q_least_near cd_q_least_near ct_q_least_near : Value}
    {f_q_gap : Addr} {od_q_gap an_q_gap : Option Addr} {sl_q_gap : Array (Option Value)} {oc_q_gap kV_q_gap dc_q_gap pm_q_gap cd_q_gap ct_q_gap : Value}
    {f_q_near : Addr} {od_q_near an_q_near : Option Addr} {sl_q_near : Array (Option Value)} {oc_q_near kV_q_near dc_q_near pm_q_near cd_q_near ct_q_near : Value}
    {f_q_near_pairs : Addr} {od_q_near_pairs an_q_near_pairs : Option Addr} {sl_q_near_pairs : Array (Option Value)} {oc_q_near_pairs kV_q_near_pairs dc_q_near_pairs pm_q_near_pairs cd_q_near_pairs ct_q_near_pairs : Value}
    {f_q_near_from : Addr} {od_q_near_from an_q_near_from : Option Addr} {sl_q_near_from : Array (Option Value)} {oc_q_near_from kV_q_near_from dc_q_near_from pm_q_near_from cd_q_near_from ct_q_near_from : Value}
    {f_l_begun : Addr} {od_l_begun an_l_begun : Option Addr} {sl_l_begun : Array (Option Value)} {oc_l_begun kV_l_begun dc_l_begun pm_l_begun cd_l_begun ct_l_begun : Value}
    {f_l_mixed : Addr} {od_l_mixed an_l_mixed : Option Addr} {sl_l_mixed : Array (Option Value)} {oc_l_mixed kV_l_mixed dc_l_mixed pm_l_mixed cd_l_mixed ct_l_mixed : Value}
    {f_l_take : Addr} {od_l_take an_l_take : Option Addr} {sl_l_take : Array (Option Value)} {oc_l_take kV_l_take dc_l_take pm_l_take cd_l_take ct_l_take : Value}
    {f_l_pick : Addr} {od_l_pick an_l_pick : Option Addr} {sl_l_pick : Array (Option Value)} {oc_l_pick kV_l_pick dc_l_pick pm_l_pick cd_l_pick ct_l_pick : Value}
    {f_l_caught : Addr} {od_l_caught an_l_caught : Option Addr} {sl_l_caught : Array (Option Value)} {oc_l_caught kV_l_caught dc_l_caught pm_l_caught cd_l_caught ct_l_caught : Value}
    {f_l_is_number : Addr} {od_l_is_number an_l_is_number : Option Addr} {sl_l_is_number : Array (Option Value)} {oc_l_is_number kV_l_is_number dc_l_is_number pm_l_is_number cd_l_is_number ct_l_is_number : Value}
    {f_l_says : Addr} {od_l_says an_l_says : Option Addr} {sl_l_says : Array (Option Value)} {oc_l_says kV_l_says dc_l_says pm_l_says cd_l_says ct_l_says : Value}
    {f_l_numbers : Addr} {od_l_numbers an_l_numbers : Option Addr} {sl_l_numbers : Array (Option Value)} {oc_l_numbers kV_l_numbers dc_l_numbers pm_l_numbers cd_l_numbers ct_l_numbers : Value}
    {f_l_shuffled : Addr} {od_l_shuffled an_l_shuffled : Option Addr} {sl_l_shuffled : Array (Option Value)} {oc_l_shuffled kV_l_shuffled dc_l_shuffled pm_l_shuffled cd_l_shuffled ct_l_shuffled : Value}
    {f_l_block : Addr} {od_l_block an_l_block : Option Addr} {sl_l_block : Array (Option Value)} {oc_l_block kV_l_block dc_l_block pm_l_block cd_l_block ct_l_block : Value}
    {f_l_pen : Addr} {od_l_pen an_l_pen : Option Addr} {sl_l_pen : Array (Option Value)} {oc_l_pen kV_l_pen dc_l_pen pm_l_pen cd_l_pen ct_l_pen : Value}
    {f_l_stretched : Addr} {od_l_stretched an_l_stretched : Option Addr} {sl_l_stretched : Array (Option Value)} {oc_l_stretched kV_l_stretched dc_l_stretched pm_l_stretched cd_l_stretched ct_l_stretched : Value}
    {f_l_table : Addr} {od_l_table an_l_table : Option Addr} {sl_l_table : Array (Option Value)} {oc_l_table kV_l_table dc_l_table pm_l_table cd_l_table ct_l_table : Value}
    {f_l_blocks : Addr} {od_l_blocks an_l_blocks : Option Addr} {sl_l_blocks : Array (Option Value)} {oc_l_blocks kV_l_blocks dc_l_blocks pm_l_blocks cd_l_blocks ct_l_blocks : Value}
    {f_l_body : Addr} {od_l_body an_l_body : Option Addr} {sl_l_body : Array (Option Value)} {oc_l_body kV_l_body dc_l_body pm_l_body cd_l_body ct_l_body : Value}
    {f_l_grid : Addr} {od_l_grid an_l_grid : Option Addr} {sl_l_grid : Array (Option Value)} {oc_l_grid kV_l_grid dc_l_grid pm_l_grid cd_l_grid ct_l_grid : Value}
    {f_l_due_gap : Addr} {od_l_due_gap an_l_due_gap : Option Addr} {sl_l_due_gap : Array (Option Value)} {oc_l_due_gap kV_l_due_gap dc_l_due_gap pm_l_due_gap cd_l_due_gap ct_l_due_gap : Value}
    {f_l_near : Addr} {od_l_near an_l_near : Option Addr} {sl_l_near : Array (Option Value)} {oc_l_near kV_l_near dc_l_near pm_l_near cd_l_near ct_l_near : Value}
    {f_l_near_pairs : Addr} {od_l_near_pairs an_l_near_pairs : Option Addr} {sl_l_near_pairs : Array (Option Value)} {oc_l_near_pairs kV_l_near_pairs dc_l_near_pairs pm_l_near_pairs cd_l_near_pairs ct_l_near_pairs : Value}
    {f_l_least_near : Addr} {od_l_least_near an_l_least_near : Option Addr} {sl_l_least_near : Array (Option Value)} {oc_l_least_near kV_l_least_near dc_l_least_near pm_l_least_near cd_l_least_near ct_l_least_near : Value}
    {cc P : Addr}
    {f_l_refusals : Addr} {od_l_refusals an_l_refusals : Option Addr} {sl_l_refusals : Array (Option Value)} {oc_l_refusals kV_l_refusals dc_l_refusals pm_l_refusals ct_l_refusals : Value}
    {f_q_law : Addr} {od_q_law an_q_law : Option Addr} {sl_q_law : Array (Option Value)} {oc_q_law kV_q_law dc_q_law pm_q_law cd_q_law ct_q_law : Value}
    (z_abs : PySem.W.nsIn K mainGlobals "abs" = some none)
    (z_all : PySem.W.nsIn K mainGlobals "all" = some none)
    (z_bool : PySem.W.nsIn K mainGlobals "bool" = some none)
    (z_enumerate : PySem.W.nsIn K mainGlobals "enumerate" = some none)
    (z_int : PySem.W.nsIn K mainGlobals "int" = some none)
    (z_isinstance : PySem.W.nsIn K mainGlobals "isinstance" = some none)
    (z_len : PySem.W.nsIn K mainGlobals "len" = some none)
    (z_list : PySem.W.nsIn K mainGlobals "list" = some none)
    (z_max : PySem.W.nsIn K mainGlobals "max" = some none)
    (z_min : PySem.W.nsIn K mainGlobals "min" = some none)
    (z_range : PySem.W.nsIn K mainGlobals "range" = some none)
    (z_set : PySem.W.nsIn K mainGlobals "set" = some none)
    (z_sorted : PySem.W.nsIn K mainGlobals "sorted" = some none)
    (z_tuple : PySem.W.nsIn K mainGlobals "tuple" = some none)
    (most : PySem.W.nsIn K mainGlobals "MOST_BLOCKS" = some (some (.int 12 mostT)))
    (iN : PySem.W.specialIn K (.builtin "object.__class__") "__get__" = some (some (.builtin "getset_descriptor.__get__")))
    (iT : PySem.W.takesIn K (.builtin "object.__class__") = some true)
    (xa_GapError : PySem.W.nsIn K mainGlobals "GapError" = some (some (.ref C_GapError)))
    (xq_GapError : PySem.W.excIn K C_GapError [.type "ValueError", .type "Exception", .type "BaseException", .type "object"] "ValueError.__new__" = true)
    (xk_GapError : PySem.W.keepIn K (.ref C_GapError) = true)
    (xb_GapError : PySem.W.subIn K (.ref C_GapError) (.type "BaseException") = some true)
    (xt_GapError : PySem.W.typeIn K (.ref C_GapError) = some (.type "type"))
    (xg_GapError : PySem.W.findIn K (.ref C_GapError) "__getattribute__" = some (some (.builtin "BaseException.__getattribute__")))
    (xh_GapError : PySem.W.findIn K (.ref C_GapError) "__getattr__" = some none)
    (xd_GapError : PySem.W.hasDictIn K C_GapError = true)
    (xc_GapError : PySem.W.findIn K (.ref C_GapError) "__class__" = some (some (.builtin "object.__class__")))
    (xm_GapError : PySem.W.mroIn K C_GapError (.type "object") = some true)
    (xa_BadBlocks : PySem.W.nsIn K mainGlobals "BadBlocks" = some (some (.ref C_BadBlocks)))
    (xq_BadBlocks : PySem.W.excIn K C_BadBlocks [.type "ValueError", .type "Exception", .type "BaseException", .type "object"] "ValueError.__new__" = true)
    (xk_BadBlocks : PySem.W.keepIn K (.ref C_BadBlocks) = true)
    (xb_BadBlocks : PySem.W.subIn K (.ref C_BadBlocks) (.type "BaseException") = some true)
    (xt_BadBlocks : PySem.W.typeIn K (.ref C_BadBlocks) = some (.type "type"))
    (xg_BadBlocks : PySem.W.findIn K (.ref C_BadBlocks) "__getattribute__" = some (some (.builtin "BaseException.__getattribute__")))
    (xh_BadBlocks : PySem.W.findIn K (.ref C_BadBlocks) "__getattr__" = some none)
    (xd_BadBlocks : PySem.W.hasDictIn K C_BadBlocks = true)
    (xc_BadBlocks : PySem.W.findIn K (.ref C_BadBlocks) "__class__" = some (some (.builtin "object.__class__")))
    (xm_BadBlocks : PySem.W.mroIn K C_BadBlocks (.type "object") = some true)
    (xa_BadBody : PySem.W.nsIn K mainGlobals "BadBody" = some (some (.ref C_BadBody)))
    (xq_BadBody : PySem.W.excIn K C_BadBody [.type "ValueError", .type "Exception", .type "BaseException", .type "object"] "ValueError.__new__" = true)
    (xk_BadBody : PySem.W.keepIn K (.ref C_BadBody) = true)
    (xb_BadBody : PySem.W.subIn K (.ref C_BadBody) (.type "BaseException") = some true)
    (xt_BadBody : PySem.W.typeIn K (.ref C_BadBody) = some (.type "type"))
    (xg_BadBody : PySem.W.findIn K (.ref C_BadBody) "__getattribute__" = some (some (.builtin "BaseException.__getattribute__")))
    (xh_BadBody : PySem.W.findIn K (.ref C_BadBody) "__getattr__" = some none)
    (xd_BadBody : PySem.W.hasDictIn K C_BadBody = true)
    (xc_BadBody : PySem.W.findIn K (.ref C_BadBody) "__class__" = some (some (.builtin "object.__class__")))
    (xm_BadBody : PySem.W.mroIn K C_BadBody (.type "object") = some true)
    (xa_BadDrawing : PySem.W.nsIn K mainGlobals "BadDrawing" = some (some (.ref C_BadDrawing)))
    (xq_BadDrawing : PySem.W.excIn K C_BadDrawing [.type "ValueError", .type "Exception", .type "BaseException", .type "object"] "ValueError.__new__" = true)
    (xk_BadDrawing : PySem.W.keepIn K (.ref C_BadDrawing) = true)
    (xb_BadDrawing : PySem.W.subIn K (.ref C_BadDrawing) (.type "BaseException") = some true)
    (xt_BadDrawing : PySem.W.typeIn K (.ref C_BadDrawing) = some (.type "type"))
    (xg_BadDrawing : PySem.W.findIn K (.ref C_BadDrawing) "__getattribute__" = some (some (.builtin "BaseException.__getattribute__")))
    (xh_BadDrawing : PySem.W.findIn K (.ref C_BadDrawing) "__getattr__" = some none)
    (xd_BadDrawing : PySem.W.hasDictIn K C_BadDrawing = true)
    (xc_BadDrawing : PySem.W.findIn K (.ref C_BadDrawing) "__class__" = some (some (.builtin "object.__class__")))
    (xm_BadDrawing : PySem.W.mroIn K C_BadDrawing (.type "object") = some true)
    (xa_BadIndex : PySem.W.nsIn K mainGlobals "BadIndex" = some (some (.ref C_BadIndex)))
    (xq_BadIndex : PySem.W.excIn K C_BadIndex [.type "ValueError", .type "Exception", .type "BaseException", .type "object"] "ValueError.__new__" = true)
    (xk_BadIndex : PySem.W.keepIn K (.ref C_BadIndex) = true)
    (xb_BadIndex : PySem.W.subIn K (.ref C_BadIndex) (.type "BaseException") = some true)
    (xt_BadIndex : PySem.W.typeIn K (.ref C_BadIndex) = some (.type "type"))
    (xg_BadIndex : PySem.W.findIn K (.ref C_BadIndex) "__getattribute__" = some (some (.builtin "BaseException.__getattribute__")))
    (xh_BadIndex : PySem.W.findIn K (.ref C_BadIndex) "__getattr__" = some none)
    (xd_BadIndex : PySem.W.hasDictIn K C_BadIndex = true)
    (xc_BadIndex : PySem.W.findIn K (.ref C_BadIndex) "__class__" = some (some (.builtin "object.__class__")))
    (xm_BadIndex : PySem.W.mroIn K C_BadIndex (.type "object") = some true)
    (xa_BadPair : PySem.W.nsIn K mainGlobals "BadPair" = some (some (.ref C_BadPair)))
    (xq_BadPair : PySem.W.excIn K C_BadPair [.type "ValueError", .type "Exception", .type "BaseException", .type "object"] "ValueError.__new__" = true)
    (xk_BadPair : PySem.W.keepIn K (.ref C_BadPair) = true)
    (xb_BadPair : PySem.W.subIn K (.ref C_BadPair) (.type "BaseException") = some true)
    (xt_BadPair : PySem.W.typeIn K (.ref C_BadPair) = some (.type "type"))
    (xg_BadPair : PySem.W.findIn K (.ref C_BadPair) "__getattribute__" = some (some (.builtin "BaseException.__getattribute__")))
    (xh_BadPair : PySem.W.findIn K (.ref C_BadPair) "__getattr__" = some none)
    (xd_BadPair : PySem.W.hasDictIn K C_BadPair = true)
    (xc_BadPair : PySem.W.findIn K (.ref C_BadPair) "__class__" = some (some (.builtin "object.__class__")))
    (xm_BadPair : PySem.W.mroIn K C_BadPair (.type "object") = some true)
    (u_BadBlocks : PySem.W.exmOne K (.ref C_BadBlocks) (.ref C_GapError) = some true)
    (u_BadBody : PySem.W.exmOne K (.ref C_BadBody) (.ref C_GapError) = some true)
    (u_BadDrawing : PySem.W.exmOne K (.ref C_BadDrawing) (.ref C_GapError) = some true)
    (u_BadIndex : PySem.W.exmOne K (.ref C_BadIndex) (.ref C_GapError) = some true)
    (u_BadPair : PySem.W.exmOne K (.ref C_BadPair) (.ref C_GapError) = some true)
    (aC : PySem.W.nsIn K mainGlobals "Drawing" = some (some (.ref C)))
    (pg : PySem.W.plainGet K C Str.empty = true)
    (hd : PySem.W.hasDictIn K C = true)
    (po : PySem.W.plainOver K C = true)
    (sa : PySem.W.findIn K (.ref C) "__setattr__" = some (some (.builtin "object.__setattr__")))
    (nB : PySem.W.findIn K (.ref C) "blocks" = some none)
    (in_ : PySem.W.findIn K (.ref C) "__init__" = some (some (.ref f_I)))
    (l_I : K.lookup f_I = some ⟨oc_I, od_I, .func (PySem.W.fnOf "__init__" "Drawing.__init__" (defArgs S_q_Drawing_init) (defBody S_q_Drawing_init) (defScope S_q_Drawing_init) .none kV_I dc_I pm_I an_I cd_I ct_I), sl_I⟩)
    (c_I : PySem.W.codeIn K cd_I "Drawing.__init__" = true)
    (k_I : PySem.W.keepIn K (.ref f_I) = true)
    (ii : PySem.W.isFn K (.ref f_I) = true)
    (mk : PySem.W.makesIn K C = true)
    (kc : PySem.W.keepIn K (.ref C) = true)
    (iA : PySem.W.findIn K (.ref C) "__class__" = some (some (.builtin "object.__class__")))
    (iM : PySem.W.mroIn K C (.type "object") = some true)
    (kD : PySem.W.kitOne K (.ref C) (.ref C) = some true)
    (kL : PySem.W.kitOne K (.type "list") (.ref C) = some false)
    (e_BadBlocks : PySem.W.kitOne K (.ref C_BadBlocks) (.ref C_BadBlocks) = some true)
    (e_BadBody : PySem.W.kitOne K (.ref C_BadBody) (.ref C_BadBody) = some true)
    (e_BadDrawing : PySem.W.kitOne K (.ref C_BadDrawing) (.ref C_BadDrawing) = some true)
    (e_BadIndex : PySem.W.kitOne K (.ref C_BadIndex) (.ref C_BadIndex) = some true)
    (e_BadPair : PySem.W.kitOne K (.ref C_BadPair) (.ref C_BadPair) = some true)
    (a_q_is_number : PySem.W.nsIn K mainGlobals "is_number" = some (some (.ref f_q_is_number)))
    (l_q_is_number : K.lookup f_q_is_number = some ⟨oc_q_is_number, od_q_is_number, .func (PySem.W.fnOf "is_number" "is_number" (defArgs S_q_is_number) (defBody S_q_is_number) (defScope S_q_is_number) .none kV_q_is_number dc_q_is_number pm_q_is_number an_q_is_number cd_q_is_number ct_q_is_number), sl_q_is_number⟩)
    (c_q_is_number : PySem.W.codeIn K cd_q_is_number "is_number" = true)
    (k_q_is_number : PySem.W.keepIn K (.ref f_q_is_number) = true)
    (a_q_is_list : PySem.W.nsIn K mainGlobals "is_list" = some (some (.ref f_q_is_list)))
    (l_q_is_list : K.lookup f_q_is_list = some ⟨oc_q_is_list, od_q_is_list, .func (PySem.W.fnOf "is_list" "is_list" (defArgs S_q_is_list) (defBody S_q_is_list) (defScope S_q_is_list) .none kV_q_is_list dc_q_is_list pm_q_is_list an_q_is_list cd_q_is_list ct_q_is_list), sl_q_is_list⟩)
    (c_q_is_list : PySem.W.codeIn K cd_q_is_list "is_list" = true)
    (k_q_is_list : PySem.W.keepIn K (.ref f_q_is_list) = true)
    (a_q_is_index : PySem.W.nsIn K mainGlobals "is_index" = some (some (.ref f_q_is_index)))
    (l_q_is_index : K.lookup f_q_is_index = some ⟨oc_q_is_index, od_q_is_index, .func (PySem.W.fnOf "is_index" "is_index" (defArgs S_q_is_index) (defBody S_q_is_index) (defScope S_q_is_index) .none kV_q_is_index dc_q_is_index pm_q_is_index an_q_is_index cd_q_is_index ct_q_is_index), sl_q_is_index⟩)
    (c_q_is_index : PySem.W.codeIn K cd_q_is_index "is_index" = true)
    (k_q_is_index : PySem.W.keepIn K (.ref f_q_is_index) = true)
    (a_q_is_block : PySem.W.nsIn K mainGlobals "is_block" = some (some (.ref f_q_is_block)))
    (l_q_is_block : K.lookup f_q_is_block = some ⟨oc_q_is_block, od_q_is_block, .func (PySem.W.fnOf "is_block" "is_block" (defArgs S_q_is_block) (defBody S_q_is_block) (defScope S_q_is_block) .none kV_q_is_block dc_q_is_block pm_q_is_block an_q_is_block cd_q_is_block ct_q_is_block), sl_q_is_block⟩)
    (c_q_is_block : PySem.W.codeIn K cd_q_is_block "is_block" = true)
    (k_q_is_block : PySem.W.keepIn K (.ref f_q_is_block) = true)
    (a_q_are_blocks : PySem.W.nsIn K mainGlobals "are_blocks" = some (some (.ref f_q_are_blocks)))
    (l_q_are_blocks : K.lookup f_q_are_blocks = some ⟨oc_q_are_blocks, od_q_are_blocks, .func (PySem.W.fnOf "are_blocks" "are_blocks" (defArgs S_q_are_blocks) (defBody S_q_are_blocks) (defScope S_q_are_blocks) .none kV_q_are_blocks dc_q_are_blocks pm_q_are_blocks an_q_are_blocks cd_q_are_blocks ct_q_are_blocks), sl_q_are_blocks⟩)
    (c_q_are_blocks : PySem.W.codeIn K cd_q_are_blocks "are_blocks" = true)
    (k_q_are_blocks : PySem.W.keepIn K (.ref f_q_are_blocks) = true)
    (a_q_check_drawing : PySem.W.nsIn K mainGlobals "check_drawing" = some (some (.ref f_q_check_drawing)))
    (l_q_check_drawing : K.lookup f_q_check_drawing = some ⟨oc_q_check_drawing, od_q_check_drawing, .func (PySem.W.fnOf "check_drawing" "check_drawing" (defArgs S_q_check_drawing) (defBody S_q_check_drawing) (defScope S_q_check_drawing) .none kV_q_check_drawing dc_q_check_drawing pm_q_check_drawing an_q_check_drawing cd_q_check_drawing ct_q_check_drawing), sl_q_check_drawing⟩)
    (c_q_check_drawing : PySem.W.codeIn K cd_q_check_drawing "check_drawing" = true)
    (k_q_check_drawing : PySem.W.keepIn K (.ref f_q_check_drawing) = true)
    (a_q_check_index : PySem.W.nsIn K mainGlobals "check_index" = some (some (.ref f_q_check_index)))
    (l_q_check_index : K.lookup f_q_check_index = some ⟨oc_q_check_index, od_q_check_index, .func (PySem.W.fnOf "check_index" "check_index" (defArgs S_q_check_index) (defBody S_q_check_index) (defScope S_q_check_index) .none kV_q_check_index dc_q_check_index pm_q_check_index an_q_check_index cd_q_check_index ct_q_check_index), sl_q_check_index⟩)
    (c_q_check_index : PySem.W.codeIn K cd_q_check_index "check_index" = true)
    (k_q_check_index : PySem.W.keepIn K (.ref f_q_check_index) = true)
    (a_q_check_pair : PySem.W.nsIn K mainGlobals "check_pair" = some (some (.ref f_q_check_pair)))
    (l_q_check_pair : K.lookup f_q_check_pair = some ⟨oc_q_check_pair, od_q_check_pair, .func (PySem.W.fnOf "check_pair" "check_pair" (defArgs S_q_check_pair) (defBody S_q_check_pair) (defScope S_q_check_pair) .none kV_q_check_pair dc_q_check_pair pm_q_check_pair an_q_check_pair cd_q_check_pair ct_q_check_pair), sl_q_check_pair⟩)
    (c_q_check_pair : PySem.W.codeIn K cd_q_check_pair "check_pair" = true)
    (k_q_check_pair : PySem.W.keepIn K (.ref f_q_check_pair) = true)
    (a_q_is_size : PySem.W.nsIn K mainGlobals "is_size" = some (some (.ref f_q_is_size)))
    (l_q_is_size : K.lookup f_q_is_size = some ⟨oc_q_is_size, od_q_is_size, .func (PySem.W.fnOf "is_size" "is_size" (defArgs S_q_is_size) (defBody S_q_is_size) (defScope S_q_is_size) .none kV_q_is_size dc_q_is_size pm_q_is_size an_q_is_size cd_q_is_size ct_q_is_size), sl_q_is_size⟩)
    (c_q_is_size : PySem.W.codeIn K cd_q_is_size "is_size" = true)
    (k_q_is_size : PySem.W.keepIn K (.ref f_q_is_size) = true)
    (a_q_is_body : PySem.W.nsIn K mainGlobals "is_body" = some (some (.ref f_q_is_body)))
    (l_q_is_body : K.lookup f_q_is_body = some ⟨oc_q_is_body, od_q_is_body, .func (PySem.W.fnOf "is_body" "is_body" (defArgs S_q_is_body) (defBody S_q_is_body) (defScope S_q_is_body) .none kV_q_is_body dc_q_is_body pm_q_is_body an_q_is_body cd_q_is_body ct_q_is_body), sl_q_is_body⟩)
    (c_q_is_body : PySem.W.codeIn K cd_q_is_body "is_body" = true)
    (k_q_is_body : PySem.W.keepIn K (.ref f_q_is_body) = true)
    (a_q_check_body : PySem.W.nsIn K mainGlobals "check_body" = some (some (.ref f_q_check_body)))
    (l_q_check_body : K.lookup f_q_check_body = some ⟨oc_q_check_body, od_q_check_body, .func (PySem.W.fnOf "check_body" "check_body" (defArgs S_q_check_body) (defBody S_q_check_body) (defScope S_q_check_body) .none kV_q_check_body dc_q_check_body pm_q_check_body an_q_check_body cd_q_check_body ct_q_check_body), sl_q_check_body⟩)
    (c_q_check_body : PySem.W.codeIn K cd_q_check_body "check_body" = true)
    (k_q_check_body : PySem.W.keepIn K (.ref f_q_check_body) = true)
    (a_q_check_here : PySem.W.nsIn K mainGlobals "check_here" = some (some (.ref f_q_check_here)))
    (l_q_check_here : K.lookup f_q_check_here = some ⟨oc_q_check_here, od_q_check_here, .func (PySem.W.fnOf "check_here" "check_here" (defArgs S_q_check_here) (defBody S_q_check_here) (defScope S_q_check_here) .none kV_q_check_here dc_q_check_here pm_q_check_here an_q_check_here cd_q_check_here ct_q_check_here), sl_q_check_here⟩)
    (c_q_check_here : PySem.W.codeIn K cd_q_check_here "check_here" = true)
    (k_q_check_here : PySem.W.keepIn K (.ref f_q_check_here) = true)
    (a_q_gap_of : PySem.W.nsIn K mainGlobals "gap_of" = some (some (.ref f_q_gap_of)))
    (l_q_gap_of : K.lookup f_q_gap_of = some ⟨oc_q_gap_of, od_q_gap_of, .func (PySem.W.fnOf "gap_of" "gap_of" (defArgs S_q_gap_of) (defBody S_q_gap_of) (defScope S_q_gap_of) .none kV_q_gap_of dc_q_gap_of pm_q_gap_of an_q_gap_of cd_q_gap_of ct_q_gap_of), sl_q_gap_of⟩)
    (c_q_gap_of : PySem.W.codeIn K cd_q_gap_of "gap_of" = true)
    (k_q_gap_of : PySem.W.keepIn K (.ref f_q_gap_of) = true)
    (a_q_are_near : PySem.W.nsIn K mainGlobals "are_near" = some (some (.ref f_q_are_near)))
    (l_q_are_near : K.lookup f_q_are_near = some ⟨oc_q_are_near, od_q_are_near, .func (PySem.W.fnOf "are_near" "are_near" (defArgs S_q_are_near) (defBody S_q_are_near) (defScope S_q_are_near) .none kV_q_are_near dc_q_are_near pm_q_are_near an_q_are_near cd_q_are_near ct_q_are_near), sl_q_are_near⟩)
    (c_q_are_near : PySem.W.codeIn K cd_q_are_near "are_near" = true)
    (k_q_are_near : PySem.W.keepIn K (.ref f_q_are_near) = true)
    (a_q_all_near : PySem.W.nsIn K mainGlobals "all_near" = some (some (.ref f_q_all_near)))
    (l_q_all_near : K.lookup f_q_all_near = some ⟨oc_q_all_near, od_q_all_near, .func (PySem.W.fnOf "all_near" "all_near" (defArgs S_q_all_near) (defBody S_q_all_near) (defScope S_q_all_near) .none kV_q_all_near dc_q_all_near pm_q_all_near an_q_all_near cd_q_all_near ct_q_all_near), sl_q_all_near⟩)
    (c_q_all_near : PySem.W.codeIn K cd_q_all_near "all_near" = true)
    (k_q_all_near : PySem.W.keepIn K (.ref f_q_all_near) = true)
    (a_q_least_near : PySem.W.nsIn K mainGlobals "least_near" = some (some (.ref f_q_least_near)))
    (l_q_least_near : K.lookup f_q_least_near = some ⟨oc_q_least_near, od_q_least_near, .func (PySem.W.fnOf "least_near" "least_near" (defArgs S_q_least_near) (defBody S_q_least_near) (defScope S_q_least_near) .none kV_q_least_near dc_q_least_near pm_q_least_near an_q_least_near cd_q_least_near ct_q_least_near), sl_q_least_near⟩)
    (c_q_least_near : PySem.W.codeIn K cd_q_least_near "least_near" = true)
    (k_q_least_near : PySem.W.keepIn K (.ref f_q_least_near) = true)
    (a_q_gap : PySem.W.nsIn K mainGlobals "gap" = some (some (.ref f_q_gap)))
    (l_q_gap : K.lookup f_q_gap = some ⟨oc_q_gap, od_q_gap, .func (PySem.W.fnOf "gap" "gap" (defArgs S_q_gap) (defBody S_q_gap) (defScope S_q_gap) .none kV_q_gap dc_q_gap pm_q_gap an_q_gap cd_q_gap ct_q_gap), sl_q_gap⟩)
    (c_q_gap : PySem.W.codeIn K cd_q_gap "gap" = true)
    (k_q_gap : PySem.W.keepIn K (.ref f_q_gap) = true)
    (a_q_near : PySem.W.nsIn K mainGlobals "near" = some (some (.ref f_q_near)))
    (l_q_near : K.lookup f_q_near = some ⟨oc_q_near, od_q_near, .func (PySem.W.fnOf "near" "near" (defArgs S_q_near) (defBody S_q_near) (defScope S_q_near) .none kV_q_near dc_q_near pm_q_near an_q_near cd_q_near ct_q_near), sl_q_near⟩)
    (c_q_near : PySem.W.codeIn K cd_q_near "near" = true)
    (k_q_near : PySem.W.keepIn K (.ref f_q_near) = true)
    (a_q_near_pairs : PySem.W.nsIn K mainGlobals "near_pairs" = some (some (.ref f_q_near_pairs)))
    (l_q_near_pairs : K.lookup f_q_near_pairs = some ⟨oc_q_near_pairs, od_q_near_pairs, .func (PySem.W.fnOf "near_pairs" "near_pairs" (defArgs S_q_near_pairs) (defBody S_q_near_pairs) (defScope S_q_near_pairs) .none kV_q_near_pairs dc_q_near_pairs pm_q_near_pairs an_q_near_pairs cd_q_near_pairs ct_q_near_pairs), sl_q_near_pairs⟩)
    (c_q_near_pairs : PySem.W.codeIn K cd_q_near_pairs "near_pairs" = true)
    (k_q_near_pairs : PySem.W.keepIn K (.ref f_q_near_pairs) = true)
    (a_q_near_from : PySem.W.nsIn K mainGlobals "near_from" = some (some (.ref f_q_near_from)))
    (l_q_near_from : K.lookup f_q_near_from = some ⟨oc_q_near_from, od_q_near_from, .func (PySem.W.fnOf "near_from" "near_from" (defArgs S_q_near_from) (defBody S_q_near_from) (defScope S_q_near_from) .none kV_q_near_from dc_q_near_from pm_q_near_from an_q_near_from cd_q_near_from ct_q_near_from), sl_q_near_from⟩)
    (c_q_near_from : PySem.W.codeIn K cd_q_near_from "near_from" = true)
    (k_q_near_from : PySem.W.keepIn K (.ref f_q_near_from) = true)
    (a_l_begun : PySem.W.nsIn K mainGlobals "_law_begun" = some (some (.ref f_l_begun)))
    (l_l_begun : K.lookup f_l_begun = some ⟨oc_l_begun, od_l_begun, .func (PySem.W.fnOf "_law_begun" "_law_begun" (defArgs S_l_begun) (defBody S_l_begun) (defScope S_l_begun) .none kV_l_begun dc_l_begun pm_l_begun an_l_begun cd_l_begun ct_l_begun), sl_l_begun⟩)
    (c_l_begun : PySem.W.codeIn K cd_l_begun "_law_begun" = true)
    (k_l_begun : PySem.W.keepIn K (.ref f_l_begun) = true)
    (a_l_mixed : PySem.W.nsIn K mainGlobals "_law_mixed" = some (some (.ref f_l_mixed)))
    (l_l_mixed : K.lookup f_l_mixed = some ⟨oc_l_mixed, od_l_mixed, .func (PySem.W.fnOf "_law_mixed" "_law_mixed" (defArgs S_l_mixed) (defBody S_l_mixed) (defScope S_l_mixed) .none kV_l_mixed dc_l_mixed pm_l_mixed an_l_mixed cd_l_mixed ct_l_mixed), sl_l_mixed⟩)
    (c_l_mixed : PySem.W.codeIn K cd_l_mixed "_law_mixed" = true)
    (k_l_mixed : PySem.W.keepIn K (.ref f_l_mixed) = true)
    (a_l_take : PySem.W.nsIn K mainGlobals "_law_take" = some (some (.ref f_l_take)))
    (l_l_take : K.lookup f_l_take = some ⟨oc_l_take, od_l_take, .func (PySem.W.fnOf "_law_take" "_law_take" (defArgs S_l_take) (defBody S_l_take) (defScope S_l_take) .none kV_l_take dc_l_take pm_l_take an_l_take cd_l_take ct_l_take), sl_l_take⟩)
    (c_l_take : PySem.W.codeIn K cd_l_take "_law_take" = true)
    (k_l_take : PySem.W.keepIn K (.ref f_l_take) = true)
    (a_l_pick : PySem.W.nsIn K mainGlobals "_law_pick" = some (some (.ref f_l_pick)))
    (l_l_pick : K.lookup f_l_pick = some ⟨oc_l_pick, od_l_pick, .func (PySem.W.fnOf "_law_pick" "_law_pick" (defArgs S_l_pick) (defBody S_l_pick) (defScope S_l_pick) .none kV_l_pick dc_l_pick pm_l_pick an_l_pick cd_l_pick ct_l_pick), sl_l_pick⟩)
    (c_l_pick : PySem.W.codeIn K cd_l_pick "_law_pick" = true)
    (k_l_pick : PySem.W.keepIn K (.ref f_l_pick) = true)
    (a_l_caught : PySem.W.nsIn K mainGlobals "_law_caught" = some (some (.ref f_l_caught)))
    (l_l_caught : K.lookup f_l_caught = some ⟨oc_l_caught, od_l_caught, .func (PySem.W.fnOf "_law_caught" "_law_caught" (defArgs S_l_caught) (defBody S_l_caught) (defScope S_l_caught) .none kV_l_caught dc_l_caught pm_l_caught an_l_caught cd_l_caught ct_l_caught), sl_l_caught⟩)
    (c_l_caught : PySem.W.codeIn K cd_l_caught "_law_caught" = true)
    (k_l_caught : PySem.W.keepIn K (.ref f_l_caught) = true)
    (a_l_is_number : PySem.W.nsIn K mainGlobals "_law_is_number" = some (some (.ref f_l_is_number)))
    (l_l_is_number : K.lookup f_l_is_number = some ⟨oc_l_is_number, od_l_is_number, .func (PySem.W.fnOf "_law_is_number" "_law_is_number" (defArgs S_l_is_number) (defBody S_l_is_number) (defScope S_l_is_number) .none kV_l_is_number dc_l_is_number pm_l_is_number an_l_is_number cd_l_is_number ct_l_is_number), sl_l_is_number⟩)
    (c_l_is_number : PySem.W.codeIn K cd_l_is_number "_law_is_number" = true)
    (k_l_is_number : PySem.W.keepIn K (.ref f_l_is_number) = true)
    (a_l_says : PySem.W.nsIn K mainGlobals "_law_says" = some (some (.ref f_l_says)))
    (l_l_says : K.lookup f_l_says = some ⟨oc_l_says, od_l_says, .func (PySem.W.fnOf "_law_says" "_law_says" (defArgs S_l_says) (defBody S_l_says) (defScope S_l_says) .none kV_l_says dc_l_says pm_l_says an_l_says cd_l_says ct_l_says), sl_l_says⟩)
    (c_l_says : PySem.W.codeIn K cd_l_says "_law_says" = true)
    (k_l_says : PySem.W.keepIn K (.ref f_l_says) = true)
    (a_l_numbers : PySem.W.nsIn K mainGlobals "_law_numbers" = some (some (.ref f_l_numbers)))
    (l_l_numbers : K.lookup f_l_numbers = some ⟨oc_l_numbers, od_l_numbers, .func (PySem.W.fnOf "_law_numbers" "_law_numbers" (defArgs S_l_numbers) (defBody S_l_numbers) (defScope S_l_numbers) .none kV_l_numbers dc_l_numbers pm_l_numbers an_l_numbers cd_l_numbers ct_l_numbers), sl_l_numbers⟩)
    (c_l_numbers : PySem.W.codeIn K cd_l_numbers "_law_numbers" = true)
    (k_l_numbers : PySem.W.keepIn K (.ref f_l_numbers) = true)
    (a_l_shuffled : PySem.W.nsIn K mainGlobals "_law_shuffled" = some (some (.ref f_l_shuffled)))
    (l_l_shuffled : K.lookup f_l_shuffled = some ⟨oc_l_shuffled, od_l_shuffled, .func (PySem.W.fnOf "_law_shuffled" "_law_shuffled" (defArgs S_l_shuffled) (defBody S_l_shuffled) (defScope S_l_shuffled) .none kV_l_shuffled dc_l_shuffled pm_l_shuffled an_l_shuffled cd_l_shuffled ct_l_shuffled), sl_l_shuffled⟩)
    (c_l_shuffled : PySem.W.codeIn K cd_l_shuffled "_law_shuffled" = true)
    (k_l_shuffled : PySem.W.keepIn K (.ref f_l_shuffled) = true)
    (a_l_block : PySem.W.nsIn K mainGlobals "_law_block" = some (some (.ref f_l_block)))
    (l_l_block : K.lookup f_l_block = some ⟨oc_l_block, od_l_block, .func (PySem.W.fnOf "_law_block" "_law_block" (defArgs S_l_block) (defBody S_l_block) (defScope S_l_block) .none kV_l_block dc_l_block pm_l_block an_l_block cd_l_block ct_l_block), sl_l_block⟩)
    (c_l_block : PySem.W.codeIn K cd_l_block "_law_block" = true)
    (k_l_block : PySem.W.keepIn K (.ref f_l_block) = true)
    (a_l_pen : PySem.W.nsIn K mainGlobals "_law_pen" = some (some (.ref f_l_pen)))
    (l_l_pen : K.lookup f_l_pen = some ⟨oc_l_pen, od_l_pen, .func (PySem.W.fnOf "_law_pen" "_law_pen" (defArgs S_l_pen) (defBody S_l_pen) (defScope S_l_pen) .none kV_l_pen dc_l_pen pm_l_pen an_l_pen cd_l_pen ct_l_pen), sl_l_pen⟩)
    (c_l_pen : PySem.W.codeIn K cd_l_pen "_law_pen" = true)
    (k_l_pen : PySem.W.keepIn K (.ref f_l_pen) = true)
    (a_l_stretched : PySem.W.nsIn K mainGlobals "_law_stretched" = some (some (.ref f_l_stretched)))
    (l_l_stretched : K.lookup f_l_stretched = some ⟨oc_l_stretched, od_l_stretched, .func (PySem.W.fnOf "_law_stretched" "_law_stretched" (defArgs S_l_stretched) (defBody S_l_stretched) (defScope S_l_stretched) .none kV_l_stretched dc_l_stretched pm_l_stretched an_l_stretched cd_l_stretched ct_l_stretched), sl_l_stretched⟩)
    (c_l_stretched : PySem.W.codeIn K cd_l_stretched "_law_stretched" = true)
    (k_l_stretched : PySem.W.keepIn K (.ref f_l_stretched) = true)
    (a_l_table : PySem.W.nsIn K mainGlobals "_law_table" = some (some (.ref f_l_table)))
    (l_l_table : K.lookup f_l_table = some ⟨oc_l_table, od_l_table, .func (PySem.W.fnOf "_law_table" "_law_table" (defArgs S_l_table) (defBody S_l_table) (defScope S_l_table) .none kV_l_table dc_l_table pm_l_table an_l_table cd_l_table ct_l_table), sl_l_table⟩)
    (c_l_table : PySem.W.codeIn K cd_l_table "_law_table" = true)
    (k_l_table : PySem.W.keepIn K (.ref f_l_table) = true)
    (a_l_blocks : PySem.W.nsIn K mainGlobals "_law_blocks" = some (some (.ref f_l_blocks)))
    (l_l_blocks : K.lookup f_l_blocks = some ⟨oc_l_blocks, od_l_blocks, .func (PySem.W.fnOf "_law_blocks" "_law_blocks" (defArgs S_l_blocks) (defBody S_l_blocks) (defScope S_l_blocks) .none kV_l_blocks dc_l_blocks pm_l_blocks an_l_blocks cd_l_blocks ct_l_blocks), sl_l_blocks⟩)
    (c_l_blocks : PySem.W.codeIn K cd_l_blocks "_law_blocks" = true)
    (k_l_blocks : PySem.W.keepIn K (.ref f_l_blocks) = true)
    (a_l_body : PySem.W.nsIn K mainGlobals "_law_body" = some (some (.ref f_l_body)))
    (l_l_body : K.lookup f_l_body = some ⟨oc_l_body, od_l_body, .func (PySem.W.fnOf "_law_body" "_law_body" (defArgs S_l_body) (defBody S_l_body) (defScope S_l_body) .none kV_l_body dc_l_body pm_l_body an_l_body cd_l_body ct_l_body), sl_l_body⟩)
    (c_l_body : PySem.W.codeIn K cd_l_body "_law_body" = true)
    (k_l_body : PySem.W.keepIn K (.ref f_l_body) = true)
    (a_l_grid : PySem.W.nsIn K mainGlobals "_law_grid" = some (some (.ref f_l_grid)))
    (l_l_grid : K.lookup f_l_grid = some ⟨oc_l_grid, od_l_grid, .func (PySem.W.fnOf "_law_grid" "_law_grid" (defArgs S_l_grid) (defBody S_l_grid) (defScope S_l_grid) .none kV_l_grid dc_l_grid pm_l_grid an_l_grid cd_l_grid ct_l_grid), sl_l_grid⟩)
    (c_l_grid : PySem.W.codeIn K cd_l_grid "_law_grid" = true)
    (k_l_grid : PySem.W.keepIn K (.ref f_l_grid) = true)
    (a_l_due_gap : PySem.W.nsIn K mainGlobals "_law_due_gap" = some (some (.ref f_l_due_gap)))
    (l_l_due_gap : K.lookup f_l_due_gap = some ⟨oc_l_due_gap, od_l_due_gap, .func (PySem.W.fnOf "_law_due_gap" "_law_due_gap" (defArgs S_l_due_gap) (defBody S_l_due_gap) (defScope S_l_due_gap) .none kV_l_due_gap dc_l_due_gap pm_l_due_gap an_l_due_gap cd_l_due_gap ct_l_due_gap), sl_l_due_gap⟩)
    (c_l_due_gap : PySem.W.codeIn K cd_l_due_gap "_law_due_gap" = true)
    (k_l_due_gap : PySem.W.keepIn K (.ref f_l_due_gap) = true)
    (a_l_near : PySem.W.nsIn K mainGlobals "_law_near" = some (some (.ref f_l_near)))
    (l_l_near : K.lookup f_l_near = some ⟨oc_l_near, od_l_near, .func (PySem.W.fnOf "_law_near" "_law_near" (defArgs S_l_near) (defBody S_l_near) (defScope S_l_near) .none kV_l_near dc_l_near pm_l_near an_l_near cd_l_near ct_l_near), sl_l_near⟩)
    (c_l_near : PySem.W.codeIn K cd_l_near "_law_near" = true)
    (k_l_near : PySem.W.keepIn K (.ref f_l_near) = true)
    (a_l_near_pairs : PySem.W.nsIn K mainGlobals "_law_near_pairs" = some (some (.ref f_l_near_pairs)))
    (l_l_near_pairs : K.lookup f_l_near_pairs = some ⟨oc_l_near_pairs, od_l_near_pairs, .func (PySem.W.fnOf "_law_near_pairs" "_law_near_pairs" (defArgs S_l_near_pairs) (defBody S_l_near_pairs) (defScope S_l_near_pairs) .none kV_l_near_pairs dc_l_near_pairs pm_l_near_pairs an_l_near_pairs cd_l_near_pairs ct_l_near_pairs), sl_l_near_pairs⟩)
    (c_l_near_pairs : PySem.W.codeIn K cd_l_near_pairs "_law_near_pairs" = true)
    (k_l_near_pairs : PySem.W.keepIn K (.ref f_l_near_pairs) = true)
    (a_l_least_near : PySem.W.nsIn K mainGlobals "_law_least_near" = some (some (.ref f_l_least_near)))
    (l_l_least_near : K.lookup f_l_least_near = some ⟨oc_l_least_near, od_l_least_near, .func (PySem.W.fnOf "_law_least_near" "_law_least_near" (defArgs S_l_least_near) (defBody S_l_least_near) (defScope S_l_least_near) .none kV_l_least_near dc_l_least_near pm_l_least_near an_l_least_near cd_l_least_near ct_l_least_near), sl_l_least_near⟩)
    (c_l_least_near : PySem.W.codeIn K cd_l_least_near "_law_least_near" = true)
    (k_l_least_near : PySem.W.keepIn K (.ref f_l_least_near) = true)
    (a_l_refusals : PySem.W.nsIn K mainGlobals "_law_refusals" = some (some (.ref f_l_refusals)))
    (l_l_refusals : K.lookup f_l_refusals = some ⟨oc_l_refusals, od_l_refusals, .func (PySem.W.fnOf "_law_refusals" "_law_refusals" (defArgs S_l_refusals) (defBody S_l_refusals) (defScope S_l_refusals) .none kV_l_refusals dc_l_refusals pm_l_refusals an_l_refusals (.ref cc) ct_l_refusals), sl_l_refusals⟩)
    (c_l_refusals : PySem.W.codeIn K (.ref cc) "_law_refusals" = true)
    (k_l_refusals : PySem.W.keepIn K (.ref f_l_refusals) = true)
    (a_q_law : PySem.W.nsIn K mainGlobals "law" = some (some (.ref f_q_law)))
    (l_q_law : K.lookup f_q_law = some ⟨oc_q_law, od_q_law, .func (PySem.W.fnOf "law" "law" (defArgs S_q_law) (defBody S_q_law) (defScope S_q_law) .none kV_q_law dc_q_law pm_q_law an_q_law cd_q_law ct_q_law), sl_q_law⟩)
    (c_q_law : PySem.W.codeIn K cd_q_law "law" = true)
    (k_q_law : PySem.W.keepIn K (.ref f_q_law) = true)
    (ch : PySem.W.codeHdIn K cc P = true)
    (nP : K.lookup P = none)
    (tab : h.get? P = some { cls := .none, data := .fields #[] }) : LamX.LawAtS l w K CX0 10 63 "script" mg fa h := by
  have e := hfa.symm.trans (PySem.W.mg_of X G a_q_law)
  cases e
  let T : Txt K mg := {
    z_abs := PySem.W.mg_none_of X G z_abs
    z_all := PySem.W.mg_none_of X G z_all
    z_bool := PySem.W.mg_none_of X G z_bool
    z_enumerate := PySem.W.mg_none_of X G z_enumerate
    z_int := PySem.W.mg_none_of X G z_int
    z_isinstance := PySem.W.mg_none_of X G z_isinstance
    z_len := PySem.W.mg_none_of X G z_len
    z_list := PySem.W.mg_none_of X G z_list
    z_max := PySem.W.mg_none_of X G z_max
    z_min := PySem.W.mg_none_of X G z_min
    z_range := PySem.W.mg_none_of X G z_range
    z_set := PySem.W.mg_none_of X G z_set
    z_sorted := PySem.W.mg_none_of X G z_sorted
    z_tuple := PySem.W.mg_none_of X G z_tuple
    mostT := mostT
    most := PySem.W.mg_of X G most
    x_GapError := ⟨C_GapError, PySem.W.mg_of X G xa_GapError, xq_GapError, xk_GapError, xb_GapError, xt_GapError, ⟨xg_GapError, xh_GapError, xb_GapError, xd_GapError, xc_GapError, iN, iT, xm_GapError⟩⟩
    x_BadBlocks := ⟨C_BadBlocks, PySem.W.mg_of X G xa_BadBlocks, xq_BadBlocks, xk_BadBlocks, xb_BadBlocks, xt_BadBlocks, ⟨xg_BadBlocks, xh_BadBlocks, xb_BadBlocks, xd_BadBlocks, xc_BadBlocks, iN, iT, xm_BadBlocks⟩⟩
    x_BadBody := ⟨C_BadBody, PySem.W.mg_of X G xa_BadBody, xq_BadBody, xk_BadBody, xb_BadBody, xt_BadBody, ⟨xg_BadBody, xh_BadBody, xb_BadBody, xd_BadBody, xc_BadBody, iN, iT, xm_BadBody⟩⟩
    x_BadDrawing := ⟨C_BadDrawing, PySem.W.mg_of X G xa_BadDrawing, xq_BadDrawing, xk_BadDrawing, xb_BadDrawing, xt_BadDrawing, ⟨xg_BadDrawing, xh_BadDrawing, xb_BadDrawing, xd_BadDrawing, xc_BadDrawing, iN, iT, xm_BadDrawing⟩⟩
    x_BadIndex := ⟨C_BadIndex, PySem.W.mg_of X G xa_BadIndex, xq_BadIndex, xk_BadIndex, xb_BadIndex, xt_BadIndex, ⟨xg_BadIndex, xh_BadIndex, xb_BadIndex, xd_BadIndex, xc_BadIndex, iN, iT, xm_BadIndex⟩⟩
    x_BadPair := ⟨C_BadPair, PySem.W.mg_of X G xa_BadPair, xq_BadPair, xk_BadPair, xb_BadPair, xt_BadPair, ⟨xg_BadPair, xh_BadPair, xb_BadPair, xd_BadPair, xc_BadPair, iN, iT, xm_BadPair⟩⟩
    u_BadBlocks := u_BadBlocks
    u_BadBody := u_BadBody
    u_BadDrawing := u_BadDrawing
    u_BadIndex := u_BadIndex
    u_BadPair := u_BadPair
    C := C
    gC := PySem.W.mg_of X G aC
    cls := ⟨pg, hd, po, sa⟩
    nB := nB
    fI := f_I
    dI := _
    M := ⟨mk, in_, ii, kc⟩
    FI := fun_mk (st := S_q_Drawing_init) l_I c_I k_I
    bI := (fun_mk (st := S_q_Drawing_init) l_I c_I k_I).binds (ps := ["self", "blocks"]) fun _ _ _ _ _ _ us hl => match us, hl with | [_, _], _ => rfl
    iA := iA
    iN := iN
    iT := iT
    iM := iM
    kD := kD
    kL := kL
    e_BadBlocks := e_BadBlocks
    e_BadBody := e_BadBody
    e_BadDrawing := e_BadDrawing
    e_BadIndex := e_BadIndex
    e_BadPair := e_BadPair
    q_is_number := ⟨_, _, fun_mk (st := S_q_is_number) l_q_is_number c_q_is_number k_q_is_number, PySem.W.mg_of X G a_q_is_number, (fun_mk (st := S_q_is_number) l_q_is_number c_q_is_number k_q_is_number).binds (ps := ["thing"]) fun _ _ _ _ _ _ us hl => match us, hl with | [_], _ => rfl⟩
    q_is_list := ⟨_, _, fun_mk (st := S_q_is_list) l_q_is_list c_q_is_list k_q_is_list, PySem.W.mg_of X G a_q_is_list, (fun_mk (st := S_q_is_list) l_q_is_list c_q_is_list k_q_is_list).binds (ps := ["thing"]) fun _ _ _ _ _ _ us hl => match us, hl with | [_], _ => rfl⟩
    q_is_index := ⟨_, _, fun_mk (st := S_q_is_index) l_q_is_index c_q_is_index k_q_is_index, PySem.W.mg_of X G a_q_is_index, (fun_mk (st := S_q_is_index) l_q_is_index c_q_is_index k_q_is_index).binds (ps := ["thing", "many"]) fun _ _ _ _ _ _ us hl => match us, hl with | [_, _], _ => rfl⟩
    q_is_block := ⟨_, _, fun_mk (st := S_q_is_block) l_q_is_block c_q_is_block k_q_is_block, PySem.W.mg_of X G a_q_is_block, (fun_mk (st := S_q_is_block) l_q_is_block c_q_is_block k_q_is_block).binds (ps := ["thing"]) fun _ _ _ _ _ _ us hl => match us, hl with | [_], _ => rfl⟩
    q_are_blocks := ⟨_, _, fun_mk (st := S_q_are_blocks) l_q_are_blocks c_q_are_blocks k_q_are_blocks, PySem.W.mg_of X G a_q_are_blocks, (fun_mk (st := S_q_are_blocks) l_q_are_blocks c_q_are_blocks k_q_are_blocks).binds (ps := ["thing"]) fun _ _ _ _ _ _ us hl => match us, hl with | [_], _ => rfl⟩
    q_check_drawing := ⟨_, _, fun_mk (st := S_q_check_drawing) l_q_check_drawing c_q_check_drawing k_q_check_drawing, PySem.W.mg_of X G a_q_check_drawing, (fun_mk (st := S_q_check_drawing) l_q_check_drawing c_q_check_drawing k_q_check_drawing).binds (ps := ["drawing"]) fun _ _ _ _ _ _ us hl => match us, hl with | [_], _ => rfl⟩
    q_check_index := ⟨_, _, fun_mk (st := S_q_check_index) l_q_check_index c_q_check_index k_q_check_index, PySem.W.mg_of X G a_q_check_index, (fun_mk (st := S_q_check_index) l_q_check_index c_q_check_index k_q_check_index).binds (ps := ["drawing", "i"]) fun _ _ _ _ _ _ us hl => match us, hl with | [_, _], _ => rfl⟩
    q_check_pair := ⟨_, _, fun_mk (st := S_q_check_pair) l_q_check_pair c_q_check_pair k_q_check_pair, PySem.W.mg_of X G a_q_check_pair, (fun_mk (st := S_q_check_pair) l_q_check_pair c_q_check_pair k_q_check_pair).binds (ps := ["drawing", "i", "j"]) fun _ _ _ _ _ _ us hl => match us, hl with | [_, _, _], _ => rfl⟩
    q_is_size := ⟨_, _, fun_mk (st := S_q_is_size) l_q_is_size c_q_is_size k_q_is_size, PySem.W.mg_of X G a_q_is_size, (fun_mk (st := S_q_is_size) l_q_is_size c_q_is_size k_q_is_size).binds (ps := ["thing"]) fun _ _ _ _ _ _ us hl => match us, hl with | [_], _ => rfl⟩
    q_is_body := ⟨_, _, fun_mk (st := S_q_is_body) l_q_is_body c_q_is_body k_q_is_body, PySem.W.mg_of X G a_q_is_body, (fun_mk (st := S_q_is_body) l_q_is_body c_q_is_body k_q_is_body).binds (ps := ["thing"]) fun _ _ _ _ _ _ us hl => match us, hl with | [_], _ => rfl⟩
    q_check_body := ⟨_, _, fun_mk (st := S_q_check_body) l_q_check_body c_q_check_body k_q_check_body, PySem.W.mg_of X G a_q_check_body, (fun_mk (st := S_q_check_body) l_q_check_body c_q_check_body k_q_check_body).binds (ps := ["body"]) fun _ _ _ _ _ _ us hl => match us, hl with | [_], _ => rfl⟩
    q_check_here := ⟨_, _, fun_mk (st := S_q_check_here) l_q_check_here c_q_check_here k_q_check_here, PySem.W.mg_of X G a_q_check_here, (fun_mk (st := S_q_check_here) l_q_check_here c_q_check_here k_q_check_here).binds (ps := ["drawing", "body"]) fun _ _ _ _ _ _ us hl => match us, hl with | [_, _], _ => rfl⟩
    q_gap_of := ⟨_, _, fun_mk (st := S_q_gap_of) l_q_gap_of c_q_gap_of k_q_gap_of, PySem.W.mg_of X G a_q_gap_of, (fun_mk (st := S_q_gap_of) l_q_gap_of c_q_gap_of k_q_gap_of).binds (ps := ["one", "other"]) fun _ _ _ _ _ _ us hl => match us, hl with | [_, _], _ => rfl⟩
    q_are_near := ⟨_, _, fun_mk (st := S_q_are_near) l_q_are_near c_q_are_near k_q_are_near, PySem.W.mg_of X G a_q_are_near, (fun_mk (st := S_q_are_near) l_q_are_near c_q_are_near k_q_are_near).binds (ps := ["drawing", "body", "i", "j"]) fun _ _ _ _ _ _ us hl => match us, hl with | [_, _, _, _], _ => rfl⟩
    q_all_near := ⟨_, _, fun_mk (st := S_q_all_near) l_q_all_near c_q_all_near k_q_all_near, PySem.W.mg_of X G a_q_all_near, (fun_mk (st := S_q_all_near) l_q_all_near c_q_all_near k_q_all_near).binds (ps := ["drawing", "body"]) fun _ _ _ _ _ _ us hl => match us, hl with | [_, _], _ => rfl⟩
    q_least_near := ⟨_, _, fun_mk (st := S_q_least_near) l_q_least_near c_q_least_near k_q_least_near, PySem.W.mg_of X G a_q_least_near, (fun_mk (st := S_q_least_near) l_q_least_near c_q_least_near k_q_least_near).binds (ps := ["drawing", "i", "j"]) fun _ _ _ _ _ _ us hl => match us, hl with | [_, _, _], _ => rfl⟩
    q_gap := ⟨_, _, fun_mk (st := S_q_gap) l_q_gap c_q_gap k_q_gap, PySem.W.mg_of X G a_q_gap, (fun_mk (st := S_q_gap) l_q_gap c_q_gap k_q_gap).binds (ps := ["drawing", "i", "j"]) fun _ _ _ _ _ _ us hl => match us, hl with | [_, _, _], _ => rfl⟩
    q_near := ⟨_, _, fun_mk (st := S_q_near) l_q_near c_q_near k_q_near, PySem.W.mg_of X G a_q_near, (fun_mk (st := S_q_near) l_q_near c_q_near k_q_near).binds (ps := ["drawing", "body", "i", "j"]) fun _ _ _ _ _ _ us hl => match us, hl with | [_, _, _, _], _ => rfl⟩
    q_near_pairs := ⟨_, _, fun_mk (st := S_q_near_pairs) l_q_near_pairs c_q_near_pairs k_q_near_pairs, PySem.W.mg_of X G a_q_near_pairs, (fun_mk (st := S_q_near_pairs) l_q_near_pairs c_q_near_pairs k_q_near_pairs).binds (ps := ["drawing", "body"]) fun _ _ _ _ _ _ us hl => match us, hl with | [_, _], _ => rfl⟩
    q_near_from := ⟨_, _, fun_mk (st := S_q_near_from) l_q_near_from c_q_near_from k_q_near_from, PySem.W.mg_of X G a_q_near_from, (fun_mk (st := S_q_near_from) l_q_near_from c_q_near_from k_q_near_from).binds (ps := ["drawing", "i", "j"]) fun _ _ _ _ _ _ us hl => match us, hl with | [_, _, _], _ => rfl⟩
    l_begun := ⟨_, _, fun_mk (st := S_l_begun) l_l_begun c_l_begun k_l_begun, PySem.W.mg_of X G a_l_begun, (fun_mk (st := S_l_begun) l_l_begun c_l_begun k_l_begun).binds (ps := ["script"]) fun _ _ _ _ _ _ us hl => match us, hl with | [_], _ => rfl⟩
    l_mixed := ⟨_, _, fun_mk (st := S_l_mixed) l_l_mixed c_l_mixed k_l_mixed, PySem.W.mg_of X G a_l_mixed, (fun_mk (st := S_l_mixed) l_l_mixed c_l_mixed k_l_mixed).binds (ps := ["draw"]) fun _ _ _ _ _ _ us hl => match us, hl with | [_], _ => rfl⟩
    l_take := ⟨_, _, fun_mk (st := S_l_take) l_l_take c_l_take k_l_take, PySem.W.mg_of X G a_l_take, (fun_mk (st := S_l_take) l_l_take c_l_take k_l_take).binds (ps := ["draw", "many"]) fun _ _ _ _ _ _ us hl => match us, hl with | [_, _], _ => rfl⟩
    l_pick := ⟨_, _, fun_mk (st := S_l_pick) l_l_pick c_l_pick k_l_pick, PySem.W.mg_of X G a_l_pick, (fun_mk (st := S_l_pick) l_l_pick c_l_pick k_l_pick).binds (ps := ["draw", "some"]) fun _ _ _ _ _ _ us hl => match us, hl with | [_, _], _ => rfl⟩
    l_caught := ⟨_, _, fun_mk (st := S_l_caught) l_l_caught c_l_caught k_l_caught, PySem.W.mg_of X G a_l_caught, (fun_mk (st := S_l_caught) l_l_caught c_l_caught k_l_caught).binds (ps := ["task"]) fun _ _ _ _ _ _ us hl => match us, hl with | [_], _ => rfl⟩
    l_is_number := ⟨_, _, fun_mk (st := S_l_is_number) l_l_is_number c_l_is_number k_l_is_number, PySem.W.mg_of X G a_l_is_number, (fun_mk (st := S_l_is_number) l_l_is_number c_l_is_number k_l_is_number).binds (ps := ["item"]) fun _ _ _ _ _ _ us hl => match us, hl with | [_], _ => rfl⟩
    l_says := ⟨_, _, fun_mk (st := S_l_says) l_l_says c_l_says k_l_says, PySem.W.mg_of X G a_l_says, (fun_mk (st := S_l_says) l_l_says c_l_says k_l_says).binds (ps := ["found", "due"]) fun _ _ _ _ _ _ us hl => match us, hl with | [_, _], _ => rfl⟩
    l_numbers := ⟨_, _, fun_mk (st := S_l_numbers) l_l_numbers c_l_numbers k_l_numbers, PySem.W.mg_of X G a_l_numbers, (fun_mk (st := S_l_numbers) l_l_numbers c_l_numbers k_l_numbers).binds (ps := ["item", "many"]) fun _ _ _ _ _ _ us hl => match us, hl with | [_, _], _ => rfl⟩
    l_shuffled := ⟨_, _, fun_mk (st := S_l_shuffled) l_l_shuffled c_l_shuffled k_l_shuffled, PySem.W.mg_of X G a_l_shuffled, (fun_mk (st := S_l_shuffled) l_l_shuffled c_l_shuffled k_l_shuffled).binds (ps := ["draw", "some"]) fun _ _ _ _ _ _ us hl => match us, hl with | [_, _], _ => rfl⟩
    l_block := ⟨_, _, fun_mk (st := S_l_block) l_l_block c_l_block k_l_block, PySem.W.mg_of X G a_l_block, (fun_mk (st := S_l_block) l_l_block c_l_block k_l_block).binds (ps := ["draw", "wide"]) fun _ _ _ _ _ _ us hl => match us, hl with | [_, _], _ => rfl⟩
    l_pen := ⟨_, _, fun_mk (st := S_l_pen) l_l_pen c_l_pen k_l_pen, PySem.W.mg_of X G a_l_pen, (fun_mk (st := S_l_pen) l_l_pen c_l_pen k_l_pen).binds (ps := ["draw", "left", "low", "wide", "tall"]) fun _ _ _ _ _ _ us hl => match us, hl with | [_, _, _, _, _], _ => rfl⟩
    l_stretched := ⟨_, _, fun_mk (st := S_l_stretched) l_l_stretched c_l_stretched k_l_stretched, PySem.W.mg_of X G a_l_stretched, (fun_mk (st := S_l_stretched) l_l_stretched c_l_stretched k_l_stretched).binds (ps := ["blocks", "across", "up"]) fun _ _ _ _ _ _ us hl => match us, hl with | [_, _, _], _ => rfl⟩
    l_table := ⟨_, _, fun_mk (st := S_l_table) l_l_table c_l_table k_l_table, PySem.W.mg_of X G a_l_table, (fun_mk (st := S_l_table) l_l_table c_l_table k_l_table).binds (ps := ["draw", "some"]) fun _ _ _ _ _ _ us hl => match us, hl with | [_, _], _ => rfl⟩
    l_blocks := ⟨_, _, fun_mk (st := S_l_blocks) l_l_blocks c_l_blocks k_l_blocks, PySem.W.mg_of X G a_l_blocks, (fun_mk (st := S_l_blocks) l_l_blocks c_l_blocks k_l_blocks).binds (ps := ["draw", "most"]) fun _ _ _ _ _ _ us hl => match us, hl with | [_, _], _ => rfl⟩
    l_body := ⟨_, _, fun_mk (st := S_l_body) l_l_body c_l_body k_l_body, PySem.W.mg_of X G a_l_body, (fun_mk (st := S_l_body) l_l_body c_l_body k_l_body).binds (ps := ["draw", "blocks", "spots"]) fun _ _ _ _ _ _ us hl => match us, hl with | [_, _, _], _ => rfl⟩
    l_grid := ⟨_, _, fun_mk (st := S_l_grid) l_l_grid c_l_grid k_l_grid, PySem.W.mg_of X G a_l_grid, (fun_mk (st := S_l_grid) l_l_grid c_l_grid k_l_grid).binds (ps := ["blocks", "spots", "flat"]) fun _ _ _ _ _ _ us hl => match us, hl with | [_, _, _], _ => rfl⟩
    l_due_gap := ⟨_, _, fun_mk (st := S_l_due_gap) l_l_due_gap c_l_due_gap k_l_due_gap, PySem.W.mg_of X G a_l_due_gap, (fun_mk (st := S_l_due_gap) l_l_due_gap c_l_due_gap k_l_due_gap).binds (ps := ["blocks", "i", "j"]) fun _ _ _ _ _ _ us hl => match us, hl with | [_, _, _], _ => rfl⟩
    l_near := ⟨_, _, fun_mk (st := S_l_near) l_l_near c_l_near k_l_near, PySem.W.mg_of X G a_l_near, (fun_mk (st := S_l_near) l_l_near c_l_near k_l_near).binds (ps := ["blocks", "body", "i", "j"]) fun _ _ _ _ _ _ us hl => match us, hl with | [_, _, _, _], _ => rfl⟩
    l_near_pairs := ⟨_, _, fun_mk (st := S_l_near_pairs) l_l_near_pairs c_l_near_pairs k_l_near_pairs, PySem.W.mg_of X G a_l_near_pairs, (fun_mk (st := S_l_near_pairs) l_l_near_pairs c_l_near_pairs k_l_near_pairs).binds (ps := ["blocks", "body"]) fun _ _ _ _ _ _ us hl => match us, hl with | [_, _], _ => rfl⟩
    l_least_near := ⟨_, _, fun_mk (st := S_l_least_near) l_l_least_near c_l_least_near k_l_least_near, PySem.W.mg_of X G a_l_least_near, (fun_mk (st := S_l_least_near) l_l_least_near c_l_least_near k_l_least_near).binds (ps := ["blocks", "i", "j", "body"]) fun _ _ _ _ _ _ us hl => match us, hl with | [_, _, _, _], _ => rfl⟩
    l_refusals := ⟨_, _, fun_mk (st := S_l_refusals) l_l_refusals c_l_refusals k_l_refusals, PySem.W.mg_of X G a_l_refusals, (fun_mk (st := S_l_refusals) l_l_refusals c_l_refusals k_l_refusals).binds (ps := ["draw", "made", "body", "many"]) fun _ _ _ _ _ _ us hl => match us, hl with | [_, _, _, _], _ => rfl⟩
    q_law := ⟨_, _, fun_mk (st := S_q_law) l_q_law c_q_law k_q_law, PySem.W.mg_of X G a_q_law, (fun_mk (st := S_q_law) l_q_law c_q_law k_q_law).binds (ps := ["script"]) fun _ _ _ _ _ _ us hl => match us, hl with | [_], _ => rfl⟩ }
  have one : ∀ {A : (Addr × Addr) → Prop}, A (cc, P) → ∀ p ∈ [(cc, P)], A p := fun {A} h p hp => by
    rw [List.mem_singleton.mp hp]
    exact h
  refine ⟨T.q_law.d, [(cc, P)], spLaw K [(P, lamQ)], one tab, one nP, one (PySem.W.codeHd_of_K X ch), fun s u => .of_eq rfl, fun H a ns hl _ hT hS => ⟨a, ns, rfl, hS, hl, fun q hq => ?_, fun _ => rfl⟩, fun base _ _ TB => ok_law T ⟨cc, P, rfl⟩ (TB (cc, P) (List.mem_singleton.mpr rfl))⟩
  rw [List.mem_singleton.mp hq]
  exact LamX.TabS.nil (hT (cc, P) (List.mem_singleton.mpr rfl))
end G21
set_option Elab.async false
set_option linter.all false
open PySem PySem.W PyProof.Rows in
set_option maxRecDepth 100000 in
set_option maxHeartbeats 0 in
theorem PySem.Challenge.cw_gapstairs_k21_near_blocks_holds : PySem.Challenge.rw_gapstairs_k21_near_blocks.Holds := by
  w_on; o_law; k_head; (case hw => w_witness2)
  k_fill
  refine LamX.walk_ofTs (l := PySem.Challenge.rw_gapstairs_k21_near_blocks) (n := 63) (k := 10) (x := "script") (CX := fun _ => L2.CX0) rfl (by decide) rfl ⟨rfl, by decide, by decide⟩ (fun w h Y => PySem.W.km_in_of Y) ?F (fun _ _ _ _ _ z => z)
  case F =>
    intro w mg fa h Y KX G hmg
    refine' G21.law_at (P := 391) KX G hmg ?z_abs ?z_all ?z_bool ?z_enumerate ?z_int ?z_isinstance ?z_len ?z_list ?z_max ?z_min ?z_range ?z_set ?z_sorted ?z_tuple ?most ?iN ?iT ?xa_GapError ?xq_GapError ?xk_GapError ?xb_GapError ?xt_GapError ?xg_GapError ?xh_GapError ?xd_GapError ?xc_GapError ?xm_GapError ?xa_BadBlocks ?xq_BadBlocks ?xk_BadBlocks ?xb_BadBlocks ?xt_BadBlocks ?xg_BadBlocks ?xh_BadBlocks ?xd_BadBlocks ?xc_BadBlocks ?xm_BadBlocks ?xa_BadBody ?xq_BadBody ?xk_BadBody ?xb_BadBody ?xt_BadBody ?xg_BadBody ?xh_BadBody ?xd_BadBody ?xc_BadBody ?xm_BadBody ?xa_BadDrawing ?xq_BadDrawing ?xk_BadDrawing ?xb_BadDrawing ?xt_BadDrawing ?xg_BadDrawing ?xh_BadDrawing ?xd_BadDrawing ?xc_BadDrawing ?xm_BadDrawing ?xa_BadIndex ?xq_BadIndex ?xk_BadIndex ?xb_BadIndex ?xt_BadIndex ?xg_BadIndex ?xh_BadIndex ?xd_BadIndex ?xc_BadIndex ?xm_BadIndex ?xa_BadPair ?xq_BadPair ?xk_BadPair ?xb_BadPair ?xt_BadPair ?xg_BadPair ?xh_BadPair ?xd_BadPair ?xc_BadPair ?xm_BadPair ?u_BadBlocks ?u_BadBody ?u_BadDrawing ?u_BadIndex ?u_BadPair ?aC ?pg ?hd ?po ?sa ?nB ?in_ ?l_I ?c_I ?k_I ?ii ?mk ?kc ?iA ?iM ?kD ?kL ?e_BadBlocks ?e_BadBody ?e_BadDrawing ?e_BadIndex ?e_BadPair ?a_q_is_number ?l_q_is_number ?c_q_is_number ?k_q_is_number ?a_q_is_list ?l_q_is_list ?c_q_is_list ?k_q_is_list ?a_q_is_index ?l_q_is_index ?c_q_is_index ?k_q_is_index ?a_q_is_block ?l_q_is_block ?c_q_is_block ?k_q_is_block ?a_q_are_blocks ?l_q_are_blocks ?c_q_are_blocks ?k_q_are_blocks ?a_q_check_drawing ?l_q_check_drawing ?c_q_check_drawing ?k_q_check_drawing ?a_q_check_index ?l_q_check_index ?c_q_check_index ?k_q_check_index ?a_q_check_pair ?l_q_check_pair ?c_q_check_pair ?k_q_check_pair ?a_q_is_size ?l_q_is_size ?c_q_is_size ?k_q_is_size ?a_q_is_body ?l_q_is_body ?c_q_is_body ?k_q_is_body ?a_q_check_body ?l_q_check_body ?c_q_check_body ?k_q_check_body ?a_q_check_here ?l_q_check_here ?c_q_check_here ?k_q_check_here ?a_q_gap_of ?l_q_gap_of ?c_q_gap_of ?k_q_gap_of ?a_q_are_near ?l_q_are_near ?c_q_are_near ?k_q_are_near ?a_q_all_near ?l_q_all_near ?c_q_all_near ?k_q_all_near ?a_q_least_near ?l_q_least_near ?c_q_least_near ?k_q_least_near ?a_q_gap ?l_q_gap ?c_q_gap ?k_q_gap ?a_q_near ?l_q_near ?c_q_near ?k_q_near ?a_q_near_pairs ?l_q_near_pairs ?c_q_near_pairs ?k_q_near_pairs ?a_q_near_from ?l_q_near_from ?c_q_near_from ?k_q_near_from ?a_l_begun ?l_l_begun ?c_l_begun ?k_l_begun ?a_l_mixed ?l_l_mixed ?c_l_mixed ?k_l_mixed ?a_l_take ?l_l_take ?c_l_take ?k_l_take ?a_l_pick ?l_l_pick ?c_l_pick ?k_l_pick ?a_l_caught ?l_l_caught ?c_l_caught ?k_l_caught ?a_l_is_number ?l_l_is_number ?c_l_is_number ?k_l_is_number ?a_l_says ?l_l_says ?c_l_says ?k_l_says ?a_l_numbers ?l_l_numbers ?c_l_numbers ?k_l_numbers ?a_l_shuffled ?l_l_shuffled ?c_l_shuffled ?k_l_shuffled ?a_l_block ?l_l_block ?c_l_block ?k_l_block ?a_l_pen ?l_l_pen ?c_l_pen ?k_l_pen ?a_l_stretched ?l_l_stretched ?c_l_stretched ?k_l_stretched ?a_l_table ?l_l_table ?c_l_table ?k_l_table ?a_l_blocks ?l_l_blocks ?c_l_blocks ?k_l_blocks ?a_l_body ?l_l_body ?c_l_body ?k_l_body ?a_l_grid ?l_l_grid ?c_l_grid ?k_l_grid ?a_l_due_gap ?l_l_due_gap ?c_l_due_gap ?k_l_due_gap ?a_l_near ?l_l_near ?c_l_near ?k_l_near ?a_l_near_pairs ?l_l_near_pairs ?c_l_near_pairs ?k_l_near_pairs ?a_l_least_near ?l_l_least_near ?c_l_least_near ?k_l_least_near ?a_l_refusals ?l_l_refusals ?c_l_refusals ?k_l_refusals ?a_q_law ?l_q_law ?c_q_law ?k_q_law ?ch ?nP ?tab
    (case z_abs => k_is)
    (case z_all => k_is)
    (case z_bool => k_is)
    (case z_enumerate => k_is)
    (case z_int => k_is)
    (case z_isinstance => k_is)
    (case z_len => k_is)
    (case z_list => k_is)
    (case z_max => k_is)
    (case z_min => k_is)
    (case z_range => k_is)
    (case z_set => k_is)
    (case z_sorted => k_is)
    (case z_tuple => k_is)
    (case most => k_is)
    (case iN => k_is)
    (case iT => k_is)
    (case xa_GapError => k_is)
    (case xq_GapError => kernel_rfl)
    (case xk_GapError => k_is)
    (case xb_GapError => k_is)
    (case xt_GapError => k_is)
    (case xg_GapError => k_is)
    (case xh_GapError => k_is)
    (case xd_GapError => k_is)
    (case xc_GapError => k_is)
    (case xm_GapError => k_is)
    (case xa_BadBlocks => k_is)
    (case xq_BadBlocks => kernel_rfl)
    (case xk_BadBlocks => k_is)
    (case xb_BadBlocks => k_is)
    (case xt_BadBlocks => k_is)
    (case xg_BadBlocks => k_is)
    (case xh_BadBlocks => k_is)
    (case xd_BadBlocks => k_is)
    (case xc_BadBlocks => k_is)
    (case xm_BadBlocks => k_is)
    (case xa_BadBody => k_is)
    (case xq_BadBody => kernel_rfl)
    (case xk_BadBody => k_is)
    (case xb_BadBody => k_is)
    (case xt_BadBody => k_is)
    (case xg_BadBody => k_is)
    (case xh_BadBody => k_is)
    (case xd_BadBody => k_is)
    (case xc_BadBody => k_is)
    (case xm_BadBody => k_is)
    (case xa_BadDrawing => k_is)
    (case xq_BadDrawing => kernel_rfl)
    (case xk_BadDrawing => k_is)
    (case xb_BadDrawing => k_is)
    (case xt_BadDrawing => k_is)
    (case xg_BadDrawing => k_is)
    (case xh_BadDrawing => k_is)
    (case xd_BadDrawing => k_is)
    (case xc_BadDrawing => k_is)
    (case xm_BadDrawing => k_is)
    (case xa_BadIndex => k_is)
    (case xq_BadIndex => kernel_rfl)
    (case xk_BadIndex => k_is)
    (case xb_BadIndex => k_is)
    (case xt_BadIndex => k_is)
    (case xg_BadIndex => k_is)
    (case xh_BadIndex => k_is)
    (case xd_BadIndex => k_is)
    (case xc_BadIndex => k_is)
    (case xm_BadIndex => k_is)
    (case xa_BadPair => k_is)
    (case xq_BadPair => kernel_rfl)
    (case xk_BadPair => k_is)
    (case xb_BadPair => k_is)
    (case xt_BadPair => k_is)
    (case xg_BadPair => k_is)
    (case xh_BadPair => k_is)
    (case xd_BadPair => k_is)
    (case xc_BadPair => k_is)
    (case xm_BadPair => k_is)
    (case u_BadBlocks => kernel_rfl)
    (case u_BadBody => kernel_rfl)
    (case u_BadDrawing => kernel_rfl)
    (case u_BadIndex => kernel_rfl)
    (case u_BadPair => kernel_rfl)
    (case aC => k_is)
    (case pg => k_is)
    (case hd => k_is)
    (case po => k_is)
    (case sa => k_is)
    (case nB => k_is)
    (case in_ => k_is)
    (case l_I => k_is)
    (case c_I => k_is)
    (case k_I => k_is)
    (case ii => k_is)
    (case mk => k_is)
    (case kc => k_is)
    (case iA => k_is)
    (case iM => k_is)
    (case kD => kernel_rfl)
    (case kL => kernel_rfl)
    (case e_BadBlocks => kernel_rfl)
    (case e_BadBody => kernel_rfl)
    (case e_BadDrawing => kernel_rfl)
    (case e_BadIndex => kernel_rfl)
    (case e_BadPair => kernel_rfl)
    (case a_q_is_number => k_is)
    (case l_q_is_number => k_is)
    (case c_q_is_number => k_is)
    (case k_q_is_number => k_is)
    (case a_q_is_list => k_is)
    (case l_q_is_list => k_is)
    (case c_q_is_list => k_is)
    (case k_q_is_list => k_is)
    (case a_q_is_index => k_is)
    (case l_q_is_index => k_is)
    (case c_q_is_index => k_is)
    (case k_q_is_index => k_is)
    (case a_q_is_block => k_is)
    (case l_q_is_block => k_is)
    (case c_q_is_block => k_is)
    (case k_q_is_block => k_is)
    (case a_q_are_blocks => k_is)
    (case l_q_are_blocks => k_is)
    (case c_q_are_blocks => k_is)
    (case k_q_are_blocks => k_is)
    (case a_q_check_drawing => k_is)
    (case l_q_check_drawing => k_is)
    (case c_q_check_drawing => k_is)
    (case k_q_check_drawing => k_is)
    (case a_q_check_index => k_is)
    (case l_q_check_index => k_is)
    (case c_q_check_index => k_is)
    (case k_q_check_index => k_is)
    (case a_q_check_pair => k_is)
    (case l_q_check_pair => k_is)
    (case c_q_check_pair => k_is)
    (case k_q_check_pair => k_is)
    (case a_q_is_size => k_is)
    (case l_q_is_size => k_is)
    (case c_q_is_size => k_is)
    (case k_q_is_size => k_is)
    (case a_q_is_body => k_is)
    (case l_q_is_body => k_is)
    (case c_q_is_body => k_is)
    (case k_q_is_body => k_is)
    (case a_q_check_body => k_is)
    (case l_q_check_body => k_is)
    (case c_q_check_body => k_is)
    (case k_q_check_body => k_is)
    (case a_q_check_here => k_is)
    (case l_q_check_here => k_is)
    (case c_q_check_here => k_is)
    (case k_q_check_here => k_is)
    (case a_q_gap_of => k_is)
    (case l_q_gap_of => k_is)
    (case c_q_gap_of => k_is)
    (case k_q_gap_of => k_is)
    (case a_q_are_near => k_is)
    (case l_q_are_near => k_is)
    (case c_q_are_near => k_is)
    (case k_q_are_near => k_is)
    (case a_q_all_near => k_is)
    (case l_q_all_near => k_is)
    (case c_q_all_near => k_is)
    (case k_q_all_near => k_is)
    (case a_q_least_near => k_is)
    (case l_q_least_near => k_is)
    (case c_q_least_near => k_is)
    (case k_q_least_near => k_is)
    (case a_q_gap => k_is)
    (case l_q_gap => k_is)
    (case c_q_gap => k_is)
    (case k_q_gap => k_is)
    (case a_q_near => k_is)
    (case l_q_near => k_is)
    (case c_q_near => k_is)
    (case k_q_near => k_is)
    (case a_q_near_pairs => k_is)
    (case l_q_near_pairs => k_is)
    (case c_q_near_pairs => k_is)
    (case k_q_near_pairs => k_is)
    (case a_q_near_from => k_is)
    (case l_q_near_from => k_is)
    (case c_q_near_from => k_is)
    (case k_q_near_from => k_is)
    (case a_l_begun => k_is)
    (case l_l_begun => k_is)
    (case c_l_begun => k_is)
    (case k_l_begun => k_is)
    (case a_l_mixed => k_is)
    (case l_l_mixed => k_is)
    (case c_l_mixed => k_is)
    (case k_l_mixed => k_is)
    (case a_l_take => k_is)
    (case l_l_take => k_is)
    (case c_l_take => k_is)
    (case k_l_take => k_is)
    (case a_l_pick => k_is)
    (case l_l_pick => k_is)
    (case c_l_pick => k_is)
    (case k_l_pick => k_is)
    (case a_l_caught => k_is)
    (case l_l_caught => k_is)
    (case c_l_caught => k_is)
    (case k_l_caught => k_is)
    (case a_l_is_number => k_is)
    (case l_l_is_number => k_is)
    (case c_l_is_number => k_is)
    (case k_l_is_number => k_is)
    (case a_l_says => k_is)
    (case l_l_says => k_is)
    (case c_l_says => k_is)
    (case k_l_says => k_is)
    (case a_l_numbers => k_is)
    (case l_l_numbers => k_is)
    (case c_l_numbers => k_is)
    (case k_l_numbers => k_is)
    (case a_l_shuffled => k_is)
    (case l_l_shuffled => k_is)
    (case c_l_shuffled => k_is)
    (case k_l_shuffled => k_is)
    (case a_l_block => k_is)
    (case l_l_block => k_is)
    (case c_l_block => k_is)
    (case k_l_block => k_is)
    (case a_l_pen => k_is)
    (case l_l_pen => k_is)
    (case c_l_pen => k_is)
    (case k_l_pen => k_is)
    (case a_l_stretched => k_is)
    (case l_l_stretched => k_is)
    (case c_l_stretched => k_is)
    (case k_l_stretched => k_is)
    (case a_l_table => k_is)
    (case l_l_table => k_is)
    (case c_l_table => k_is)
    (case k_l_table => k_is)
    (case a_l_blocks => k_is)
    (case l_l_blocks => k_is)
    (case c_l_blocks => k_is)
    (case k_l_blocks => k_is)
    (case a_l_body => k_is)
    (case l_l_body => k_is)
    (case c_l_body => k_is)
    (case k_l_body => k_is)
    (case a_l_grid => k_is)
    (case l_l_grid => k_is)
    (case c_l_grid => k_is)
    (case k_l_grid => k_is)
    (case a_l_due_gap => k_is)
    (case l_l_due_gap => k_is)
    (case c_l_due_gap => k_is)
    (case k_l_due_gap => k_is)
    (case a_l_near => k_is)
    (case l_l_near => k_is)
    (case c_l_near => k_is)
    (case k_l_near => k_is)
    (case a_l_near_pairs => k_is)
    (case l_l_near_pairs => k_is)
    (case c_l_near_pairs => k_is)
    (case k_l_near_pairs => k_is)
    (case a_l_least_near => k_is)
    (case l_l_least_near => k_is)
    (case c_l_least_near => k_is)
    (case k_l_least_near => k_is)
    (case a_l_refusals => k_is)
    (case l_l_refusals => k_is)
    (case c_l_refusals => k_is)
    (case k_l_refusals => k_is)
    (case a_q_law => k_is)
    (case l_q_law => k_is)
    (case c_q_law => k_is)
    (case k_q_law => k_is)
    (case ch => kernel_rfl)
    (case nP => kernel_rfl)
    (case tab => exact PySem.W.km_tabs_of Y _ (List.mem_singleton.mpr rfl))
