import PyProof.Rows.All
import Wide.All
import OpenK.AllK
import Wide.FinOn
import HandS.ForMost
import HandS.Evl
import HandS.IsInst
import HandS.Style
import HandS.Zip
import HandS.SortInts
import HandS.Conv
import HandS.More
import KE.GoesEnum
import HandS.Walk
import HandS.NoneIn
import HandS.SetFor
import HandS.Deep
import HandS.RaiseMore
import PyProof.ReprReads
import HandS.TupAny
import HandS.Ends
import HandS.Codes
import HandS.Words
import HandS.DeepEq
import HandS.WrittenGet
import HandS.Star
import HandS.TupLe
import KE.DataMinMax
import HandS.TupMul
import HandS.Dict
import HandS.Iter
import KE.SortData
import KE.DataCmp
import HandS.ExcInit
import HandS.ExcField
import KE.KExcInit
import KE.KExcIs
import KE.KTryMore
import HandS.WordsExc
import HandS.DictComp
import HandS.RevRange
import HandS.Wide
import KE.KTupSum
import KE.SortLaws
import HandS.Flow
import PySem.Challenge.RW_onlygroups_k61_whole_choices_replaced
set_option Elab.async false
set_option linter.all false
set_option maxRecDepth 100000
set_option maxHeartbeats 4000000
namespace OgR
open PySem PySem.Spec PyProof.Rows L2
/-! sorted(t), t a tuple of ints -/
section
variable {prog : Program} {w : World} {A : Around} {E : Value → Shared → Prop} {s : Shared}
/-- the items of a tuple, collected in a new list at the heap's end -/
theorem gather_tup {Q : List Value → Shared → Prop} {t : Addr} {o : Obj} {xs : Array Value} {m : Nat} (got : s.heap.get? t = some o) (cl : o.cls = .type "tuple")
    (dt : o.data = .seq xs m) (fits : xs.size ≤ sizeLine)
    (fin : Q xs.toList { s with heap := (s.heap.push (seqObj "list" #[] 0)).update s.heap.objs.size (Obj.mapSeq (· ++ xs)) }) :
    wpAny (model prog w) A (collect (.ref t)) Q E s := by
  have new1 : (s.heap.push (seqObj "list" #[] 0)).get? s.heap.objs.size = some (seqObj "list" #[] 0) := Heap.get?_push_size _ rfl
  have new2 := Heap.get?_update_self (Obj.mapSeq (· ++ xs)) new1 rfl
  unfold collect
  refine wpAny_bind (wpAny_runValue (codeAny_builtin F.entry_proto_collect ?_))
  rw [Around.under_plainId F.plain_proto_collect _]
  refine wpAny_bind (wpAny_newObj_type (wpAny_pure ⟨plainId_quiet F.plain_list_iadd _, codeAny_builtin F.entry_list_iadd ?_⟩))
  rw [Around.under_plainId F.plain_list_iadd _]
  refine wpAny_mono (wpAny_extend_seq (hsz := fits) (A := A) (R := fun r s' => r = .ok (.ret (.ref s.heap.objs.size)) ∧
      s' = { s with heap := (s.heap.push (seqObj "list" #[] 0)).update s.heap.objs.size (Obj.mapSeq (· ++ xs)) })
    (s := { s with heap := s.heap.push (seqObj "list" #[] 0) }) _ t _ 0 (.inr rfl) new1 (Heap.get?_push_of_some _ got) cl dt ⟨rfl, rfl⟩) (fun f s' g => ?_) (fun e s' g => absurd g.1 (by simp))
  have last : wpAny (model prog w) A (do
      match (← load s.heap.objs.size).data with
        | Data.seq ys _ => pure ys.toList
        | _ => unsupported "internal:collect") Q E { s with heap := (s.heap.push (seqObj "list" #[] 0)).update s.heap.objs.size (Obj.mapSeq (· ++ xs)) } := by
    refine wpAny_bind (wpAny_load new2 (wpAny_pure ?_))
    have e0 : ((#[] : Array Value) ++ xs).toList = xs.toList := by simp
    show Q ((#[] : Array Value) ++ xs).toList _
    rw [e0]
    exact fin
  cases f with
  | done r =>
    obtain ⟨e1, rfl⟩ := g
    cases e1
    exact last
  | again c => exact ⟨g.1, codeAny_mono g.2 fun r s2 gr => by
      obtain ⟨rfl, rfl⟩ := gr
      exact last⟩
theorem sorted_of_tup {t : Addr} {us : List Value} {ms : List Int} {Q : Value → Shared → Prop} (ht : IsTup s.heap t us.toArray) (hz : us.length ≤ sizeLine) (hI : IntsAre us ms)
    (fin : ∀ (out : List Value) (h' : Heap) (p : Addr) (e : Nat), (∀ b o, s.heap.get? b = some o → h'.get? b = some o) → s.heap.objs.size ≤ p → IntsAre out (out.map SrtO.iv) → (out.map SrtO.iv).Perm ms → (out.map SrtO.iv).Pairwise (· ≤ ·) →
      h'.get? p = some (seqObj "list" out.toArray e) → Q (.ref p) { s with heap := h' }) :
    wpAny (model prog w) A (call (.builtin "sorted") [.ref t]) Q E s := by
  obtain ⟨o, ho, hc, n, hd⟩ := ht
  refine Calls.call_function_entry kind_sorted plain_sorted entry_sorted (args_sorted1 _) ?_
  unfold Builtin.«sorted»
  refine wpAny_bind (m := checkCount "sorted" 1 1 _) (wpAny_pure ?_)
  refine wpAny_bind (gather_tup ho hc hd (by simpa using hz) ?_)
  rw [List.toList_toArray]
  have hsz : ((s.heap.push (seqObj "list" #[] 0)).update s.heap.objs.size (Obj.mapSeq (· ++ us.toArray))).objs.size = s.heap.objs.size + 1 := by
    rw [Heap.size_update, size_push']
  have keep1 : ∀ b u, s.heap.get? b = some u → ((s.heap.push (seqObj "list" #[] 0)).update s.heap.objs.size (Obj.mapSeq (· ++ us.toArray))).get? b = some u := fun b u q =>
    (Heap.get?_update_other _ _ (Nat.ne_of_gt (Heap.lt_size q))).trans (Heap.get?_push_of_some _ q)
  generalize ((s.heap.push (seqObj "list" #[] 0)).update s.heap.objs.size (Obj.mapSeq (· ++ us.toArray))) = h1 at hsz keep1
  refine wpAny_bind (wpAny_newList ?_ hz)
  have old2 : ∀ b u, s.heap.get? b = some u → b < h1.objs.size := fun b u q => Heap.lt_size (keep1 b u q)
  have hnew : (h1.push (seqObj "list" us.toArray 0)).get? h1.objs.size = some (seqObj "list" us.toArray 0) := Heap.get?_push_size _ rfl
  have hle : s.heap.objs.size ≤ h1.objs.size := by omega
  show wpAny _ _ _ _ _ { s with heap := h1.push (seqObj "list" us.toArray 0) }
  refine wpAny_bind (wpAny_holding (wpAny_call_entry slot_list_sort ⟨_, hnew, rfl⟩ entry_list_sort (SrtO.list_sort_ord SrtO.swo_int hnew hz (fun h2 => SrtO.ints_sortable hI h2) fun out a1 a2 => ⟨_, rfl, ?_⟩) (args_list_sort _)))
  obtain ⟨b1, b2, b3⟩ := SrtO.ints_out hI a1 a2
  obtain ⟨e, he⟩ := sortedHeap_at (out := out.toArray) hnew
  refine wpAny_pure ⟨_, rfl, fin out _ h1.objs.size e (fun b u q => ?_) hle b1 b2 b3 he⟩
  have hb := old2 b u q
  rw [sortedHeap_old (Nat.ne_of_lt hb) (by rw [size_push']; exact Nat.lt_succ_of_lt hb)]
  exact Heap.get?_push_of_some _ (keep1 b u q)
end
def rSrtT (K : PySem.W.Frag) : List V → Hp → VK → Prop := fun vs H Q => ∃ (a : Addr) (ms : List Int), vs = [V.ref a] ∧ SqT K H a (ms.map V.int) ∧
  ∀ (ks : List Int) (p : Addr), ks.Perm ms → ks.Pairwise (· ≤ ·) → H p = none → Q (.ref p) (upd H p (.lst (ks.map V.int)))
theorem cr_srtT {X : Cx} : CallR X (.builtin "sorted") (rSrtT X.K) := by
  intro pins s σ H vs us Q I r h
  obtain ⟨a, ms, rfl, hs, q⟩ := h
  obtain ⟨its, rv, ht, hz⟩ := I.tuple hs
  rw [Vals.ref1 r]
  refine sorted_of_tup ht (by rw [← rv.length]; exact hz) rv.ints fun out h' p e keep hp k1 k2 k3 he => ?_
  have hlen : ((out.map SrtO.iv).map V.int).length ≤ sizeLine := by
    have q1 := k2.length_eq
    rw [List.length_map] at hz
    rw [List.length_map]
    omega
  exact ⟨.ref p, upd H p (.lst ((out.map SrtO.iv).map V.int)), I.laid (t' := s.toks) keep hp ⟨hlen, out, e, vals_of_ints k1, he⟩, rfl, q _ _ k2 k3 (I.hok.fresh hp)⟩

/-! ### a sequence, a list or a tuple -/
def SqB (K : PySem.W.Frag) : Bool → Hp → Addr → List V → Prop
  | true, H, a, xs => SqT K H a xs
  | false, H, a, xs => SqL K H a xs
def SeqIs : Bool → Heap → Addr → Array Value → Prop
  | true, h, a, xs => h.IsTuple a xs
  | false, h, a, xs => h.IsList a xs
def ItIs : Bool → Heap → Addr → Addr → Nat → Prop
  | true, h, i, a, n => h.IsTupleIter i a n
  | false, h, i, a, n => h.IsListIter i a n
def itObj (b : Bool) (a : Addr) : Obj := { cls := .type (if b then "tuple_iterator" else "list_iterator"), data := .fields #[.ref a, .int 0 0] }
theorem seqB {X : Cx} {pins : List (Addr × Obj)} {σ : L2.St} {H : Hp} {s : Shared} {a : Addr} {xs : List V} {b : Bool} (I : Inv X pins σ H s) (h : SqB X.K b H a xs) :
    ∃ its : List Value, Vals xs its ∧ SeqIs b s.heap a its.toArray ∧ a < s.heap.objs.size := by
  cases b with
  | true =>
    obtain ⟨its, r, p, _⟩ := I.tuple h
    exact ⟨its, r, p, p.lt⟩
  | false =>
    obtain ⟨its, r, p, _⟩ := I.list h
    exact ⟨its, r, p.isList, p.lt⟩
theorem seqB_inj {X : Cx} {pins : List (Addr × Obj)} {σ : L2.St} {H : Hp} {s : Shared} {a : Addr} {xs ys : List V} {b : Bool} (I : Inv X pins σ H s) (h : SqB X.K b H a xs) (h' : SqB X.K b H a ys) : xs = ys := by
  cases b with
  | true => exact I.tuple_inj h h'
  | false => exact I.list_inj h h'
theorem drawsB {prog : Program} {w : World} {A : Around} (hh : A.handled = none) (b : Bool) (it a : Addr) (hne : a ≠ it) (items : Array Value) :
    Draws prog w A it [it, a] items.size (fun i v => items[i]? = some v) (fun i h => ItIs b h it a i ∧ SeqIs b h a items) := by
  cases b with
  | true => exact Draws.tuple hh it a hne items
  | false => exact Draws.list hh it a hne items
theorem beginsB (b : Bool) (a : Addr) (items : Array Value) : Begins (.ref a) (itObj b a) fun h => SeqIs b h a items := by
  cases b with
  | true => exact begins_tuple a items
  | false => exact begins_list a items
theorem itIs0 {b : Bool} {h : Heap} {i a : Addr} (e : h.get? i = some (itObj b a)) : ItIs b h i a 0 := by
  cases b with
  | true => exact ⟨_, e, rfl, rfl⟩
  | false => exact ⟨_, e, rfl, rfl⟩
theorem ItIs.obj {b : Bool} {h : Heap} {i a : Addr} {n : Nat} (x : ItIs b h i a n) : ∃ o, h.get? i = some o ∧ ∀ v, o.data ≠ .cell v := by
  cases b with
  | true =>
    obtain ⟨o, e, _, d⟩ := x
    exact ⟨o, e, fun v q => by rw [d] at q; cases q⟩
  | false =>
    obtain ⟨o, e, _, d⟩ := x
    exact ⟨o, e, fun v q => by rw [d] at q; cases q⟩
theorem ItIs.keep {b : Bool} {h h' : Heap} {i a : Addr} {n : Nat} (x : ItIs b h i a n) (k : ∀ o, h.get? i = some o → h'.get? i = some o) : ItIs b h' i a n := by
  cases b with
  | true => exact Heap.IsTupleIter.at x k
  | false => exact Heap.IsListIter.at x k

/-! ### enumerate of a list or a tuple -/
set_option maxHeartbeats 1000000 in
theorem enum_new1 {v : Value} {o : Obj} {H : Heap → Prop} (B : Begins v o H) : Meets (Builtin.«enumerate.__new__» ⟨[.type "enumerate", v], []⟩) (fun _ R s => H s.heap ∧
    R (.ok (.ret (.ref (s.heap.push o).objs.size)))
      { s with heap := (s.heap.push o).push { cls := .type "enumerate", data := .fields #[.none, .bool false, .ref s.heap.objs.size, rawInt 0, .none, .none] } }) := by
  refine .of_wp fun prog w A R s h => ?_
  obtain ⟨hp, gn, dr, tk, os⟩ := s
  obtain ⟨hH, fin⟩ := h
  have hsub := sub_enumerate
  have it1 : ∀ {A' : Around} {E : Value → Shared → Prop} {Q : Value → Shared → Prop}, Q (.ref hp.objs.size) ⟨hp.push o, gn, dr, tk, os⟩ → wpAny (model prog w) A' (pyIter v) Q E ⟨hp, gn, dr, tk, os⟩ := fun q =>
    B.iter prog w _ _ ⟨hp, gn, dr, tk, os⟩ _ hH q
  wp_walk using it1
  refine wpAny_stack_any fun st => wpAny_pure ?_
  split
  · rename_i cc _ _ _ _ _
    cases (cc == Value.type "enumerate") <;> (wp_walk using it1; exact ⟨_, rfl, fin⟩)
  · wp_walk using it1
    exact ⟨_, rfl, fin⟩
theorem enum_begins1 {prog : Program} {w : World} {A : Around} {E : Value → Shared → Prop} {s : Shared} {v : Value} {o : Obj} {H : Heap → Prop} {Q : Value → Shared → Prop} (B : Begins v o H) (h1 : H s.heap)
    (fin : ∀ h', IsEnum h' (s.heap.objs.size + 1) s.heap.objs.size 0 .none → h'.get? s.heap.objs.size = some o → h'.objs.size = s.heap.objs.size + 2 → (∀ b u, s.heap.get? b = some u → h'.get? b = some u) →
      Q (.ref (s.heap.objs.size + 1)) { s with heap := h' }) : wpAny (model prog w) A (call (.type "enumerate") [v]) Q E s := by
  refine callType_new F.called_enumerate (by decide) (F.typeCall_enumerate_1 _) (F.newCall_enumerate_1 _) (fun obj => F.args_object_init_2 obj _) F.entry_enumerate_new (enum_new1 B) ⟨h1, ?_⟩
  have sz : (s.heap.push o).objs.size = s.heap.objs.size + 1 := Heap.size_push ..
  have it := Heap.get?_push_size (s.heap.push o) (o := { cls := .type "enumerate", data := .fields #[.none, .bool false, .ref s.heap.objs.size, rawInt 0, .none, .none] }) rfl
  rw [sz] at it
  show _ ∧ _
  rw [sz]
  exact ⟨⟨_, it, rfl⟩, fin _ it (Heap.get?_push_of_some _ (Heap.get?_push_size _ B.free)) (by rw [Heap.size_push, sz]) fun b u x => Heap.get?_push_of_some _ (Heap.get?_push_of_some _ x)⟩
/-- the turns of enumerate over the sequence at a -/
def IteB (K : PySem.W.Frag) (b : Bool) (a : Addr) : It where
  go := fun i H => ∃ (xs : List V) (x : V), SqB K b H a xs ∧ xs[i]? = some x
  yld := fun i H v H' => ∃ T x, v = .ref T ∧ H T = none ∧ H' = upd H T (.tup [.int (i : Nat), x]) ∧ ∀ xs, SqB K b H a xs → xs[i]? = some x
  stop := fun i H => ∃ xs : List V, SqB K b H a xs ∧ xs.length = i
theorem turn_enumB {P : Program} {w : World} {K : PySem.W.Frag} {elts : List Expr} {kk : Nat} {tpos : Pos} {b : Bool} (a e it : Addr) :
    Turn P w K (.Tuple elts kk tpos) (IteB K b a) [e, it] e (fun i h => (∃ old, IsEnum h e it ((i : Nat) : Int) old) ∧ ItIs b h it a i ∧ e ≠ it ∧ a ≠ it ∧ e ≠ a) where
  mem := List.mem_cons_self ..
  obj := fun i h st c hc => by
    obtain ⟨⟨old, he⟩, hi, _⟩ := st
    rcases List.mem_cons.mp hc with rfl | hc
    · exact ⟨_, he, fun v q => nomatch q⟩
    · rw [List.mem_singleton.mp hc]
      exact hi.obj
  keep := fun i h h' st k => by
    obtain ⟨⟨old, he⟩, hi, r⟩ := st
    exact ⟨⟨old, k e (by simp) _ he⟩, hi.keep (k it (by simp)), r⟩
  item := by
    intro X hP hw hK hc i pins s σ H E I hf st hg
    subst hP hw hK
    obtain ⟨⟨old, he⟩, hit, hne, hai, hea⟩ := st
    obtain ⟨xs, x, hq, hx⟩ := hg
    obtain ⟨its, rv, hsq, _⟩ := seqB I hq
    obtain ⟨u, hu, ru⟩ := rv.get hx
    have lte : e < s.heap.objs.size := Heap.lt_size he
    have lti : it < s.heap.objs.size := by
      obtain ⟨o, q, _⟩ := hit.obj
      exact Heap.lt_size q
    have hlt : i < its.toArray.size := by
      have q := (List.getElem?_eq_some_iff.mp hu).1
      simpa using q
    refine wpAny_pyNext_enum_itemC (drawsB (by exact I.ok.hd hc) b it a hai its.toArray) he ⟨hit, hsq⟩ hlt hne (by simp [hne, hea]) fun y h' tk hy ho hst' hT hsz hk => ?_
    have hyu : y = u := by
      have q : its[i]? = some y := by simpa using hy
      rw [hu] at q
      exact (Option.some.inj q).symm
    subst hyu
    refine ⟨_, rfl, wpAny_letOwnedTupleGo_enum (s := { s with heap := h', toks := tk + 1 }) ho fun h2 he2 sb => ?_⟩
    have atT : h2.get? s.heap.objs.size = some { cls := .type "tuple", data := .seq #[.int i tk, y] } := (sb.2 _ (Nat.ne_of_gt lte)).trans hT
    have I1 : Inv X pins σ (upd H s.heap.objs.size (.tup [.int (i : Nat), x])) { s with heap := h2, toks := tk + 1 } := by
      refine I.turnedNew (ch := [e, it]) (fun c oc hcn q => ?_) hf (Nat.le_refl _) ⟨by show 2 ≤ sizeLine; decide, [.int i tk, y], .cons ⟨_, rfl⟩ (.cons ru .nil), ⟨_, atT, rfl, _, rfl⟩⟩
      exact (sb.2 c (fun z => hcn (by simp [z]))).trans (hk c oc (fun z => hcn (by simp [z])) (fun z => hcn (by simp [z])) q)
    refine ⟨.ref s.heap.objs.size, _, I1, rfl, ⟨_, x, rfl, I.hok.fresh (Nat.le_refl _), rfl, fun ys hy' => by rw [seqB_inj I hy' hq]; exact hx⟩, ⟨⟨y, ?_⟩, hst'.1.keep fun o q => (sb.2 it (Ne.symm hne)).trans q, hne, hai, hea⟩, fun c hcm => ?_⟩
    · have e1 : ((i + 1 : Nat) : Int) = (i : Int) + 1 := by omega
      rw [e1]
      exact he2
    · have ltc : c < s.heap.objs.size := by
        rcases List.mem_cons.mp hcm with rfl | hcm
        · exact lte
        · rw [List.mem_singleton.mp hcm]
          exact lti
      rw [upd_ne (Nat.ne_of_lt ltc)]
      exact (hf c hcm).1
  done := by
    intro X hP hw hK hc i pins s σ H E I hf st hg
    subst hP hw hK
    obtain ⟨⟨old, he⟩, hit, hne, hai, hea⟩ := st
    obtain ⟨xs, hq, hx⟩ := hg
    obtain ⟨its, rv, hsq, _⟩ := seqB I hq
    obtain ⟨f0, f1, f2, f3, f4, f5⟩ := hf it (by simp)
    have hl : its.toArray.size = i := by
      have q := rv.length
      simp
      omega
    refine wpAny_pyNext_enum_endD (drawsB (by exact I.ok.hd hc) b it a hai its.toArray) he (by rw [hl]; exact ⟨hit, hsq⟩) fun h' hk => ⟨rfl, ?_⟩
    exact I.turned (t' := s.toks) (fun c oc hcn q => hk c oc hcn q) f0 f1 f3 f4 f5
  self := fun A i s Q E st h => by
    obtain ⟨⟨_, he⟩, _⟩ := st
    exact wpAny_pyIter_enum he h
def iEnumB (K : PySem.W.Frag) (ta : TA) : TI := fun σ H R => ta σ H fun vs H1 => ∃ b a xs, vs = [.ref a] ∧ SqB K b H1 a xs ∧ R (IteB K b a) H1
theorem pi_enumB {X : Cx} {e : Expr} {ta : TA} {p pos tpos : Pos} {elts : List Expr} {kk : Nat} (hg : Gl X "enumerate") (hm : X.mg "enumerate" = none) (ha : PA X [e] ta) (hs : starEach [e] X.env = [(false, eval e X.env)] := by rfl) :
    PI X (.Tuple elts kk tpos) (.Call (.Name "enumerate" p) [e] [] pos) (iEnumB X.K ta) := by
  refine ⟨fun pins s σ H R I h => ?_⟩
  refine Call_ (ld_blt I hg hm boot_enumerate (callWith_type1 (thn (ha.run pos pins s σ H _ I h) fun us s1 ⟨vs, H1, I1, r1, g⟩ => ?_) hs rfl))
  obtain ⟨b, a, xs, ex, hq, q⟩ := g
  subst ex
  rw [Vals.ref1 r1]
  obtain ⟨its, rv, hsq, lta⟩ := seqB I1 hq
  refine enum_begins1 (beginsB b a its.toArray) hsq fun h' he hit hsz hk => wpAny_pyIter_enum he ?_
  refine ⟨s1.heap.objs.size + 1, [s1.heap.objs.size + 1, s1.heap.objs.size], _, _, H1, rfl, I1.kept (t' := s1.toks) hk, turn_enumB a (s1.heap.objs.size + 1) s1.heap.objs.size, ⟨⟨.none, he⟩, itIs0 hit, Nat.succ_ne_self _, Nat.ne_of_lt lta, Nat.ne_of_gt (Nat.lt_succ_of_lt lta)⟩, fun c hc => ?_, q⟩
  have hle : s1.heap.objs.size ≤ c := by
    rcases List.mem_cons.mp hc with rfl | hc
    · exact Nat.le_succ _
    · rw [List.mem_singleton.mp hc]
      exact Nat.le_refl _
  exact I1.fpOk hle (I1.hok.fresh hle)
end OgR

namespace OgR
open PySem PySem.Spec PyProof.Rows L2
/-! ### zip of two sequences, each a list or a tuple -/
def ItzB (K : PySem.W.Frag) (b1 b2 : Bool) (a1 a2 : Addr) : It where
  go := fun i H => ∃ (xs ys : List V) (x y : V), SqB K b1 H a1 xs ∧ SqB K b2 H a2 ys ∧ xs[i]? = some x ∧ ys[i]? = some y
  yld := fun i H v H' => ∃ T x y, v = .ref T ∧ H T = none ∧ H' = upd H T (.tup [x, y]) ∧ (∀ xs, SqB K b1 H a1 xs → xs[i]? = some x) ∧ ∀ ys, SqB K b2 H a2 ys → ys[i]? = some y
  stop := fun i H => ∃ xs ys : List V, SqB K b1 H a1 xs ∧ SqB K b2 H a2 ys ∧ i ≤ xs.length ∧ i ≤ ys.length ∧ (i = xs.length ∨ i = ys.length)
theorem turn_zipB {P : Program} {w : World} {K : PySem.W.Frag} {elts : List Expr} {kk : Nat} {tpos : Pos} {b1 b2 : Bool} {a1 a2 z TI TO i1 i2 : Addr} (S : ZipSep2 z TI TO i1 i2 [i1, a1] [i2, a2]) (n1 : a1 ≠ i1) (n2 : a2 ≠ i2) :
    Turn P w K (.Tuple elts kk tpos) (ItzB K b1 b2 a1 a2) [z, TI, TO, i1, i2] z
      (fun i h => IsZip h z TI TO .none ∧ IsTupOf2 h TI (.ref i1) (.ref i2) ∧ (∃ x y, IsTupOf2 h TO x y) ∧ ItIs b1 h i1 a1 i ∧ ItIs b2 h i2 a2 i) where
  mem := List.mem_cons_self ..
  obj := fun i h st c hc => by
    obtain ⟨hz, hTI, ⟨x, y, hTO⟩, h1, h2⟩ := st
    have q : c = z ∨ c = TI ∨ c = TO ∨ c = i1 ∨ c = i2 := by simpa using hc
    rcases q with rfl | rfl | rfl | rfl | rfl
    · exact ⟨_, hz, fun v q => nomatch q⟩
    · exact ⟨_, hTI, fun v q => nomatch q⟩
    · exact ⟨_, hTO, fun v q => nomatch q⟩
    · exact h1.obj
    · exact h2.obj
  keep := fun i h h' st k => by
    obtain ⟨hz, hTI, ⟨x, y, hTO⟩, h1, h2⟩ := st
    exact ⟨k z (by simp) _ hz, k TI (by simp) _ hTI, ⟨x, y, k TO (by simp) _ hTO⟩, h1.keep (k i1 (by simp)), h2.keep (k i2 (by simp))⟩
  item := by
    intro X hP hw hK hc i pins s σ H E I hf st hg
    subst hP hw hK
    obtain ⟨hz, hTI, ⟨x0, y0, hTO⟩, h1, h2⟩ := st
    obtain ⟨xs, ys, x, y, qx, qy, hx, hy⟩ := hg
    obtain ⟨us1, rv1, sq1, _⟩ := seqB I qx
    obtain ⟨us2, rv2, sq2, _⟩ := seqB I qy
    obtain ⟨u1, e1, r1⟩ := rv1.get hx
    obtain ⟨u2, e2, r2⟩ := rv2.get hy
    have ltz : z < s.heap.objs.size := Heap.lt_size hz
    have lt1 : i < us1.toArray.size := by
      have q := (List.getElem?_eq_some_iff.mp e1).1
      simpa using q
    have lt2 : i < us2.toArray.size := by
      have q := (List.getElem?_eq_some_iff.mp e2).1
      simpa using q
    refine wpAny_pyNext_zipD2_item S (drawsB (by exact I.ok.hd hc) b1 i1 a1 n1 us1.toArray) (drawsB (by exact I.ok.hd hc) b2 i2 a2 n2 us2.toArray) hz hTI hTO ⟨h1, sq1⟩ ⟨h2, sq2⟩ lt1 lt2
      fun v1 v2 h' tk p1 p2 z' TO' st1 st2 hT hsz hk => ?_
    have ev1 : v1 = u1 := by
      have q : us1[i]? = some v1 := by simpa using p1
      rw [e1] at q
      exact (Option.some.inj q).symm
    have ev2 : v2 = u2 := by
      have q : us2[i]? = some v2 := by simpa using p2
      rw [e2] at q
      exact (Option.some.inj q).symm
    subst ev1 ev2
    refine ⟨_, rfl, wpAny_letOwnedTupleGo_zip (s := { s with heap := h', toks := tk }) z' fun h2' z2 sb => ?_⟩
    have atT : h2'.get? s.heap.objs.size = some { cls := .type "tuple", data := .seq #[v1, v2] } := (sb.2 _ (Nat.ne_of_gt ltz)).trans hT
    have I1 : Inv X pins σ (upd H s.heap.objs.size (.tup [x, y])) { s with heap := h2', toks := tk } := by
      refine I.turnedNew (ch := [z, TI, TO, i1, i2]) (fun c oc hcn q => ?_) hf (Nat.le_refl _) ⟨by show 2 ≤ sizeLine; decide, [v1, v2], .cons r1 (.cons r2 .nil), ⟨_, atT, rfl, _, rfl⟩⟩
      have g : ∀ d, d ∈ [z, TI, TO, i1, i2] → c ≠ d := fun d hd e => hcn (e ▸ hd)
      exact (sb.2 c (g z (by simp))).trans (hk c oc (g z (by simp)) (g TO (by simp)) (g i1 (by simp)) (g i2 (by simp)) q)
    refine ⟨.ref s.heap.objs.size, _, I1, rfl, ⟨_, x, y, rfl, I.hok.fresh (Nat.le_refl _), rfl, fun l hl => by rw [seqB_inj I hl qx]; exact hx, fun l hl => by rw [seqB_inj I hl qy]; exact hy⟩, ⟨z2, ?_, ⟨v1, v2, ?_⟩, ?_, ?_⟩, fun c hcm => ?_⟩
    · exact (sb.2 _ S.TIz).trans (hk _ _ S.TIz S.TITO S.TIi1 S.TIi2 hTI)
    · exact (sb.2 _ S.TOz).trans TO'
    · exact st1.1.keep fun o q => (sb.2 _ (Ne.symm S.zi1)).trans q
    · exact st2.1.keep fun o q => (sb.2 _ (Ne.symm S.zi2)).trans q
    · have ltc : c < s.heap.objs.size := by
        have q : c = z ∨ c = TI ∨ c = TO ∨ c = i1 ∨ c = i2 := by simpa using hcm
        rcases q with rfl | rfl | rfl | rfl | rfl
        · exact ltz
        · exact Heap.lt_size hTI
        · exact Heap.lt_size hTO
        · obtain ⟨_, q, _⟩ := h1.obj
          exact Heap.lt_size q
        · obtain ⟨_, q, _⟩ := h2.obj
          exact Heap.lt_size q
      rw [upd_ne (Nat.ne_of_lt ltc)]
      exact (hf c hcm).1
  done := by
    intro X hP hw hK hc i pins s σ H E I hf st hg
    subst hP hw hK
    obtain ⟨hz, hTI, ⟨x0, y0, hTO⟩, h1, h2⟩ := st
    obtain ⟨xs, ys, qx, qy, l1, l2, hend⟩ := hg
    obtain ⟨us1, rv1, sq1, _⟩ := seqB I qx
    obtain ⟨us2, rv2, sq2, _⟩ := seqB I qy
    have m1 : xs.length = us1.toArray.size := by
      have q := rv1.length
      simpa using q
    have m2 : ys.length = us2.toArray.size := by
      have q := rv2.length
      simpa using q
    refine wpAny_pyNext_zipD2_end S (drawsB (by exact I.ok.hd hc) b1 i1 a1 n1 us1.toArray) (drawsB (by exact I.ok.hd hc) b2 i2 a2 n2 us2.toArray) hz hTI hTO ⟨h1, sq1⟩ ⟨h2, sq2⟩ (by omega) (by omega) (by omega) fun h' tk hk => ⟨rfl, ?_⟩
    refine I.turnedL (t' := tk) (ch := [z, TI, TO, i1, i2]) (fun c oc hcn q => ?_) hf
    have g : ∀ d, d ∈ [z, TI, TO, i1, i2] → c ≠ d := fun d hd e => hcn (e ▸ hd)
    exact hk c oc (g z (by simp)) (g TO (by simp)) (g i1 (by simp)) (g i2 (by simp)) q
  self := fun A i s Q E st h => wpAny_pyIter_zip st.1 h
def iZipB (K : PySem.W.Frag) (ta : TA) : TI := fun σ H R => ta σ H fun vs H1 => ∃ b1 b2 a1 a2 xs ys, vs = [.ref a1, .ref a2] ∧ SqB K b1 H1 a1 xs ∧ SqB K b2 H1 a2 ys ∧ R (ItzB K b1 b2 a1 a2) H1
theorem pi_zipB {X : Cx} {e e2 : Expr} {ta : TA} {p pos tpos : Pos} {elts : List Expr} {kk : Nat} (hg : Gl X "zip") (hm : X.mg "zip" = none) (ha : PA X [e, e2] ta)
    (hs : starEach [e, e2] X.env = (false, eval e X.env) :: starEach [e2] X.env := by rfl) (hpl : (backTo pos (starEach [e2] X.env)).any (·.1) = false := by rfl) :
    PI X (.Tuple elts kk tpos) (.Call (.Name "zip" p) [e, e2] [] pos) (iZipB X.K ta) := by
  refine ⟨fun pins s σ H R I h => ?_⟩
  refine Call_ (ld_blt I hg hm boot_zip (callWith_type1 (thn (ha.run pos pins s σ H _ I h) fun us s1 ⟨vs, H1, I1, r1, g⟩ => ?_) hs hpl))
  obtain ⟨b1, b2, a1, a2, xs, ys, ex, qx, qy, q⟩ := g
  subst ex
  obtain ⟨u, w', eus, ru, rw'⟩ := vals2 r1
  subst eus
  cases ru
  cases rw'
  obtain ⟨us1, rv1, sq1, lt1⟩ := seqB I1 qx
  obtain ⟨us2, rv2, sq2, lt2⟩ := seqB I1 qy
  refine zip_begins2 (beginsB b1 a1 us1.toArray) (beginsB b2 a2 us2.toArray) sq1 sq2 fun h' hz hTI hTO g1 g2 hsz hk => wpAny_pyIter_zip hz ?_
  have S := zip_sep2 (N := s1.heap.objs.size) (fp1 := [a1]) (fp2 := [a2]) (fun b hb => by rw [List.mem_singleton.mp hb]; exact lt1) (fun b hb => by rw [List.mem_singleton.mp hb]; exact lt2)
  refine ⟨s1.heap.objs.size + 4, [s1.heap.objs.size + 4, s1.heap.objs.size + 2, s1.heap.objs.size + 3, s1.heap.objs.size, s1.heap.objs.size + 1], _, _, H1, rfl, I1.kept (t' := s1.toks) hk,
    turn_zipB S (Nat.ne_of_lt lt1) (Nat.ne_of_lt (Nat.lt_succ_of_lt lt2)), ⟨hz, hTI, ⟨_, _, hTO⟩, itIs0 g1, itIs0 g2⟩, fun c hcm => ?_, q⟩
  have hle : s1.heap.objs.size ≤ c := by
    have e' : c = s1.heap.objs.size + 4 ∨ c = s1.heap.objs.size + 2 ∨ c = s1.heap.objs.size + 3 ∨ c = s1.heap.objs.size ∨ c = s1.heap.objs.size + 1 := by simpa using hcm
    rcases e' with q | q | q | q | q <;> rw [q] <;> first | exact Nat.le_add_right _ _ | exact Nat.le_refl _
  exact I1.fpOk hle (I1.hok.fresh hle)
/-! ### their walks -/
theorem SqB.ex {K : PySem.W.Frag} {b : Bool} {H H' : Hp} {a : Addr} {xs : List V} (e : Evl.Ex H H') (h : SqB K b H a xs) : SqB K b H' a xs := by
  cases b with
  | true => exact Evl.ex_t e h
  | false => exact Evl.ex_l e h
theorem walk_enumB {K : PySem.W.Frag} {b : Bool} {a : Addr} {xs : List V} : Walk (IteB K b a) xs.length (fun H => SqB K b H a xs) (fun i H v H' => ∃ T x, v = .ref T ∧ H T = none ∧ H' = upd H T (.tup [.int (i : Nat), x]) ∧ xs[i]? = some x) where
  goes := fun i H hi h => ⟨xs, xs[i], h, List.getElem?_eq_getElem hi⟩
  stops := fun H h => ⟨xs, h, rfl⟩
  yields := fun i H v H' hi h y => by
    obtain ⟨T, x, e1, e2, e3, e4⟩ := y
    exact ⟨T, x, e1, e2, e3, e4 xs h⟩
theorem walk_zipB {K : PySem.W.Frag} {b1 b2 : Bool} {a1 a2 : Addr} {xs ys : List V} (hl : xs.length = ys.length) : Walk (ItzB K b1 b2 a1 a2) xs.length (fun H => SqB K b1 H a1 xs ∧ SqB K b2 H a2 ys)
    (fun i H v H' => ∃ T x y, v = .ref T ∧ H T = none ∧ H' = upd H T (.tup [x, y]) ∧ xs[i]? = some x ∧ ys[i]? = some y) where
  goes := fun i H hi h => ⟨xs, ys, xs[i], ys[i]'(by omega), h.1, h.2, List.getElem?_eq_getElem hi, List.getElem?_eq_getElem (by omega)⟩
  stops := fun H h => ⟨xs, ys, h.1, h.2, Nat.le_refl _, by omega, .inl rfl⟩
  yields := fun i H v H' hi h y => by
    obtain ⟨T, x, z, e1, e2, e3, e4, e5⟩ := y
    exact ⟨T, x, z, e1, e2, e3, e4 xs h.1, e5 ys h.2⟩
/-! ### for x in s, s a list or a tuple -/
def ItsB (K : PySem.W.Frag) (b : Bool) (a : Addr) : It where
  go := fun i H => ∃ xs x, SqB K b H a xs ∧ xs[i]? = some x
  yld := fun i H x H' => H' = H ∧ ∀ xs, SqB K b H a xs → xs[i]? = some x
  stop := fun i H => ∃ xs, SqB K b H a xs ∧ xs.length ≤ i
theorem turn_seqB {P : Program} {w : World} {K : PySem.W.Frag} {tg : Expr} (b : Bool) (a it : Addr) : Turn P w K tg (ItsB K b a) [it] it (fun i h => ItIs b h it a i) := by
  cases b with
  | true => exact turn_tuple a it
  | false => exact turn_list a it
def iSeqB (K : PySem.W.Frag) (tl : TE) : TI := fun σ H R => tl σ H fun x H1 => ∃ b a xs, x = .ref a ∧ SqB K b H1 a xs ∧ R (ItsB K b a) H1
theorem pi_seqB {X : Cx} {tg l : Expr} {tl : TE} (hl : PE X l tl) : PI X tg l (iSeqB X.K tl) := by
  refine ⟨fun pins s σ H R I h => thn (hl.run pins s σ H _ I h) fun v s1 ⟨x, H1, I1, r1, g⟩ => ?_⟩
  obtain ⟨b, a, xs, e, hq, q⟩ := g
  subst e
  cases r1
  obtain ⟨its, rv, hsq, lt⟩ := seqB I1 hq
  refine (beginsB b a its.toArray).iter _ _ _ _ _ _ hsq ?_
  refine ⟨s1.heap.objs.size, [s1.heap.objs.size], _, _, H1, rfl, I1.kept (t' := s1.toks) fun c o e => Heap.get?_push_of_some _ e, turn_seqB b a _, itIs0 (Heap.get?_push_size _ (beginsB b a its.toArray).free), fun c hc => ?_, q⟩
  rw [List.mem_singleton.mp hc]
  exact I1.fpOk (Nat.le_refl _) (I1.hok.fresh (Nat.le_refl _))
theorem walk_seqB {K : PySem.W.Frag} {b : Bool} {a : Addr} {xs : List V} : Walk (ItsB K b a) xs.length (fun H => SqB K b H a xs) (fun i H v H' => H' = H ∧ xs[i]? = some v) where
  goes := fun i H hi h => ⟨xs, xs[i], h, List.getElem?_eq_getElem hi⟩
  stops := fun H h => ⟨xs, h, Nat.le_refl _⟩
  yields := fun i H v H' hi h y => ⟨y.1, y.2 xs h⟩
/-! ### one of two readings -/
theorem PG.or {X : Cx} {e : Expr} {g1 g2 : TG} (h1 : PG X e g1) (h2 : PG X e g2) : PG X e (fun v σ H Q => g1 v σ H Q ∨ g2 v σ H Q) :=
  ⟨fun pins s σ H v u Q I r h => by
    rcases h with h | h
    · exact h1.run pins s σ H v u Q I r h
    · exact h2.run pins s σ H v u Q I r h⟩
theorem CallR.or {X : Cx} {f : Value} {r1 r2 : List V → Hp → VK → Prop} (h1 : CallR X f r1) (h2 : CallR X f r2) : CallR X f (fun vs H Q => r1 vs H Q ∨ r2 vs H Q) := by
  intro pins s σ H vs us Q I r h
  rcases h with h | h
  · exact h1 pins s σ H vs us Q I r h
  · exact h2 pins s σ H vs us Q I r h
/-- unpacking a pair: a tuple or a list of n items -/
def gSeqB (K : PySem.W.Frag) (n : Nat) (t : TGs) : TG := fun v σ H Q => ∃ b a xs, v = .ref a ∧ SqB K b H a xs ∧ xs.length = n ∧ t xs σ H Q
theorem pg_seqB {X : Cx} {es : List Expr} {k : Nat} {pos : Pos} {t : TGs} {n : Nat} (hc : X.calm = true) (h : PGs X es t)
    (hn : (assignEach es X.env).length = n := by rfl) (hst : (assignEach es X.env).findIdx? (·.1) = none := by rfl) : PG X (.Tuple es k pos) (gSeqB X.K n t) :=
  ⟨fun pins s σ H v u Q I r hw => by
    obtain ⟨b, a, xs, e1, hq, hl, hw⟩ := hw
    cases b with
    | true => exact (pg_tup hc h hn hst).run pins s σ H v u Q I r ⟨a, xs, e1, hq, hl, hw⟩
    | false => exact (pg_unl hc h hn hst).run pins s σ H v u Q I r ⟨a, xs, e1, hq, hl, hw⟩⟩
/-- sorted(s), s a list or a tuple of ints -/
def rSrtB (K : PySem.W.Frag) : List V → Hp → VK → Prop := fun vs H Q => ∃ (b : Bool) (a : Addr) (ms : List Int), vs = [V.ref a] ∧ SqB K b H a (ms.map V.int) ∧
  ∀ (ks : List Int) (p : Addr), ks.Perm ms → ks.Pairwise (· ≤ ·) → H p = none → Q (.ref p) (upd H p (.lst (ks.map V.int)))
theorem cr_srtB {X : Cx} : CallR X (.builtin "sorted") (rSrtB X.K) := by
  intro pins s σ H vs us Q I r h
  obtain ⟨b, a, ms, e, hq, q⟩ := h
  cases b with
  | true => exact cr_srtT pins s σ H vs us Q I r ⟨a, ms, e, hq, q⟩
  | false => exact cr_sortedI pins s σ H vs us Q I r ⟨a, ms, e, hq, q⟩
/-- len(s), s a list or a tuple -/
def rLenB (K : PySem.W.Frag) : List V → Hp → VK → Prop := fun vs H Q => ∃ (b : Bool) (a : Addr) (xs : List V), vs = [V.ref a] ∧ SqB K b H a xs ∧ Q (.int (xs.length : Int)) H
theorem cr_lenB {X : Cx} : CallR X (.builtin "len") (rLenB X.K) := by
  intro pins s σ H vs us Q I r h
  obtain ⟨b, a, xs, e, hq, q⟩ := h
  cases b with
  | true => exact call_len_seq pins s σ H vs us Q I r ⟨a, xs, e, .inr hq, q⟩
  | false => exact call_len_seq pins s σ H vs us Q I r ⟨a, xs, e, .inl hq, q⟩
/-- s[i], s a list or a tuple -/
def rIxB (K : PySem.W.Frag) : R2 := fun x y H Q => ∃ (b : Bool) (p : Addr) (xs : List V) (i : Int) (v : V), x = .ref p ∧ y = .int i ∧ SqB K b H p xs ∧ atI xs i = some v ∧ Q v H
theorem ix_B {X : Cx} : IxR X (rIxB X.K) := by
  have h : IxR X (rIx X.K) := ix_seq
  refine fun va sl pins s σ H x y u w Q I rx ry g hp => h va sl pins s σ H x y u w Q I rx ry ?_ hp
  obtain ⟨b, p, xs, i, v, e1, e2, hq, ha, q⟩ := g
  cases b with
  | true => exact .inr (.inl ⟨p, xs, i, v, e1, e2, hq, ha, q⟩)
  | false => exact .inl ⟨p, xs, i, v, e1, e2, hq, ha, q⟩
end OgR

namespace OgR
open PySem PySem.Spec PyProof.Rows L2
/-! ### l[a:c] = a list -/
def gSl (to : TE) (tl th : TO) : TG := fun v σ H Q => to σ H fun o H1 => tl σ H1 fun lo H2 => th σ H2 fun hi H3 => ∃ (l b : Addr) (xs ys : List V) (a c : Int), o = .ref l ∧ v = .ref b ∧ lo = some a ∧ hi = some c ∧ H3 l = some (.lst xs) ∧ H3 b = some (.lst ys) ∧ l ≠ b ∧
  0 ≤ a ∧ a ≤ c ∧ c ≤ xs.length ∧ xs.length + ys.length ≤ sizeLine ∧ Q σ (upd H3 l (.lst (xs.take a.toNat ++ ys ++ xs.drop c.toNat)))
theorem pg_sl {X : Cx} {o : Expr} {lo hi : Option Expr} {pos p2 : Pos} {to : TE} {tl th : TO} (ho : PE X o to) (hl : PO X lo tl) (hu : PO X hi th)
    (ha : ∀ v, assign (.Subscript o (.Slice lo hi none p2) pos) X.env v = (do
      let ov ← holding [v] (eval o X.env)
      let iv ← holding [v, ov] (eval (.Slice lo hi none p2) X.env)
      standAt pos
      holding [v, ov, iv] (setItem ov iv v)
      release [iv, v, ov] []) := by intro _; rfl) : PG X (.Subscript o (.Slice lo hi none p2) pos) (gSl to tl th) := by
  refine ⟨fun pins s σ H v u Q I r h => ?_⟩
  rw [ha]
  refine wpAny_bind (wpAny_holding (thn (ho.run pins s σ H _ I h) fun ov s1 ⟨x, H1, I1, r1, q1⟩ => ?_))
  refine wpAny_bind (wpAny_holding (wpAny_Slice (thn (hl.run pins s1 σ H1 _ I1 q1) fun vl s2 ⟨l, H2, I2, pl, q2⟩ => thn (hu.run pins s2 σ H2 _ I2 q2) fun vu s3 ⟨w', H3, I3, pu, q3⟩ => ?_)))
  rw [evalPart_none]
  refine wpAny_pure ?_
  obtain ⟨la, lb, xs, ys, a, c, rfl, rfl, rfl, rfl, e1, e2, hne, h0, hac, hc, hz, q⟩ := q3
  cases r1
  cases r
  have I4 : Inv X pins σ H3 { s3 with heap := s3.heap.push { cls := .type "slice", data := .fields #[vl, vu, .none] } } := I3.kept (t' := s3.toks) fun b ob q => Heap.get?_push_of_some _ q
  refine wpAny_bind (wpAny_standAt (wpAny_bind (wpAny_holding ?_)))
  cases pl with
  | int a ta =>
    cases pu with
    | int c tc => exact set_slice I4 e1 e2 hne (Heap.IsSliceOf.new ..) ⟨_, rfl⟩ ⟨_, rfl⟩ h0 hac hc hz fun s' I' => wpAny_release ⟨_, _, I', q⟩
end OgR

namespace OgR
open PySem PySem.Spec PyProof.Rows L2
/-! ### len(set(t)), t a tuple of ints, some of them perhaps twice -/
theorem card_eq : ∀ {ks ns : List Int}, ks.Nodup → (∀ k, k ∈ ns ↔ k ∈ ks) → ks.length ≤ ns.length ∧ (ks.length = ns.length ↔ ns.Nodup)
  | ks, [], hk, hm => by
    have e : ks = [] := List.eq_nil_iff_forall_not_mem.mpr fun k h => by
      have := (hm k).mpr h
      simp at this
    subst e
    simp
  | ks, n :: r, hk, hm => by
    by_cases hn : n ∈ r
    · have hm' : ∀ k, k ∈ r ↔ k ∈ ks := fun k => by
        rw [← hm k]
        constructor
        · exact fun h => List.mem_cons_of_mem _ h
        · intro h
          rcases List.mem_cons.mp h with e | e
          · rw [e]; exact hn
          · exact e
      have ih := card_eq hk hm'
      refine ⟨Nat.le_trans ih.1 (Nat.le_succ _), ?_⟩
      constructor
      · intro e
        have := ih.1
        rw [e, List.length_cons] at this
        omega
      · intro h
        exact absurd hn (List.nodup_cons.mp h).1
    · have hnk : n ∈ ks := (hm n).mp List.mem_cons_self
      have hm' : ∀ k, k ∈ r ↔ k ∈ ks.erase n := fun k => by
        rw [hk.mem_erase_iff, ← hm k]
        constructor
        · intro h
          refine ⟨fun e => hn (e ▸ h), List.mem_cons_of_mem _ h⟩
        · rintro ⟨h1, h2⟩
          rcases List.mem_cons.mp h2 with e | e
          · exact absurd e h1
          · exact e
      have ih := card_eq (hk.erase n) hm'
      have hl := List.length_erase_of_mem hnk
      have hpos : 0 < ks.length := List.length_pos_of_mem hnk
      rw [List.nodup_cons, List.length_cons]
      constructor
      · have := ih.1; omega
      · constructor
        · intro e
          exact ⟨hn, ih.2.mp (by omega)⟩
        · intro h
          have := ih.2.mpr h.2
          omega
section
variable {X : Cx}
def tLenSetN (K : PySem.W.Frag) (ta : TE) : TE := fun σ H Q => ta σ H fun x H1 => ∃ (l : Addr) (ns : List Int), x = V.ref l ∧ SqT K H1 l (ns.map V.int) ∧ ns.length ≤ 1000 ∧ ∀ c : Nat, c ≤ ns.length → (c = ns.length ↔ ns.Nodup) → Q (.int (c : Nat)) H1
theorem pe_lenSetN {a : Expr} {ta : TE} {p p2 q pos : Pos} (hc : X.calm = true) (hg : Gl X "len") (hm : X.mg "len" = none) (hg2 : Gl X "set") (hm2 : X.mg "set" = none) (ha : PE X a ta)
    (na : starEach [a] X.env = (false, eval a X.env) :: starEach [] X.env := by rfl) : PE X (.Call (.Name "len" p) [.Call (.Name "set" p2) [a] [] q] [] pos) (tLenSetN X.K ta) := by
  refine ⟨fun pins s σ H Q I h => ?_⟩
  refine Call_ (ld_blt I hg hm PySem.boot_len (PyProof.Rows.callWith_builtin1 (PyProof.Rows.args_cons ?_ rfl) rfl rfl))
  refine Call_ (ld_blt I hg2 hm2 PyProof.Rows.boot_set (PyProof.Rows.callWith_type1 (PyProof.Rows.args_cons (thn (ha.run pins s σ H _ I h) fun v s1 ⟨x, H1, I1, r1, q1⟩ => PyProof.Rows.args_nil ?_) na) na rfl))
  obtain ⟨l, ns, rfl, hq, h1, q1⟩ := q1
  cases r1
  obtain ⟨its, rv, pt, hz⟩ := I1.tuple hq
  have hi : IntsAre its.toArray.toList ns := ints_of_vals rv
  refine call_set_tupI ns (I1.ok.hd hc) (show s1.heap.IsTuple l its.toArray from pt) hi (by unfold scanBound; omega) fun h' tk c R1 hcn k => ?_
  obtain ⟨o, es, ep, t, ho, hex, hdt, g, nd, hm3, hb, hf, hn, hr, hl2⟩ := R1
  refine PyProof.Rows.args_nil ?_
  have I2 : Inv X pins σ H1 { s1 with heap := h', toks := tk } := I1.kept fun b o e => k b o e
  have hcard := card_eq (ks := es.toList.map keyOf) (ns := ns) nd fun k => by
    rw [← hm3 k]
    simp
  rw [List.length_map, Array.length_toList] at hcard
  refine call_len_set (s := { s1 with heap := h', toks := tk }) ho hex hdt hf ?_ ⟨.int (es.size : Nat), H1, I2.tok _, ⟨_, rfl⟩, q1 es.size hcard.1 hcard.2⟩
  have h5 := hcard.1
  have h6 : (es.size : Int) < 4096 := by omega
  exact Int.lt_of_lt_of_le h6 (by decide)
/-! ### repr(x), x data -/
def rRepr (K : PySem.W.Frag) : List V → Hp → VK → Prop := fun vs H Q => ∃ (v : V) (d : PyData), vs = [v] ∧ Dp K H v d ∧ d.showable = true ∧ d.hasDict = false ∧ d.depth ≤ 40 ∧ d.shown.length ≤ sizeLine ∧ Q (.str d.shown) H
theorem cr_repr (hG : X.A.guards = some []) (hu : X.A.units + 64 < cLine) : CallR X (.builtin "repr") (rRepr X.K) := by
  intro pins s σ H xs us Q I r h
  obtain ⟨v, d, rfl, hd, hs, hnd, hdep, hz, q⟩ := h
  obtain ⟨u, rfl, ru⟩ := r.one
  obtain ⟨as, rd⟩ := Dp.reads I d v u hd ru
  have fin : ∀ (h' : Heap) (tu : Tok) (tk : Nat), (∀ b o, s.heap.get? b = some o → h'.get? b = some o) → EP X pins σ Q (.str d.shown tu) { s with heap := h', toks := tk } :=
    fun h' tu tk hk => ⟨.str d.shown, H, I.kept (t' := tk) hk, ⟨tu, rfl⟩, q⟩
  cases rd with
  | none => exact P.repr_of_none (fin _ _ _ fun _ _ e => e)
  | bool b => exact P.repr_of_bool (by have f := fin s.heap s.toks (s.toks + 1) fun _ _ e => e; cases b <;> exact f)
  | int i t =>
    have hs' : i.natAbs.log2 < 1920 := by simpa [PyData.showable] using hs
    exact P.repr_of_int hs' (fin s.heap s.toks (s.toks + 1) fun _ _ e => e)
  | str x t => exact P.repr_of_str (hsz := by simpa [PyData.shown] using hz) (fin s.heap s.toks (s.toks + 1) fun _ _ e => e)
  | dict => simp [PyData.hasDict] at hnd
  | @list a o vs n ds as h1 h2 h3 h4 =>
    have hz' : (listText (PyData.shownAll ds)).length ≤ sizeLine := by simpa only [PyData.shown] using hz
    have hT : s.TypeIs (.ref a) "list" := ⟨o, h1, h2⟩
    have hdep' : PyData.depthAll ds + 1 ≤ 40 := by simpa only [PyData.depth] using hdep
    have fin' : ∀ (h' : Heap) (tu : Tok) (tk : Nat), (∀ b o, s.heap.get? b = some o → h'.get? b = some o) → EP X pins σ Q (.str (listText (PyData.shownAll ds)) tu) { s with heap := h', toks := tk } := by
      simpa only [PyData.shown] using fin
    obtain ⟨bs, hb, hk⟩ := ReprAllK.of_readsAll (prog := X.prog) (w := X.w) h4 (by simpa [PyData.showable] using hs)
      (fun hx => by simp only [PyData.hasDict] at hnd; rw [hnd] at hx; cases hx) fun t ht => Nat.le_trans (listText_mem_le ht) hz'
    have hna : a ∉ bs := not_mem_of_deeper (.list h1 h2 h3 h4) (by simp only [PyData.depth]; omega) hb
    refine call_repr_slot (by omega) hT PySem.F.slot_list_repr.toG ?_
    obtain ⟨l⟩ := vs
    cases l with
    | nil =>
      have h5 : ReadsAll s.heap [] ds _ := h4
      cases h5
      refine call_list_repr_empty hT h1 h3 ⟨_, _, rfl, ?_⟩
      exact fin' s.heap _ _ fun _ _ e => e
    | cons x l =>
      exact call_list_reprK h1 h2 h3 hna (by simpa using hk.length_eq) (fun i y e => hk.item i y (by simpa using e)) hG (fun b _ => Clear.nil b) (by show X.A.units + 1 + _ < _; omega) (fun _ _ e => e) (fun h' tu tk hk' => ⟨_, _, rfl, fin' h' tu tk hk'⟩) hz'
  | @tuple a o vs n ds as h1 h2 h3 h4 =>
    have hz' : (tupleText (PyData.shownAll ds)).length ≤ sizeLine := by simpa only [PyData.shown] using hz
    have hdep' : PyData.depthAll ds + 1 ≤ 40 := by simpa only [PyData.depth] using hdep
    obtain ⟨bs, hb, hk⟩ := ReprAllK.of_readsAll (prog := X.prog) (w := X.w) h4 (by simpa [PyData.showable] using hs)
      (fun hx => by simp only [PyData.hasDict] at hnd; rw [hnd] at hx; cases hx) fun t ht => Nat.le_trans (tupleText_mem_le ht) hz'
    have hna : a ∉ bs := not_mem_of_deeper (.tuple h1 h2 h3 h4) (by simp only [PyData.depth]; omega) hb
    refine call_repr_slot (by omega) ⟨o, h1, h2⟩ PySem.F.slot_tuple_repr ?_
    exact call_tuple_reprK h1 h2 h3 hna hk hG (fun b _ => Clear.nil b) (by show X.A.units + 1 + _ < _; omega) (fun _ _ e => e) (fun h' tu tk hk' => ⟨_, _, rfl, by simpa only [PyData.shown] using fin h' tu tk hk'⟩) hz'
end
end OgR

namespace OgR
open PySem PySem.Spec PyProof.Rows L2
/-! ### t[::-1], t a tuple -/
theorem rev_adjust (n : Nat) : Builtin.Slice.sliceAdjust none none (-1) (n : Int) = ((n : Int) - 1, -1) := by
  unfold Builtin.Slice.sliceAdjust
  simp
theorem rev_places (n : Nat) : Builtin.Slice.slicePlaces ((n : Int) - 1) (-1) (-1) = n := by
  unfold Builtin.Slice.slicePlaces
  simp
  split <;> omega
theorem rev_pick (xs : Array Value) : ((List.range xs.size).filterMap fun (m : Nat) => xs[(((xs.size : Int) - 1) + (m : Int) * (-1)).toNat]?) = xs.toList.reverse := by
  have e : ∀ m ∈ List.range xs.size, xs[(((xs.size : Int) - 1) + (m : Int) * (-1)).toNat]? = some (xs.toList.reverse.getD m .none) := by
    intro m hm
    have hm' : m < xs.size := List.mem_range.mp hm
    have e1 : (((xs.size : Int) - 1) + (m : Int) * (-1)).toNat = xs.size - 1 - m := by omega
    rw [e1, List.getD_eq_getElem?_getD, List.getElem?_reverse (by rw [Array.length_toList]; exact hm'), Array.length_toList, Array.getElem?_toList]
    rw [Array.getElem?_eq_getElem (by omega)]
    rfl
  have e2 : ((List.range xs.size).filterMap fun (m : Nat) => xs[(((xs.size : Int) - 1) + (m : Int) * (-1)).toNat]?) = (List.range xs.size).map fun m => xs.toList.reverse.getD m .none := by
    rw [← List.filterMap_eq_map]
    generalize List.range xs.size = R at e
    induction R with
    | nil => rfl
    | cons m R ih =>
      have e0 := e m List.mem_cons_self
      rw [List.filterMap_cons, List.filterMap_cons, e0, ih fun k hk => e k (List.mem_cons_of_mem _ hk)]
      rfl
  rw [e2]
  refine List.ext_getElem? fun i => ?_
  rw [List.getElem?_map]
  by_cases hi : i < xs.size
  · rw [List.getElem?_range hi]
    have hl : i < xs.toList.reverse.length := by rw [List.length_reverse, Array.length_toList]; exact hi
    simp only [Option.map_some, List.getD_eq_getElem?_getD]
    rw [List.getElem?_eq_getElem hl]
    rfl
  · rw [List.getElem?_eq_none (by rw [List.length_range]; omega), List.getElem?_eq_none (by rw [List.length_reverse, Array.length_toList]; omega)]
    rfl
section
variable {prog : Program} {w : World} {A : Around} {E : Value → Shared → Prop} {s : Shared}
theorem rev_applied {sl : Addr} {n : Nat} {t : Tok} {Q : Int × Int × Nat → Shared → Prop} (hs : s.heap.IsSliceOf sl .none .none (.int (-1) t)) (h : Q ((n : Int) - 1, -1, n) s) :
    wpAny (model prog w) A (Builtin.Slice.sliceApplied (.ref sl) (pure (n : Int))) Q E s := by
  obtain ⟨os, hos, -, hds⟩ := hs
  unfold Builtin.Slice.sliceApplied Builtin.Slice.sliceFields
  refine wpAny_bind (wpAny_bind (wpAny_field hos hds (x := .none) rfl (wpAny_bind (wpAny_field hos hds (x := .none) rfl (wpAny_bind (wpAny_field hos hds (x := .int (-1) t) rfl (wpAny_pure ?_)))))))
  refine wpAny_bind (slicePart_int ?_)
  show wpAny _ _ (if ((-1 : Int) == 0) = true then _ else _) _ _ s
  rw [if_neg (by decide)]
  refine wpAny_bind (slicePart_none (wpAny_bind (slicePart_none (wpAny_bind (wpAny_pure ?_)))))
  show wpAny _ _ (match Builtin.Slice.sliceAdjust none none (-1) (n : Int) with | (lo, hi) => pure (lo, (-1 : Int), Builtin.Slice.slicePlaces lo hi (-1))) _ _ s
  rw [rev_adjust]
  show wpAny _ _ (pure (((n : Int) - 1), (-1 : Int), Builtin.Slice.slicePlaces ((n : Int) - 1) (-1) (-1))) _ _ s
  rw [rev_places]
  exact wpAny_pure h
theorem getItem_rev {t sl : Addr} {items : Array Value} {tk : Tok} {Q : Value → Shared → Prop} (ht : IsTup s.heap t items) (hs : s.heap.IsSliceOf sl .none .none (.int (-1) tk))
    (h : Q (.ref s.heap.objs.size) { s with heap := s.heap.push { cls := .type "tuple", data := .seq items.toList.reverse.toArray } }) (hsz : items.size ≤ sizeLine) : wpAny (model prog w) A (getItem (.ref t) (.ref sl)) Q E s := by
  have hfit : sizeOk (.seq items.toList.reverse.toArray) := by
    show items.toList.reverse.toArray.size ≤ sizeLine
    rw [List.size_toArray, List.length_reverse, Array.length_toList]
    exact hsz
  have hTs : s.TypeIs (.ref sl) "slice" := by
    obtain ⟨os, hos, hcs, -⟩ := id hs
    exact ⟨os, hos, hcs⟩
  unfold getItem
  try with_reducible refine wpAny_holding ?_
  first | refine wpAny_bind (wpAny_pure ?_) | skip
  refine wpAny_bind (wpAny_sequenceKey ht.typeIs (by decide) (wpAny_bind (wpAny_callSpecial?_slot (name := Str.ofString "__getitem__") ht.typeIs PyProof.Rows.slot_tuple_getitem
    (wpAny_call_entry PyProof.Rows.slot_tuple_getitem ht.typeIs entry_tuple_getitem ?_ (args_tuple_getitem _ _)))))
  show wpAny _ _ (Builtin.Tuple.tupleItemsOf (.ref t) >>= _) _ _ s
  refine wpAny_bind (tupleItemsOf_ ht (wpAny_bind (wpAny_typeOf hTs ?_)))
  rw [if_pos (by decide)]
  refine wpAny_bind (rev_applied hs ?_)
  have hno : ¬ ((((items.size : Int) - 1) == 0 && (-1 : Int) == 1 && items.size == items.size) = true) := by simp
  show wpAny _ _ (if ((((items.size : Int) - 1) == 0 && (-1 : Int) == 1 && items.size == items.size) = true) then _ else _) _ _ s
  rw [if_neg hno, rev_pick]
  first
    | exact wpAny_bind (m := Builtin.Tuple.tupleExact _) (wpAny_newObj_type (wpAny_pure ⟨_, rfl, wpAny_pure h⟩) hfit)
    | exact wpAny_bind (wpAny_bind (m := Builtin.Tuple.tupleExact _) (wpAny_newObj_type (wpAny_pure (wpAny_pure ⟨_, rfl, wpAny_pure h⟩)) hfit))
    | exact wpAny_bind (wpAny_bind (m := Builtin.Tuple.tupleExact _) (wpAny_newObj_type (wpAny_pure ⟨_, rfl, wpAny_pure h⟩) hfit))
end
section
variable {X : Cx}
def tRevT (K : PySem.W.Frag) (te : TE) : TE := fun σ H Q => te σ H fun x H1 => ∃ a xs, x = .ref a ∧ SqT K H1 a xs ∧ ∀ p, H1 p = none → Q (.ref p) (upd H1 p (.tup xs.reverse))
theorem pe_revT {e : Expr} {te : TE} {k : Nat} {p1 p2 p3 pos : Pos} (he : PE X e te) : PE X (.Subscript e (.Slice none none (some (.UnaryOp .USub (.Constant (.int 1) k p1) p2)) p3) pos) (tRevT X.K te) := by
  refine ⟨fun pins s σ H Q I h => Subscript_ (thn (he.run pins s σ H _ I h) fun v s1 ⟨x, H1, I1, r1, q1⟩ => ?_)⟩
  obtain ⟨a, xs, rfl, hx, q⟩ := q1
  cases r1
  have hst : PO X (some (.UnaryOp .USub (.Constant (.int 1) k p1) p2)) (tPart (tUn (rU fun i => .int (-i)) (tC (.int 1)))) := po_some (pe_un un_neg pe_int)
  refine wpAny_Slice (thn (po_none.run pins s1 σ H1 (fun o H2 => o = none ∧ H2 = H1) I1 ⟨rfl, rfl⟩) fun vl s2 ⟨l, H2, I2, pl, el, e2⟩ => ?_)
  subst el e2
  refine thn (po_none.run pins s2 σ H2 (fun o H3 => o = none ∧ H3 = H2) I2 ⟨rfl, rfl⟩) fun vu s3 ⟨u, H3, I3, pu, eu, e3⟩ => ?_
  subst eu e3
  refine thn (hst.run pins s3 σ H3 (fun o H4 => o = some (-1) ∧ H4 = H3) I3 ⟨1, rfl, -1, rfl, rfl, rfl⟩) fun vs s4 ⟨o, H4, I4, ps, eo, e4⟩ => ?_
  subst eo e4
  cases pl
  cases pu
  cases ps with
  | int _ tk =>
    have I5 : Inv X pins σ H4 { s4 with heap := s4.heap.push { cls := .type "slice", data := .fields #[.none, .none, .int (-1) tk] } } := I4.kept (t' := s4.toks) fun b ob q => Heap.get?_push_of_some _ q
    obtain ⟨its, r, ht, hz⟩ := I5.tuple hx
    have hlen := r.length
    show wpAny (model X.prog X.w) X.A (subscriptTail e (.Slice none none (some (.UnaryOp .USub (.Constant (.int 1) k p1) p2)) p3) (.ref a) (.ref s4.heap.objs.size)) (EP X pins σ Q) X.xe { s4 with heap := s4.heap.push { cls := .type "slice", data := .fields #[.none, .none, .int (-1) tk] } }
    refine tail_any (ops := [.ref a, .ref s4.heap.objs.size]) ht.typeIs (PyProof.Rows.slot_tuple_getitem.lookup) ?_ (by with_unfolding_all rfl)
    refine getItem_rev ht (Heap.IsSliceOf.new _ .none .none (.int (-1) tk)) ⟨.ref _, _, I5.laid (t' := s4.toks) (o := .tup xs.reverse) (fun b ob q => Heap.get?_push_of_some _ q) (Nat.le_refl _) ?_, rfl, q _ (I5.hok.fresh (Nat.le_refl _))⟩ (by rw [List.size_toArray]; omega)
    exact ⟨by rw [List.length_reverse]; exact hz, _, r.reverse, ⟨_, Heap.get?_push_size _ rfl, rfl, 0, rfl⟩⟩
end
end OgR

namespace OgR
open PySem PySem.Spec PyProof.Rows L2
/-! ### defs that run where no repr is under way -/
section
variable {P : Program} {w : World} {K : PySem.W.Frag} {mg : Str → Option Value} {base : Heap}
/-- the promise of a def for callers of whom no repr is under way -/
def FnG (P : Program) (w : World) (K : PySem.W.Frag) (mg : Str → Option Value) (base : Heap) (k : Nat) (f : Addr) (fd : FuncData) (ps : List Str) (sp : Sp) : Prop :=
  (∀ vs H Q E, sp vs H Q E → vs.length = ps.length) ∧
  ∀ (A : Around) (outer : List Env) (s : Shared) (H : Hp) (args : Args) (us : List Value) (vs : List V) (Q : VK) (E : XK), A.guards = some [] → Room k A → Env0 P w K mg base A outer s H → BindsTo s fd args (ps.zip us) → Vals vs us →
    sp vs H Q E → codeAny (model P w) A (.call (.ref f) args) (CR CX0 outer P w H s Q E) s
theorem fnG_of {x qual : Str} {st : Stmt} {f : Addr} {fd : FuncData} {N ps : List Str} {k : Nat} {sp : Sp} (F : Fun K x qual st f fd) (S : FnScope N ps (defScope st)) (hl : ∀ vs H Q E, sp vs H Q E → vs.length = ps.length)
    (body : ∀ (cdv : Value) (A : Around) (outer : List Env) (s : Shared) (H : Hp) (vs : List V) (Q : VK) (E : XK), A.guards = some [] → Room k (A.deeper (envOfC qual (defScope st) s.heap.objs.size f cdv)) → sp vs H Q E →
      ∃ t, PSs (cxOf CX0 P w K mg base N qual (defScope st) f cdv A outer s H E).nox (defBody st) t ∧ t { nx := fun _ H' => Q .non H', rt := Q } (start N vs) H) : FnG P w K mg base (k + 1) f fd ps sp := by
  obtain ⟨oc, od, kV, doc, pm, an, cdv, ct, osl, rfl, lk, hcd⟩ := F.ex
  refine ⟨hl, fun A outer s H args us vs Q E hG hr e0 hb r hsp => ?_⟩
  have here : ∀ b o, base.get? b = some o → s.heap.get? b = some o := fun b o e => (e0.bs b o e).1
  have KX : K.In s.heap := e0.mod.kin.keeps here
  refine codeAny_call_function hr.depth (KX _ _ lk) rfl S.co S.gen rfl (PySem.W.codeRec_of KX hcd) (hb _ _ _ _ (wpAny_newFunctionEnv_cells S.kind ?_ fun env he s1 y => ?_))
  · rintro ⟨n, v⟩ hy
    exact (S.par n (List.of_mem_zip hy).1).imp id fun q => ⟨q, PySem.W.cellsFrom_some _ _ _ (.inl q)⟩
  · subst he
    obtain ⟨t, ht, hq⟩ := body cdv A outer s H vs Q E hG (hr.deeper _) hsp
    have I := inv_start (CX := CX0) (E := E) S hr.hd e0 (hl _ _ _ _ hsp) r y
    refine ⟨(e0.mod.nolimit.keeps here).keeps y.toInCall.keep, codeAny_func (wpAny_mono (ht.nox.run [] s1 (start N vs) H _ I hq) ?_ fun e s' hs => hs)⟩
    rintro (_ | _ | _ | u) s' hs
    all_goals first
      | (obtain ⟨v, σ', H', J, rv, q⟩ := hs; exact ⟨v, H', J.os, J.bare, J.base, J.hok, rv, q⟩)
      | (obtain ⟨σ', H', J, q⟩ := hs; exact ⟨V.non, H', J.os, J.bare, J.base, J.hok, rfl, q⟩)
      | (obtain ⟨_, _, _, q⟩ := hs; exact q.elim)
end
section
variable {X : Cx} {k : Nat} {f : Addr} {fd : FuncData} {ps : List Str} {sp : Sp} {E : XK} {x : Str} {p pos : Pos} {e : Expr} {es : List Expr} {t : TA}
theorem pe_callG (F : FnG X.prog X.w X.K X.mg X.base k f fd ps sp) (hG : X.A.guards = some []) (hr : Room k X.A) (hg : Gl X x) (hm : X.mg x = some (.ref f)) (hk : PySem.W.keepIn X.K (.ref f) = true) (hb : Binds X.K fd ps [])
    (ha : PA X (e :: es) t) (hdb : (x == ("__debug__" : Str)) = false := by decide) (he : starEach (e :: es) X.env = (false, eval e X.env) :: starEach es X.env := by rfl) (hpl : (backTo pos (starEach es X.env)).any (·.1) = false := by rfl) :
    PE X (.Call (.Name x p) (e :: es) [] pos) (tCall sp [] E t) := by
  refine ⟨fun pins s σ H Q I h => wpAny_Call_Name_kw (ld_glob I hg hm ?_ hdb)⟩
  refine PySem.W.callWith_K (h₀ := X.base) I.ok.mod.kin hk (thn (ha.run pos pins s σ H _ I h) fun us s1 ⟨vs, H1, I1, r, q⟩ => ⟨I1.kIn, ?_⟩) he hpl
  have q' : sp (vs ++ []) H1 Q E := q
  rw [List.append_nil] at q'
  have hl : us.length = ps.length := by rw [← r.length]; exact F.1 _ _ _ _ q'
  have hb' := hb s1 us I1.kIn (by rw [List.append_nil]; exact hl)
  rw [List.append_nil] at hb'
  refine wpAny_call (codeAny_mono (F.2 X.A X.stack s1 H1 ⟨us, []⟩ us vs Q E hG hr I1.env0 hb' r q') ?_)
  rintro (e | _ | _ | _ | u) s' hq
  all_goals first
    | exact I1.after hq
    | exact False.elim hq
end
end OgR

namespace OgR
open PySem PySem.Spec PyProof.Rows L2
/-! ### the head of a law whose def is a FnG -/
def scriptH (K : PySem.W.Frag) (a : Addr) (ob : Obj) (ns : List Int) : Hp := fun b => if b = a ∧ K.lookup a = none then some (.frz ob (.lst (ns.map V.int))) else none
theorem scriptH_some {K : PySem.W.Frag} {a b : Addr} {ob : Obj} {ns : List Int} {u : HO} (h : scriptH K a ob ns b = some u) : b = a ∧ K.lookup a = none ∧ u = .frz ob (.lst (ns.map V.int)) := by
  unfold scriptH at h
  split at h
  · rename_i c
    exact ⟨c.1, c.2, (Option.some.inj h).symm⟩
  · cases h
theorem scriptH_none {K : PySem.W.Frag} {a b : Addr} {ob : Obj} {ns : List Int} (h : ¬ (b = a ∧ K.lookup a = none)) : scriptH K a ob ns b = none := if_neg h
theorem law_runG {P : Program} {w : World} {K : PySem.W.Frag} {mg mb : Str → Option Value} {k : Nat} {fa a : Addr} {fd : FuncData} {x : Str} {sp : Sp} {s : Shared} {vs : List Value} {ns : List Int}
    (KX : K.In s.heap) (gl : s.heap.Ns mainGlobals mg) (bl : s.heap.Ns builtinsNs mb) (blt : ∀ x : Str, x ≠ "__name__" → mb x = bootBuiltins x) (lim : s.heap.NoLimit) (gn : s.gens = #[])
    (ha : s.heap.get? a = some { cls := .type "list", data := .seq vs.toArray }) (hi : IntsAre vs ns) (hl : ns.length ≤ sizeLine) (hr : Room k callerA)
    (F : ∀ base : Heap, K.In base → base.Ns mainGlobals mg → FnG P w K mg base k fa fd [x] sp) (bind : ∀ (s : Shared) (u : Value), BindsTo s fd ⟨[u], []⟩ [(x, u)])
    (hsp : ∀ H : Hp, SqL K H a (ns.map V.int) → sp [.ref a] H (fun v _ => v = .bl true) fun _ _ _ => False) :
    codeAny (model P w) callerA (.call (.ref fa) ⟨[.ref a], []⟩) (fun r s' => r = .ok (.ret (.bool true)) ∧ OldK s.heap s'.heap ∧ s'.os = s.os ∧ AllBare s'.gens) s := by
  have rv := vals_ints hi
  have hz : (ns.map V.int).length ≤ sizeLine := by rw [List.length_map]; exact hl
  generalize hH : scriptH K a { cls := .type "list", data := .seq vs.toArray } ns = H
  have tr : ∀ {b : Addr} {u : HO}, H b = some u → b = a ∧ K.lookup a = none ∧ u = .frz { cls := .type "list", data := .seq vs.toArray } (.lst (ns.map V.int)) := fun {b u} e => by
    rw [← hH] at e
    exact scriptH_some e
  have seq : SqL K H a (ns.map V.int) := by
    cases hk : K.lookup a with
    | none => exact .inl (.inr ⟨_, by rw [← hH]; exact if_pos ⟨rfl, hk⟩⟩)
    | some o =>
      have e := KX a o hk
      rw [ha] at e
      cases e
      exact .inr ⟨_, vs.toArray, _, hk, rfl, rfl, rfl, by rw [List.size_toArray, hi.length]; exact hl, by simpa using rv⟩
  have hok : HOk P w H s.heap := fun b u e => by
    obtain ⟨rfl, -, rfl⟩ := tr e
    exact ⟨ha, hz, vs, _, rv, ha⟩
  have kept : ∀ {b : Addr} {m : Str → Option Value}, s.heap.Ns b m → (hidT s.heap H).Ns b m := fun {b m} ⟨o, es, ep, e, d, r⟩ => ⟨o, es, ep, hidT_get e (by
    cases q : H b with
    | none => rfl
    | some u =>
      obtain ⟨rfl, -, -⟩ := tr q
      rw [ha] at e
      cases e
      cases d), d, r⟩
  have KB : K.In (hidT s.heap H) := fun b o e => hidT_get (KX b o e) (by
    cases q : H b with
    | none => rfl
    | some u =>
      obtain ⟨rfl, n, -⟩ := tr q
      rw [n] at e
      cases e)
  have M : Mod K mg (hidT s.heap H) := ⟨KB, kept gl, ⟨mb, kept bl, blt⟩, let ⟨mc, h1, h2⟩ := lim; ⟨mc, kept h1, h2⟩⟩
  have nofr : ∀ b : Addr, b ∉ frs [] := fun b hb => absurd (show b ∈ ([] : List Addr) from hb) (by simp)
  have e0 : Env0 P w K mg (hidT s.heap H) callerA [] s H := ⟨rfl, M, fun b o e => of_hidT e, Nat.le_of_eq (hidT_size _ _), trivial, fun b hb => absurd hb (nofr b), hok, .of_eq gn⟩
  refine codeAny_mono ((F _ KB (kept gl)).2 callerA [] s H ⟨[.ref a], []⟩ [.ref a] [.ref a] _ _ rfl hr e0 (bind s (.ref a)) (.cons rfl .nil) (hsp H seq)) ?_
  rintro (e | _ | _ | _ | u) s' h
  all_goals first
    | exact False.elim h
    | skip
  obtain ⟨v, H', os, bare, un, hok', r', q⟩ := h
  have q' : v = .bl true := q
  subst q'
  obtain rfl : u = Value.bool true := r'
  refine ⟨rfl, OldK.of_keep fun b o e => ?_, os, bare⟩
  cases q2 : H b with
  | none => exact un.keep b o e q2 (nofr b) (by simp)
  | some u =>
    obtain ⟨rfl, -, rfl⟩ := tr q2
    rw [ha] at e
    cases e
    exact (hok' _ _ (un.frzs _ _ _ q2)).1
theorem walk_G {l : PySem.W.OpenLaw} {n k : Nat} {q : Program} {loose : List Str} {XP : (Str → Option Value) → Heap → Prop} {YP : World → Heap → Prop} {d : DefRec} {K : Params → PySem.W.Frag} {sp : World → Sp} {x : Str}
    (hn : l.most = some n) (hn2 : n ≤ sizeLine) (hdf : d.params.defaults = []) (hr : Room k callerA) (hY : ∀ (w : World) (h : Heap), YP w h → (K w.params).In h)
    (F : ∀ (w : World) (mg : Str → Option Value) (fa : Addr) (h : Heap), (K w.params).In h → h.Ns mainGlobals mg → mg d.name = some (.ref fa) →
      ∃ fd : FuncData, (∀ (s : Shared) (u : Value), BindsTo s fd ⟨[u], []⟩ [(x, u)]) ∧ ∀ base : Heap, (K w.params).In base → base.Ns mainGlobals mg → FnG l.prog w (K w.params) mg base k fa fd [x] (sp w))
    (hsp : ∀ (w : World) (H : Hp) (a : Addr) (ns : List Int), ns.length ≤ n → SqL (K w.params) H a (ns.map V.int) → sp w [.ref a] H (fun v _ => v = .bl true) fun _ _ _ => False) :
    PySem.W.WalkO q loose XP YP l.row.toRowW d [] (fun f vs => PySem.call f vs) := by
  refine Att.attach_call hn hdf fun w s₀ s₁ mg mb fa o pm cd doc a vs ns G Y ho hd hcd hmg hobj hints hlen hg => ?_
  obtain ⟨fd, hb, hF⟩ := F w mg fa _ (hY w _ Y) G.T.g hmg
  exact law_runG (hY w _ Y) G.T.g G.T.b G.T.builtins G.T.nolimit hg hobj hints (Nat.le_trans hlen hn2) hr hF hb fun H hS => hsp w H a ns hlen hS
end OgR

namespace Dw
open PySem PySem.Spec PyProof.Rows L2 OgR Evl
/-! ### data in a part G of the heap H; lists of the def's own beside it -/
mutual
theorem dp_ex {K : PySem.W.Frag} {H H' : Hp} (e : Ex H H') : ∀ {d : PyData} {v : V}, Dp K H v d → Dp K H' v d
  | _, _, .non => .non
  | _, _, .bl b => .bl b
  | _, _, .int i => .int i
  | _, _, .str x => .str x
  | _, _, .lst h t => .lst (ex_l e h) (dpa_ex e t)
  | _, _, .tup h t => .tup (ex_t e h) (dpa_ex e t)
theorem dpa_ex {K : PySem.W.Frag} {H H' : Hp} (e : Ex H H') : ∀ {ds : List PyData} {vs : List V}, DpAll K H vs ds → DpAll K H' vs ds
  | _, _, .nil => .nil
  | _, _, .cons h t => .cons (dp_ex e h) (dpa_ex e t)
end
theorem dpa_get {K : PySem.W.Frag} {H : Hp} : ∀ {ds : List PyData} {vs : List V} {i : Nat} {v : V}, DpAll K H vs ds → vs[i]? = some v → ∃ d, ds[i]? = some d ∧ Dp K H v d
  | _, _, _, _, .nil, e => by simp at e
  | _, _, 0, _, .cons h _, e => by
    simp at e
    subst e
    exact ⟨_, rfl, h⟩
  | _, _, i + 1, _, .cons _ t, e => dpa_get (i := i) t (by simpa using e)
theorem dpa_back {K : PySem.W.Frag} {H : Hp} : ∀ {ds : List PyData} {vs : List V} {i : Nat} {d : PyData}, DpAll K H vs ds → ds[i]? = some d → ∃ v, vs[i]? = some v ∧ Dp K H v d
  | _, _, _, _, .nil, e => by simp at e
  | _, _, 0, _, .cons h _, e => by
    simp at e
    subst e
    exact ⟨_, rfl, h⟩
  | _, _, i + 1, _, .cons _ t, e => dpa_back (i := i) t (by simpa using e)
theorem dpa_len {K : PySem.W.Frag} {H : Hp} : ∀ {ds : List PyData} {vs : List V}, DpAll K H vs ds → vs.length = ds.length
  | _, _, .nil => rfl
  | _, _, .cons _ t => by rw [List.length_cons, List.length_cons, dpa_len t]
theorem dpa_app {K : PySem.W.Frag} {H : Hp} : ∀ {xs ys : List V} {ds es : List PyData}, DpAll K H xs ds → DpAll K H ys es → DpAll K H (xs ++ ys) (ds ++ es)
  | _, _, _, _, .nil, h => h
  | _, _, _, _, .cons a b, h => .cons a (dpa_app b h)
theorem dpa_set {K : PySem.W.Frag} {H : Hp} {x : V} {d : PyData} (hx : Dp K H x d) : ∀ {xs : List V} {ds : List PyData} (j : Nat), DpAll K H xs ds → DpAll K H (xs.set j x) (ds.set j d)
  | _, _, _, .nil => .nil
  | _, _, 0, .cons _ t => .cons hx t
  | _, _, j + 1, .cons h t => .cons h (dpa_set hx j t)
theorem dpa_take {K : PySem.W.Frag} {H : Hp} : ∀ {xs : List V} {ds : List PyData} (j : Nat), DpAll K H xs ds → DpAll K H (xs.take j) (ds.take j)
  | _, _, 0, _ => by simp only [List.take_zero]; exact .nil
  | _, _, _ + 1, .nil => by simp only [List.take_nil]; exact .nil
  | _, _, j + 1, .cons h t => .cons h (dpa_take j t)
theorem dpa_drop {K : PySem.W.Frag} {H : Hp} : ∀ {xs : List V} {ds : List PyData} (j : Nat), DpAll K H xs ds → DpAll K H (xs.drop j) (ds.drop j)
  | _, _, 0, h => h
  | _, _, _ + 1, .nil => by simp only [List.drop_nil]; exact .nil
  | _, _, j + 1, .cons h t => dpa_drop j t
theorem dpa_rev {K : PySem.W.Frag} {H : Hp} : ∀ {xs : List V} {ds : List PyData}, DpAll K H xs ds → DpAll K H xs.reverse ds.reverse
  | _, _, .nil => .nil
  | _, _, .cons h t => by
    rw [List.reverse_cons, List.reverse_cons]
    exact dpa_app (dpa_rev t) (.cons h .nil)
theorem dpa_ints {K : PySem.W.Frag} {H : Hp} : ∀ ns : List Int, DpAll K H (ns.map V.int) (ns.map PyData.int)
  | [] => .nil
  | n :: r => .cons (.int n) (dpa_ints r)
theorem ints_dpa {K : PySem.W.Frag} {H : Hp} : ∀ {ns : List Int} {xs : List V}, DpAll K H xs (ns.map PyData.int) → xs = ns.map V.int
  | [], _, .nil => rfl
  | _ :: _, _, .cons h t => by
    cases h
    rw [ints_dpa t]
    rfl
theorem atI_dpa {K : PySem.W.Frag} {H : Hp} {xs : List V} {ds : List PyData} {i : Int} {d : PyData} (h : DpAll K H xs ds) (e : atI ds i = some d) : ∃ v, atI xs i = some v ∧ Dp K H v d := by
  unfold atI at e ⊢
  rw [dpa_len h]
  cases q : ixN ds.length i with
  | none => rw [q] at e; cases e
  | some j =>
    rw [q] at e
    exact dpa_back h e
/-! ### the box of draws -/
def BoxAt (H : Hp) (l : Addr) (c : Int) : Prop := ∃ a b : Int, H l = some (.lst [.int a, .int b, .int c]) ∧ 0 ≤ a ∧ 0 ≤ b ∧ b < 2 ^ 62 ∧ 0 ≤ c ∧ c ≤ 1000000
theorem BoxAt.keep {H H' : Hp} {l : Addr} {c : Int} (h : BoxAt H l c) (e : ∀ o, H l = some o → H' l = some o) : BoxAt H' l c := by
  obtain ⟨a, b, h1, h2⟩ := h
  exact ⟨a, b, e _ h1, h2⟩
theorem BoxAt.ne {H : Hp} {l : Addr} {c : Int} (h : BoxAt H l c) : H l ≠ none := by
  obtain ⟨a, b, h1, _⟩ := h
  rw [h1]
  exact Option.some_ne_none _
/-! ### the state by data -/
inductive DV where
  | d (x : PyData)
  | own (ds : List PyData)
  | dic (kvs : List (Key × PyData))
  | dit (kvs : List (List Key × PyData))
  | dd (kvs : List (List Key × PyData))
  | oth (φ : Hp → Hp → V → Prop)
  | box
def DV.mut : DV → Bool
  | .own _ => true
  | .dic _ => true
  | .dit _ => true
  | _ => false
structure Dt where
  env : List (Option DV)
  c : Int
structure Ct where
  K : PySem.W.Frag
  bx : Option Addr
  H0 : Hp
  G0 : Hp
/-- all but the box as it was -/
def Gr (C : Ct) (H H' : Hp) : Prop := ∀ b o, C.bx ≠ some b → H b = some o → H' b = some o
theorem Gr.refl (C : Ct) (H : Hp) : Gr C H H := fun _ _ _ h => h
theorem Gr.trans {C : Ct} {H H1 H2 : Hp} (a : Gr C H H1) (b : Gr C H1 H2) : Gr C H H2 := fun x o n h => b x o n (a x o n h)
theorem Gr.of {C : Ct} {H H' : Hp} (e : Ex H H') : Gr C H H' := fun b o _ h => e b o h
/-- what is in G' is in G or new over H -/
def Nw (G G' H : Hp) : Prop := ∀ b, G' b ≠ none → G b ≠ none ∨ H b = none
theorem Nw.refl (G H : Hp) : Nw G G H := fun _ h => .inl h
structure Fin (C : Ct) (G H : Hp) (c : Int) : Prop where
  gh : Ex G H
  g0 : Ex C.G0 G
  nw : Nw C.G0 G C.H0
  hh : Gr C C.H0 H
  bx : ∀ l, C.bx = some l → BoxAt H l c ∧ G l = none ∧ C.H0 l ≠ none
/-- a dict that is only read: locked, or older than the call -/
def RdD (C : Ct) (H : Hp) (p : Addr) (ks : List (List Key × V)) : Prop := ((∃ od, H p = some (.frz od (.dT ks))) ∨ (H p = some (.dT ks) ∧ C.H0 p ≠ none)) ∧ C.bx ≠ some p
theorem RdD.gr {C : Ct} {H H' : Hp} {p : Addr} {ks : List (List Key × V)} (h : RdD C H p ks) (e : Gr C H H') : RdD C H' p ks := by
  obtain ⟨(⟨od, h⟩ | ⟨h, h0⟩), n⟩ := h
  · exact ⟨.inl ⟨od, e p _ n h⟩, n⟩
  · exact ⟨.inr ⟨e p _ n h, h0⟩, n⟩
theorem RdD.upd {C : Ct} {H : Hp} {p q : Addr} {ks : List (List Key × V)} {u o : HO} (h : RdD C H p ks) (hq : H q = some u) (h0 : C.H0 q = none) (hn : ∀ od w, u ≠ .frz od w) : RdD C (upd H q o) p ks := by
  have hne : p ≠ q := fun z => by
    subst z
    obtain ⟨(⟨od, h⟩ | ⟨h, h1⟩), n⟩ := h
    · rw [hq] at h
      cases h
      exact hn _ _ rfl
    · exact h1 h0
  unfold RdD
  rw [upd_ne hne]
  exact h
/-- what no def changes: all but lists and dicts -/
def soft : HO → Bool
  | .lst _ => true
  | .dK _ => true
  | .dT _ => true
  | .frz _ _ => true
  | _ => false
def Kept (C : Ct) (H H' : Hp) : Prop := ∀ b o, C.bx ≠ some b → H b = some o → soft o = false → H' b = some o
theorem Kept.refl (C : Ct) (H : Hp) : Kept C H H := fun _ _ _ h _ => h
theorem Kept.trans {C : Ct} {H H1 H2 : Hp} (a : Kept C H H1) (b : Kept C H1 H2) : Kept C H H2 := fun x o n h s => b x o n (a x o n h s) s
theorem Kept.of {C : Ct} {H H' : Hp} (e : Gr C H H') : Kept C H H' := fun b o n h _ => e b o n h
theorem Kept.upd {C : Ct} {H : Hp} {p : Addr} {u o : HO} (h : H p = some u) (s : soft u = true) : Kept C H (upd H p o) := fun b w n hb hs => by
  by_cases z : b = p
  · subst z
    rw [h] at hb
    cases hb
    rw [s] at hs
    cases hs
  · rw [upd_ne z]
    exact hb
/-- anything else that stays -/
structure Oth (C : Ct) (φ : Hp → Hp → V → Prop) (G H : Hp) (v : V) : Prop where
  now : φ G H v
  keep : ∀ G' H', Ex G G' → Kept C H H' → φ G' H' v
theorem Oth.step {C : Ct} {φ : Hp → Hp → V → Prop} {G H G' H' : Hp} {v : V} (h : Oth C φ G H v) (eg : Ex G G') (eh : Kept C H H') : Oth C φ G' H' v := ⟨h.keep G' H' eg eh, fun G2 H2 e k => h.keep G2 H2 (eg.trans e) (eh.trans k)⟩
def RV (C : Ct) (G H : Hp) (v : V) : DV → Prop
  | .oth φ => Oth C φ G H v
  | .d x => Dp C.K G v x
  | .own ds => ∃ p xs, v = .ref p ∧ H p = some (.lst xs) ∧ C.H0 p = none ∧ G p = none ∧ DpAll C.K G xs ds
  | .dic kvs => ∃ p ks, v = .ref p ∧ H p = some (.dK ks) ∧ C.H0 p = none ∧ G p = none ∧ Paired (fun a b => a.1 = b.1 ∧ Dp C.K G a.2 b.2) ks kvs
  | .dit kvs => ∃ p ks, v = .ref p ∧ H p = some (.dT ks) ∧ C.H0 p = none ∧ G p = none ∧ Paired (fun a b => a.1 = b.1 ∧ Dp C.K G a.2 b.2) ks kvs
  | .dd kvs => ∃ p ks, v = .ref p ∧ RdD C H p ks ∧ Paired (fun a b => a.1 = b.1 ∧ Dp C.K G a.2 b.2) ks kvs
  | .box => ∃ l, C.bx = some l ∧ v = .ref l
structure Rel (C : Ct) (G : Hp) (σ : L2.St) (H : Hp) (s : Dt) : Prop where
  fin : Fin C G H s.c
  len : s.env.length = σ.length
  sl : ∀ (i : Nat) x, s.env[i]? = some (some x) → ∃ v, σ[i]? = some (some v) ∧ RV C G H v x
  dis : ∀ (i j : Nat) x y p, i ≠ j → s.env[i]? = some (some x) → s.env[j]? = some (some y) → x.mut = true → y.mut = true → σ[i]? = some (some (.ref p)) → σ[j]? ≠ some (some (.ref p))
theorem paired_mapP {α β : Type} {F G : α → β → Prop} {l₁ : List α} {l₂ : List β} (h : Paired F l₁ l₂) (k : ∀ a b, F a b → G a b) : Paired G l₁ l₂ := Paired.mapP h k
/-- a step: all but the box stays, what was neither data nor a slot's does not become data, no slot becomes the def's own -/
structure Gs (C : Ct) (σ : L2.St) (G H : Hp) (s : Dt) (G' H' : Hp) (s' : Dt) : Prop where
  gr : Gr C H H'
  dom : ∀ b, H b ≠ none → H' b ≠ none
  nk : ∀ b, G b = none → H b ≠ none → (∀ (i : Nat) x, s.env[i]? = some (some x) → x.mut = true → σ[i]? ≠ some (some (.ref b))) → G' b = none
  ks : ∀ (i : Nat) x, s'.env[i]? = some (some x) → x.mut = true → ∃ x', s.env[i]? = some (some x') ∧ x'.mut = true
theorem Gs.refl {C : Ct} {σ : L2.St} {G H : Hp} {s : Dt} : Gs C σ G H s G H s := ⟨Gr.refl C H, fun _ h => h, fun _ h _ _ => h, fun i x h m => ⟨x, h, m⟩⟩
theorem Gs.trans {C : Ct} {σ : L2.St} {G H G1 H1 G2 H2 : Hp} {s s1 s2 : Dt} (a : Gs C σ G H s G1 H1 s1) (b : Gs C σ G1 H1 s1 G2 H2 s2) : Gs C σ G H s G2 H2 s2 :=
  ⟨a.gr.trans b.gr, fun x h => b.dom x (a.dom x h), fun x h1 h2 h3 => b.nk x (a.nk x h1 h2 h3) (a.dom x h2) fun i y e m => by
    obtain ⟨y', e', m'⟩ := a.ks i y e m
    exact h3 i y' e' m', fun i x e m => by
    obtain ⟨y, e', m'⟩ := b.ks i x e m
    exact a.ks i y e' m'⟩
section
variable {C : Ct} {G G' H H' : Hp} {σ : L2.St} {s : Dt} {c c' : Int}
theorem Gs.grow (eh : Ex H H') (nw : Nw G G' H) : Gs C σ G H s G' H' s := ⟨Gr.of eh, fun b h z => h (fresh_back eh z), fun b h1 h2 _ => by
    cases q : G' b with
    | none => rfl
    | some o =>
      rcases nw b (by rw [q]; exact Option.some_ne_none _) with z | z
      · exact absurd h1 z
      · exact absurd z h2, fun i x e m => ⟨x, e, m⟩⟩
theorem Gs.side (eh : Ex H H') : Gs C σ G H s G H' s := .grow eh (Nw.refl G H)
theorem Fin.h0 (h : Fin C G H c) {b : Addr} (e : H b = none) : C.H0 b = none := by
  cases q : C.H0 b with
  | none => rfl
  | some o =>
    by_cases z : C.bx = some b
    · exact absurd e (h.bx b z).1.ne
    · rw [h.hh b o z q] at e
      cases e
theorem Fin.step (h : Fin C G H c) (eg : Ex G G') (eh : Gr C H H') (gh : Ex G' H') (nw : Nw G G' H) (bx : ∀ l, C.bx = some l → BoxAt H' l c') : Fin C G' H' c' := by
  refine ⟨gh, h.g0.trans eg, fun b hb => ?_, h.hh.trans eh, fun l hl => ⟨bx l hl, ?_, (h.bx l hl).2.2⟩⟩
  · rcases nw b hb with q | q
    · exact h.nw b q
    · exact .inr (h.h0 q)
  · cases q : G' l with
    | none => rfl
    | some o =>
      rcases nw l (by rw [q]; exact Option.some_ne_none _) with z | z
      · exact absurd (h.bx l hl).2.1 z
      · exact absurd z (h.bx l hl).1.ne
theorem Fin.nbx (h : Fin C G H c) {p : Addr} (e : C.H0 p = none) : C.bx ≠ some p := fun z => (h.bx p z).2.2 e
theorem RV.step (f : Fin C G H c) (eg : Ex G G') (eh : Gr C H H') (nw : Nw G G' H) {v : V} : ∀ {x : DV}, RV C G H v x → RV C G' H' v x
  | .d x, h => dp_ex eg h
  | .own ds, ⟨p, xs, h1, h2, h3, h4, h5⟩ => by
    refine ⟨p, xs, h1, eh p _ (f.nbx h3) h2, h3, ?_, dpa_ex eg h5⟩
    cases q : G' p with
    | none => rfl
    | some o =>
      rcases nw p (by rw [q]; exact Option.some_ne_none _) with z | z
      · exact absurd h4 z
      · rw [h2] at z; cases z
  | .dic ks, ⟨p, xs, h1, h2, h3, h4, h5⟩ => by
    refine ⟨p, xs, h1, eh p _ (f.nbx h3) h2, h3, ?_, paired_mapP h5 fun a b q => ⟨q.1, dp_ex eg q.2⟩⟩
    cases q : G' p with
    | none => rfl
    | some o =>
      rcases nw p (by rw [q]; exact Option.some_ne_none _) with z | z
      · exact absurd h4 z
      · rw [h2] at z; cases z
  | .dit ks, ⟨p, xs, h1, h2, h3, h4, h5⟩ => by
    refine ⟨p, xs, h1, eh p _ (f.nbx h3) h2, h3, ?_, paired_mapP h5 fun a b q => ⟨q.1, dp_ex eg q.2⟩⟩
    cases q : G' p with
    | none => rfl
    | some o =>
      rcases nw p (by rw [q]; exact Option.some_ne_none _) with z | z
      · exact absurd h4 z
      · rw [h2] at z; cases z
  | .oth φ, h => Oth.step (φ := φ) h eg (Kept.of eh)
  | .dd ks, ⟨p, xs, h1, h2, h5⟩ => ⟨p, xs, h1, h2.gr eh, paired_mapP h5 fun a b q => ⟨q.1, dp_ex eg q.2⟩⟩
  | .box, h => h
theorem Rel.step (h : Rel C G σ H s) (eg : Ex G G') (eh : Gr C H H') (gh : Ex G' H') (nw : Nw G G' H) (bx : ∀ l, C.bx = some l → BoxAt H' l c') : Rel C G' σ H' ⟨s.env, c'⟩ := by
  refine ⟨h.fin.step eg eh gh nw bx, h.len, fun i x e => ?_, h.dis⟩
  obtain ⟨v, hv, r⟩ := h.sl i x e
  exact ⟨v, hv, r.step h.fin eg eh nw⟩
theorem Rel.grow (h : Rel C G σ H s) (eg : Ex G G') (eh : Ex H H') (gh : Ex G' H') (nw : Nw G G' H) : Rel C G' σ H' s :=
  h.step eg (Gr.of eh) gh nw fun l hl => (h.fin.bx l hl).1.keep fun o q => eh l o q
/-- a new object of data -/
theorem Ex.both {p : Addr} {o : HO} (gh : Ex G H) (hp : H p = none) : Ex (upd G p o) (upd H p o) := fun b u e => by
  by_cases z : b = p
  · rw [z, upd_same] at e ⊢
    exact e
  · rw [upd_ne z] at e ⊢
    exact gh b u e
theorem Nw.one {p : Addr} {o : HO} (hp : H p = none) : Nw G (upd G p o) H := fun b hb => by
  by_cases z : b = p
  · exact .inr (by rw [z]; exact hp)
  · rw [upd_ne z] at hb
    exact .inl hb
theorem Nw.trans {G1 G2 H1 : Hp} (a : Nw G G1 H) (b : Nw G1 G2 H1) (e : Ex H H1) : Nw G G2 H := fun x hx => by
  rcases b x hx with q | q
  · exact a x q
  · exact .inr (fresh_back e q)
theorem Rel.new (h : Rel C G σ H s) {p : Addr} {o : HO} (hp : H p = none) : Rel C (upd G p o) σ (upd H p o) s ∧ Ex G (upd G p o) ∧ Gs C σ G H s (upd G p o) (upd H p o) s := by
  have g1 : G p = none := by
    cases q : G p with
    | none => rfl
    | some u => rw [h.fin.gh p u q] at hp; cases hp
  exact ⟨h.grow (Ex.new g1) (Ex.new hp) (Ex.both h.fin.gh hp) (Nw.one hp), Ex.new g1, .grow (Ex.new hp) (Nw.one hp)⟩
theorem Rel.notslot (h : Rel C G σ H s) {p : Addr} (hp : H p = none) (i : Nat) (x : DV) (e : s.env[i]? = some (some x)) (m : x.mut = true) : σ[i]? ≠ some (some (.ref p)) := fun q => by
  obtain ⟨v, hv, r⟩ := h.sl i x e
  rw [hv] at q
  cases q
  cases x with
  | d _ => cases m
  | box => cases m
  | own ds =>
    obtain ⟨p', xs, a1, a2, _⟩ := r
    cases a1
    rw [hp] at a2
    cases a2
  | dic ds =>
    obtain ⟨p', xs, a1, a2, _⟩ := r
    cases a1
    rw [hp] at a2
    cases a2
  | dit ds =>
    obtain ⟨p', xs, a1, a2, _⟩ := r
    cases a1
    rw [hp] at a2
    cases a2
  | dd _ => cases m
  | oth _ => cases m
theorem Rel.gnone (h : Rel C G σ H s) {p : Addr} (hp : H p = none) : G p = none := by
  cases q : G p with
  | none => rfl
  | some u => rw [h.fin.gh p u q] at hp; cases hp
/-- a new object that is not (yet) data -/
theorem Rel.aside (h : Rel C G σ H s) (e : Ex H H') : Rel C G σ H' s := h.grow (Ex.refl G) e (h.fin.gh.trans e) (Nw.refl G H)
end
/-! ### expressions -/
abbrev WE := Dt → (PyData → Dt → Prop) → Prop
abbrev WA := Dt → (List PyData → Dt → Prop) → Prop
abbrev WT := Dt → (Bool → Dt → Prop) → Prop
def IE (C : Ct) (t : TE) (w : WE) : Prop := ∀ G σ H s Q Q', Rel C G σ H s → w s Q →
  (∀ v d s' G' H', Q d s' → Rel C G' σ H' s' → Ex G G' → Gs C σ G H s G' H' s' → Dp C.K G' v d → Q' v H') → t σ H Q'
def IA (C : Ct) (t : TA) (w : WA) : Prop := ∀ G σ H s Q Q', Rel C G σ H s → w s Q →
  (∀ vs ds s' G' H', Q ds s' → Rel C G' σ H' s' → Ex G G' → Gs C σ G H s G' H' s' → DpAll C.K G' vs ds → Q' vs H') → t σ H Q'
def IT (C : Ct) (t : TT) (w : WT) : Prop := ∀ G σ H s Q Q', Rel C G σ H s → w s Q →
  (∀ b s' G' H', Q b s' → Rel C G' σ H' s' → Ex G G' → Gs C σ G H s G' H' s' → Q' b H') → t σ H Q'
/-- a new list of the def's own -/
def IO (C : Ct) (t : TE) (w : WA) : Prop := ∀ G σ H s Q Q', Rel C G σ H s → w s Q →
  (∀ p xs ds s' G' H', Q ds s' → Rel C G' σ H' s' → Ex G G' → Gs C σ G H s G' H' s' → H p = none → H' p = some (.lst xs) → G' p = none → DpAll C.K G' xs ds → (∀ (i : Nat) x, s'.env[i]? = some (some x) → x.mut = true → σ[i]? ≠ some (some (.ref p))) → Q' (.ref p) H') → t σ H Q'
/-- a value that is only looked at: data, or a list of the def's own -/
def Pk (C : Ct) (G H : Hp) (v : V) (d : PyData) : Prop := Dp C.K G v d ∨ ∃ p xs ds, v = .ref p ∧ d = .list ds ∧ H p = some (.lst xs) ∧ C.bx ≠ some p ∧ DpAll C.K G xs ds
def IP (C : Ct) (t : TE) (w : WE) : Prop := ∀ G σ H s Q Q', Rel C G σ H s → w s Q →
  (∀ v d s' G' H', Q d s' → Rel C G' σ H' s' → Ex G G' → Gs C σ G H s G' H' s' → Pk C G' H' v d → Q' v H') → t σ H Q'
section
variable {C : Ct} {G G' H H' : Hp} {v : V} {d : PyData}
theorem Pk.mono (h : Pk C G H v d) (eg : Ex G G') (eh : Gr C H H') : Pk C G' H' v d := by
  rcases h with h | ⟨p, xs, ds, h1, h2, h3, h4, h5⟩
  · exact .inl (dp_ex eg h)
  · exact .inr ⟨p, xs, ds, h1, h2, eh p _ h4 h3, h4, dpa_ex eg h5⟩
theorem Pk.dp (h : Pk C G H v d) (e : Ex G H) : Dp C.K H v d := by
  rcases h with h | ⟨p, xs, ds, rfl, rfl, h3, h4, h5⟩
  · exact dp_ex e h
  · exact .lst (.inl (.inl h3)) (dpa_ex e h5)
def isT : PyData → Bool
  | .tuple _ => true
  | _ => false
def its : PyData → List PyData
  | .tuple ds => ds
  | .list ds => ds
  | _ => []
def seqd : PyData → Bool
  | .tuple _ => true
  | .list _ => true
  | _ => false
theorem Pk.seq (h : Pk C G H v d) (e : Ex G H) (hs : seqd d = true) : ∃ p xs, v = .ref p ∧ SqB C.K (isT d) H p xs ∧ DpAll C.K G xs (its d) := by
  rcases h with h | ⟨p, xs, ds, rfl, rfl, h3, h4, h5⟩
  · cases h with
    | lst h t => exact ⟨_, _, rfl, Evl.ex_l e h, t⟩
    | tup h t => exact ⟨_, _, rfl, Evl.ex_t e h, t⟩
    | _ => cases hs
  · exact ⟨p, xs, rfl, .inl (.inl h3), h5⟩
end
section
variable {C : Ct} {t ta tb tc : TE} {w wa wb : WE} {tA : TA} {wA : WA}
theorem ip_of (h : IE C t w) : IP C t w := fun G σ H s Q Q' r q k => h G σ H s Q Q' r q fun v d s' G' H' q' r' eg eh p => k v d s' G' H' q' r' eg eh (.inl p)
/-- a list of the def's own becomes data -/
def wPubO (w : WA) : WE := fun s Q => w s fun ds s' => Q (.list ds) s'
theorem ie_own {w : WA} (h : IO C t w) : IE C t (wPubO w) := fun G σ H s Q Q' r q k => h G σ H s _ Q' r q fun p xs ds s' G' H' q' r' eg eh hp h1 h2 h3 h4 => by
  have eh' : Ex (upd G' p (.lst xs)) H' := fun b u e => by
    by_cases z : b = p
    · rw [z, upd_same] at e
      rw [z, h1]
      exact e
    · rw [upd_ne z] at e
      exact r'.fin.gh b u e
  have eg' : Ex G' (upd G' p (.lst xs)) := Ex.new h2
  have nw : ∀ b, (upd G' p (.lst xs)) b ≠ none → G' b ≠ none ∨ b = p := fun b hb => by
    by_cases z : b = p
    · exact .inr z
    · rw [upd_ne z] at hb
      exact .inl hb
  have h0 : C.H0 p = none := r.fin.h0 hp
  refine k (.ref p) _ s' (upd G' p (.lst xs)) H' q' ⟨⟨eh', r'.fin.g0.trans eg', fun b hb => ?_, r'.fin.hh, fun l hl => ⟨(r'.fin.bx l hl).1, ?_, (r'.fin.bx l hl).2.2⟩⟩, r'.len, fun i x e => ?_, r'.dis⟩ (eg.trans eg') ⟨eh.gr, eh.dom, fun b h1 h2 h3 => by rw [upd_ne (fun z => h2 (by rw [z]; exact hp))]; exact eh.nk b h1 h2 h3, eh.ks⟩ (.lst (.inl (.inl upd_same)) (dpa_ex eg' h3))
  · rcases nw b hb with z | z
    · exact r'.fin.nw b z
    · exact .inr (by rw [z]; exact h0)
  · rw [upd_ne (fun z => (r.fin.nbx h0) (by rw [← z]; exact hl))]
    exact (r'.fin.bx l hl).2.1
  · obtain ⟨v, hv, rv⟩ := r'.sl i x e
    refine ⟨v, hv, ?_⟩
    cases x with
    | d x => exact dp_ex eg' rv
    | box => exact rv
    | own ds' =>
      obtain ⟨p', xs', a1, a2, a3, a4, a5⟩ := rv
      refine ⟨p', xs', a1, a2, a3, ?_, dpa_ex eg' a5⟩
      rw [upd_ne fun z => h4 i _ e rfl (by rw [hv, a1, z])]
      exact a4
    | dic ks =>
      obtain ⟨p', xs', a1, a2, a3, a4, a5⟩ := rv
      refine ⟨p', xs', a1, a2, a3, ?_, paired_mapP a5 fun a b q => ⟨q.1, dp_ex eg' q.2⟩⟩
      rw [upd_ne fun z => h4 i _ e rfl (by rw [hv, a1, z])]
      exact a4
    | dit ks =>
      obtain ⟨p', xs', a1, a2, a3, a4, a5⟩ := rv
      refine ⟨p', xs', a1, a2, a3, ?_, paired_mapP a5 fun a b q => ⟨q.1, dp_ex eg' q.2⟩⟩
      rw [upd_ne fun z => h4 i _ e rfl (by rw [hv, a1, z])]
      exact a4
    | oth φ => exact Oth.step (φ := φ) rv eg' (Kept.refl C H')
    | dd ks =>
      obtain ⟨p', xs', a1, a2, a5⟩ := rv
      exact ⟨p', xs', a1, a2, paired_mapP a5 fun a b q => ⟨q.1, dp_ex eg' q.2⟩⟩
/-! constants, names -/
def wC (d : PyData) : WE := fun s Q => Q d s
theorem ie_c {v : V} {d : PyData} (h : ∀ G, Dp C.K G v d) : IE C (tC v) (wC d) := fun G σ H s Q Q' r q k => k v d s G H q r (Ex.refl G) Gs.refl (h G)
def wV (i : Nat) : WE := fun s Q => ∃ d, s.env[i]? = some (some (.d d)) ∧ Q d s
theorem ie_v {i : Nat} : IE C (tVar i) (wV i) := fun G σ H s Q Q' r q k => by
  obtain ⟨d, e, q⟩ := q
  obtain ⟨v, hv, rv⟩ := r.sl i _ e
  exact ⟨v, hv, k v d s G H q r (Ex.refl G) Gs.refl rv⟩
/-- a list of the def's own, from now on data -/
def wPub (i : Nat) : WE := fun s Q => ∃ ds, s.env[i]? = some (some (.own ds)) ∧ Q (.list ds) ⟨s.env.set i (some (.d (.list ds))), s.c⟩
theorem ie_pub {i : Nat} : IE C (tVar i) (wPub i) := fun G σ H s Q Q' r q k => by
  obtain ⟨ds, e, q⟩ := q
  obtain ⟨v, hv, p, xs, rfl, h1, h2, h3, h4⟩ := r.sl i _ e
  have eg : Ex G (upd G p (.lst xs)) := Ex.new h3
  have gh : Ex (upd G p (.lst xs)) H := fun b u e => by
    by_cases z : b = p
    · rw [z, upd_same] at e
      rw [z, h1]
      exact e
    · rw [upd_ne z] at e
      exact r.fin.gh b u e
  have hi : i < s.env.length := (List.getElem?_eq_some_iff.mp e).1
  have old : ∀ (j : Nat) x, (s.env.set i (some (.d (.list ds))))[j]? = some (some x) → (j = i ∧ x = .d (.list ds)) ∨ (j ≠ i ∧ s.env[j]? = some (some x)) := fun j x ej => by
    by_cases z : j = i
    · subst z
      rw [List.getElem?_set_self hi] at ej
      cases ej
      exact .inl ⟨rfl, rfl⟩
    · rw [List.getElem?_set_ne (Ne.symm z)] at ej
      exact .inr ⟨z, ej⟩
  refine ⟨.ref p, hv, k _ _ _ (upd G p (.lst xs)) H q ⟨⟨gh, r.fin.g0.trans eg, fun b hb => ?_, r.fin.hh, fun l hl => ⟨(r.fin.bx l hl).1, ?_, (r.fin.bx l hl).2.2⟩⟩, ?_, fun j x ej => ?_, fun j1 j2 x y p' hne e1 e2 m1 m2 => ?_⟩ eg ⟨Gr.refl C H, fun _ h => h, fun b h1 h2 h3 => by rw [upd_ne (fun z => h3 i _ e rfl (by rw [z]; exact hv))]; exact h1, fun j x ej m => by
      rcases old j x ej with ⟨_, rfl⟩ | ⟨_, ej⟩
      · cases m
      · exact ⟨x, ej, m⟩⟩ (.lst (.inl (.inl upd_same)) (dpa_ex eg h4))⟩
  · by_cases z : b = p
    · exact .inr (by rw [z]; exact h2)
    · rw [upd_ne z] at hb
      exact r.fin.nw b hb
  · rw [upd_ne (fun z => (r.fin.nbx h2) (by rw [← z]; exact hl))]
    exact (r.fin.bx l hl).2.1
  · rw [List.length_set]
    exact r.len
  · rcases old j x ej with ⟨rfl, rfl⟩ | ⟨z, ej⟩
    · exact ⟨_, hv, .lst (.inl (.inl upd_same)) (dpa_ex eg h4)⟩
    · obtain ⟨v', hv', rv⟩ := r.sl j x ej
      refine ⟨v', hv', ?_⟩
      cases x with
      | d x => exact dp_ex eg rv
      | box => exact rv
      | own ds' =>
        obtain ⟨p', xs', a1, a2, a3, a4, a5⟩ := rv
        refine ⟨p', xs', a1, a2, a3, ?_, dpa_ex eg a5⟩
        rw [upd_ne fun z' => r.dis i j _ _ p (Ne.symm z) e ej rfl rfl hv (by rw [hv', a1, z'])]
        exact a4
      | dic ks =>
        obtain ⟨p', xs', a1, a2, a3, a4, a5⟩ := rv
        refine ⟨p', xs', a1, a2, a3, ?_, paired_mapP a5 fun a b q => ⟨q.1, dp_ex eg q.2⟩⟩
        rw [upd_ne fun z' => r.dis i j _ _ p (Ne.symm z) e ej rfl rfl hv (by rw [hv', a1, z'])]
        exact a4
      | dit ks =>
        obtain ⟨p', xs', a1, a2, a3, a4, a5⟩ := rv
        refine ⟨p', xs', a1, a2, a3, ?_, paired_mapP a5 fun a b q => ⟨q.1, dp_ex eg q.2⟩⟩
        rw [upd_ne fun z' => r.dis i j _ _ p (Ne.symm z) e ej rfl rfl hv (by rw [hv', a1, z'])]
        exact a4
      | oth φ => exact Oth.step (φ := φ) rv eg (Kept.refl C H)
      | dd ks =>
        obtain ⟨p', xs', a1, a2, a5⟩ := rv
        exact ⟨p', xs', a1, a2, paired_mapP a5 fun a b q => ⟨q.1, dp_ex eg q.2⟩⟩
  · rcases old j1 x e1 with ⟨rfl, rfl⟩ | ⟨z1, e1⟩
    · cases m1
    · rcases old j2 y e2 with ⟨rfl, rfl⟩ | ⟨z2, e2⟩
      · cases m2
      · exact r.dis j1 j2 x y p' hne e1 e2 m1 m2
def DV.look : DV → Option PyData
  | .d x => some x
  | .own ds => some (.list ds)
  | _ => none
/-- a name that is only looked at -/
def wP (i : Nat) : WE := fun s Q => ∃ x d, s.env[i]? = some (some x) ∧ x.look = some d ∧ Q d s
theorem ip_v {i : Nat} : IP C (tVar i) (wP i) := fun G σ H s Q Q' r q k => by
  obtain ⟨x, d, e, hl, q⟩ := q
  obtain ⟨v, hv, rv⟩ := r.sl i _ e
  refine ⟨v, hv, k v d s G H q r (Ex.refl G) Gs.refl ?_⟩
  cases x with
  | d x => cases hl; exact .inl rv
  | own ds =>
    cases hl
    obtain ⟨p, xs, a1, a2, a3, a4, a5⟩ := rv
    exact .inr ⟨p, xs, ds, a1, rfl, a2, r.fin.nbx a3, a5⟩
  | dic _ => cases hl
  | dit _ => cases hl
  | dd _ => cases hl
  | oth _ => cases hl
  | box => cases hl
/-! arguments -/
theorem ia_nil : IA C tNil (fun s Q => Q [] s) := fun G σ H s Q Q' r q k => k [] [] s G H q r (Ex.refl G) Gs.refl .nil
def wCons (w : WE) (wr : WA) : WA := fun s Q => w s fun d s1 => wr s1 fun ds s2 => Q (d :: ds) s2
theorem ia_cons {tr : TA} {wr : WA} (h : IE C t w) (hr : IA C tr wr) : IA C (tCons t tr) (wCons w wr) := fun G σ H s Q Q' r q k =>
  h G σ H s _ _ r q fun v d s1 G1 H1 q1 r1 eg1 eh1 p1 => hr G1 σ H1 s1 _ _ r1 q1 fun vs ds s2 G2 H2 q2 r2 eg2 eh2 p2 =>
    k (v :: vs) (d :: ds) s2 G2 H2 q2 r2 (eg1.trans eg2) (eh1.trans eh2) (.cons (dp_ex eg2 p1) p2)
/-! displays -/
def wTup (w : WA) : WE := fun s Q => w s fun ds s1 => ds.length ≤ 100000 ∧ Q (.tuple ds) s1
theorem ie_tup (h : IA C tA wA) : IE C (tTup tA) (wTup wA) := fun G σ H s Q Q' r q k =>
  h G σ H s _ _ r q fun vs ds s1 G1 H1 q1 r1 eg1 eh1 p1 => ⟨by rw [dpa_len p1]; exact sz_of q1.1, fun p hp => by
    obtain ⟨r2, eg2, eh2⟩ := r1.new (o := .tup vs) hp
    exact k (.ref p) _ s1 _ _ q1.2 r2 (eg1.trans eg2) (eh1.trans eh2) (.tup (.inl (.inl upd_same)) (dpa_ex eg2 p1))⟩
def wLst (w : WA) : WA := fun s Q => w s fun ds s1 => ds.length ≤ 100000 ∧ Q ds s1
/-- a new list, made at the end -/
theorem own_new {G σ H s G1 H1 s1} {Q : List PyData → Dt → Prop} {Q' : VK} {vs : List V} {ds : List PyData} (r : Rel C G σ H s) (q1 : Q ds s1) (r1 : Rel C G1 σ H1 s1) (eg1 : Ex G G1) (eh1 : Gs C σ G H s G1 H1 s1) (p1 : DpAll C.K G1 vs ds) {p : Addr} (hp : H1 p = none)
    (k : ∀ p xs ds s' G' H', Q ds s' → Rel C G' σ H' s' → Ex G G' → Gs C σ G H s G' H' s' → H p = none → H' p = some (.lst xs) → G' p = none → DpAll C.K G' xs ds → (∀ (i : Nat) x, s'.env[i]? = some (some x) → x.mut = true → σ[i]? ≠ some (some (.ref p))) → Q' (.ref p) H') : Q' (.ref p) (upd H1 p (.lst vs)) := by
  refine k p vs ds s1 G1 _ q1 (r1.aside (Ex.new hp)) eg1 (eh1.trans (.side (Ex.new hp))) ?_ upd_same (r1.gnone hp) p1 (r1.notslot hp)
  cases q : H p with
  | none => rfl
  | some o =>
    by_cases z : C.bx = some p
    · exact absurd hp (r1.fin.bx p z).1.ne
    · rw [eh1.gr p o z q] at hp
      cases hp
theorem io_lst (h : IA C tA wA) : IO C (tLst tA) (wLst wA) := fun G σ H s Q Q' r q k =>
  h G σ H s _ _ r q fun vs ds s1 G1 H1 q1 r1 eg1 eh1 p1 => ⟨by rw [dpa_len p1]; exact sz_of q1.1, fun p hp => own_new r q1.2 r1 eg1 eh1 p1 hp k⟩
/-! operators on ints -/
def wI (C : Int → Int → Prop) (g : Int → Int → PyData) (wa wb : WE) : WE := fun s Q => wa s fun x s1 => wb s1 fun y s2 => ∃ i j, x = .int i ∧ y = .int j ∧ C i j ∧ Q (g i j) s2
theorem dp_int {K : PySem.W.Frag} {H : Hp} {v : V} {i : Int} (h : Dp K H v (.int i)) : v = .int i := by cases h; rfl
theorem dp_bl {K : PySem.W.Frag} {H : Hp} {v : V} {i : Bool} (h : Dp K H v (.bool i)) : v = .bl i := by cases h; rfl
theorem dp_str {K : PySem.W.Frag} {H : Hp} {v : V} {i : Str} (h : Dp K H v (.str i)) : v = .str i := by cases h; rfl
theorem ie_opI {P : Int → Int → Prop} {g : Int → Int → V} {gd : Int → Int → PyData} (hg : ∀ G i j, Dp C.K G (g i j) (gd i j)) (ha : IE C ta wa) (hb : IE C tb wb) : IE C (tOp (rI P g) ta tb) (wI P gd wa wb) := fun G σ H s Q Q' r q k =>
  ha G σ H s _ _ r q fun v d s1 G1 H1 q1 r1 eg1 eh1 p1 => hb G1 σ H1 s1 _ _ r1 q1 fun v2 d2 s2 G2 H2 q2 r2 eg2 eh2 p2 => by
    obtain ⟨i, j, rfl, rfl, hc, q3⟩ := q2
    exact ⟨i, j, dp_int p1, dp_int p2, hc, k _ _ s2 G2 H2 q3 r2 (eg1.trans eg2) (eh1.trans eh2) (hg _ _ _)⟩
def wI0 (g : Int → Int → PyData) (wa wb : WE) : WE := fun s Q => wa s fun x s1 => wb s1 fun y s2 => ∃ i j, x = .int i ∧ y = .int j ∧ Q (g i j) s2
theorem ie_opI0 {g : Int → Int → V} {gd : Int → Int → PyData} (hg : ∀ G i j, Dp C.K G (g i j) (gd i j)) (ha : IE C ta wa) (hb : IE C tb wb) : IE C (tOp (rI0 g) ta tb) (wI0 gd wa wb) := fun G σ H s Q Q' r q k =>
  ha G σ H s _ _ r q fun v d s1 G1 H1 q1 r1 eg1 eh1 p1 => hb G1 σ H1 s1 _ _ r1 q1 fun v2 d2 s2 G2 H2 q2 r2 eg2 eh2 p2 => by
    obtain ⟨i, j, rfl, rfl, q3⟩ := q2
    exact ⟨i, j, dp_int p1, dp_int p2, k _ _ s2 G2 H2 q3 r2 (eg1.trans eg2) (eh1.trans eh2) (hg _ _ _)⟩
/-! a reading of two values looked at, in general -/
theorem ie_op2 {r2 : R2} {g : PyData → PyData → Dt → (PyData → Dt → Prop) → Prop} (hg : ∀ G σ H s x y d e Q Q', Rel C G σ H s → Pk C G H x d → Pk C G H y e → g d e s Q →
      (∀ v z s' G' H', Q z s' → Rel C G' σ H' s' → Ex G G' → Gs C σ G H s G' H' s' → Dp C.K G' v z → Q' v H') → r2 x y H Q') (ha : IP C ta wa) (hb : IP C tb wb) :
    IE C (tOp r2 ta tb) (fun s Q => wa s fun d s1 => wb s1 fun e s2 => g d e s2 Q) := fun G σ H s Q Q' r q k =>
  ha G σ H s _ _ r q fun v d s1 G1 H1 q1 r1 eg1 eh1 p1 => hb G1 σ H1 s1 _ _ r1 q1 fun v2 d2 s2 G2 H2 q2 rr eg2 eh2 p2 =>
    hg G2 σ H2 s2 v v2 d d2 Q Q' rr (p1.mono eg2 eh2.gr) p2 q2 fun v z s' G' H' q r' eg eh p => k v z s' G' H' q r' ((eg1.trans eg2).trans eg) ((eh1.trans eh2).trans eh) p
theorem io_op2 {r2 : R2} {g : PyData → PyData → Dt → (List PyData → Dt → Prop) → Prop} (hg : ∀ G σ H s x y d e Q Q', Rel C G σ H s → Pk C G H x d → Pk C G H y e → g d e s Q →
      (∀ vs ds p, Q ds s → DpAll C.K G vs ds → H p = none → Q' (.ref p) (upd H p (.lst vs))) → r2 x y H Q') (ha : IP C ta wa) (hb : IP C tb wb) :
    IO C (tOp r2 ta tb) (fun s Q => wa s fun d s1 => wb s1 fun e s2 => g d e s2 Q) := fun G σ H s Q Q' r q k =>
  ha G σ H s _ _ r q fun v d s1 G1 H1 q1 r1 eg1 eh1 p1 => hb G1 σ H1 s1 _ _ r1 q1 fun v2 d2 s2 G2 H2 q2 rr eg2 eh2 p2 =>
    hg G2 σ H2 s2 v v2 d d2 Q Q' rr (p1.mono eg2 eh2.gr) p2 q2 fun vs ds p q hd hp => own_new r q rr (eg1.trans eg2) (eh1.trans eh2) hd hp k
end
end Dw

namespace Dw
open PySem PySem.Spec PyProof.Rows L2 OgR Evl
/-! ### a piece of syntax, its reading, and its reading by data -/
structure DE (X : Cx) (C : Ct) (e : Expr) (t : TE) (w : WE) : Prop where
  pe : PE X e t
  ie : IE C t w
structure DP (X : Cx) (C : Ct) (e : Expr) (t : TE) (w : WE) : Prop where
  pe : PE X e t
  ip : IP C t w
structure DO (X : Cx) (C : Ct) (e : Expr) (t : TE) (w : WA) : Prop where
  pe : PE X e t
  io : IO C t w
structure DA (X : Cx) (C : Ct) (es : List Expr) (t : TA) (w : WA) : Prop where
  pa : PA X es t
  ia : IA C t w
structure DT (X : Cx) (C : Ct) (e : Expr) (t : TT) (w : WT) : Prop where
  pt : PT X e t
  it : IT C t w
structure DW (X : Cx) (C : Ct) (e : Expr) (t : TT) (w : WT) : Prop where
  pw : PW X e t
  it : IT C t w
/-- a list looked at whose place is known: fresh, or of the def's own -/
def IL (C : Ct) (t : TE) (w : WA) : Prop := ∀ G σ H s Q Q', Rel C G σ H s → w s Q →
  (∀ p xs ds s' G' H', Q ds s' → Rel C G' σ H' s' → Ex G G' → Gs C σ G H s G' H' s' → H' p = some (.lst xs) → C.bx ≠ some p → DpAll C.K G' xs ds → Q' (.ref p) H') → t σ H Q'
structure DL (X : Cx) (C : Ct) (e : Expr) (t : TE) (w : WA) : Prop where
  pe : PE X e t
  il : IL C t w
section
variable {X : Cx} {C : Ct} {a b e : Expr} {es : List Expr} {pos : Pos} {t ta tb tc : TE} {w wa wb wc : WE} {tA : TA} {wA : WA}
theorem DE.p (h : DE X C e t w) : DP X C e t w := ⟨h.pe, ip_of h.ie⟩
theorem DO.d {w : WA} (h : DO X C e t w) : DE X C e t (wPubO w) := ⟨h.pe, ie_own h.io⟩
theorem DO.l {w : WA} (h : DO X C e t w) : DL X C e t w := ⟨h.pe, fun G σ H s Q Q' r q k => h.io G σ H s Q Q' r q fun p xs ds s' G' H' q' r' eg eh hp h1 h2 h3 h4 =>
  k p xs ds s' G' H' q' r' eg eh h1 (r'.fin.nbx (r.fin.h0 hp)) h3⟩
theorem DW.q {t : TT} {w : WT} (h : DW X C e t w) : DT X C e t w := ⟨h.pw.pt, h.it⟩
theorem de_int {i : Int} {j} : DE X C (.Constant (.int i) j pos) (tC (.int i)) (wC (.int i)) := ⟨pe_int, ie_c fun _ => .int i⟩
theorem de_str {i : Str} {j} : DE X C (.Constant (.str i) j pos) (tC (.str i)) (wC (.str i)) := ⟨pe_str, ie_c fun _ => .str i⟩
theorem de_bl {i : Bool} {j} : DE X C (.Constant (.bool i) j pos) (tC (.bl i)) (wC (.bool i)) := ⟨pe_bl, ie_c fun _ => .bl i⟩
theorem de_non {j} : DE X C (.Constant .none j pos) (tC .non) (wC .none) := ⟨pe_non, ie_c fun _ => .non⟩
theorem de_v (i : Nat) {x : Str} (hN : X.N[i]? = some x := by rfl) (hv : Vis X.env.scope x := by first | exact Or.inl rfl | exact Or.inr (Or.inl rfl) | exact Or.inr (Or.inr rfl)) (hd : (x == ("__debug__" : Str)) = false := by decide)
    (hcd : (x == ("__classdict__" : Str)) = false := by decide) : DE X C (.Name x pos) (tVar i) (wV i) := ⟨pe_var hN hv hd hcd, ie_v⟩
theorem de_pub (i : Nat) {x : Str} (hN : X.N[i]? = some x := by rfl) (hv : Vis X.env.scope x := by first | exact Or.inl rfl | exact Or.inr (Or.inl rfl) | exact Or.inr (Or.inr rfl)) (hd : (x == ("__debug__" : Str)) = false := by decide)
    (hcd : (x == ("__classdict__" : Str)) = false := by decide) : DE X C (.Name x pos) (tVar i) (wPub i) := ⟨pe_var hN hv hd hcd, ie_pub⟩
theorem dp_v (i : Nat) {x : Str} (hN : X.N[i]? = some x := by rfl) (hv : Vis X.env.scope x := by first | exact Or.inl rfl | exact Or.inr (Or.inl rfl) | exact Or.inr (Or.inr rfl)) (hd : (x == ("__debug__" : Str)) = false := by decide)
    (hcd : (x == ("__classdict__" : Str)) = false := by decide) : DP X C (.Name x pos) (tVar i) (wP i) := ⟨pe_var hN hv hd hcd, ip_v⟩
def wL (i : Nat) : WA := fun s Q => ∃ ds, s.env[i]? = some (some (.own ds)) ∧ Q ds s
theorem dl_v (i : Nat) {x : Str} (hN : X.N[i]? = some x := by rfl) (hv : Vis X.env.scope x := by first | exact Or.inl rfl | exact Or.inr (Or.inl rfl) | exact Or.inr (Or.inr rfl)) (hd : (x == ("__debug__" : Str)) = false := by decide)
    (hcd : (x == ("__classdict__" : Str)) = false := by decide) : DL X C (.Name x pos) (tVar i) (wL i) := ⟨pe_var hN hv hd hcd, fun G σ H s Q Q' r q k => by
  obtain ⟨ds, e, q⟩ := q
  obtain ⟨v, hv, p, xs, rfl, h1, h2, h3, h4⟩ := r.sl i _ e
  exact ⟨_, hv, k p xs ds s G H q r (Ex.refl G) Gs.refl h1 (r.fin.nbx h2) h4⟩⟩
/-- a constant of the module -/
theorem de_g {x : Str} {v : V} {u : Value} {d : PyData} (hg : Gl X x) (hm : X.mg x = some u) (rv : RelV v u) (hd : ∀ G, Dp C.K G v d) (hx : (x == ("__debug__" : Str)) = false := by decide) : DE X C (.Name x pos) (tC v) (wC d) := ⟨pe_glob hg hm rv hx, ie_c hd⟩
theorem da_nil : DA X C [] tNil (fun s Q => Q [] s) := ⟨pa_nil, ia_nil⟩
theorem da_cons {tr : TA} {wr : WA} (h : DE X C e t w) (hr : DA X C es tr wr) (hs : starEach (e :: es) X.env = (false, eval e X.env) :: starEach es X.env := by rfl) : DA X C (e :: es) (tCons t tr) (wCons w wr) := ⟨pa_cons h.pe hr.pa hs, ia_cons h.ie hr.ia⟩
theorem de_tup {k} (h : DA X C es tA wA) : DE X C (.Tuple es k pos) (tTup tA) (wTup wA) := ⟨pe_tup h.pa, ie_tup h.ia⟩
theorem do_lst (h : DA X C es tA wA) : DO X C (.List es pos) (tLst tA) (wLst wA) := ⟨pe_lst h.pa, io_lst h.ia⟩
/-! ### two-place operations -/
abbrev G2 := PyData → PyData → Dt → (PyData → Dt → Prop) → Prop
structure R2D (C : Ct) (r : R2) (g : G2) : Prop where
  run : ∀ G σ H s x y d e Q Q', Rel C G σ H s → Pk C G H x d → Pk C G H y e → g d e s Q → (∀ v z s' G' H', Q z s' → Rel C G' σ H' s' → Ex G G' → Gs C σ G H s G' H' s' → Dp C.K G' v z → Q' v H') → r x y H Q'
structure OpD (X : Cx) (C : Ct) (f : Value → Value → Sem Value) (r : R2) (g : G2) : Prop where
  op : OpR X f r
  rd : R2D C r g
def w2 (g : G2) (wa wb : WE) : WE := fun s Q => wa s fun d s1 => wb s1 fun e s2 => g d e s2 Q
theorem de_bin {op : Operator} {r : R2} {g : G2} (o : OpD X C (binaryOp op) r g) (ha : DP X C a ta wa) (hb : DP X C b tb wb) : DE X C (.BinOp a op b pos) (tOp r ta tb) (w2 g wa wb) := ⟨pe_op o.op ha.pe hb.pe, ie_op2 o.rd.run ha.ip hb.ip⟩
theorem de_cmp {op : CmpOp} {r : R2} {g : G2} (o : OpD X C (compareOp op) r g) (ha : DP X C a ta wa) (hb : DP X C b tb wb) (hm : behindInMarks op b = false := by first | exact nomark _ | rfl) : DE X C (.Compare a [op] [b] pos) (tOp r ta tb) (w2 g wa wb) := ⟨pe_cmpR o.op ha.pe hb.pe hm, ie_op2 o.rd.run ha.ip hb.ip⟩
/-- a value as a test -/
def wTest (w : WE) : WT := fun s Q => w s fun d s1 => ∃ k, d = .bool k ∧ Q k s1
theorem it_test (h : IE C t w) : IT C (tTest t) (wTest w) := fun G σ H s Q Q' r q k => h G σ H s _ _ r q fun v d s1 G1 H1 q1 r1 eg eh p => by
  obtain ⟨b, rfl, q2⟩ := q1
  exact ⟨b, dp_bl p, k b s1 G1 H1 q2 r1 eg eh⟩
theorem it_B (h : IE C t w) : IT C (tB t) (wTest w) := it_test h
theorem dt_cmp {op : CmpOp} {r : R2} {g : G2} (o : OpD X C (compareOp op) r g) (ha : DP X C a ta wa) (hb : DP X C b tb wb) (hm : behindInMarks op b = false := by first | exact nomark _ | rfl) : DT X C (.Compare a [op] [b] pos) (tTest (tOp r ta tb)) (wTest (w2 g wa wb)) :=
  ⟨pt_cmpR o.op ha.pe hb.pe hm, it_test (ie_op2 o.rd.run ha.ip hb.ip)⟩
theorem dt_val (h : DE X C e t w) (he : ∀ whole, isTrue e X.env whole = (do let v ← whole; standAt e.pos; holding [v] (truthy v)) := by intro _; rfl) : DT X C e (tB t) (wTest w) := ⟨pt_val h.pe he, it_B h.ie⟩
/-- a op b op' c -/
def wChain (g g' : G2) (wa wb wc : WE) : WE := fun s Q => wa s fun d s1 => wb s1 fun e s2 => g d e s2 fun z s3 => ∃ k, z = .bool k ∧ if k = true then wc s3 fun f s4 => g' e f s4 Q else Q (.bool false) s3
theorem ie_chain {r r' : R2} {g g' : G2} (hr : R2D C r g) (hr' : R2D C r' g') (ha : IP C ta wa) (hb : IP C tb wb) (hc : IP C tc wc) : IE C (tChain r r' ta tb tc) (wChain g g' wa wb wc) := fun G σ H s Q Q' r q k =>
  ha G σ H s _ _ r q fun v d s1 G1 H1 q1 r1 eg1 eh1 p1 => hb G1 σ H1 s1 _ _ r1 q1 fun v2 d2 s2 G2 H2 q2 rr eg2 eh2 p2 =>
    hr.run G2 σ H2 s2 v v2 d d2 _ _ rr (p1.mono eg2 eh2.gr) p2 q2 fun v3 z s3 G3 H3 q3 r3 eg3 eh3 p3 => by
      obtain ⟨kk, rfl, q3⟩ := q3
      refine ⟨kk, dp_bl p3, ?_⟩
      cases kk with
      | false =>
        refine iteF ?_
        rw [if_neg (by decide)] at q3
        exact k _ _ s3 G3 H3 q3 r3 ((eg1.trans eg2).trans eg3) ((eh1.trans eh2).trans eh3) (.bl _)
      | true =>
        refine iteT ?_
        rw [if_pos rfl] at q3
        exact hc G3 σ H3 s3 _ _ r3 q3 fun v4 f s4 G4 H4 q4 r4 eg4 eh4 p4 => hr'.run G4 σ H4 s4 v2 v4 d2 f _ _ r4 ((p2.mono eg3 eh3.gr).mono eg4 eh4.gr) p4 q4 fun v5 z s5 G5 H5 q5 r5 eg5 eh5 p5 =>
          k v5 z s5 G5 H5 q5 r5 ((((eg1.trans eg2).trans eg3).trans eg4).trans eg5) ((((eh1.trans eh2).trans eh3).trans eh4).trans eh5) p5
theorem de_chain {c : Expr} {op op' : CmpOp} {r r' : R2} {g g' : G2} (o : OpD X C (compareOp op) r g) (o' : OpD X C (compareOp op') r' g') (ha : DP X C a ta wa) (hb : DP X C b tb wb) (hc : DP X C c tc wc) (hm : lastMarks [op, op'] [b, c] = false := by with_unfolding_all rfl) :
    DE X C (.Compare a [op, op'] [b, c] pos) (tChain r r' ta tb tc) (wChain g g' wa wb wc) := ⟨pe_chain o.op o'.op ha.pe hb.pe hc.pe hm, ie_chain o.rd o'.rd ha.ip hb.ip hc.ip⟩
theorem dt_chain {c : Expr} {op op' : CmpOp} {r r' : R2} {g g' : G2} (o : OpD X C (compareOp op) r g) (o' : OpD X C (compareOp op') r' g') (ha : DP X C a ta wa) (hb : DP X C b tb wb) (hc : DP X C c tc wc) (hm : lastMarks [op, op'] [b, c] = false := by with_unfolding_all rfl) :
    DT X C (.Compare a [op, op'] [b, c] pos) (tTest (tChain r r' ta tb tc)) (wTest (wChain g g' wa wb wc)) := ⟨pt_chain o.op o'.op ha.pe hb.pe hc.pe hm, it_test (ie_chain o.rd o'.rd ha.ip hb.ip hc.ip)⟩
/-! and, or, not, if -/
def wAnd (u v : WT) : WT := fun s Q => u s fun b s1 => if b = true then v s1 Q else Q false s1
def wOr (u v : WT) : WT := fun s Q => u s fun b s1 => if b = true then Q true s1 else v s1 Q
def wNot (u : WT) : WT := fun s Q => u s fun b s1 => Q (!b) s1
theorem it_and {t u : TT} {w v : WT} (h : IT C t w) (h2 : IT C u v) : IT C (tAnd t u) (wAnd w v) := fun G σ H s Q Q' r q k => h G σ H s _ _ r q fun b s1 G1 H1 q1 r1 eg eh => by
  cases b with
  | false =>
    rw [if_neg (by decide)] at q1
    exact iteF (k false s1 G1 H1 q1 r1 eg eh)
  | true =>
    rw [if_pos rfl] at q1
    exact iteT (h2 G1 σ H1 s1 _ _ r1 q1 fun b s2 G2 H2 q2 r2 eg2 eh2 => k b s2 G2 H2 q2 r2 (eg.trans eg2) (eh.trans eh2))
theorem it_or {t u : TT} {w v : WT} (h : IT C t w) (h2 : IT C u v) : IT C (tOr t u) (wOr w v) := fun G σ H s Q Q' r q k => h G σ H s _ _ r q fun b s1 G1 H1 q1 r1 eg eh => by
  cases b with
  | true =>
    rw [if_pos rfl] at q1
    exact iteT (k true s1 G1 H1 q1 r1 eg eh)
  | false =>
    rw [if_neg (by decide)] at q1
    exact iteF (h2 G1 σ H1 s1 _ _ r1 q1 fun b s2 G2 H2 q2 r2 eg2 eh2 => k b s2 G2 H2 q2 r2 (eg.trans eg2) (eh.trans eh2))
theorem it_not {t : TT} {w : WT} (h : IT C t w) : IT C (tNot t) (wNot w) := fun G σ H s Q Q' r q k => h G σ H s _ _ r q fun b s1 G1 H1 q1 r1 eg eh => k (!b) s1 G1 H1 q1 r1 eg eh
variable {rest : List Expr} {tA' tB' : TT} {wA' wB' : WT}
theorem dw_and1 (h : DT X C a tA' wA') : DW X C (.BoolOp .And [a] pos) tA' wA' := ⟨pw_and1 h.pt, h.it⟩
theorem dw_or1 (h : DT X C a tA' wA') : DW X C (.BoolOp .Or [a] pos) tA' wA' := ⟨pw_or1 h.pt, h.it⟩
theorem dw_and (h : DT X C a tA' wA') (h2 : DW X C (.BoolOp .And (b :: rest) pos) tB' wB') : DW X C (.BoolOp .And (a :: b :: rest) pos) (tAnd tA' tB') (wAnd wA' wB') := ⟨pw_and h.pt h2.pw, it_and h.it h2.it⟩
theorem dw_or (h : DT X C a tA' wA') (h2 : DW X C (.BoolOp .Or (b :: rest) pos) tB' wB') : DW X C (.BoolOp .Or (a :: b :: rest) pos) (tOr tA' tB') (wOr wA' wB') := ⟨pw_or h.pt h2.pw, it_or h.it h2.it⟩
theorem dt_not (h : DT X C a tA' wA') : DT X C (.UnaryOp .Not a pos) (tNot tA') (wNot wA') := ⟨pt_not h.pt, it_not h.it⟩
def wAndV (u v : WE) : WE := fun s Q => u s fun d s1 => ∃ b, d = .bool b ∧ if b = true then v s1 Q else Q (.bool false) s1
def wOrV (u v : WE) : WE := fun s Q => u s fun d s1 => ∃ b, d = .bool b ∧ if b = true then Q (.bool true) s1 else v s1 Q
def wNotV (u : WE) : WE := fun s Q => u s fun d s1 => ∃ b, d = .bool b ∧ Q (.bool (!b)) s1
theorem ie_andV (h : IE C ta wa) (h2 : IE C tb wb) : IE C (tAndV ta tb) (wAndV wa wb) := fun G σ H s Q Q' r q k => h G σ H s _ _ r q fun v d s1 G1 H1 q1 r1 eg eh p => by
  obtain ⟨b, rfl, q1⟩ := q1
  refine ⟨b, dp_bl p, ?_⟩
  cases b with
  | false =>
    rw [if_neg (by decide)] at q1
    exact iteF (k _ _ s1 G1 H1 q1 r1 eg eh (.bl _))
  | true =>
    rw [if_pos rfl] at q1
    exact iteT (h2 G1 σ H1 s1 _ _ r1 q1 fun v d s2 G2 H2 q2 r2 eg2 eh2 p2 => k v d s2 G2 H2 q2 r2 (eg.trans eg2) (eh.trans eh2) p2)
theorem ie_orV (h : IE C ta wa) (h2 : IE C tb wb) : IE C (tOrV ta tb) (wOrV wa wb) := fun G σ H s Q Q' r q k => h G σ H s _ _ r q fun v d s1 G1 H1 q1 r1 eg eh p => by
  obtain ⟨b, rfl, q1⟩ := q1
  refine ⟨b, dp_bl p, ?_⟩
  cases b with
  | true =>
    rw [if_pos rfl] at q1
    exact iteT (k _ _ s1 G1 H1 q1 r1 eg eh (.bl _))
  | false =>
    rw [if_neg (by decide)] at q1
    exact iteF (h2 G1 σ H1 s1 _ _ r1 q1 fun v d s2 G2 H2 q2 r2 eg2 eh2 p2 => k v d s2 G2 H2 q2 r2 (eg.trans eg2) (eh.trans eh2) p2)
theorem ie_notV (h : IE C ta wa) : IE C (tNotV ta) (wNotV wa) := fun G σ H s Q Q' r q k => h G σ H s _ _ r q fun v d s1 G1 H1 q1 r1 eg eh p => by
  obtain ⟨b, rfl, q1⟩ := q1
  exact ⟨b, dp_bl p, k _ _ s1 G1 H1 q1 r1 eg eh (.bl _)⟩
theorem de_one {op} (h : DE X C a t w) : DE X C (.BoolOp op [a] pos) t w := ⟨pe_one h.pe, h.ie⟩
theorem de_and (h : DE X C a ta wa) (h2 : DE X C (.BoolOp .And (b :: rest) pos) tb wb) : DE X C (.BoolOp .And (a :: b :: rest) pos) (tAndV ta tb) (wAndV wa wb) := ⟨pe_and h.pe h2.pe, ie_andV h.ie h2.ie⟩
theorem de_or (h : DE X C a ta wa) (h2 : DE X C (.BoolOp .Or (b :: rest) pos) tb wb) : DE X C (.BoolOp .Or (a :: b :: rest) pos) (tOrV ta tb) (wOrV wa wb) := ⟨pe_or h.pe h2.pe, ie_orV h.ie h2.ie⟩
theorem de_not (h : DE X C a t w) : DE X C (.UnaryOp .Not a pos) (tNotV t) (wNotV w) := ⟨pe_not h.pe, ie_notV h.ie⟩
def wIf (c : WT) (u v : WE) : WE := fun s Q => c s fun b s1 => if b = true then u s1 Q else v s1 Q
theorem de_if {c : Expr} (hc : DT X C c tA' wA') (h : DE X C a ta wa) (h2 : DE X C b tb wb) : DE X C (.IfExp c a b pos) (tIf tA' ta tb) (wIf wA' wa wb) := ⟨pe_ifExp hc.pt h.pe h2.pe, fun G σ H s Q Q' r q k =>
  hc.it G σ H s _ _ r q fun bb s1 G1 H1 q1 r1 eg eh => by
    cases bb with
    | true =>
      rw [if_pos rfl] at q1
      exact iteT (h.ie G1 σ H1 s1 _ _ r1 q1 fun v d s2 G2 H2 q2 r2 eg2 eh2 p2 => k v d s2 G2 H2 q2 r2 (eg.trans eg2) (eh.trans eh2) p2)
    | false =>
      rw [if_neg (by decide)] at q1
      exact iteF (h2.ie G1 σ H1 s1 _ _ r1 q1 fun v d s2 G2 H2 q2 r2 eg2 eh2 p2 => k v d s2 G2 H2 q2 r2 (eg.trans eg2) (eh.trans eh2) p2)⟩
/-- truth of a list, tuple, text, int, None -/
def truD : PyData → Option Bool
  | .none => some false
  | .bool b => some b
  | .int i => some (i != 0)
  | .str y => if y.length ≤ 100000 then some ((y.length : Int) != 0) else none
  | .list ds => some (!ds.isEmpty)
  | .tuple ds => some (!ds.isEmpty)
  | .dict _ => none
theorem dpa_emp {K : PySem.W.Frag} {H : Hp} {xs : List V} {ds : List PyData} (h : DpAll K H xs ds) : xs.isEmpty = ds.isEmpty := by
  cases h <;> rfl
def wTru (w : WE) : WT := fun s Q => w s fun d s1 => ∃ k, truD d = some k ∧ Q k s1
theorem dt_tru (hK : X.K = C.K) (h : DP X C e t w) (he : ∀ whole, isTrue e X.env whole = (do let v ← whole; standAt e.pos; holding [v] (truthy v)) := by intro _; rfl) : DT X C e (fun σ H Q => t σ H fun x H' => ∃ k, TruV C.K x H' k ∧ Q k H') (wTru w) :=
  ⟨hK ▸ pt_truth h.pe he, fun G σ H s Q Q' r q k => h.ip G σ H s _ _ r q fun v d s1 G1 H1 q1 r1 eg eh p => by
    obtain ⟨b, hb, q1⟩ := q1
    refine ⟨b, ?_, k b s1 G1 H1 q1 r1 eg eh⟩
    have hd := p.dp r1.fin.gh
    cases d with
    | none => cases hd; cases hb; rfl
    | bool _ => cases hd; cases hb; rfl
    | int _ => cases hd; cases hb; rfl
    | str y =>
      cases hd
      have hb' : (if y.length ≤ 100000 then some ((y.length : Int) != 0) else none) = some b := hb
      split at hb'
      · rename_i hy
        cases hb'
        exact ⟨sz_of hy, rfl⟩
      · cases hb'
    | list ds =>
      cases hd with
      | lst h1 h2 =>
        cases hb
        exact .inl ⟨_, h1, by rw [dpa_emp h2]⟩
    | tuple ds =>
      cases hd with
      | tup h1 h2 =>
        cases hb
        exact .inr (.inl ⟨_, h1, by rw [dpa_emp h2]⟩)
    | dict _ => cases hb⟩
end
/-! ### the operations -/
def gI0 (f : Int → Int → PyData) : G2 := fun d e s Q => ∃ i j, d = .int i ∧ e = .int j ∧ Q (f i j) s
def gI (P : Int → Int → Prop) (f : Int → Int → PyData) : G2 := fun d e s Q => ∃ i j, d = .int i ∧ e = .int j ∧ P i j ∧ Q (f i j) s
section
variable {X : Cx} {C : Ct}
theorem pk_int {G H : Hp} {v : V} {i : Int} (h : Pk C G H v (.int i)) : v = .int i := by
  rcases h with h | ⟨_, _, _, _, h, _⟩
  · exact dp_int h
  · cases h
theorem pk_str {G H : Hp} {v : V} {i : Str} (h : Pk C G H v (.str i)) : v = .str i := by
  rcases h with h | ⟨_, _, _, _, h, _⟩
  · exact dp_str h
  · cases h
theorem pk_bl {G H : Hp} {v : V} {i : Bool} (h : Pk C G H v (.bool i)) : v = .bl i := by
  rcases h with h | ⟨_, _, _, _, h, _⟩
  · exact dp_bl h
  · cases h
theorem r2_I0 {f : Int → Int → V} {g : Int → Int → PyData} (hg : ∀ G i j, Dp C.K G (f i j) (g i j)) : R2D C (rI0 f) (gI0 g) := ⟨fun G σ H s x y d e Q Q' r p1 p2 q k => by
  obtain ⟨i, j, rfl, rfl, q⟩ := q
  exact ⟨i, j, pk_int p1, pk_int p2, k _ _ s G H q r (Ex.refl G) Gs.refl (hg _ _ _)⟩⟩
theorem r2_I {P : Int → Int → Prop} {f : Int → Int → V} {g : Int → Int → PyData} (hg : ∀ G i j, Dp C.K G (f i j) (g i j)) : R2D C (rI P f) (gI P g) := ⟨fun G σ H s x y d e Q Q' r p1 p2 q k => by
  obtain ⟨i, j, rfl, rfl, hc, q⟩ := q
  exact ⟨i, j, pk_int p1, pk_int p2, hc, k _ _ s G H q r (Ex.refl G) Gs.refl (hg _ _ _)⟩⟩
theorem o_add : OpD X C (binaryOp .Add) (rI0 fun i j => .int (i + j)) (gI0 fun i j => .int (i + j)) := ⟨op_add, r2_I0 fun _ _ _ => .int _⟩
theorem o_sub : OpD X C (binaryOp .Sub) (rI0 fun i j => .int (i - j)) (gI0 fun i j => .int (i - j)) := ⟨op_sub, r2_I0 fun _ _ _ => .int _⟩
theorem o_mul : OpD X C (binaryOp .Mult) (rI CMul fun i j => .int (i * j)) (gI CMul fun i j => .int (i * j)) := ⟨op_mul, r2_I fun _ _ _ => .int _⟩
theorem o_fdiv : OpD X C (binaryOp .FloorDiv) (rI CDiv fun i j => .int (i / j)) (gI CDiv fun i j => .int (i / j)) := ⟨op_fdiv, r2_I fun _ _ _ => .int _⟩
theorem o_mod : OpD X C (binaryOp .Mod) (rI (fun _ j => 0 < j) fun i j => .int (i % j)) (gI (fun _ j => 0 < j) fun i j => .int (i % j)) := ⟨op_mod, r2_I fun _ _ _ => .int _⟩
theorem o_pow : OpD X C (binaryOp .Pow) (rI CPow fun i j => .int (i ^ j.toNat)) (gI CPow fun i j => .int (i ^ j.toNat)) := ⟨op_pow, r2_I fun _ _ _ => .int _⟩
theorem o_lt : OpD X C (compareOp .Lt) (rI0 fun i j => .bl (decide (i < j))) (gI0 fun i j => .bool (decide (i < j))) := ⟨op_lt, r2_I0 fun _ _ _ => .bl _⟩
theorem o_le : OpD X C (compareOp .LtE) (rI0 fun i j => .bl (decide (i ≤ j))) (gI0 fun i j => .bool (decide (i ≤ j))) := ⟨op_le, r2_I0 fun _ _ _ => .bl _⟩
theorem o_gt : OpD X C (compareOp .Gt) (rI0 fun i j => .bl (decide (j < i))) (gI0 fun i j => .bool (decide (j < i))) := ⟨op_gt, r2_I0 fun _ _ _ => .bl _⟩
theorem o_ge : OpD X C (compareOp .GtE) (rI0 fun i j => .bl (decide (j ≤ i))) (gI0 fun i j => .bool (decide (j ≤ i))) := ⟨op_ge, r2_I0 fun _ _ _ => .bl _⟩
/-- == and != of data -/
def Shp (d : PyData) : Prop := SeqAt.shaped d = true
def gEq : G2 := fun d e s Q => Shp d ∧ Shp e ∧ Q (.bool (PyData.eqv d e)) s
def gNe : G2 := fun d e s Q => Shp d ∧ Shp e ∧ Q (.bool (!PyData.eqv d e)) s
theorem o_eq (hK : X.K = C.K) (hu : X.A.units + 64 < cLine) : OpD X C (compareOp .Eq) (rEqD C.K) gEq := ⟨hK ▸ op_eqD hu, ⟨fun G σ H s x y d e Q Q' r p1 p2 q k => ⟨d, e, p1.dp r.fin.gh, p2.dp r.fin.gh, q.1, q.2.1, k _ _ s G H q.2.2 r (Ex.refl G) Gs.refl (.bl _)⟩⟩⟩
theorem o_ne (hK : X.K = C.K) (hu : X.A.units + 64 < cLine) : OpD X C (compareOp .NotEq) (rNeD C.K) gNe := ⟨hK ▸ op_neD hu, ⟨fun G σ H s x y d e Q Q' r p1 p2 q k => ⟨d, e, p1.dp r.fin.gh, p2.dp r.fin.gh, q.1, q.2.1, k _ _ s G H q.2.2 r (Ex.refl G) Gs.refl (.bl _)⟩⟩⟩
/-- in, not in a list or a tuple of data -/
def rInB (K : PySem.W.Frag) (neg : Bool) : R2 := fun x y H Q => ∃ d e, Dp K H x d ∧ Dp K H y e ∧ seqd e = true ∧ Shp d ∧ Shp e ∧ Q (.bl (neg ^^ (its e).any fun z => PyData.eqv z d)) H
theorem shp_room {d e : PyData} {A : Around} (hd : Shp d) (hu : A.units + 65 < cLine) (ds : List PyData) : A.units + 1 + min (PyData.depthAll ds) d.depth < cLine := by
  have h1 := SeqAt.depth_of_shaped hd
  have h2 : min (PyData.depthAll ds) d.depth ≤ d.depth := Nat.min_le_right _ _
  omega
theorem op_inB (hu : X.A.units + 65 < cLine) : OpR X (compareOp .In) (rInB X.K false) := by
  intro pins s σ H x y v u Q I rx ry h
  obtain ⟨d, e, hd, he, hs, sd, se, q⟩ := h
  obtain ⟨as, r1⟩ := Dp.reads I d x v hd rx
  obtain ⟨bs, r2⟩ := Dp.reads I e y u he ry
  rw [Bool.false_xor] at q
  cases e with
  | list ds => exact SeqAt.in_list_reads r2 r1 (SeqAt.canLay_of_shaped se) (SeqAt.canLay_of_shaped sd) (shp_room (e := d) sd hu ds) ⟨.bl _, H, I, rfl, q⟩
  | tuple ds => exact SeqAt.in_tuple_reads r2 r1 (SeqAt.canLay_of_shaped se) (SeqAt.canLay_of_shaped sd) (shp_room (e := d) sd hu ds) ⟨.bl _, H, I, rfl, q⟩
  | _ => cases hs
theorem op_notInB (hu : X.A.units + 65 < cLine) : OpR X (compareOp .NotIn) (rInB X.K true) := by
  intro pins s σ H x y v u Q I rx ry h
  obtain ⟨d, e, hd, he, hs, sd, se, q⟩ := h
  obtain ⟨as, r1⟩ := Dp.reads I d x v hd rx
  obtain ⟨bs, r2⟩ := Dp.reads I e y u he ry
  rw [Bool.true_xor] at q
  cases e with
  | list ds => exact SeqAt.notIn_list_reads r2 r1 (SeqAt.canLay_of_shaped se) (SeqAt.canLay_of_shaped sd) (shp_room (e := d) sd hu ds) ⟨.bl _, H, I, rfl, q⟩
  | tuple ds => exact SeqAt.notIn_tuple_reads r2 r1 (SeqAt.canLay_of_shaped se) (SeqAt.canLay_of_shaped sd) (shp_room (e := d) sd hu ds) ⟨.bl _, H, I, rfl, q⟩
  | _ => cases hs
def gIn (neg : Bool) : G2 := fun d e s Q => seqd e = true ∧ Shp d ∧ Shp e ∧ Q (.bool (neg ^^ (its e).any fun z => PyData.eqv z d)) s
theorem r2_in {neg : Bool} : R2D C (rInB C.K neg) (gIn neg) := ⟨fun G σ H s x y d e Q Q' r p1 p2 q k => ⟨d, e, p1.dp r.fin.gh, p2.dp r.fin.gh, q.1, q.2.1, q.2.2.1, k _ _ s G H q.2.2.2 r (Ex.refl G) Gs.refl (.bl _)⟩⟩
theorem o_in (hK : X.K = C.K) (hu : X.A.units + 65 < cLine) : OpD X C (compareOp .In) (rInB C.K false) (gIn false) := ⟨hK ▸ op_inB hu, r2_in⟩
theorem o_notin (hK : X.K = C.K) (hu : X.A.units + 65 < cLine) : OpD X C (compareOp .NotIn) (rInB C.K true) (gIn true) := ⟨hK ▸ op_notInB hu, r2_in⟩
/-- is None, is not None, is of bools -/
def isNone : PyData → Bool
  | .none => true
  | _ => false
theorem pk_none {G H : Hp} {v : V} {d : PyData} (h : Pk C G H v d) : decide (v = .non) = isNone d := by
  rcases h with h | ⟨_, _, _, rfl, rfl, _⟩
  · cases h <;> rfl
  · rfl
def gIsN : G2 := fun d e s Q => e = .none ∧ Q (.bool (isNone d)) s
def gNotN : G2 := fun d e s Q => e = .none ∧ Q (.bool (!isNone d)) s
theorem pk_non {G H : Hp} {v : V} (h : Pk C G H v .none) : v = .non := by
  rcases h with h | ⟨_, _, _, _, h, _⟩
  · cases h; rfl
  · cases h
theorem o_isN : OpD X C (compareOp .Is) (fun x y H Q => y = .non ∧ Q (.bl (decide (x = .non))) H) gIsN := ⟨op_isN, ⟨fun G σ H s x y d e Q Q' r p1 p2 q k => by
  obtain ⟨rfl, q⟩ := q
  refine ⟨pk_non p2, ?_⟩
  rw [pk_none p1]
  exact k _ _ s G H q r (Ex.refl G) Gs.refl (.bl _)⟩⟩
theorem o_notN : OpD X C (compareOp .IsNot) (fun x y H Q => y = .non ∧ Q (.bl (!decide (x = .non))) H) gNotN := ⟨op_notN, ⟨fun G σ H s x y d e Q Q' r p1 p2 q k => by
  obtain ⟨rfl, q⟩ := q
  refine ⟨pk_non p2, ?_⟩
  rw [pk_none p1]
  exact k _ _ s G H q r (Ex.refl G) Gs.refl (.bl _)⟩⟩
def gIsB : G2 := fun d e s Q => ∃ a b, d = .bool a ∧ e = .bool b ∧ Q (.bool (decide (a = b))) s
def gNotB : G2 := fun d e s Q => ∃ a b, d = .bool a ∧ e = .bool b ∧ Q (.bool (!decide (a = b))) s
theorem o_isB : OpD X C (compareOp .Is) rIsB gIsB := ⟨op_isBl, ⟨fun G σ H s x y d e Q Q' r p1 p2 q k => by
  obtain ⟨a, b, rfl, rfl, q⟩ := q
  exact ⟨a, b, pk_bl p1, pk_bl p2, k _ _ s G H q r (Ex.refl G) Gs.refl (.bl _)⟩⟩⟩
theorem o_notB : OpD X C (compareOp .IsNot) rNotB gNotB := ⟨op_notBl, ⟨fun G σ H s x y d e Q Q' r p1 p2 q k => by
  obtain ⟨a, b, rfl, rfl, q⟩ := q
  exact ⟨a, b, pk_bl p1, pk_bl p2, k _ _ s G H q r (Ex.refl G) Gs.refl (.bl _)⟩⟩⟩
/-- tuple + tuple -/
def gCatT : G2 := fun d e s Q => ∃ ds es, d = .tuple ds ∧ e = .tuple es ∧ ds.length + es.length ≤ 100000 ∧ Q (.tuple (ds ++ es)) s
theorem pk_tup {G H : Hp} {v : V} {ds : List PyData} (h : Pk C G H v (.tuple ds)) : ∃ p xs, v = .ref p ∧ SqT C.K G p xs ∧ DpAll C.K G xs ds := by
  rcases h with h | ⟨_, _, _, _, h, _⟩
  · cases h with
    | tup h1 h2 => exact ⟨_, _, rfl, h1, h2⟩
  · cases h
theorem dpa_nil {K : PySem.W.Frag} {H : Hp} {ds : List PyData} (h : DpAll K H [] ds) : ds = [] := by cases h; rfl
theorem o_catT (hK : X.K = C.K) : OpD X C (binaryOp .Add) (rCatA C.K) gCatT := ⟨hK ▸ op_catA, ⟨fun G σ H s x y d e Q Q' r p1 p2 q k => by
  obtain ⟨ds, es, rfl, rfl, hl, q⟩ := q
  obtain ⟨a, xs, rfl, h1, h2⟩ := pk_tup p1
  obtain ⟨b, ys, rfl, h3, h4⟩ := pk_tup p2
  refine ⟨a, b, xs, ys, rfl, rfl, Evl.ex_t r.fin.gh h1, Evl.ex_t r.fin.gh h3, sz_of (by rw [dpa_len h2, dpa_len h4]; exact hl), fun e => ?_, fun _ e => ?_, fun _ _ p hp => ?_⟩
  · subst e
    rw [dpa_nil h2, List.nil_append] at q
    exact k _ _ s G H q r (Ex.refl G) Gs.refl (.tup h3 h4)
  · subst e
    rw [dpa_nil h4, List.append_nil] at q
    exact k _ _ s G H q r (Ex.refl G) Gs.refl (.tup h1 h2)
  · obtain ⟨r2, eg, eh⟩ := r.new (o := .tup (xs ++ ys)) hp
    exact k _ _ s _ _ q r2 eg eh (.tup (.inl (.inl upd_same)) (dpa_ex eg (dpa_app h2 h4)))⟩⟩
/-- text + text -/
def gCatS : G2 := fun d e s Q => ∃ i j, d = .str i ∧ e = .str j ∧ i.length + j.length ≤ 100000 ∧ Q (.str (i ++ j)) s
theorem o_catS : OpD X C (binaryOp .Add) (fun x y H Q => ∃ i j, x = .str i ∧ y = .str j ∧ i.length + j.length ≤ sizeLine ∧ Q (.str (i ++ j)) H) gCatS := ⟨op_add_str, ⟨fun G σ H s x y d e Q Q' r p1 p2 q k => by
  obtain ⟨i, j, rfl, rfl, hl, q⟩ := q
  exact ⟨i, j, pk_str p1, pk_str p2, sz_of hl, k _ _ s G H q r (Ex.refl G) Gs.refl (.str _)⟩⟩⟩
/-- s[i], a list or a tuple -/
def gIx : G2 := fun d e s Q => ∃ i z, seqd d = true ∧ e = .int i ∧ atI (its d) i = some z ∧ Q z s
theorem r2_ix : R2D C (rIxB C.K) gIx := ⟨fun G σ H s x y d e Q Q' r p1 p2 q k => by
  obtain ⟨i, z, hs, rfl, ha, q⟩ := q
  obtain ⟨p, xs, rfl, h1, h2⟩ := p1.seq r.fin.gh hs
  obtain ⟨v, hv, pv⟩ := atI_dpa h2 ha
  exact ⟨isT d, p, xs, i, v, rfl, pk_int p2, h1, hv, k _ _ s G H q r (Ex.refl G) Gs.refl pv⟩⟩
variable {a b e : Expr} {es : List Expr} {pos : Pos} {t ta tb tc : TE} {w wa wb wc : WE} {tA : TA} {wA : WA}
theorem de_ix (hK : X.K = C.K) (ha : DP X C a ta wa) (hb : DP X C b tb wb) (hs : PlainIx b := by exact fun _ _ => rfl) : DE X C (.Subscript a b pos) (tOp (rIxB C.K) ta tb) (w2 gIx wa wb) := ⟨pe_ix (hK ▸ ix_B) ha.pe hb.pe hs, ie_op2 r2_ix.run ha.ip hb.ip⟩
/-! ### list + list, list * int: new lists -/
def wCat (u v : WA) : WA := fun s Q => u s fun ds s1 => v s1 fun es s2 => ds.length + es.length ≤ 100000 ∧ Q (ds ++ es) s2
theorem do_cat {u v : WA} (ha : DL X C a ta u) (hb : DL X C b tb v) : DO X C (.BinOp a .Add b pos) (tOp rCat ta tb) (wCat u v) := ⟨pe_op op_cat ha.pe hb.pe, fun G σ H s Q Q' r q k =>
  ha.il G σ H s _ _ r q fun p xs ds s1 G1 H1 q1 r1 eg1 eh1 h1 n1 d1 => hb.il G1 σ H1 s1 _ _ r1 q1 fun p2 ys es s2 G2 H2 q2 r2 eg2 eh2 h2 n2 d2 =>
    ⟨p, p2, xs, ys, rfl, rfl, eh2.gr p _ n1 h1, h2, sz_of (by rw [dpa_len d1, dpa_len d2]; exact q2.1), fun l hl => own_new r q2.2 r2 (eg1.trans eg2) (eh1.trans eh2) (dpa_app (dpa_ex eg2 d1) d2) hl k⟩⟩
def wRep (u : WA) (v : WE) : WA := fun s Q => u s fun ds s1 => v s1 fun e s2 => ∃ k : Nat, e = .int k ∧ ds.length * k ≤ 100000 ∧ k ≤ 100000 ∧ Q (List.replicate k ds).flatten s2
theorem dpa_rep {K : PySem.W.Frag} {H : Hp} {xs : List V} {ds : List PyData} (h : DpAll K H xs ds) : ∀ k : Nat, DpAll K H (List.replicate k xs).flatten (List.replicate k ds).flatten
  | 0 => .nil
  | k + 1 => by
    rw [List.replicate_succ, List.replicate_succ, List.flatten_cons, List.flatten_cons]
    exact dpa_app h (dpa_rep h k)
theorem do_rep {u : WA} {v : WE} (ha : DL X C a ta u) (hb : DE X C b tb v) : DO X C (.BinOp a .Mult b pos) (tOp rRep ta tb) (wRep u v) := ⟨pe_op op_rep ha.pe hb.pe, fun G σ H s Q Q' r q k =>
  ha.il G σ H s _ _ r q fun p xs ds s1 G1 H1 q1 r1 eg1 eh1 h1 n1 d1 => hb.ie G1 σ H1 s1 _ _ r1 q1 fun v2 es s2 G2 H2 q2 r2 eg2 eh2 d2 => by
    obtain ⟨m, rfl, hm, hm2, q2⟩ := q2
    refine ⟨p, m, xs, rfl, dp_int d2, eh2.gr p _ n1 h1, by omega, by omega, sz_of (by rw [dpa_len d1]; simpa using hm), fun l hl => own_new r q2 r2 (eg1.trans eg2) (eh1.trans eh2) (by simpa using dpa_rep (dpa_ex eg2 d1) m) hl k⟩⟩
end
end Dw

namespace Dw
open PySem PySem.Spec PyProof.Rows L2 OgR Evl
/-! ### built-ins of one argument -/
abbrev G1 := PyData → Dt → (PyData → Dt → Prop) → Prop
structure R1D (C : Ct) (r : List V → Hp → VK → Prop) (g : G1) : Prop where
  run : ∀ G σ H s x d Q Q', Rel C G σ H s → Pk C G H x d → g d s Q → (∀ v z s' G' H', Q z s' → Rel C G' σ H' s' → Ex G G' → Gs C σ G H s G' H' s' → Dp C.K G' v z → Q' v H') → r [x] H Q'
/-- .. that give a new list -/
structure R1O (C : Ct) (r : List V → Hp → VK → Prop) (g : PyData → Dt → (List PyData → Dt → Prop) → Prop) : Prop where
  run : ∀ G σ H s x d Q Q', Rel C G σ H s → Pk C G H x d → g d s Q → (∀ vs ds p, Q ds s → DpAll C.K G vs ds → H p = none → Q' (.ref p) (upd H p (.lst vs))) → r [x] H Q'
def w1 (g : G1) (wa : WE) : WE := fun s Q => wa s fun d s1 => g d s1 Q
def w1O (g : PyData → Dt → (List PyData → Dt → Prop) → Prop) (wa : WE) : WA := fun s Q => wa s fun d s1 => g d s1 Q
section
variable {X : Cx} {C : Ct} {a b e : Expr} {es : List Expr} {pos p : Pos} {t ta tb tc : TE} {w wa wb wc : WE} {tA : TA} {wA : WA} {x : Str} {bid : String} {r : List V → Hp → VK → Prop} {g : G1} {gO : PyData → Dt → (List PyData → Dt → Prop) → Prop}
theorem ie_1 (hr : R1D C r g) (ha : IP C ta wa) : IE C (tCB r (tCons ta tNil)) (w1 g wa) := fun G σ H s Q Q' rr q k => ha G σ H s _ _ rr q fun v d s1 G1 H1 q1 r1 eg eh pk =>
  hr.run G1 σ H1 s1 v d _ _ r1 pk q1 fun v2 z s2 G2 H2 q2 r2 eg2 eh2 p2 => k v2 z s2 G2 H2 q2 r2 (eg.trans eg2) (eh.trans eh2) p2
theorem io_1 (hr : R1O C r gO) (ha : IP C ta wa) : IO C (tCB r (tCons ta tNil)) (w1O gO wa) := fun G σ H s Q Q' rr q k => ha G σ H s _ _ rr q fun v d s1 G1 H1 q1 r1 eg eh pk =>
  hr.run G1 σ H1 s1 v d _ _ r1 pk q1 fun vs ds p q2 hd hp => own_new rr q2 r1 eg eh hd hp k
theorem de_b1 (hc : CallR X (.builtin bid) r) (hr : R1D C r g) (hg : Gl X x) (hm : X.mg x = none) (hv : bootBuiltins x = some (.builtin bid)) (ha : DP X C a ta wa) (hn : x ≠ "__name__" := by decide) (hdb : (x == ("__debug__" : Str)) = false := by decide)
    (hs : starEach [a] X.env = (false, eval a X.env) :: starEach [] X.env := by rfl) : DE X C (.Call (.Name x p) [a] [] pos) (tCB r (tCons ta tNil)) (w1 g wa) := ⟨pe_callB hc hg hm hv (pa_cons ha.pe pa_nil hs) hn hdb hs, ie_1 hr ha.ip⟩
theorem de_t1 (hc : CallR X (.type bid) r) (hr : R1D C r g) (hg : Gl X x) (hm : X.mg x = none) (hv : bootBuiltins x = some (.type bid)) (ha : DP X C a ta wa) (hn : x ≠ "__name__" := by decide) (hdb : (x == ("__debug__" : Str)) = false := by decide)
    (hs : starEach [a] X.env = (false, eval a X.env) :: starEach [] X.env := by rfl) : DE X C (.Call (.Name x p) [a] [] pos) (tCB r (tCons ta tNil)) (w1 g wa) := ⟨pe_callTy hc hg hm hv (pa_cons ha.pe pa_nil hs) hn hdb hs, ie_1 hr ha.ip⟩
theorem do_b1 (hc : CallR X (.builtin bid) r) (hr : R1O C r gO) (hg : Gl X x) (hm : X.mg x = none) (hv : bootBuiltins x = some (.builtin bid)) (ha : DP X C a ta wa) (hn : x ≠ "__name__" := by decide) (hdb : (x == ("__debug__" : Str)) = false := by decide)
    (hs : starEach [a] X.env = (false, eval a X.env) :: starEach [] X.env := by rfl) : DO X C (.Call (.Name x p) [a] [] pos) (tCB r (tCons ta tNil)) (w1O gO wa) := ⟨pe_callB hc hg hm hv (pa_cons ha.pe pa_nil hs) hn hdb hs, io_1 hr ha.ip⟩
theorem do_t1 (hc : CallR X (.type bid) r) (hr : R1O C r gO) (hg : Gl X x) (hm : X.mg x = none) (hv : bootBuiltins x = some (.type bid)) (ha : DP X C a ta wa) (hn : x ≠ "__name__" := by decide) (hdb : (x == ("__debug__" : Str)) = false := by decide)
    (hs : starEach [a] X.env = (false, eval a X.env) :: starEach [] X.env := by rfl) : DO X C (.Call (.Name x p) [a] [] pos) (tCB r (tCons ta tNil)) (w1O gO wa) := ⟨pe_callTy hc hg hm hv (pa_cons ha.pe pa_nil hs) hn hdb hs, io_1 hr ha.ip⟩
/-! len -/
def lenD : PyData → Option Nat
  | .list ds => some ds.length
  | .tuple ds => some ds.length
  | .str z => if z.length ≤ 100000 then some z.length else none
  | _ => none
def gLen : G1 := fun d s Q => ∃ n : Nat, lenD d = some n ∧ Q (.int n) s
theorem r1_len : R1D C (fun xs H Q => ∃ x n, xs = [x] ∧ LenV C.K x H n ∧ Q (.int n) H) gLen := ⟨fun G σ H s x d Q Q' r pk q k => by
  obtain ⟨n, hn, q⟩ := q
  refine ⟨x, n, rfl, ?_, k _ _ s G H q r (Ex.refl G) Gs.refl (.int _)⟩
  have hd := pk.dp r.fin.gh
  cases d with
  | list ds =>
    cases hd with
    | lst h1 h2 => cases hn; exact .inl ⟨_, h1, (dpa_len h2).symm⟩
  | tuple ds =>
    cases hd with
    | tup h1 h2 => cases hn; exact .inr ⟨_, h1, (dpa_len h2).symm⟩
  | str z =>
    cases hd
    have hb' : (if z.length ≤ 100000 then some z.length else none) = some n := hn
    split at hb'
    · rename_i hy
      cases hb'
      exact ⟨sz_of hy, rfl⟩
    · cases hb'
  | none => cases hn
  | bool _ => cases hn
  | int _ => cases hn
  | dict _ => cases hn⟩
theorem de_len (hK : X.K = C.K) (hg : Gl X "len") (hm : X.mg "len" = none) (ha : DP X C a ta wa) (hs : starEach [a] X.env = (false, eval a X.env) :: starEach [] X.env := by rfl) :
    DE X C (.Call (.Name "len" p) [a] [] pos) (tCB (fun xs H Q => ∃ x n, xs = [x] ∧ LenV C.K x H n ∧ Q (.int n) H) (tCons ta tNil)) (w1 gLen wa) := de_b1 (hK ▸ call_len) r1_len hg hm PySem.boot_len ha (by decide) (by decide) hs
/-! tuple(x), list(x) -/
def gTupleOf : G1 := fun d s Q => seqd d = true ∧ Q (.tuple (its d)) s
def rTupleOf (K : PySem.W.Frag) : List V → Hp → VK → Prop := fun xs H Q => ∃ p ys, xs = [.ref p] ∧ ((SqL K H p ys ∧ ∀ l, H l = none → Q (.ref l) (upd H l (.tup ys))) ∨ (SqT K H p ys ∧ Q (.ref p) H))
theorem r1_tupleOf : R1D C (rTupleOf C.K) gTupleOf := ⟨fun G σ H s x d Q Q' r pk q k => by
  obtain ⟨hs, q⟩ := q
  obtain ⟨p, xs, rfl, h1, h2⟩ := pk.seq r.fin.gh hs
  refine ⟨p, xs, rfl, ?_⟩
  cases d with
  | list ds =>
    refine .inl ⟨h1, fun l hl => ?_⟩
    obtain ⟨r2, eg, eh⟩ := r.new (o := .tup xs) hl
    exact k _ _ s _ _ q r2 eg eh (.tup (.inl (.inl upd_same)) (dpa_ex eg h2))
  | tuple ds =>
    obtain ⟨p', xs', e, h3, h4⟩ := pk_tup pk
    cases e
    exact .inr ⟨h1, k _ _ s G H q r (Ex.refl G) Gs.refl (.tup h3 h4)⟩
  | _ => cases hs⟩
theorem de_tupleOf (hK : X.K = C.K) (hg : Gl X "tuple") (hm : X.mg "tuple" = none) (ha : DP X C a ta wa) (hs : starEach [a] X.env = (false, eval a X.env) :: starEach [] X.env := by rfl) :
    DE X C (.Call (.Name "tuple" p) [a] [] pos) (tCB (rTupleOf C.K) (tCons ta tNil)) (w1 gTupleOf wa) := de_t1 (hK ▸ call_tuple_of) r1_tupleOf hg hm (by decide +kernel) ha (by decide) (by decide) hs
def gListOf : PyData → Dt → (List PyData → Dt → Prop) → Prop := fun d s Q => seqd d = true ∧ Q (its d) s
def rListOf (K : PySem.W.Frag) : List V → Hp → VK → Prop := fun xs H Q => ∃ p ys, xs = [.ref p] ∧ (SqL K H p ys ∨ SqT K H p ys) ∧ ∀ l, H l = none → Q (.ref l) (upd H l (.lst ys))
theorem r1_listOf : R1O C (rListOf C.K) gListOf := ⟨fun G σ H s x d Q Q' r pk q k => by
  obtain ⟨hs, q⟩ := q
  obtain ⟨p, xs, rfl, h1, h2⟩ := pk.seq r.fin.gh hs
  refine ⟨p, xs, rfl, ?_, fun l hl => k xs _ l q h2 hl⟩
  cases d with
  | list ds => exact .inl h1
  | tuple ds => exact .inr h1
  | _ => cases hs⟩
theorem do_listOf (hK : X.K = C.K) (hg : Gl X "list") (hm : X.mg "list" = none) (ha : DP X C a ta wa) (hs : starEach [a] X.env = (false, eval a X.env) :: starEach [] X.env := by rfl) :
    DO X C (.Call (.Name "list" p) [a] [] pos) (tCB (rListOf C.K) (tCons ta tNil)) (w1O gListOf wa) := do_t1 (hK ▸ call_list_of) r1_listOf hg hm (by decide +kernel) ha (by decide) (by decide) hs
/-- list(range(n)) -/
def iotaD (a b : Int) : List PyData := (List.range (b - a).toNat).map fun (i : Nat) => .int (a + (i : Nat))
theorem dpa_iota {K : PySem.W.Frag} {H : Hp} (a b : Int) : DpAll K H (rgV a b) (iotaD a b) := by
  unfold rgV iotaD
  generalize List.range (b - a).toNat = l
  induction l with
  | nil => exact .nil
  | cons x l ih => exact .cons (.int _) ih
def wRg1 (wa : WE) : WA := fun s Q => wa s fun d s1 => ∃ n : Int, d = .int n ∧ 0 ≤ n ∧ n ≤ 100000 ∧ Q (iotaD 0 n) s1
theorem do_listRg {p2 pos2 : Pos} (hc : X.calm = true) (hg : Gl X "list") (hm : X.mg "list" = none) (hg2 : Gl X "range") (hm2 : X.mg "range" = none) (ha : DE X C a ta wa) (hs : starEach [a] X.env = (false, eval a X.env) :: starEach [] X.env := by rfl)
    (hs2 : starEach [.Call (.Name "range" p2) [a] [] pos2] X.env = (false, eval (.Call (.Name "range" p2) [a] [] pos2) X.env) :: starEach [] X.env := by rfl) :
    DO X C (.Call (.Name "list" p) [.Call (.Name "range" p2) [a] [] pos2] [] pos) (tLstRg (tRg1 ta)) (wRg1 wa) := ⟨pe_listRg hc hg hm (prg_1 hg2 hm2 ha.pe hs) hs2, fun G σ H s Q Q' r q k =>
  ha.ie G σ H s _ _ r q fun v d s1 G1 H1 q1 r1 eg eh p => by
    obtain ⟨n, rfl, h0, h1, q1⟩ := q1
    exact ⟨n, dp_int p, RgOk.of_le (by decide) (by omega) (by decide) h0, fun l hl => own_new r q1 r1 eg eh (dpa_iota 0 n) hl k⟩⟩
/-! sum, all, any, abs, int, str, min, max -/
def gSum : G1 := fun d s Q => ∃ ns : List Int, d = .list (ns.map .int) ∧ Q (.int ns.sum) s
theorem pk_lst {G H : Hp} {v : V} {ds : List PyData} (h : Pk C G H v (.list ds)) (e : Ex G H) : ∃ p xs, v = .ref p ∧ SqL C.K H p xs ∧ DpAll C.K G xs ds := h.seq e rfl
theorem r1_sum : R1D C (rSum C.K) gSum := ⟨fun G σ H s x d Q Q' r pk q k => by
  obtain ⟨ns, rfl, q⟩ := q
  obtain ⟨p, xs, rfl, h1, h2⟩ := pk_lst pk r.fin.gh
  rw [ints_dpa h2] at h1
  exact ⟨p, ns, rfl, h1, k _ _ s G H q r (Ex.refl G) Gs.refl (.int _)⟩⟩
theorem de_sum (hK : X.K = C.K) (hc : X.calm = true) (hg : Gl X "sum") (hm : X.mg "sum" = none) (ha : DP X C a ta wa) (hs : starEach [a] X.env = (false, eval a X.env) :: starEach [] X.env := by rfl) :
    DE X C (.Call (.Name "sum" p) [a] [] pos) (tCB (rSum C.K) (tCons ta tNil)) (w1 gSum wa) := de_b1 (hK ▸ cr_sum hc) r1_sum hg hm (by decide +kernel) ha (by decide) (by decide) hs
theorem bls_dpa {K : PySem.W.Frag} {H : Hp} : ∀ {ns : List Bool} {xs : List V}, DpAll K H xs (ns.map PyData.bool) → xs = ns.map V.bl
  | [], _, .nil => rfl
  | _ :: _, _, .cons h t => by
    cases h
    rw [bls_dpa t]
    rfl
def gAll : G1 := fun d s Q => ∃ bs : List Bool, d = .list (bs.map .bool) ∧ Q (.bool (bs.all id)) s
def gAny : G1 := fun d s Q => ∃ bs : List Bool, d = .list (bs.map .bool) ∧ Q (.bool (bs.any id)) s
theorem r1_all : R1D C (rAll C.K) gAll := ⟨fun G σ H s x d Q Q' r pk q k => by
  obtain ⟨ns, rfl, q⟩ := q
  obtain ⟨p, xs, rfl, h1, h2⟩ := pk_lst pk r.fin.gh
  rw [bls_dpa h2] at h1
  exact ⟨p, ns, rfl, h1, k _ _ s G H q r (Ex.refl G) Gs.refl (.bl _)⟩⟩
theorem r1_any : R1D C (rAny C.K) gAny := ⟨fun G σ H s x d Q Q' r pk q k => by
  obtain ⟨ns, rfl, q⟩ := q
  obtain ⟨p, xs, rfl, h1, h2⟩ := pk_lst pk r.fin.gh
  rw [bls_dpa h2] at h1
  exact ⟨p, ns, rfl, h1, k _ _ s G H q r (Ex.refl G) Gs.refl (.bl _)⟩⟩
theorem de_all (hK : X.K = C.K) (hc : X.calm = true) (hg : Gl X "all") (hm : X.mg "all" = none) (ha : DP X C a ta wa) (hs : starEach [a] X.env = (false, eval a X.env) :: starEach [] X.env := by rfl) :
    DE X C (.Call (.Name "all" p) [a] [] pos) (tCB (rAll C.K) (tCons ta tNil)) (w1 gAll wa) := de_b1 (hK ▸ cr_all hc) r1_all hg hm (by decide +kernel) ha (by decide) (by decide) hs
theorem de_any (hK : X.K = C.K) (hc : X.calm = true) (hg : Gl X "any") (hm : X.mg "any" = none) (ha : DP X C a ta wa) (hs : starEach [a] X.env = (false, eval a X.env) :: starEach [] X.env := by rfl) :
    DE X C (.Call (.Name "any" p) [a] [] pos) (tCB (rAny C.K) (tCons ta tNil)) (w1 gAny wa) := de_b1 (hK ▸ cr_any hc) r1_any hg hm (by decide +kernel) ha (by decide) (by decide) hs
def gInt : G1 := fun d s Q => (∃ i, d = .int i ∧ Q (.int i) s) ∨ ∃ b, d = .bool b ∧ Q (.int (if b then 1 else 0)) s
theorem r1_int : R1D C (fun xs H Q => (∃ i, xs = [.int i] ∧ Q (.int i) H) ∨ ∃ k, xs = [.bl k] ∧ Q (.int (if k then 1 else 0)) H) gInt := ⟨fun G σ H s x d Q Q' r pk q k => by
  rcases q with ⟨i, rfl, q⟩ | ⟨b, rfl, q⟩
  · exact .inl ⟨i, by rw [pk_int pk], k _ _ s G H q r (Ex.refl G) Gs.refl (.int _)⟩
  · exact .inr ⟨b, by rw [pk_bl pk], k _ _ s G H q r (Ex.refl G) Gs.refl (.int _)⟩⟩
theorem de_toInt (hg : Gl X "int") (hm : X.mg "int" = none) (ha : DP X C a ta wa) (hs : starEach [a] X.env = (false, eval a X.env) :: starEach [] X.env := by rfl) :
    DE X C (.Call (.Name "int" p) [a] [] pos) (tCB (fun xs H Q => (∃ i, xs = [.int i] ∧ Q (.int i) H) ∨ ∃ k, xs = [.bl k] ∧ Q (.int (if k then 1 else 0)) H) (tCons ta tNil)) (w1 gInt wa) := de_t1 call_int1 r1_int hg hm (by decide +kernel) ha (by decide) (by decide) hs
def gStr : G1 := fun d s Q => ∃ i : Int, d = .int i ∧ i.natAbs < 2 ^ 1000 ∧ Q (.str (toString i)) s
theorem r1_str : R1D C (fun xs H Q => ∃ i : Int, xs = [.int i] ∧ i.natAbs.log2 < 1920 ∧ Q (.str (toString i)) H) gStr := ⟨fun G σ H s x d Q Q' r pk q k => by
  obtain ⟨i, rfl, hi, q⟩ := q
  refine ⟨i, by rw [pk_int pk], ?_, k _ _ s G H q r (Ex.refl G) Gs.refl (.str _)⟩
  by_cases hz : i.natAbs = 0
  · rw [hz]
    decide
  · exact (Nat.log2_lt hz).mpr (Nat.lt_of_lt_of_le hi (Nat.pow_le_pow_right (by decide) (by decide)))⟩
theorem de_toStr (hg : Gl X "str") (hm : X.mg "str" = none) (ha : DP X C a ta wa) (hs : starEach [a] X.env = (false, eval a X.env) :: starEach [] X.env := by rfl) :
    DE X C (.Call (.Name "str" p) [a] [] pos) (tCB (fun xs H Q => ∃ i : Int, xs = [.int i] ∧ i.natAbs.log2 < 1920 ∧ Q (.str (toString i)) H) (tCons ta tNil)) (w1 gStr wa) := de_t1 call_str_int r1_str hg hm (by decide +kernel) ha (by decide) (by decide) hs
/-- max(a, b), min(a, b) of ints -/
def w2a (g : G2) (wa wb : WE) : WE := fun s Q => wa s fun d s1 => wb s1 fun e s2 => g d e s2 Q
theorem ie_2a {f : Int → Int → Int} (ha : IE C ta wa) (hb : IE C tb wb) : IE C (tCB (fun xs H Q => ∃ i j, xs = [.int i, .int j] ∧ Q (.int (f i j)) H) (tCons ta (tCons tb tNil))) (w2a (gI0 fun i j => .int (f i j)) wa wb) := fun G σ H s Q Q' r q k =>
  ha G σ H s _ _ r q fun v d s1 G1 H1 q1 r1 eg1 eh1 p1 => hb G1 σ H1 s1 _ _ r1 q1 fun v2 d2 s2 G2 H2 q2 r2 eg2 eh2 p2 => by
    obtain ⟨i, j, rfl, rfl, q3⟩ := q2
    exact ⟨i, j, by rw [dp_int p1, dp_int p2], k _ _ s2 G2 H2 q3 r2 (eg1.trans eg2) (eh1.trans eh2) (.int _)⟩
theorem de_max2 (hc : X.calm = true) (hg : Gl X "max") (hm : X.mg "max" = none) (ha : DE X C a ta wa) (hb : DE X C b tb wb) (hs : starEach [a, b] X.env = (false, eval a X.env) :: starEach [b] X.env := by rfl) (hs2 : starEach [b] X.env = (false, eval b X.env) :: starEach [] X.env := by rfl) (hpl : (backTo pos (starEach [b] X.env)).any (·.1) = false := by rfl) :
    DE X C (.Call (.Name "max" p) [a, b] [] pos) (tCB (fun xs H Q => ∃ i j, xs = [.int i, .int j] ∧ Q (.int (if j > i then j else i)) H) (tCons ta (tCons tb tNil))) (w2a (gI0 fun i j => .int (if j > i then j else i)) wa wb) :=
  ⟨pe_callB (call_max2 hc) hg hm (by decide +kernel) (pa_cons ha.pe (pa_cons hb.pe pa_nil hs2) hs) (by decide) (by decide) hs hpl, ie_2a ha.ie hb.ie⟩
theorem de_min2 (hc : X.calm = true) (hg : Gl X "min") (hm : X.mg "min" = none) (ha : DE X C a ta wa) (hb : DE X C b tb wb) (hs : starEach [a, b] X.env = (false, eval a X.env) :: starEach [b] X.env := by rfl) (hs2 : starEach [b] X.env = (false, eval b X.env) :: starEach [] X.env := by rfl) (hpl : (backTo pos (starEach [b] X.env)).any (·.1) = false := by rfl) :
    DE X C (.Call (.Name "min" p) [a, b] [] pos) (tCB (fun xs H Q => ∃ i j, xs = [.int i, .int j] ∧ Q (.int (if j < i then j else i)) H) (tCons ta (tCons tb tNil))) (w2a (gI0 fun i j => .int (if j < i then j else i)) wa wb) :=
  ⟨pe_callB (call_min2 hc) hg hm (by decide +kernel) (pa_cons ha.pe (pa_cons hb.pe pa_nil hs2) hs) (by decide) (by decide) hs hpl, ie_2a ha.ie hb.ie⟩
/-- sorted(s) of ints -/
def sortI (ns : List Int) : List Int := ns.mergeSort fun a b => decide (a ≤ b)
theorem perm_sorted_eq : ∀ {a b : List Int}, a.Perm b → a.Pairwise (· ≤ ·) → b.Pairwise (· ≤ ·) → a = b := by
  intro a b h ha hb
  exact h.eq_of_pairwise (le := (· ≤ ·)) (fun x y _ _ h1 h2 => Int.le_antisymm h1 h2) ha hb
theorem sortI_eq {ks ns : List Int} (h : ks.Perm ns) (hk : ks.Pairwise (· ≤ ·)) : ks = sortI ns := by
  refine perm_sorted_eq (h.trans (List.mergeSort_perm ns _).symm) hk ?_
  have := List.pairwise_mergeSort (le := fun a b : Int => decide (a ≤ b)) (fun a b c h1 h2 => by simp at *; omega) (fun a b => by simp; omega) ns
  exact this.imp fun h => by simpa using h
def gSorted : PyData → Dt → (List PyData → Dt → Prop) → Prop := fun d s Q => ∃ ns : List Int, seqd d = true ∧ its d = ns.map .int ∧ Q ((sortI ns).map .int) s
theorem r1_sorted : R1O C (rSrtB C.K) gSorted := ⟨fun G σ H s x d Q Q' r pk q k => by
  obtain ⟨ns, hs, he, q⟩ := q
  obtain ⟨p, xs, rfl, h1, h2⟩ := pk.seq r.fin.gh hs
  rw [he] at h2
  rw [ints_dpa h2] at h1
  refine ⟨isT d, p, ns, rfl, h1, fun ks l hp hk hl => ?_⟩
  rw [sortI_eq hp hk]
  exact k _ _ l q (dpa_ints _) hl⟩
theorem do_sorted (hK : X.K = C.K) (hg : Gl X "sorted") (hm : X.mg "sorted" = none) (ha : DP X C a ta wa) (hs : starEach [a] X.env = (false, eval a X.env) :: starEach [] X.env := by rfl) :
    DO X C (.Call (.Name "sorted" p) [a] [] pos) (tCB (rSrtB C.K) (tCons ta tNil)) (w1O gSorted wa) := do_b1 (hK ▸ cr_srtB) r1_sorted hg hm (by decide +kernel) ha (by decide) (by decide) hs
/-- min(t) of a tuple of ints -/
def minI : Int → List Int → Int
  | x, [] => x
  | x, y :: ys => minI (if y < x then y else x) ys
def rMinT (K : PySem.W.Frag) : List V → Hp → VK → Prop := fun vs H Q => ∃ (a : Addr) (ns : List Int), vs = [V.ref a] ∧ SqT K H a (ns.map V.int) ∧ 0 < ns.length ∧ ∀ m, m ∈ ns → (∀ y, y ∈ ns → m ≤ y) → Q (.int m) H
end
end Dw

namespace Dw
open PySem PySem.Spec PyProof.Rows L2 OgR Evl
/-! ### isinstance -/
theorem tyx_L {K : PySem.W.Frag} {H : Hp} {a : Addr} {xs : List V} (h : SqL K H a xs) : TyX K H (.ref a) (.type "list") := by
  rcases h with (h | ⟨o, h⟩) | ⟨o, _, _, hk, hc, _⟩
  · exact .base (.lst h)
  · exact .base (.frz h)
  · exact .kList hk hc
theorem tyx_T {K : PySem.W.Frag} {H : Hp} {a : Addr} {xs : List V} (h : SqT K H a xs) : TyX K H (.ref a) (.type "tuple") := by
  rcases h with (h | ⟨o, h⟩) | ⟨o, _, _, hk, hc, _⟩
  · exact .base (.tup h)
  · exact .fTuple h
  · exact .kTuple hk hc
def tyN : PyData → String
  | .none => "NoneType"
  | .bool _ => "bool"
  | .int _ => "int"
  | .str _ => "str"
  | .list _ => "list"
  | .tuple _ => "tuple"
  | .dict _ => "dict"
theorem tyx_D {K : PySem.W.Frag} {H : Hp} {v : V} {d : PyData} (h : Dp K H v d) : TyX K H v (.type (tyN d)) := by
  cases h with
  | non => exact .base .non
  | bl b => exact .base (.bl b)
  | int i => exact .base (.int i)
  | str x => exact .base (.str x)
  | lst h _ => exact tyx_L h
  | tup h _ => exact tyx_T h
/-- whether data is of a built-in class -/
inductive Ty where
  | int | bool | str | list | tuple
def Ty.nm : Ty → String
  | .int => "int"
  | .bool => "bool"
  | .str => "str"
  | .list => "list"
  | .tuple => "tuple"
def isA : Ty → PyData → Bool
  | .int, .int _ => true
  | .int, .bool _ => true
  | .bool, .bool _ => true
  | .str, .str _ => true
  | .list, .list _ => true
  | .tuple, .tuple _ => true
  | _, _ => false
theorem kt (T : Ty) (d : PyData) : kitB (tyN d) T.nm = some (isA T d) := by
  cases T with
  | int =>
    cases d with
    | none => exact (show kitB "NoneType" "int" = some false by decide +kernel)
    | bool _ => exact (show kitB "bool" "int" = some true by decide +kernel)
    | int _ => exact (show kitB "int" "int" = some true by decide +kernel)
    | str _ => exact (show kitB "str" "int" = some false by decide +kernel)
    | list _ => exact (show kitB "list" "int" = some false by decide +kernel)
    | tuple _ => exact (show kitB "tuple" "int" = some false by decide +kernel)
    | dict _ => exact (show kitB "dict" "int" = some false by decide +kernel)
  | bool =>
    cases d with
    | none => exact (show kitB "NoneType" "bool" = some false by decide +kernel)
    | bool _ => exact (show kitB "bool" "bool" = some true by decide +kernel)
    | int _ => exact (show kitB "int" "bool" = some false by decide +kernel)
    | str _ => exact (show kitB "str" "bool" = some false by decide +kernel)
    | list _ => exact (show kitB "list" "bool" = some false by decide +kernel)
    | tuple _ => exact (show kitB "tuple" "bool" = some false by decide +kernel)
    | dict _ => exact (show kitB "dict" "bool" = some false by decide +kernel)
  | str =>
    cases d with
    | none => exact (show kitB "NoneType" "str" = some false by decide +kernel)
    | bool _ => exact (show kitB "bool" "str" = some false by decide +kernel)
    | int _ => exact (show kitB "int" "str" = some false by decide +kernel)
    | str _ => exact (show kitB "str" "str" = some true by decide +kernel)
    | list _ => exact (show kitB "list" "str" = some false by decide +kernel)
    | tuple _ => exact (show kitB "tuple" "str" = some false by decide +kernel)
    | dict _ => exact (show kitB "dict" "str" = some false by decide +kernel)
  | list =>
    cases d with
    | none => exact (show kitB "NoneType" "list" = some false by decide +kernel)
    | bool _ => exact (show kitB "bool" "list" = some false by decide +kernel)
    | int _ => exact (show kitB "int" "list" = some false by decide +kernel)
    | str _ => exact (show kitB "str" "list" = some false by decide +kernel)
    | list _ => exact (show kitB "list" "list" = some true by decide +kernel)
    | tuple _ => exact (show kitB "tuple" "list" = some false by decide +kernel)
    | dict _ => exact (show kitB "dict" "list" = some false by decide +kernel)
  | tuple =>
    cases d with
    | none => exact (show kitB "NoneType" "tuple" = some false by decide +kernel)
    | bool _ => exact (show kitB "bool" "tuple" = some false by decide +kernel)
    | int _ => exact (show kitB "int" "tuple" = some false by decide +kernel)
    | str _ => exact (show kitB "str" "tuple" = some false by decide +kernel)
    | list _ => exact (show kitB "list" "tuple" = some false by decide +kernel)
    | tuple _ => exact (show kitB "tuple" "tuple" = some true by decide +kernel)
    | dict _ => exact (show kitB "dict" "tuple" = some false by decide +kernel)
theorem kit2 {K : PySem.W.Frag} {x a b : String} {b1 b2 : Bool} (h1 : kitB x a = some b1) (h2 : kitB x b = some b2) : PySem.W.kitAny K (.type x) [.type a, .type b] = some (b1 || b2) := by
  cases b1 with
  | true => exact kitAny_cons (kit_ty h1) (fun e => nomatch e) (fun _ => rfl)
  | false =>
    cases b2 with
    | true => exact kitAny_cons (kit_ty h1) (fun _ => kitAny_cons (kit_ty h2) (fun e => nomatch e) (fun _ => rfl)) (fun e => nomatch e)
    | false => exact kitAny_cons (kit_ty h1) (fun _ => kitAny_cons (kit_ty h2) (fun _ => kitAny_nil) (fun e => nomatch e)) (fun e => nomatch e)
section
variable {X : Cx} {C : Ct} {a b e : Expr} {es : List Expr} {pos p : Pos} {t ta tb tc : TE} {w wa wb wc : WE} {tA : TA} {wA : WA} {x : Str}
def wIsi (T : Ty) (wa : WE) : WE := fun s Q => wa s fun d s1 => Q (.bool (isA T d)) s1
theorem ie_isi {T : Ty} (ha : IP C ta wa) : IE C (tCB (rIsi C.K) (tCons ta (tCons (tC (.ty T.nm)) tNil))) (wIsi T wa) := fun G σ H s Q Q' r q k =>
  ha G σ H s _ _ r q fun v d s1 G1 H1 q1 r1 eg eh pk => ⟨v, _, _, _, isA T d, rfl, .ty _, tyx_D (pk.dp r1.fin.gh), kit_ty (kt T d), k _ _ s1 G1 H1 q1 r1 eg eh (.bl _)⟩
theorem de_isi (T : Ty) {y : Str} {p2 : Pos} (hK : X.K = C.K) (hg : Gl X "isinstance") (hm : X.mg "isinstance" = none) (hg2 : Gl X y) (hm2 : X.mg y = none) (hb2 : bootBuiltins y = some (.type T.nm)) (ha : DP X C a ta wa)
    (hs : starEach [a, .Name y p2] X.env = (false, eval a X.env) :: starEach [.Name y p2] X.env := by rfl) (hpl : (backTo pos (starEach [.Name y p2] X.env)).any (·.1) = false := by rfl) (hny : y ≠ "__name__" := by decide) (hdy : (y == ("__debug__" : Str)) = false := by decide)
    (hs2 : starEach [.Name y p2] X.env = (false, eval (.Name y p2) X.env) :: starEach [] X.env := by rfl) :
    DE X C (.Call (.Name "isinstance" p) [a, .Name y p2] [] pos) (tCB (rIsi C.K) (tCons ta (tCons (tC (.ty T.nm)) tNil))) (wIsi T wa) :=
  ⟨pe_callB (hK ▸ call_isi) hg hm (by decide +kernel) (pa_cons ha.pe (pa_cons (pe_bltn (v := .ty T.nm) hg2 hm2 hb2 rfl hny hdy) pa_nil hs2) hs) (by decide) (by decide) hs hpl, ie_isi ha.ip⟩
def wIsi2 (T U : Ty) (wa : WE) : WE := fun s Q => wa s fun d s1 => Q (.bool (isA T d || isA U d)) s1
theorem de_isi2 (T U : Ty) {y z : Str} {p2 p3 p4 : Pos} {kk} (hK : X.K = C.K) (hg : Gl X "isinstance") (hm : X.mg "isinstance" = none) (hg2 : Gl X y) (hm2 : X.mg y = none) (hb2 : bootBuiltins y = some (.type T.nm))
    (hg3 : Gl X z) (hm3 : X.mg z = none) (hb3 : bootBuiltins z = some (.type U.nm)) (ha : DP X C a ta wa)
    (hs : starEach [a, .Tuple [.Name y p2, .Name z p3] kk p4] X.env = (false, eval a X.env) :: starEach [.Tuple [.Name y p2, .Name z p3] kk p4] X.env := by rfl) (hpl : (backTo pos (starEach [.Tuple [.Name y p2, .Name z p3] kk p4] X.env)).any (·.1) = false := by rfl)
    (hny : y ≠ "__name__" := by decide) (hdy : (y == ("__debug__" : Str)) = false := by decide) (hnz : z ≠ "__name__" := by decide) (hdz : (z == ("__debug__" : Str)) = false := by decide)
    (hs2 : starEach [.Tuple [.Name y p2, .Name z p3] kk p4] X.env = (false, eval (.Tuple [.Name y p2, .Name z p3] kk p4) X.env) :: starEach [] X.env := by rfl)
    (hs3 : starEach [.Name y p2, .Name z p3] X.env = (false, eval (.Name y p2) X.env) :: starEach [.Name z p3] X.env := by rfl) (hs4 : starEach [.Name z p3] X.env = (false, eval (.Name z p3) X.env) :: starEach [] X.env := by rfl) :
    DE X C (.Call (.Name "isinstance" p) [a, .Tuple [.Name y p2, .Name z p3] kk p4] [] pos) (tCB (rIsiT C.K) (tCons ta (tCons (tTup (tCons (tC (.ty T.nm)) (tCons (tC (.ty U.nm)) tNil))) tNil))) (wIsi2 T U wa) :=
  ⟨pe_callB (hK ▸ call_isiT) hg hm (by decide +kernel) (pa_cons ha.pe (pa_cons (pe_tup (pa_cons (pe_bltn (v := .ty T.nm) hg2 hm2 hb2 rfl hny hdy) (pa_cons (pe_bltn (v := .ty U.nm) hg3 hm3 hb3 rfl hnz hdz) pa_nil hs4) hs3)) pa_nil hs2) hs) (by decide) (by decide) hs hpl,
   fun G σ H s Q Q' r q k => ha.ip G σ H s _ _ r q fun v d s1 G1 H1 q1 r1 eg eh pk => ⟨(show 2 ≤ sizeLine by decide), fun tp htp => by
    have e : Ex H1 (upd H1 tp (.tup [.ty T.nm, .ty U.nm])) := Ex.new htp
    exact ⟨v, tp, _, _, _, isA T d || isA U d, rfl, upd_same, .cons (.ty _) (.cons (.ty _) .nil), tyx_D (dp_ex e (pk.dp r1.fin.gh)), kit2 (kt T d) (kt U d), k _ _ s1 G1 _ q1 (r1.aside e) eg (eh.trans (.side e)) (.bl _)⟩⟩⟩
/-! ### slices -/
def cutD (xs : List PyData) (lo hi : Option Int) : List PyData := (xs.drop (HT.sIx xs.length 0 lo)).take (HT.sIx xs.length xs.length hi - HT.sIx xs.length 0 lo)
theorem dpa_cut {K : PySem.W.Frag} {H : Hp} {xs : List V} {ds : List PyData} (h : DpAll K H xs ds) (lo hi : Option Int) : DpAll K H (cutV xs lo hi) (cutD ds lo hi) := by
  unfold cutV cutD
  rw [dpa_len h]
  exact dpa_take _ (dpa_drop _ h)
abbrev WO := Dt → (Option Int → Dt → Prop) → Prop
def IOp (C : Ct) (t : TO) (w : WO) : Prop := ∀ G σ H s Q Q', Rel C G σ H s → w s Q →
  (∀ o s' G' H', Q o s' → Rel C G' σ H' s' → Ex G G' → Gs C σ G H s G' H' s' → Q' o H') → t σ H Q'
structure DOp (X : Cx) (C : Ct) (e : Option Expr) (t : TO) (w : WO) : Prop where
  po : PO X e t
  io : IOp C t w
theorem do_none : DOp X C none tNoPart (fun s Q => Q none s) := ⟨po_none, fun G σ H s Q Q' r q k => k none s G H q r (Ex.refl G) Gs.refl⟩
theorem do_some (h : DE X C e t w) : DOp X C (some e) (tPart t) (fun s Q => w s fun d s1 => ∃ i, d = .int i ∧ Q (some i) s1) := ⟨po_some h.pe, fun G σ H s Q Q' r q k => h.ie G σ H s _ _ r q fun v d s1 G1 H1 q1 r1 eg eh p => by
  obtain ⟨i, rfl, q1⟩ := q1
  exact ⟨i, dp_int p, k (some i) s1 G1 H1 q1 r1 eg eh⟩⟩
variable {lo hi : Option Expr} {tl th : TO} {wl wh : WO} {p2 : Pos}
def wSlT (wa : WE) (wl wh : WO) : WE := fun s Q => wa s fun d s1 => wl s1 fun l s2 => wh s2 fun h s3 => ∃ ds, d = .tuple ds ∧ Q (.tuple (cutD ds l h)) s3
/-- t[lo:hi] -/
theorem de_slT (hK : X.K = C.K) (ha : DP X C a ta wa) (hl : DOp X C lo tl wl) (hh : DOp X C hi th wh) : DE X C (.Subscript a (.Slice lo hi none p2) pos) (tSl (rSlA C.K) ta tl th) (wSlT wa wl wh) := ⟨pe_slice (hK ▸ sl_tupA) ha.pe hl.po hh.po, fun G σ H s Q Q' r q k =>
  ha.ip G σ H s _ _ r q fun v d s1 G1 H1 q1 r1 eg1 eh1 pk => hl.io G1 σ H1 s1 _ _ r1 q1 fun l s2 G2 H2 q2 r2 eg2 eh2 => hh.io G2 σ H2 s2 _ _ r2 q2 fun h s3 G3 H3 q3 r3 eg3 eh3 => by
    obtain ⟨ds, rfl, q3⟩ := q3
    obtain ⟨p, xs, rfl, h1, h2⟩ := pk_tup pk
    have h1' := Evl.ex_t ((eg2.trans eg3).trans r3.fin.gh) h1
    have h2' := dpa_ex (eg2.trans eg3) h2
    refine ⟨p, xs, rfl, h1', fun hw => ?_, fun _ l hl => ?_⟩
    · have e : cutD ds l h = ds := by
        unfold cutD
        rw [dpa_len h2'] at hw
        rw [hw.1, hw.2, List.drop_zero, Nat.sub_zero, List.take_length]
      rw [e] at q3
      exact k _ _ s3 G3 H3 q3 r3 ((eg1.trans eg2).trans eg3) ((eh1.trans eh2).trans eh3) (.tup (Evl.ex_t (eg2.trans eg3) h1) h2')
    · obtain ⟨r4, eg, eh⟩ := r3.new (o := .tup (cutV xs _ _)) hl
      exact k _ _ s3 _ _ q3 r4 (((eg1.trans eg2).trans eg3).trans eg) (((eh1.trans eh2).trans eh3).trans eh) (.tup (.inl (.inl upd_same)) (dpa_ex eg (dpa_cut h2' _ _)))⟩
/-- xs[lo:hi], a new list -/
def wSlL (wa : WE) (wl wh : WO) : WA := fun s Q => wa s fun d s1 => wl s1 fun l s2 => wh s2 fun h s3 => ∃ ds, d = .list ds ∧ Q (cutD ds l h) s3
theorem do_slL (hK : X.K = C.K) (ha : DP X C a ta wa) (hl : DOp X C lo tl wl) (hh : DOp X C hi th wh) : DO X C (.Subscript a (.Slice lo hi none p2) pos) (tSl (rSlL C.K) ta tl th) (wSlL wa wl wh) := ⟨pe_slice (hK ▸ sl_list) ha.pe hl.po hh.po, fun G σ H s Q Q' r q k =>
  ha.ip G σ H s _ _ r q fun v d s1 G1 H1 q1 r1 eg1 eh1 pk => hl.io G1 σ H1 s1 _ _ r1 q1 fun l s2 G2 H2 q2 r2 eg2 eh2 => hh.io G2 σ H2 s2 _ _ r2 q2 fun h s3 G3 H3 q3 r3 eg3 eh3 => by
    obtain ⟨ds, rfl, q3⟩ := q3
    obtain ⟨p, xs, rfl, h1, h2⟩ := pk_lst ((pk.mono eg2 eh2.gr).mono eg3 eh3.gr) r3.fin.gh
    exact ⟨p, xs, rfl, h1, fun l hl => own_new r q3 r3 ((eg1.trans eg2).trans eg3) ((eh1.trans eh2).trans eh3) (dpa_cut h2 _ _) hl k⟩⟩
/-- s[lo:hi], a text -/
def wSlS (wa : WE) (wl wh : WO) : WE := fun s Q => wa s fun d s1 => wl s1 fun l s2 => wh s2 fun h s3 => ∃ z, d = .str z ∧ z.length ≤ 100000 ∧ Q (.str (cutS z l h)) s3
theorem de_slS (ha : DP X C a ta wa) (hl : DOp X C lo tl wl) (hh : DOp X C hi th wh) : DE X C (.Subscript a (.Slice lo hi none p2) pos) (tSl rSlS ta tl th) (wSlS wa wl wh) := ⟨pe_slice sl_str ha.pe hl.po hh.po, fun G σ H s Q Q' r q k =>
  ha.ip G σ H s _ _ r q fun v d s1 G1 H1 q1 r1 eg1 eh1 pk => hl.io G1 σ H1 s1 _ _ r1 q1 fun l s2 G2 H2 q2 r2 eg2 eh2 => hh.io G2 σ H2 s2 _ _ r2 q2 fun h s3 G3 H3 q3 r3 eg3 eh3 => by
    obtain ⟨z, rfl, hz, q3⟩ := q3
    exact ⟨z, pk_str pk, sz_of hz, k _ _ s3 G3 H3 q3 r3 ((eg1.trans eg2).trans eg3) ((eh1.trans eh2).trans eh3) (.str _)⟩⟩
/-- t[::-1], a tuple -/
def wRevT (wa : WE) : WE := fun s Q => wa s fun d s1 => ∃ ds, d = .tuple ds ∧ Q (.tuple ds.reverse) s1
theorem de_revT {k : Nat} {p1 p3 : Pos} (hK : X.K = C.K) (ha : DP X C a ta wa) : DE X C (.Subscript a (.Slice none none (some (.UnaryOp .USub (.Constant (.int 1) k p1) p2)) p3) pos) (tRevT C.K ta) (wRevT wa) := ⟨hK ▸ pe_revT ha.pe, fun G σ H s Q Q' r q k =>
  ha.ip G σ H s _ _ r q fun v d s1 G1 H1 q1 r1 eg1 eh1 pk => by
    obtain ⟨ds, rfl, q1⟩ := q1
    obtain ⟨p, xs, rfl, h1, h2⟩ := pk_tup pk
    refine ⟨p, xs, rfl, Evl.ex_t r1.fin.gh h1, fun l hl => ?_⟩
    obtain ⟨r4, eg, eh⟩ := r1.new (o := .tup xs.reverse) hl
    exact k _ _ s1 _ _ q1 r4 (eg1.trans eg) (eh1.trans eh) (.tup (.inl (.inl upd_same)) (dpa_ex eg (dpa_rev h2)))⟩
/-- -n -/
def wNeg (wa : WE) : WE := fun s Q => wa s fun d s1 => ∃ i, d = .int i ∧ Q (.int (-i)) s1
theorem de_neg (ha : DE X C a ta wa) : DE X C (.UnaryOp .USub a pos) (tUn (rU fun i => .int (-i)) ta) (wNeg wa) := ⟨pe_un un_neg ha.pe, fun G σ H s Q Q' r q k =>
  ha.ie G σ H s _ _ r q fun v d s1 G1 H1 q1 r1 eg1 eh1 p => by
    obtain ⟨i, rfl, q1⟩ := q1
    exact ⟨i, dp_int p, k _ _ s1 G1 H1 q1 r1 eg1 eh1 (.int _)⟩⟩
/-! ### calls of defs -/
abbrev FP := List PyData → (PyData → Prop) → Prop
abbrev FB := List PyData → Int → (PyData → Int → Prop) → Prop
/-- a def that only reads and makes data -/
def spP (K : PySem.W.Frag) (F : FP) : Sp := fun vs H Q _ => ∃ G ds R, Ex G H ∧ DpAll K G vs ds ∧ F ds R ∧
  ∀ v d G' H', R d → Ex G G' → Ex H H' → Ex G' H' → Nw G G' H → Dp K G' v d → Q v H'
/-- a def that draws: the box is its first argument -/
def spB (K : PySem.W.Frag) (F : FB) : Sp := fun vs H Q _ => ∃ l vs' G ds c R, vs = .ref l :: vs' ∧ BoxAt H l c ∧ G l = none ∧ Ex G H ∧ DpAll K G vs' ds ∧ F ds c R ∧
  ∀ v d c' G' H', R d c' → Ex G G' → (∀ b o, b ≠ l → H b = some o → H' b = some o) → BoxAt H' l c' → Ex G' H' → Nw G G' H → Dp K G' v d → Q v H'
def wCall (F : FP) (wA : WA) : WE := fun s Q => wA s fun ds s1 => F ds fun d => Q d s1
theorem ie_call {F : FP} {E : XK} (h : IA C tA wA) : IE C (tCall (spP C.K F) [] E tA) (wCall F wA) := fun G σ H s Q Q' r q k =>
  h G σ H s _ _ r q fun vs ds s1 G1 H1 q1 r1 eg eh p => ⟨G1, ds, _, r1.fin.gh, by rw [List.append_nil]; exact p, q1, fun v d G2 H2 q2 eg2 eh2 gh nw pd =>
    k v d s1 G2 H2 q2 (r1.grow eg2 eh2 gh nw) (eg.trans eg2) (eh.trans (.grow eh2 nw)) pd⟩
theorem de_call {F : FP} {k : Nat} {f : Addr} {fd : FuncData} {ps : List Str} (G : FnOk X.prog X.w X.K X.mg X.base CX0 k f fd ps (spP C.K F)) (hr : Room k X.A) (hg : Gl X x) (hm : X.mg x = some (.ref f)) (hk : PySem.W.keepIn X.K (.ref f) = true) (hb : Binds X.K fd ps [])
    (ha : DA X C (e :: es) tA wA) (hdb : (x == ("__debug__" : Str)) = false := by decide) (he : starEach (e :: es) X.env = (false, eval e X.env) :: starEach es X.env := by rfl) (hpl : (backTo pos (starEach es X.env)).any (·.1) = false := by rfl) :
    DE X C (.Call (.Name x p) (e :: es) [] pos) (tCall (spP C.K F) [] E0 tA) (wCall F wA) := ⟨pe_call G hr hg hm hk hb .nil pass0 ha.pa hdb he hpl, ie_call ha.ia⟩
/-- .. the box in slot i -/
def wCallB (i : Nat) (F : FB) (wA : WA) : WE := fun s Q => s.env[i]? = some (some .box) ∧ wA s fun ds s1 => F ds s1.c fun d c' => Q d ⟨s1.env, c'⟩
theorem ie_callB {F : FB} {E : XK} {i : Nat} (h : IA C tA wA) : IE C (tCall (spB C.K F) [] E (tCons (tVar i) tA)) (wCallB i F wA) := fun G σ H s Q Q' r q k => by
  obtain ⟨e, q⟩ := q
  obtain ⟨v, hv, l, hl, rfl⟩ := r.sl i _ e
  refine ⟨_, hv, h G σ H s _ _ r q fun vs ds s1 G1 H1 q1 r1 eg eh p => ⟨l, vs, G1, ds, s1.c, _, by rw [List.append_nil], (r1.fin.bx l hl).1, (r1.fin.bx l hl).2.1, r1.fin.gh, p, q1, fun v d c' G2 H2 q2 eg2 eh2 hb gh nw pd => ?_⟩⟩
  have gr : Gr C H1 H2 := fun b o hn hb => eh2 b o (fun z => hn (by rw [z]; exact hl)) hb
  refine k v d _ G2 H2 q2 (r1.step eg2 gr gh nw fun l' hl' => by rw [hl] at hl'; cases hl'; exact hb) (eg.trans eg2) (eh.trans ⟨gr, fun b h z => ?_, fun b h1 h2 _ => ?_, fun i x e m => ⟨x, e, m⟩⟩) pd
  · by_cases hb2 : b = l
    · exact hb.ne (hb2 ▸ z)
    · cases q : H1 b with
      | none => exact h q
      | some o => rw [eh2 b o hb2 q] at z; cases z
  · cases q : G2 b with
    | none => rfl
    | some o =>
      rcases nw b (by rw [q]; exact Option.some_ne_none _) with z | z
      · exact absurd h1 z
      · exact absurd z h2
theorem de_callB (i : Nat) {F : FB} {k : Nat} {f : Addr} {fd : FuncData} {ps : List Str} {y : Str} {p2 : Pos} (G : FnOk X.prog X.w X.K X.mg X.base CX0 k f fd ps (spB C.K F)) (hr : Room k X.A) (hg : Gl X x) (hm : X.mg x = some (.ref f)) (hk : PySem.W.keepIn X.K (.ref f) = true) (hb : Binds X.K fd ps [])
    (ha : DA X C es tA wA) (hv : PE X (.Name y p2) (tVar i) := by exact pv _) (hdb : (x == ("__debug__" : Str)) = false := by decide) (he : starEach (.Name y p2 :: es) X.env = (false, eval (.Name y p2) X.env) :: starEach es X.env := by rfl) (hpl : (backTo pos (starEach es X.env)).any (·.1) = false := by rfl) :
    DE X C (.Call (.Name x p) (.Name y p2 :: es) [] pos) (tCall (spB C.K F) [] E0 (tCons (tVar i) tA)) (wCallB i F wA) := ⟨pe_call G hr hg hm hk hb .nil pass0 (pa_cons hv ha.pa he) hdb he hpl, ie_callB ha.ia⟩
end
end Dw

namespace Dw
open PySem PySem.Spec PyProof.Rows L2 OgR Evl
/-! ### slots -/
def Dt.set (s : Dt) (i : Nat) (x : DV) : Dt := ⟨s.env.set i (some x), s.c⟩
section
variable {C : Ct} {G G' H H' : Hp} {σ : L2.St} {s : Dt} {c c' : Int}
theorem get_set {α : Type} {l : List (Option α)} {i j : Nat} {x y : α} (h : (l.set i (some x))[j]? = some (some y)) : (j = i ∧ y = x ∧ i < l.length) ∨ (j ≠ i ∧ l[j]? = some (some y)) := by
  by_cases z : j = i
  · subst z
    by_cases hl : j < l.length
    · rw [List.getElem?_set_self hl] at h
      cases h
      exact .inl ⟨rfl, rfl, hl⟩
    · rw [List.getElem?_eq_none (by rw [List.length_set]; omega)] at h
      cases h
  · rw [List.getElem?_set_ne (Ne.symm z)] at h
    exact .inr ⟨z, h⟩
theorem Rel.put (r : Rel C G σ H s) {i : Nat} {v : V} {x : DV} (rv : RV C G H v x) (hd : x.mut = true → ∀ (j : Nat) y p, s.env[j]? = some (some y) → y.mut = true → v = .ref p → σ[j]? ≠ some (some (.ref p))) : Rel C G (σ.set i (some v)) H (s.set i x) := by
  refine ⟨r.fin, by show (s.env.set i _).length = _; rw [List.length_set, List.length_set]; exact r.len, fun j y e => ?_, fun j k y z p hne e1 e2 m1 m2 hs => ?_⟩
  · rcases get_set e with ⟨rfl, rfl, hl⟩ | ⟨z, e⟩
    · exact ⟨v, List.getElem?_set_self (by rw [← r.len]; exact hl), rv⟩
    · obtain ⟨v', hv, rv'⟩ := r.sl j y e
      exact ⟨v', by rw [List.getElem?_set_ne (Ne.symm z)]; exact hv, rv'⟩
  · rcases get_set e1 with ⟨w1, w2, hl⟩ | ⟨z1, f1⟩
    · rcases get_set e2 with ⟨w3, _, _⟩ | ⟨z2, f2⟩
      · exact absurd (w1.trans w3.symm) hne
      · subst w1
        subst w2
        rw [List.getElem?_set_self (by rw [← r.len]; exact hl)] at hs
        cases hs
        rw [List.getElem?_set_ne (Ne.symm z2)]
        exact hd m1 k z p f2 m2 rfl
    · rw [List.getElem?_set_ne (Ne.symm z1)] at hs
      rcases get_set e2 with ⟨w1, w2, hl⟩ | ⟨z2, f2⟩
      · subst w1
        subst w2
        rw [List.getElem?_set_self (by rw [← r.len]; exact hl)]
        intro q
        cases q
        exact hd m2 j y p f1 m1 rfl hs
      · rw [List.getElem?_set_ne (Ne.symm z2)]
        exact r.dis j k y z p hne f1 f2 m1 m2 hs
theorem Rel.putd (r : Rel C G σ H s) {i : Nat} {v : V} {d : PyData} (rv : Dp C.K G v d) : Rel C G (σ.set i (some v)) H (s.set i (.d d)) := r.put (x := .d d) rv fun m => nomatch m
/-- a list of the def's own changes -/
theorem Rel.mutl (r : Rel C G σ H s) {i : Nat} {p : Addr} {ds ds' : List PyData} {xs' : List V} (e : s.env[i]? = some (some (.own ds))) (hs : σ[i]? = some (some (.ref p))) (hd : DpAll C.K G xs' ds') : Rel C G σ (upd H p (.lst xs')) (s.set i (.own ds')) := by
  obtain ⟨v, hv, p', xs, hvp, h1, h2, h3, h4⟩ := r.sl i _ e
  rw [hs] at hv
  cases hv
  cases hvp
  have gp : ∀ b, G b ≠ none → b ≠ p := fun b hb z => hb (by rw [z]; exact h3)
  refine ⟨⟨fun b o hb => ?_, r.fin.g0, r.fin.nw, fun b o n hb => ?_, fun l hl => ?_⟩, by show (s.env.set i _).length = _; rw [List.length_set]; exact r.len, fun j y ej => ?_, fun j k y z q hne e1 e2 m1 m2 => ?_⟩
  · rw [upd_ne (gp b (by rw [hb]; exact Option.some_ne_none _))]
    exact r.fin.gh b o hb
  · rw [upd_ne (fun z => by rw [z, h2] at hb; cases hb)]
    exact r.fin.hh b o n hb
  · have hlp : l ≠ p := fun z => r.fin.nbx h2 (by rw [← z]; exact hl)
    refine ⟨(r.fin.bx l hl).1.keep fun o q => ?_, (r.fin.bx l hl).2⟩
    rw [upd_ne hlp]
    exact q
  · rcases get_set ej with ⟨rfl, rfl, hl⟩ | ⟨z, ej⟩
    · exact ⟨_, hs, p, xs', rfl, upd_same, h2, h3, hd⟩
    · obtain ⟨v', hv', rv⟩ := r.sl j y ej
      refine ⟨v', hv', ?_⟩
      cases y with
      | d x => exact rv
      | box => exact rv
      | own ds2 =>
        obtain ⟨p2, xs2, a1, a2, a3, a4, a5⟩ := rv
        exact ⟨p2, xs2, a1, by rw [upd_ne fun z' => r.dis i j _ _ p (Ne.symm z) e ej rfl rfl hs (by rw [hv', a1, z'])]; exact a2, a3, a4, a5⟩
      | dic ks =>
        obtain ⟨p2, xs2, a1, a2, a3, a4, a5⟩ := rv
        exact ⟨p2, xs2, a1, by rw [upd_ne fun z' => r.dis i j _ _ p (Ne.symm z) e ej rfl rfl hs (by rw [hv', a1, z'])]; exact a2, a3, a4, a5⟩
      | dit ks =>
        obtain ⟨p2, xs2, a1, a2, a3, a4, a5⟩ := rv
        exact ⟨p2, xs2, a1, by rw [upd_ne fun z' => r.dis i j _ _ p (Ne.symm z) e ej rfl rfl hs (by rw [hv', a1, z'])]; exact a2, a3, a4, a5⟩
      | oth φ => exact Oth.step (φ := φ) rv (Ex.refl G) (Kept.upd h1 rfl)
      | dd ks =>
        obtain ⟨p2, xs2, a1, a2, a5⟩ := rv
        exact ⟨p2, xs2, a1, a2.upd h1 h2 (fun _ _ z => by cases z), a5⟩
  · have go : ∀ (j : Nat) y, (s.set i (.own ds')).env[j]? = some (some y) → y.mut = true → ∃ y', s.env[j]? = some (some y') ∧ y'.mut = true := fun j y ej m => by
      rcases get_set ej with ⟨rfl, rfl, hl⟩ | ⟨z, ej⟩
      · exact ⟨_, e, rfl⟩
      · exact ⟨y, ej, m⟩
    obtain ⟨y', f1, n1⟩ := go j y e1 m1
    obtain ⟨z', f2, n2⟩ := go k z e2 m2
    exact r.dis j k y' z' q hne f1 f2 n1 n2
end
/-! ### targets -/
abbrev WG := PyData → Dt → (Dt → Prop) → Prop
abbrev WGs := List PyData → Dt → (Dt → Prop) → Prop
def IG (C : Ct) (g : TG) (ks : List Nat) (w : WG) : Prop := ∀ G σ H s v d Q Q', Rel C G σ H s → Dp C.K G v d → w d s Q →
  (∀ σ' s', Q s' → Rel C G σ' H s' → σ'.length = σ.length → (∀ j : Nat, j ∉ ks → σ'[j]? = σ[j]?) → Q' σ' H) → g v σ H Q'
def IGs (C : Ct) (g : TGs) (ks : List Nat) (w : WGs) : Prop := ∀ G σ H s vs ds Q Q', Rel C G σ H s → DpAll C.K G vs ds → w ds s Q →
  (∀ σ' s', Q s' → Rel C G σ' H s' → σ'.length = σ.length → (∀ j : Nat, j ∉ ks → σ'[j]? = σ[j]?) → Q' σ' H) → g vs σ H Q'
structure DG (X : Cx) (C : Ct) (e : Expr) (g : TG) (ks : List Nat) (w : WG) : Prop where
  pg : PG X e g
  ig : IG C g ks w
structure DGs (X : Cx) (C : Ct) (es : List Expr) (g : TGs) (ks : List Nat) (w : WGs) : Prop where
  pg : PGs X es g
  ig : IGs C g ks w
section
variable {X : Cx} {C : Ct} {a b e tg : Expr} {es : List Expr} {pos p : Pos} {t ta tb tc : TE} {w wa wb wc : WE} {tA : TA} {wA : WA} {x : Str}
def wName (i : Nat) : WG := fun d s Q => Q (s.set i (.d d))
theorem ig_name (i : Nat) : IG C (gName i) [i] (wName i) := fun G σ H s v d Q Q' r p q k =>
  k _ _ q (r.putd p) (List.length_set ..) fun j hj => List.getElem?_set_ne (fun z => hj (by simp [z]))
theorem dg_name (i : Nat) (hN : X.N.Nodup) (hi : X.N[i]? = some x := by rfl) (hx : Loc X.env.scope x := by first | exact .inl rfl | exact .inr rfl) (hf : X.fn x = true ∨ X.env.scope.names.lookup x = some .local := by first | exact .inl rfl | exact .inr rfl | assumption) : DG X C (.Name x pos) (gName i) [i] (wName i) :=
  ⟨pg_name hN hi hx hf, ig_name i⟩
def wGNil : WGs := fun ds s Q => ds = [] ∧ Q s
def wGCons (w : WG) (u : WGs) : WGs := fun ds s Q => ∃ d r, ds = d :: r ∧ w d s fun s' => u r s' Q
theorem dgs_nil : DGs X C [] gNil [] wGNil := ⟨pgs_nil, fun G σ H s vs ds Q Q' r p q k => by
  obtain ⟨rfl, q⟩ := q
  cases p
  exact ⟨rfl, k σ s q r rfl fun _ _ => rfl⟩⟩
theorem dgs_cons {g : TG} {gs : TGs} {k1 k2 : List Nat} {w : WG} {u : WGs} (h1 : DG X C e g k1 w) (h2 : DGs X C es gs k2 u) (hs : PGs X (e :: es) (gCons g gs) := by exact pgs_cons (DG.pg (by assumption)) (DGs.pg (by assumption))) : DGs X C (e :: es) (gCons g gs) (k1 ++ k2) (wGCons w u) := ⟨hs, fun G σ H s vs ds Q Q' r p q k => by
  obtain ⟨d, ds', rfl, q⟩ := q
  cases p with
  | @cons v vs' _ _ p1 p2 =>
    refine ⟨v, vs', rfl, h1.ig G σ H s v d _ _ r p1 q fun σ1 s1 q1 r1 l1 f1 => h2.ig G σ1 H s1 vs' ds' _ _ r1 p2 q1 fun σ2 s2 q2 r2 l2 f2 => k σ2 s2 q2 r2 (l2.trans l1) fun j hj => ?_⟩
    rw [List.mem_append, not_or] at hj
    rw [f2 j hj.2, f1 j hj.1]⟩
def wGTup (n : Nat) (u : WGs) : WG := fun d s Q => seqd d = true ∧ (its d).length = n ∧ u (its d) s Q
theorem ig_tup {n : Nat} {g : TGs} {ks : List Nat} {u : WGs} (h : IGs C g ks u) : IG C (gSeqB C.K n g) ks (wGTup n u) := fun G σ H s v d Q Q' r p q k => by
  obtain ⟨hs, hl, q⟩ := q
  obtain ⟨a, xs, rfl, h1, h2⟩ := (show Pk C G H v d from .inl p).seq r.fin.gh hs
  exact ⟨isT d, a, xs, rfl, h1, by rw [dpa_len h2]; exact hl, h G σ H s xs (its d) Q Q' r h2 q k⟩
theorem dg_tup {n : Nat} {g : TGs} {ks : List Nat} {u : WGs} {k : Nat} (hK : X.K = C.K) (hc : X.calm = true) (h : DGs X C es g ks u) (hn : (assignEach es X.env).length = n := by rfl) (hst : (assignEach es X.env).findIdx? (·.1) = none := by rfl) :
    DG X C (.Tuple es k pos) (gSeqB C.K n g) ks (wGTup n u) := ⟨hK ▸ pg_seqB hc h.pg hn hst, ig_tup h.ig⟩
/-! ### what is walked -/
def ItD (C : Ct) (G1 : Hp) (J : It) (ds : List PyData) : Prop := ∀ G2 H2, Ex G1 G2 → Ex G2 H2 → (∀ (i : Nat) d, ds[i]? = some d → J.go i H2 ∧ ∀ x H3, J.yld i H2 x H3 → ∃ G3, Ex G2 G3 ∧ Ex H2 H3 ∧ Ex G3 H3 ∧ Nw G2 G3 H2 ∧ Dp C.K G3 x d) ∧ J.stop ds.length H2
def II (C : Ct) (wi : TI) (w : WA) : Prop := ∀ G σ H s Q R, Rel C G σ H s → w s Q →
  (∀ J ds s' G' H', Q ds s' → Rel C G' σ H' s' → Ex G G' → Gs C σ G H s G' H' s' → ItD C G' J ds → R J H') → wi σ H R
structure DI (X : Cx) (C : Ct) (tg iter : Expr) (wi : TI) (w : WA) : Prop where
  pi : PI X tg iter wi
  ii : II C wi w
def wSeq (w : WE) : WA := fun s Q => w s fun d s1 => seqd d = true ∧ Q (its d) s1
theorem dp_seq {G H : Hp} {v : V} {d : PyData} (h : Dp C.K G v d) (hs : seqd d = true) : ∃ p xs, v = .ref p ∧ SqB C.K (isT d) G p xs ∧ DpAll C.K G xs (its d) := (show Pk C G G v d from .inl h).seq (Ex.refl G) hs
theorem itd_seq {G : Hp} {p : Addr} {b : Bool} {xs : List V} {ds : List PyData} (h1 : SqB C.K b G p xs) (h2 : DpAll C.K G xs ds) : ItD C G (ItsB C.K b p) ds := fun G2 H2 e1 e2 => by
  have h1' := SqB.ex (e1.trans e2) h1
  refine ⟨fun i d hd => ?_, xs, h1', by rw [dpa_len h2]; exact Nat.le_refl _⟩
  obtain ⟨v, hv, pv⟩ := dpa_back h2 hd
  refine ⟨⟨xs, v, h1', hv⟩, fun x H3 y => ?_⟩
  obtain ⟨rfl, hy⟩ := y
  have e := hy xs h1'
  rw [hv] at e
  cases e
  exact ⟨G2, Ex.refl _, Ex.refl _, e2, Nw.refl _ _, dp_ex e1 pv⟩
theorem di_seq (hK : X.K = C.K) (h : DE X C e t w) : DI X C tg e (iSeqB C.K t) (wSeq w) := ⟨hK ▸ pi_seqB h.pe, fun G σ H s Q R r q k => h.ie G σ H s _ _ r q fun v d s1 G1 H1 q1 r1 eg eh p => by
  obtain ⟨hs, q1⟩ := q1
  obtain ⟨a, xs, rfl, h1, h2⟩ := dp_seq (H := H1) p hs
  exact ⟨isT d, a, xs, rfl, SqB.ex r1.fin.gh h1, k _ _ s1 G1 H1 q1 r1 eg eh (itd_seq h1 h2)⟩⟩
def wRng1 (w : WE) : WA := fun s Q => w s fun d s1 => ∃ j : Int, d = .int j ∧ -(2 ^ 62) ≤ j ∧ j < 2 ^ 62 ∧ Q (iotaD 0 j) s1
theorem iota_get {a b : Int} {i : Nat} {d : PyData} (h : (iotaD a b)[i]? = some d) : i < (b - a).toNat ∧ d = .int (a + i) := by
  unfold iotaD at h
  rw [List.getElem?_map] at h
  cases q : (List.range (b - a).toNat)[i]? with
  | none => rw [q] at h; cases h
  | some m =>
    rw [q] at h
    have h1 := List.getElem?_eq_some_iff.mp q
    obtain ⟨h2, h3⟩ := h1
    rw [List.getElem_range] at h3
    rw [List.length_range] at h2
    subst h3
    exact ⟨h2, by simpa using h.symm⟩
theorem iota_len (a b : Int) : (iotaD a b).length = (b - a).toNat := by unfold iotaD; rw [List.length_map, List.length_range]
theorem itd_rng {G : Hp} {a b : Int} : ItD C G (Itr a (b - a).toNat) (iotaD a b) := fun G2 H2 e1 e2 => by
  refine ⟨fun i d hd => ?_, by rw [iota_len]; exact Nat.le_refl _⟩
  obtain ⟨h1, rfl⟩ := iota_get hd
  refine ⟨h1, fun x H3 y => ?_⟩
  obtain ⟨rfl, rfl⟩ := y
  exact ⟨G2, Ex.refl _, Ex.refl _, e2, Nw.refl _ _, .int _⟩
theorem di_rng1 (hg : Gl X "range") (hm : X.mg "range" = none) (h : DE X C a ta wa) (hs : starEach [a] X.env = [(false, eval a X.env)] := by rfl) (hs2 : starEach [a] X.env = (false, eval a X.env) :: starEach [] X.env := by rfl) :
    DI X C tg (.Call (.Name "range" p) [a] [] pos) (iRng1 (tCons ta tNil)) (wRng1 wa) := ⟨pi_range1 hg hm (pa_cons h.pe pa_nil hs2) hs, fun G σ H s Q R r q k => h.ie G σ H s _ _ r q fun v d s1 G1 H1 q1 r1 eg eh p => by
  obtain ⟨j, rfl, h1, h2, q1⟩ := q1
  refine ⟨j, by rw [dp_int p], h1, h2, ?_⟩
  have := itd_rng (C := C) (G := G1) (a := 0) (b := j)
  rw [Int.sub_zero] at this
  exact k _ _ s1 G1 H1 q1 r1 eg eh this⟩
/-- enumerate -/
def enumD (ds : List PyData) : List PyData := ds.mapIdx fun i d => .tuple [.int (i : Nat), d]
def wEnum (w : WE) : WA := fun s Q => w s fun d s1 => seqd d = true ∧ Q (enumD (its d)) s1
theorem itd_enum {G : Hp} {p : Addr} {b : Bool} {xs : List V} {ds : List PyData} (h1 : SqB C.K b G p xs) (h2 : DpAll C.K G xs ds) : ItD C G (IteB C.K b p) (enumD ds) := fun G2 H2 e1 e2 => by
  have h1' := SqB.ex (e1.trans e2) h1
  refine ⟨fun i d hd => ?_, xs, h1', by unfold enumD; rw [List.length_mapIdx]; exact dpa_len h2⟩
  unfold enumD at hd
  rw [List.getElem?_mapIdx] at hd
  cases q : ds[i]? with
  | none => rw [q] at hd; cases hd
  | some z =>
    rw [q] at hd
    cases hd
    obtain ⟨v, hv, pv⟩ := dpa_back h2 q
    refine ⟨⟨xs, v, h1', hv⟩, fun x H3 y => ?_⟩
    obtain ⟨T, v2, rfl, hT, rfl, hy⟩ := y
    have e := hy xs h1'
    rw [hv] at e
    cases e
    have g1 : G2 T = none := fresh_back e2 hT
    exact ⟨upd G2 T (.tup [.int (i : Nat), v]), Ex.new g1, Ex.new hT, Ex.both e2 hT, Nw.one hT, .tup (.inl (.inl upd_same)) (.cons (.int _) (.cons (dp_ex (e1.trans (Ex.new g1)) pv) .nil))⟩
theorem di_enum {elts : List Expr} {kk : Nat} {tpos : Pos} (hK : X.K = C.K) (hg : Gl X "enumerate") (hm : X.mg "enumerate" = none) (h : DE X C a ta wa) (hs : starEach [a] X.env = [(false, eval a X.env)] := by rfl) (hs2 : starEach [a] X.env = (false, eval a X.env) :: starEach [] X.env := by rfl) :
    DI X C (.Tuple elts kk tpos) (.Call (.Name "enumerate" p) [a] [] pos) (iEnumB C.K (tCons ta tNil)) (wEnum wa) := ⟨hK ▸ pi_enumB hg hm (pa_cons h.pe pa_nil hs2) hs, fun G σ H s Q R r q k => h.ie G σ H s _ _ r q fun v d s1 G1 H1 q1 r1 eg eh p => by
  obtain ⟨hs, q1⟩ := q1
  obtain ⟨a, xs, rfl, h1, h2⟩ := dp_seq (H := H1) p hs
  exact ⟨isT d, a, xs, rfl, SqB.ex r1.fin.gh h1, k _ _ s1 G1 H1 q1 r1 eg eh (itd_enum h1 h2)⟩⟩
/-- zip of two -/
def zipD (ds es : List PyData) : List PyData := List.zipWith (fun d e => .tuple [d, e]) ds es
def wZip (w u : WE) : WA := fun s Q => w s fun d s1 => u s1 fun e s2 => seqd d = true ∧ seqd e = true ∧ Q (zipD (its d) (its e)) s2
theorem itd_zip {G : Hp} {p p' : Addr} {b b' : Bool} {xs xs' : List V} {ds ds' : List PyData} (h1 : SqB C.K b G p xs) (h2 : DpAll C.K G xs ds) (h1' : SqB C.K b' G p' xs') (h2' : DpAll C.K G xs' ds') : ItD C G (ItzB C.K b b' p p') (zipD ds ds') := fun G2 H2 e1 e2 => by
  have k1 := SqB.ex (e1.trans e2) h1
  have k2 := SqB.ex (e1.trans e2) h1'
  have l1 := dpa_len h2
  have l2 := dpa_len h2'
  refine ⟨fun i d hd => ?_, xs, xs', k1, k2, ?_, ?_, ?_⟩
  · unfold zipD at hd
    rw [List.getElem?_zipWith] at hd
    cases q : ds[i]? with
    | none => rw [q] at hd; cases hd
    | some z =>
      cases q' : ds'[i]? with
      | none => rw [q, q'] at hd; cases hd
      | some z' =>
        rw [q, q'] at hd
        cases hd
        obtain ⟨v, hv, pv⟩ := dpa_back h2 q
        obtain ⟨v', hv', pv'⟩ := dpa_back h2' q'
        refine ⟨⟨xs, xs', v, v', k1, k2, hv, hv'⟩, fun x H3 y => ?_⟩
        obtain ⟨T, u, u', rfl, hT, rfl, hy, hy'⟩ := y
        have e := hy xs k1
        rw [hv] at e
        cases e
        have e := hy' xs' k2
        rw [hv'] at e
        cases e
        have g1 : G2 T = none := fresh_back e2 hT
        exact ⟨upd G2 T (.tup [v, v']), Ex.new g1, Ex.new hT, Ex.both e2 hT, Nw.one hT, .tup (.inl (.inl upd_same)) (.cons (dp_ex (e1.trans (Ex.new g1)) pv) (.cons (dp_ex (e1.trans (Ex.new g1)) pv') .nil))⟩
  all_goals unfold zipD; rw [List.length_zipWith]; omega
theorem di_zip {elts : List Expr} {kk : Nat} {tpos : Pos} (hK : X.K = C.K) (hg : Gl X "zip") (hm : X.mg "zip" = none) (h : DE X C a ta wa) (h' : DE X C b tb wb) (hpi : PI X (.Tuple elts kk tpos) (.Call (.Name "zip" p) [a, b] [] pos) (iZipB X.K (tCons ta (tCons tb tNil)))) :
    DI X C (.Tuple elts kk tpos) (.Call (.Name "zip" p) [a, b] [] pos) (iZipB C.K (tCons ta (tCons tb tNil))) (wZip wa wb) := ⟨hK ▸ hpi, fun G σ H s Q R r q k => h.ie G σ H s _ _ r q fun v d s1 G1 H1 q1 r1 eg eh p =>
  h'.ie G1 σ H1 s1 _ _ r1 q1 fun v' d' s2 G2 H2 q2 r2 eg2 eh2 p' => by
  obtain ⟨hs, hs', q2⟩ := q2
  obtain ⟨a, xs, rfl, h1, h2⟩ := dp_seq (H := H1) (dp_ex eg2 p) hs
  obtain ⟨a', xs', rfl, h1', h2'⟩ := dp_seq (H := H2) p' hs'
  exact ⟨isT d, isT d', a, a', xs, xs', rfl, SqB.ex r2.fin.gh h1, SqB.ex r2.fin.gh h1', k _ _ s2 G2 H2 q2 r2 (eg.trans eg2) (eh.trans eh2) (itd_zip h1 h2 h1' h2')⟩⟩
/-- a text, sign by sign -/
def signsD (z : Str) : List PyData := z.cps.toList.map fun c => .str ⟨#[c]⟩
def wSigns (w : WE) : WA := fun s Q => w s fun d s1 => ∃ z, d = .str z ∧ Q (signsD z) s1
end
/-! ### statements -/
structure DEnds where
  nx : Dt → Prop
  rt : PyData → Int → Prop
  bk : Dt → Prop := fun _ => False
  ct : Dt → Prop := fun _ => False
abbrev WS := DEnds → Dt → Prop
structure Outs (C : Ct) (G : Hp) (D : Ends) (DD : DEnds) : Prop where
  nx : ∀ σ' H' s' G', DD.nx s' → Rel C G' σ' H' s' → Ex G G' → D.nx σ' H'
  bk : ∀ σ' H' s' G', DD.bk s' → Rel C G' σ' H' s' → Ex G G' → D.bk σ' H'
  ct : ∀ σ' H' s' G', DD.ct s' → Rel C G' σ' H' s' → Ex G G' → D.ct σ' H'
  rt : ∀ v d c' G' H', DD.rt d c' → Fin C G' H' c' → Ex G G' → Dp C.K G' v d → D.rt v H'
theorem Outs.mono {C : Ct} {G G1 : Hp} {D : Ends} {DD : DEnds} (o : Outs C G D DD) (e : Ex G G1) : Outs C G1 D DD :=
  ⟨fun σ H s G' a b c => o.nx σ H s G' a b (e.trans c), fun σ H s G' a b c => o.bk σ H s G' a b (e.trans c), fun σ H s G' a b c => o.ct σ H s G' a b (e.trans c), fun v d c' G' H' a b c p => o.rt v d c' G' H' a b (e.trans c) p⟩
def IS (C : Ct) (t : TS) (w : WS) : Prop := ∀ G σ H s D DD, Rel C G σ H s → w DD s → Outs C G D DD → t D σ H
structure DS (X : Cx) (C : Ct) (st : Stmt) (t : TS) (w : WS) : Prop where
  ps : PS X st t
  is : IS C t w
structure DSs (X : Cx) (C : Ct) (st : List Stmt) (t : TS) (w : WS) : Prop where
  ps : PSs X st t
  is : IS C t w
section
variable {X : Cx} {C : Ct} {a b e tg : Expr} {es : List Expr} {pos p : Pos} {t ta tb tc : TE} {w wa wb wc : WE} {tA : TA} {wA : WA} {x : Str} {st : Stmt} {sts : List Stmt} {u v : TS} {wu wv : WS}
def wNext : WS := fun DD s => DD.nx s
def wSq (w u : WS) : WS := fun DD s => w { DD with nx := u DD } s
theorem is_seq (h : IS C u wu) (h2 : IS C v wv) : IS C (tSeq u v) (wSq wu wv) := fun G σ H s D DD r q o =>
  h G σ H s _ _ r q ⟨fun σ' H' s' G' n r' e => h2 G' σ' H' s' D DD r' n (o.mono e), o.bk, o.ct, o.rt⟩
theorem dss_nil : DSs X C [] tNext wNext := ⟨pss_nil, fun G σ H s D DD r q o => o.nx σ H s G q r (Ex.refl G)⟩
theorem dss_cons (h : DS X C st u wu) (h2 : DSs X C sts v wv) : DSs X C (st :: sts) (tSeq u v) (wSq wu wv) := ⟨pss_cons h.ps h2.ps, is_seq h.is h2.is⟩
/-- a statement that several ways lead out of: what holds behind it, said once -/
def wSqC (w u : WS) : WS := fun DD s => ∃ P : Dt → Prop, w { DD with nx := P } s ∧ ∀ s', P s' → u DD s'
theorem dss_cut (h : DS X C st u wu) (h2 : DSs X C sts v wv) : DSs X C (st :: sts) (tSeq u v) (wSqC wu wv) := ⟨pss_cons h.ps h2.ps, fun G σ H s D DD r q o => by
  obtain ⟨P, q1, q2⟩ := q
  exact h.is G σ H s _ _ r q1 ⟨fun σ' H' s' G' n r' e => h2.is G' σ' H' s' D DD r' (q2 s' n) (o.mono e), o.bk, o.ct, o.rt⟩⟩
theorem dss_one (h : DS X C st u wu) : DSs X C [st] u wu := ⟨pss_one h.ps, h.is⟩
theorem ds_doc {x : Str} {j pos'} : DS X C (.Expr (.Constant (.str x) j pos) pos') tNext wNext := ⟨ps_doc, fun G σ H s D DD r q o => o.nx σ H s G q r (Ex.refl G)⟩
theorem ds_pass : DS X C (.Pass pos) tNext wNext := ⟨ps_pass, fun G σ H s D DD r q o => o.nx σ H s G q r (Ex.refl G)⟩
theorem ds_break : DS X C (.Break pos) tBreak (fun DD s => DD.bk s) := ⟨ps_break, fun G σ H s D DD r q o => o.bk σ H s G q r (Ex.refl G)⟩
theorem ds_continue : DS X C (.Continue pos) tCont (fun DD s => DD.ct s) := ⟨ps_continue, fun G σ H s D DD r q o => o.ct σ H s G q r (Ex.refl G)⟩
theorem ds_never : DS X C st tNever (fun _ _ => False) := ⟨ps_never, fun G σ H s D DD r q o => q.elim⟩
def wRet (w : WE) : WS := fun DD s => w s fun d s1 => DD.rt d s1.c
theorem ds_ret (h : DE X C e t w) : DS X C (.Return (some e) pos) (tRet t) (wRet w) := ⟨ps_ret h.pe, fun G σ H s D DD r q o => h.ie G σ H s _ _ r q fun v d s1 G1 H1 q1 r1 eg eh p => o.rt v d s1.c G1 H1 q1 r1.fin eg p⟩
theorem ds_retN : DS X C (.Return none pos) tRetN (fun DD s => DD.rt .none s.c) := ⟨ps_retN, fun G σ H s D DD r q o => o.rt .non .none s.c G H q r.fin (Ex.refl G) .non⟩
def wIfS (c : WT) (u v : WS) : WS := fun DD s => c s fun b s1 => if b = true then u DD s1 else v DD s1
theorem ds_if {c : Expr} {l1 l2 : List Stmt} {tc : TT} {wc : WT} (hc : DT X C c tc wc) (h1 : DSs X C l1 u wu) (h2 : DSs X C l2 v wv) : DS X C (.If c l1 l2 pos) (tIfS tc u v) (wIfS wc wu wv) := ⟨ps_if hc.pt h1.ps h2.ps, fun G σ H s D DD r q o =>
  hc.it G σ H s _ _ r q fun b s1 G1 H1 q1 r1 eg eh => by
    cases b with
    | true =>
      rw [if_pos rfl] at q1
      exact iteT (h1.is G1 σ H1 s1 D DD r1 q1 (o.mono eg))
    | false =>
      rw [if_neg (by decide)] at q1
      exact iteF (h2.is G1 σ H1 s1 D DD r1 q1 (o.mono eg))⟩
def wDrop (w : WE) : WS := fun DD s => w s fun _ s1 => DD.nx s1
theorem ds_expr (h : DE X C e t w) (hs : swapsWith e none pos.line X.env = pure false := by rfl) : DS X C (.Expr e pos) (tDrop t) (wDrop w) := ⟨ps_expr h.pe hs, fun G σ H s D DD r q o => h.ie G σ H s _ _ r q fun v d s1 G1 H1 q1 r1 eg eh p => o.nx σ H1 s1 G1 q1 r1 eg⟩
/-- target = e -/
def wAsg (w : WE) (g : WG) : WS := fun DD s => w s fun d s1 => g d s1 DD.nx
theorem is_asg {g : TG} {ks : List Nat} {wg : WG} (h : IE C t w) (hg : IG C g ks wg) : IS C (tAsg t g) (wAsg w wg) := fun G σ H s D DD r q o =>
  h G σ H s _ _ r q fun v d s1 G1 H1 q1 r1 eg eh p => hg G1 σ H1 s1 v d _ _ r1 p q1 fun σ' s' q2 r2 _ _ => o.nx σ' H1 s' G1 q2 r2 eg
theorem ds_asg {g : TG} {ks : List Nat} {wg : WG} (h : DE X C e t w) (hg : DG X C tg g ks wg) (hs : swapsWithSole [tg] e pos.line X.env = pure false := by rfl) (hw : swappedStores [tg] e X.env = pure none := by rfl)
    (h1 : (assignEach [tg] X.env).map (·.2) = [assign tg X.env] := by rfl) : DS X C (.Assign [tg] e pos) (tAsg t g) (wAsg w wg) := ⟨ps_asg h.pe hg.pg hs hw h1, is_asg h.ie hg.ig⟩
theorem ds_set (i : Nat) {pos' : Pos} (hN : X.N.Nodup) (h : DE X C e t w) (hi : X.N[i]? = some x := by rfl) (hx : Loc X.env.scope x := by first | exact .inl rfl | exact .inr rfl) (hs : swapsWith e (some (.Name x pos')) pos.line X.env = pure false := by rfl)
    (hf : X.fn x = true ∨ X.env.scope.names.lookup x = some .local := by first | exact .inl rfl | exact .inr rfl | assumption) : DS X C (.Assign [.Name x pos'] e pos) (tAsg t (gName i)) (wAsg w (wName i)) := ⟨ps_set hN hi hx h.pe hs hf, is_asg h.ie (ig_name i)⟩
/-- name = a new list of the def's own -/
def wOwn (i : Nat) (w : WA) : WS := fun DD s => w s fun ds s1 => DD.nx (s1.set i (.own ds))
theorem is_own {i : Nat} {w : WA} (h : IO C t w) : IS C (tAsg t (gName i)) (wOwn i w) := fun G σ H s D DD r q o =>
  h G σ H s _ _ r q fun p xs ds s1 G1 H1 q1 r1 eg eh hp h1 h2 h3 h4 => o.nx _ H1 _ G1 q1 (r1.put (x := .own ds) ⟨p, xs, rfl, h1, r.fin.h0 hp, h2, h3⟩ fun _ j y p' ej m z => by
    cases z
    exact h4 j y ej m) eg
theorem ds_own (i : Nat) {w : WA} {pos' : Pos} (hN : X.N.Nodup) (h : DO X C e t w) (hi : X.N[i]? = some x := by rfl) (hx : Loc X.env.scope x := by first | exact .inl rfl | exact .inr rfl) (hs : swapsWith e (some (.Name x pos')) pos.line X.env = pure false := by rfl)
    (hf : X.fn x = true ∨ X.env.scope.names.lookup x = some .local := by first | exact .inl rfl | exact .inr rfl | assumption) : DS X C (.Assign [.Name x pos'] e pos) (tAsg t (gName i)) (wOwn i w) := ⟨ps_set hN hi hx h.pe hs hf, is_own h.io⟩
/-- name += e -/
def wAug (i : Nat) (f : Int → Int → Int) (w : WE) : WS := fun DD s => ∃ m, s.env[i]? = some (some (.d (.int m))) ∧ w s fun d s1 => ∃ n, d = .int n ∧ DD.nx (s1.set i (.d (.int (f m n))))
theorem is_aug {i : Nat} {f : Int → Int → Int} (h : IE C t w) : IS C (tAug i t (ipI f)) (wAug i f w) := fun G σ H s D DD r q o => by
  obtain ⟨m, em, q⟩ := q
  obtain ⟨v, hv, rv⟩ := r.sl i _ em
  refine ⟨v, hv, h G σ H s _ _ r q fun y d s1 G1 H1 q1 r1 eg eh p => ?_⟩
  obtain ⟨n, rfl, q1⟩ := q1
  exact ⟨m, n, dp_int rv, dp_int p, o.nx _ H1 _ G1 q1 (r1.putd (.int _)) eg⟩
theorem ds_iadd (i : Nat) {pos' : Pos} (hN : X.N.Nodup) (h : DE X C e t w) (hi : X.N[i]? = some x := by rfl) (hx : Loc X.env.scope x := by first | exact .inl rfl | exact .inr rfl) (hf : X.fn x = true ∨ X.env.scope.names.lookup x = some .local := by first | exact .inl rfl | exact .inr rfl | assumption) :
    DS X C (.AugAssign (.Name x pos') .Add e pos) (tAug i t (ipI fun i j => i + j)) (wAug i (fun i j => i + j) w) := ⟨ps_aug hN hi hx h.pe ip_add hf, is_aug h.ie⟩
theorem ds_isub (i : Nat) {pos' : Pos} (hN : X.N.Nodup) (h : DE X C e t w) (hi : X.N[i]? = some x := by rfl) (hx : Loc X.env.scope x := by first | exact .inl rfl | exact .inr rfl) (hf : X.fn x = true ∨ X.env.scope.names.lookup x = some .local := by first | exact .inl rfl | exact .inr rfl | assumption) :
    DS X C (.AugAssign (.Name x pos') .Sub e pos) (tAug i t (ipI fun i j => i - j)) (wAug i (fun i j => i - j) w) := ⟨ps_aug hN hi hx h.pe ip_sub hf, is_aug h.ie⟩
/-! lists of the def's own, changed -/
def wMeth (i : Nat) (wA : WA) (f : List PyData → List PyData → (PyData → List PyData → Prop) → Prop) : WE := fun s Q => (∃ ds0, s.env[i]? = some (some (.own ds0))) ∧ wA s fun as s1 => ∃ ds, s1.env[i]? = some (some (.own ds)) ∧ f ds as fun d ds' => Q d (s1.set i (.own ds'))
/-- such a method as a statement -/
theorem is_meth {i : Nat} {r : V → List V → Hp → VK → Prop} {f : List PyData → List PyData → (PyData → List PyData → Prop) → Prop}
    (hr : ∀ G H p xs vs ds as R Q', H p = some (.lst xs) → DpAll C.K G xs ds → DpAll C.K G vs as → f ds as R → (∀ v d xs' ds', R d ds' → DpAll C.K G xs' ds' → Dp C.K G v d → Q' v (upd H p (.lst xs'))) → r (.ref p) vs H Q') (h : IA C tA wA) :
    IS C (tDrop (tBM C.K "list" r (tVar i) tA)) (wDrop (wMeth i wA f)) := fun G σ H s D DD rr q o => by
  obtain ⟨⟨ds0, e0⟩, q⟩ := q
  obtain ⟨v, hv, p, xs0, rfl, b1, b2, b3, b4⟩ := rr.sl i _ e0
  refine ⟨_, hv, .inl ⟨rfl, _, .inl (.inl b1)⟩, h G σ H s _ _ rr q fun vs as s1 G1 H1 q1 r1 eg eh pa => ?_⟩
  obtain ⟨ds, e1, q1⟩ := q1
  obtain ⟨v', hv', p', xs, hvp, a1, a2, a3, a4⟩ := r1.sl i _ e1
  rw [hv] at hv'
  cases hv'
  cases hvp
  exact hr G1 H1 p xs vs ds as _ _ a1 a4 pa q1 fun v d xs' ds' q2 hd pd => o.nx σ _ _ G1 q2 (r1.mutl e1 hv hd) eg
def fAppend : List PyData → List PyData → (PyData → List PyData → Prop) → Prop := fun ds as Q => ∃ d, as = [d] ∧ ds.length < 100000 ∧ Q .none (ds ++ [d])
theorem ds_append (i : Nat) {apos cpos : Pos} (hK : X.K = C.K) (h : DE X C e t w) (hv : PE X (.Name x p) (tVar i) := by exact pv _) (hb : PE X (.Call (.Attribute (.Name x p) "append" apos) [e] [] cpos) (tBM X.K "list" rAppend (tVar i) (tCons t tNil)))
    (hs : swapsWith (.Call (.Attribute (.Name x p) "append" apos) [e] [] cpos) none pos.line X.env = pure false := by rfl) :
    DS X C (.Expr (.Call (.Attribute (.Name x p) "append" apos) [e] [] cpos) pos) (tDrop (tBM C.K "list" rAppend (tVar i) (tCons t tNil))) (wDrop (wMeth i (wCons w fun s Q => Q [] s) fAppend)) :=
  ⟨ps_expr (hK ▸ hb) hs, is_meth (fun G H p xs vs ds as R Q' h1 h2 h3 hf k => by
    obtain ⟨d, rfl, hl, hf⟩ := hf
    cases h3 with
    | cons p1 p2 =>
      cases p2
      exact ⟨p, xs, _, rfl, rfl, h1, sz_lt (by rw [dpa_len h2]; exact hl), k _ _ _ _ hf (dpa_app h2 (.cons p1 .nil)) .non⟩) (ia_cons h.ie ia_nil)⟩
end
end Dw

namespace Dw
open PySem PySem.Spec PyProof.Rows L2 OgR Evl
section
variable {X : Cx} {C : Ct} {a b e tg : Expr} {es : List Expr} {pos p : Pos} {t ta tb tc te : TE} {w wa wb wc we : WE} {tA : TA} {wA : WA} {x : Str} {st : Stmt} {sts : List Stmt} {u v : TS} {wu wv : WS}
/-! ### for -/
def wFor (w : WA) (g : WG) (wb : WS) : WS := fun DD s => w s fun ds s1 => ∃ Inv : Nat → Dt → Prop, Inv 0 s1 ∧
  (∀ (i : Nat) d s2, ds[i]? = some d → Inv i s2 → g d s2 fun s3 => wb { nx := Inv (i + 1), rt := DD.rt, bk := DD.nx, ct := Inv (i + 1) } s3) ∧ ∀ s2, Inv ds.length s2 → DD.nx s2
theorem is_for {wi : TI} {wI : WA} {g : TG} {ks : List Nat} {wg : WG} {tb : TS} {wb : WS} (hi : II C wi wI) (hg : IG C g ks wg) (hb : IS C tb wb) : IS C (tFor wi g tb) (wFor wI wg wb) := fun G σ H s D DD r q o =>
  hi G σ H s _ _ r q fun J ds s1 G1 H1 q1 r1 eg eh itd => by
    obtain ⟨Inv, h0, hs, hd⟩ := q1
    refine ⟨fun i m σ' H' => m = ds.length - i ∧ i ≤ ds.length ∧ ∃ G' s', Ex G1 G' ∧ Rel C G' σ' H' s' ∧ Inv i s', ⟨ds.length, by simp, Nat.zero_le _, G1, s1, Ex.refl G1, r1, h0⟩, ?_⟩
    rintro i m σ' H' ⟨rfl, hi, G', s', e', r', inv⟩
    obtain ⟨go, stop⟩ := itd G' H' e' r'.fin.gh
    by_cases hlt : i < ds.length
    · have hd1 : ds[i]? = some ds[i] := List.getElem?_eq_getElem hlt
      obtain ⟨g1, g2⟩ := go i _ hd1
      refine .inr ⟨g1, fun σ2 H2 => ∃ G2 s2, Ex G1 G2 ∧ Rel C G2 σ2 H2 s2 ∧ Inv (i + 1) s2, fun σ2 H2 ⟨G2, s2, a1, a2, a3⟩ => ⟨ds.length - (i + 1), by omega, rfl, hlt, G2, s2, a1, a2, a3⟩, fun x H3 y => ?_⟩
      obtain ⟨G3, b1, b2, b3, b4, b5⟩ := g2 x H3 y
      have r3 := r'.grow b1 b2 b3 b4
      have e3 := e'.trans b1
      refine hg G3 σ' H3 s' x _ _ _ r3 b5 (hs i _ s' hd1 inv) fun σ4 s4 q4 r4 _ _ => hb G3 σ4 H3 s4 _ _ r4 q4 ⟨fun σ5 H5 s5 G5 q r e => ⟨G5, s5, e3.trans e, r, q⟩, fun σ5 H5 s5 G5 q r e => o.nx σ5 H5 s5 G5 q r ((eg.trans e3).trans e), fun σ5 H5 s5 G5 q r e => ⟨G5, s5, e3.trans e, r, q⟩, fun v d c' G5 H5 q f e p => o.rt v d c' G5 H5 q f ((eg.trans e3).trans e) p⟩
    · have e : i = ds.length := by omega
      subst e
      exact .inl ⟨stop, o.nx σ' H' s' G' (hd s' inv) r' (eg.trans e')⟩
theorem ds_for {iter : Expr} {wi : TI} {wI : WA} {g : TG} {ks : List Nat} {wg : WG} {tb : TS} {wb : WS} (hp : PassesOwn (model X.prog X.w) X.A X.env X.xe) (hc : X.calm = true) (hi : DI X C tg iter wi wI) (hg : DG X C tg g ks wg) (hb : DSs X C sts tb wb)
    (hs : ∀ x, foldedSetIterable iter X.env x = pure x := by intro _; rfl) : DS X C (.For tg iter sts [] pos) (tFor wi g tb) (wFor wI wg wb) := ⟨ps_for hp hc hi.pi hg.pg hb.ps hs, is_for hi.ii hg.ig hb.is⟩
/-! ### while -/
def wWhile (c : WT) (wb : WS) : WS := fun DD s => ∃ Inv : Nat → Dt → Prop, (∃ m, Inv m s) ∧ ∀ m s, Inv m s → c s fun b s1 => if b = true then wb { nx := fun s2 => ∃ m', m' < m ∧ Inv m' s2, rt := DD.rt, bk := DD.nx, ct := fun s2 => ∃ m', m' < m ∧ Inv m' s2 } s1 else DD.nx s1
theorem ds_while {c : Expr} {tc : TT} {wc : WT} {tb : TS} {wb : WS} (hp : PassesOwn (model X.prog X.w) X.A X.env X.xe) (hc : DT X C c tc wc) (hb : DSs X C sts tb wb) : DS X C (.While c sts [] pos) (tWhile tc tb) (wWhile wc wb) := ⟨ps_while hp hc.pt hb.ps, fun G σ H s D DD r q o => by
  obtain ⟨Inv, ⟨m0, h0⟩, hs⟩ := q
  refine ⟨fun m σ' H' => ∃ G' s', Ex G G' ∧ Rel C G' σ' H' s' ∧ Inv m s', ⟨m0, G, s, Ex.refl G, r, h0⟩, ?_⟩
  rintro m σ' H' ⟨G', s', e', r', inv⟩
  refine hc.it G' σ' H' s' _ _ r' (hs m s' inv) fun b s1 G1 H1 q1 r1 eg eh => ?_
  cases b with
  | false =>
    rw [if_neg (by decide)] at q1
    exact iteF (o.nx σ' H1 s1 G1 q1 r1 (e'.trans eg))
  | true =>
    rw [if_pos rfl] at q1
    refine iteT ⟨fun σ2 H2 => ∃ m' G2 s2, m' < m ∧ Ex G G2 ∧ Rel C G2 σ2 H2 s2 ∧ Inv m' s2, fun σ2 H2 ⟨m', G2, s2, a0, a1, a2, a3⟩ => ⟨m', a0, G2, s2, a1, a2, a3⟩, hb.is G1 σ' H1 s1 _ _ r1 q1 ⟨fun σ5 H5 s5 G5 q r e => ?_, fun σ5 H5 s5 G5 q r e => o.nx σ5 H5 s5 G5 q r ((e'.trans eg).trans e), fun σ5 H5 s5 G5 q r e => ?_, fun v d c' G5 H5 q f e p => o.rt v d c' G5 H5 q f ((e'.trans eg).trans e) p⟩⟩
    · obtain ⟨m', hm, q⟩ := q
      exact ⟨m', G5, s5, hm, (e'.trans eg).trans e, r, q⟩
    · obtain ⟨m', hm, q⟩ := q
      exact ⟨m', G5, s5, hm, (e'.trans eg).trans e, r, q⟩⟩
/-! ### comprehensions -/
def wipeD (env : List (Option DV)) : List Nat → List (Option DV)
  | [] => env
  | v :: vs => (wipeD env vs).set v none
theorem wipeD_len (env : List (Option DV)) : ∀ vs : List Nat, (wipeD env vs).length = env.length
  | [] => rfl
  | v :: vs => by unfold wipeD; rw [List.length_set, wipeD_len env vs]
theorem wipeD_some {env : List (Option DV)} {i : Nat} {x : DV} : ∀ {vs : List Nat}, (wipeD env vs)[i]? = some (some x) → env[i]? = some (some x) ∧ i ∉ vs
  | [], h => ⟨h, by simp⟩
  | v :: vs, h => by
    unfold wipeD at h
    by_cases hi : v = i
    · subst hi
      by_cases hv : v < (wipeD env vs).length
      · rw [List.getElem?_set_self hv] at h; cases h
      · rw [List.getElem?_eq_none (by rw [List.length_set]; omega)] at h; cases h
    · rw [List.getElem?_set_ne hi] at h
      obtain ⟨h1, h2⟩ := wipeD_some h
      exact ⟨h1, by simp only [List.mem_cons, not_or]; exact ⟨fun e => hi e.symm, h2⟩⟩
theorem wipe_get (σ : L2.St) (j : Nat) : ∀ vs : List Nat, (wipe σ vs)[j]? = if j ∈ vs then (if j < σ.length then some none else none) else σ[j]?
  | [] => by simp [wipe]
  | v :: vs => by
    unfold wipe
    by_cases hv : v = j
    · subst hv
      rw [if_pos (by simp)]
      by_cases hl : v < σ.length
      · rw [List.getElem?_set_self (by rw [wipe_length]; exact hl), if_pos hl]
      · rw [List.getElem?_eq_none (by rw [List.length_set, wipe_length]; omega), if_neg hl]
    · rw [List.getElem?_set_ne hv, wipe_get σ j vs]
      by_cases hm : j ∈ vs
      · rw [if_pos hm, if_pos (show j ∈ v :: vs from List.mem_cons_of_mem _ hm)]
      · rw [if_neg hm, if_neg (show ¬ j ∈ v :: vs by simp only [List.mem_cons, not_or]; exact ⟨fun z => hv z.symm, hm⟩)]
theorem wipe_of {σ σ2 : L2.St} {vs ks : List Nat} (hl : σ2.length = (wipe σ vs).length) (h : ∀ j : Nat, j ∉ ks → σ2[j]? = (wipe σ vs)[j]?) (hk : ∀ k ∈ ks, k ∈ vs) : wipe σ2 vs = wipe σ vs := by
  refine List.ext_getElem? fun j => ?_
  rw [wipe_length] at hl
  rw [wipe_get, wipe_get]
  by_cases hj : j ∈ vs
  · rw [if_pos hj, if_pos hj, hl]
  · rw [if_neg hj, if_neg hj, h j fun z => hj (hk j z), wipe_get, if_neg hj]
theorem Rel.wipe {G H : Hp} {σ : L2.St} {s : Dt} (r : Rel C G σ H s) (vs : List Nat) : Rel C G (L2.wipe σ vs) H ⟨wipeD s.env vs, s.c⟩ := by
  have go : ∀ (i : Nat), i ∉ vs → (L2.wipe σ vs)[i]? = σ[i]? := fun i hi => by rw [wipe_get, if_neg hi]
  refine ⟨r.fin, by show (wipeD s.env vs).length = _; rw [wipeD_len, wipe_length]; exact r.len, fun i x e => ?_, fun i j x y p hne e1 e2 m1 m2 => ?_⟩
  · obtain ⟨e', hi⟩ := wipeD_some e
    obtain ⟨v, hv, rv⟩ := r.sl i x e'
    exact ⟨v, by rw [go i hi]; exact hv, rv⟩
  · obtain ⟨e1', h1⟩ := wipeD_some e1
    obtain ⟨e2', h2⟩ := wipeD_some e2
    rw [go i h1, go j h2]
    exact r.dis i j x y p hne e1' e2' m1 m2
/-- what is neither data nor the box stays so, where the slots keep their own lists -/
theorem Gs.keep {σ : L2.St} {G H G' H' : Hp} {s s' : Dt} (g : Gs C σ G H s G' H' s') (r : Rel C G σ H s) (r' : Rel C G' σ H' s') (he : s'.env = s.env) {b : Addr} (h1 : G b = none) (h2 : H b ≠ none) : G' b = none := by
  by_cases hx : ∃ (i : Nat) (x : DV), s.env[i]? = some (some x) ∧ x.mut = true ∧ σ[i]? = some (some (.ref b))
  · obtain ⟨i, x, e, m, hs⟩ := hx
    rw [← he] at e
    obtain ⟨v, hv, rv⟩ := r'.sl i x e
    rw [hs] at hv
    cases hv
    cases x with
    | d _ => cases m
    | box => cases m
    | own ds =>
      obtain ⟨p', xs, a1, a2, a3, a4, a5⟩ := rv
      cases a1
      exact a4
    | dic ds =>
      obtain ⟨p', xs, a1, a2, a3, a4, a5⟩ := rv
      cases a1
      exact a4
    | dit ds =>
      obtain ⟨p', xs, a1, a2, a3, a4, a5⟩ := rv
      cases a1
      exact a4
    | dd _ => cases m
    | oth _ => cases m
  · exact g.nk b h1 h2 fun i x e m hs => hx ⟨i, x, e, m, hs⟩
theorem Rel.back {σ σ2 : L2.St} {G H G' H' : Hp} {env : List (Option DV)} {c : Int} {s2 s' : Dt} (r : Rel C G σ H ⟨env, c⟩) (r2 : Rel C G σ2 H s2) (r' : Rel C G' σ2 H' s') (he : s'.env = s2.env) (eg : Ex G G') (g : Gs C σ2 G H s2 G' H' s') : Rel C G' σ H' ⟨env, s'.c⟩ := by
  refine ⟨r'.fin, r.len, fun i x e => ?_, r.dis⟩
  obtain ⟨v, hv, rv⟩ := r.sl i x e
  refine ⟨v, hv, ?_⟩
  cases x with
  | d _ => exact dp_ex eg rv
  | box => exact rv
  | own ds =>
    obtain ⟨p', xs, a1, a2, a3, a4, a5⟩ := rv
    exact ⟨p', xs, a1, g.gr p' _ (r.fin.nbx a3) a2, a3, g.keep r2 r' he a4 (by rw [a2]; exact Option.some_ne_none _), dpa_ex eg a5⟩
  | dic ds =>
    obtain ⟨p', xs, a1, a2, a3, a4, a5⟩ := rv
    exact ⟨p', xs, a1, g.gr p' _ (r.fin.nbx a3) a2, a3, g.keep r2 r' he a4 (by rw [a2]; exact Option.some_ne_none _), paired_mapP a5 fun a b q => ⟨q.1, dp_ex eg q.2⟩⟩
  | dit ds =>
    obtain ⟨p', xs, a1, a2, a3, a4, a5⟩ := rv
    exact ⟨p', xs, a1, g.gr p' _ (r.fin.nbx a3) a2, a3, g.keep r2 r' he a4 (by rw [a2]; exact Option.some_ne_none _), paired_mapP a5 fun a b q => ⟨q.1, dp_ex eg q.2⟩⟩
  | oth φ => exact Oth.step (φ := φ) rv eg (Kept.of g.gr)
  | dd ds =>
    obtain ⟨p', xs, a1, a2, a5⟩ := rv
    exact ⟨p', xs, a1, a2.gr g.gr, paired_mapP a5 fun a b q => ⟨q.1, dp_ex eg q.2⟩⟩
def wLc (w : WA) (g : WG) (tt : WT) (te : WE) (vs : List Nat) : WA := fun s Q => w s fun ds s1 => ∃ Inv : Nat → List PyData → Int → Prop, Inv 0 [] s1.c ∧
  (∀ (i : Nat) d acc c, ds[i]? = some d → Inv i acc c → g d ⟨wipeD s1.env vs, c⟩ fun s2 => tt s2 fun b s3 => s3.env = s2.env ∧ if b = true then te s3 fun y s4 => s4.env = s2.env ∧ acc.length < 100000 ∧ Inv (i + 1) (acc ++ [y]) s4.c else Inv (i + 1) acc s3.c) ∧
  ∀ acc c, Inv ds.length acc c → Q acc ⟨s1.env, c⟩
theorem io_lc {wi : TI} {wI : WA} {g : TG} {ks vs : List Nat} {wg : WG} {tt : TT} {wt : WT} (hk : ∀ k ∈ ks, k ∈ vs) (hi : II C wi wI) (hg : IG C g ks wg) (ht : IT C tt wt) (he : IE C te we) : IO C (tLc wi g tt te vs) (wLc wI wg wt we vs) := fun G σ H s Q Q' r q k =>
  hi G σ H s _ _ r q fun J ds s1 G1 H1 q1 r1 eg eh itd D hD => by
    obtain ⟨Inv, h0, hs, hd⟩ := q1
    have hHD : H D = none := by
      cases z : H D with
      | none => rfl
      | some o => exact absurd hD (eh.dom D (by rw [z]; exact Option.some_ne_none _))
    refine ⟨fun i m H' => m = ds.length - i ∧ i ≤ ds.length ∧ ∃ G' acc xs c', Ex G1 G' ∧ Rel C G' σ H' ⟨s1.env, c'⟩ ∧ Gs C σ G1 H1 s1 G' H' ⟨s1.env, c'⟩ ∧ H' D = some (.lst xs) ∧ G' D = none ∧ DpAll C.K G' xs acc ∧ Inv i acc c', ⟨ds.length, by simp, Nat.zero_le _, G1, [], [], s1.c, Ex.refl G1, r1.aside (Ex.new hD), .side (Ex.new hD), upd_same, r1.gnone hD, .nil, h0⟩, ?_⟩
    rintro i m H' ⟨rfl, hi, G', acc, xs, c', e', r', g', hHd, hGd, dacc, inv⟩
    obtain ⟨go, stop⟩ := itd G' H' e' r'.fin.gh
    have nbD : C.bx ≠ some D := r.fin.nbx (r.fin.h0 hHD)
    by_cases hlt : i < ds.length
    · have hd1 : ds[i]? = some ds[i] := List.getElem?_eq_getElem hlt
      obtain ⟨g1, g2⟩ := go i _ hd1
      refine .inr ⟨g1, fun H2 => ∃ G' acc xs c', Ex G1 G' ∧ Rel C G' σ H2 ⟨s1.env, c'⟩ ∧ Gs C σ G1 H1 s1 G' H2 ⟨s1.env, c'⟩ ∧ H2 D = some (.lst xs) ∧ G' D = none ∧ DpAll C.K G' xs acc ∧ Inv (i + 1) acc c', fun H2 ⟨G2, a1, a2, a3, a4, a5, a6, a7, a8, a9, a10⟩ => ⟨ds.length - (i + 1), by omega, rfl, hlt, G2, a1, a2, a3, a4, a5, a6, a7, a8, a9, a10⟩, fun x H3 y => ?_⟩
      obtain ⟨G3, b1, b2, b3, b4, b5⟩ := g2 x H3 y
      have r3 := r'.grow b1 b2 b3 b4
      have gs3 : Gs C σ G' H' ⟨s1.env, c'⟩ G3 H3 ⟨s1.env, c'⟩ := .grow b2 b4
      have e3 := e'.trans b1
      have hG3 : G3 D = none := gs3.nk D hGd (by rw [hHd]; exact Option.some_ne_none _) fun j y ej m z => by
        obtain ⟨v, hv, rv⟩ := r1.sl j y ej
        rw [z] at hv
        cases hv
        exact r1.notslot hD j y ej m z
      refine hg G3 (L2.wipe σ vs) H3 ⟨wipeD s1.env vs, c'⟩ x _ _ _ (r3.wipe vs) b5 (hs i _ acc c' hd1 inv) fun σ4 s4 q4 r4 l4 f4 => ⟨wipe_of l4 f4 hk, ht G3 σ4 H3 s4 _ _ r4 q4 fun bb s5 G5 H5 q5 r5 eg5 gs5 => ?_⟩
      obtain ⟨he5, q5⟩ := q5
      cases bb with
      | false =>
        rw [if_neg (by decide)] at q5
        have rr := r3.back r4 r5 he5 eg5 gs5
        refine iteF ⟨G5, acc, xs, s5.c, e3.trans eg5, rr, g'.trans (gs3.trans ⟨gs5.gr, gs5.dom, fun b h1 h2 h3 => gs5.keep r4 r5 he5 h1 h2, fun i x e m => ⟨x, e, m⟩⟩), gs5.gr D _ nbD (b2 D _ hHd), gs5.keep r4 r5 he5 hG3 (by rw [b2 D _ hHd]; exact Option.some_ne_none _), dpa_ex (b1.trans eg5) dacc, q5⟩
      | true =>
        rw [if_pos rfl] at q5
        refine iteT (he G5 σ4 H5 s5 _ _ r5 q5 fun v y s6 G6 H6 q6 r6 eg6 gs6 pv => ?_)
        obtain ⟨he6, hl, q6⟩ := q6
        have gs7 := gs5.trans gs6
        have rr := r3.back r4 r6 he6 (eg5.trans eg6) gs7
        have hD6 : H6 D = some (.lst xs) := gs7.gr D _ nbD (b2 D _ hHd)
        have gD6 : G6 D = none := gs7.keep r4 r6 he6 hG3 (by rw [b2 D _ hHd]; exact Option.some_ne_none _)
        have hm : ∀ b, b ≠ D → upd H6 D (.lst (xs ++ [v])) b = H6 b := fun b hb => upd_ne hb
        refine ⟨xs, hD6, sz_lt (by rw [dpa_len dacc]; exact hl), G6, acc ++ [y], xs ++ [v], s6.c, e3.trans (eg5.trans eg6), ?_, ?_, upd_same, gD6, dpa_app (dpa_ex ((b1.trans eg5).trans eg6) dacc) (.cons pv .nil), q6⟩
        · -- D is no slot's and not data
          have h0D : C.H0 D = none := r.fin.h0 hHD
          refine ⟨⟨fun b o hb => ?_, rr.fin.g0, rr.fin.nw, fun b o n hb => ?_, fun l hl => ?_⟩, rr.len, fun j y ej => ?_, rr.dis⟩
          · rw [hm b (fun z => by rw [z, gD6] at hb; cases hb)]
            exact rr.fin.gh b o hb
          · rw [hm b (fun z => by rw [z, h0D] at hb; cases hb)]
            exact rr.fin.hh b o n hb
          · refine ⟨(rr.fin.bx l hl).1.keep fun o q => ?_, (rr.fin.bx l hl).2⟩
            rw [hm l (fun z => nbD (by rw [← z]; exact hl))]
            exact q
          · obtain ⟨v', hv', rv⟩ := rr.sl j y ej
            refine ⟨v', hv', ?_⟩
            cases y with
            | d _ => exact rv
            | box => exact rv
            | own ds2 =>
              obtain ⟨p2, xs2, a1, a2, a3, a4, a5⟩ := rv
              exact ⟨p2, xs2, a1, by rw [hm p2 (fun z => r1.notslot hD j _ ej rfl (by rw [hv', a1, z]))]; exact a2, a3, a4, a5⟩
            | dic ds2 =>
              obtain ⟨p2, xs2, a1, a2, a3, a4, a5⟩ := rv
              exact ⟨p2, xs2, a1, by rw [hm p2 (fun z => r1.notslot hD j _ ej rfl (by rw [hv', a1, z]))]; exact a2, a3, a4, a5⟩
            | dit ds2 =>
              obtain ⟨p2, xs2, a1, a2, a3, a4, a5⟩ := rv
              exact ⟨p2, xs2, a1, by rw [hm p2 (fun z => r1.notslot hD j _ ej rfl (by rw [hv', a1, z]))]; exact a2, a3, a4, a5⟩
            | oth φ => exact Oth.step (φ := φ) rv (Ex.refl G6) (Kept.upd hD6 rfl)
            | dd ds2 =>
              obtain ⟨p2, xs2, a1, a2, a5⟩ := rv
              exact ⟨p2, xs2, a1, a2.upd hD6 h0D (fun _ _ z => by cases z), a5⟩
        · have gg := g'.trans (gs3.trans (s2 := ⟨s1.env, s6.c⟩) ⟨gs7.gr, gs7.dom, fun b h1 h2 h3 => gs7.keep r4 r6 he6 h1 h2, fun i x e m => ⟨x, e, m⟩⟩)
          refine ⟨fun b o n hb => ?_, fun b hb => ?_, gg.nk, gg.ks⟩
          · rw [hm b (fun z => by rw [z, hD] at hb; cases hb)]
            exact gg.gr b o n hb
          · by_cases z : b = D
            · rw [z, upd_same]
              exact Option.some_ne_none _
            · rw [hm b z]
              exact gg.dom b hb
    · have e : i = ds.length := by omega
      subst e
      refine .inl ⟨stop, k D xs acc ⟨s1.env, c'⟩ G' H' (hd acc c' inv) r' (eg.trans e') (eh.trans g') hHD hHd hGd dacc fun j y ej m => r1.notslot hD j y ej m⟩
theorem do_lc {elt iter : Expr} {ifs : List Expr} {scope : Scope} {own : List (Str × Nat)} {wi : TI} {wI : WA} {g : TG} {ks : List Nat} {wg : WG} {tt : TT} {wt : WT} (hc : X.calm = true) (hN : X.N.Nodup) (hi : DI X C tg iter wi wI) (ok : BlkOk X.N X.env.scope scope own)
    (hg : ∀ (s : Shared) (H : Hp) (A : Addr) (cl : List (Str × Addr)) (fp : List Addr), DG (X.blk s H scope (compEnvC scope cl A X.env) fp) C tg g ks wg)
    (ht : (∀ (s : Shared) (H : Hp) (A : Addr) (cl : List (Str × Addr)) (fp : List Addr), PTs (X.blk s H scope (compEnvC scope cl A X.env) fp) ifs tt) ∧ IT C tt wt)
    (he : ∀ (s : Shared) (H : Hp) (A : Addr) (cl : List (Str × Addr)) (fp : List Addr), DE (X.blk s H scope (compEnvC scope cl A X.env) fp) C elt te we) (hk : ∀ k ∈ ks, k ∈ own.map (·.2) := by decide) (hs : ∀ x, foldedSetIterable iter X.env x = pure x := by intro _; rfl) :
    DO X C (.ListComp elt [⟨tg, iter, ifs, 0⟩] scope pos) (tLc wi g tt te (own.map (·.2))) (wLc wI wg wt we (own.map (·.2))) :=
  ⟨pe_lc hc hN hi.pi ok (fun s H A cl fp => (hg s H A cl fp).pg) ht.1 (fun s H A cl fp => (he s H A cl fp).pe) hs,
   io_lc hk hi.ii (hg {} (fun _ => none) 0 [] []).ig ht.2 (he {} (fun _ => none) 0 [] []).ie⟩
end
end Dw

namespace Dw
open PySem PySem.Spec PyProof.Rows L2 OgR Evl
/-! ### defs: where they stand, what they promise -/
section
variable {P : Program} {wd : World} {K : PySem.W.Frag} {mg : Str → Option Value} {base : Heap}
structure Fct (K : PySem.W.Frag) (mg : Str → Option Value) (x : Str) (st : Stmt) (ps : List Str) : Prop where
  ex : ∃ f fd, Fun K x x st f fd ∧ Binds K fd ps [] ∧ mg x = some (.ref f)
def perm {α : Type} (π : List Nat) (l : List α) : List α := π.filterMap fun i => l[i]?
/-- how names alone bind -/
def ByP (fd : FuncData) (ps ks : List Str) (π : List Nat) : Prop := ∀ (s : Shared) (ws : List Value), ws.length = ks.length → BindsTo s fd ⟨[], ks.zip ws⟩ (ps.zip (perm π ws))
structure Def (P : Program) (wd : World) (K : PySem.W.Frag) (mg : Str → Option Value) (base : Heap) (k : Nat) (x : Str) (st : Stmt) (ps : List Str) (sp : Sp) : Prop where
  ex : ∃ f fd, FnG P wd K mg base k f fd ps sp ∧ Fun K x x st f fd ∧ Binds K fd ps [] ∧ mg x = some (.ref f)
theorem Def.mono {j k : Nat} {x : Str} {st : Stmt} {ps : List Str} {sp : Sp} (D : Def P wd K mg base j x st ps sp) (h : j ≤ k) : Def P wd K mg base k x st ps sp := by
  obtain ⟨f, fd, G, F, b, m⟩ := D.ex
  exact ⟨f, fd, ⟨G.1, fun A outer s H args us vs Q E hG hr => G.2 A outer s H args us vs Q E hG (hr.mono h)⟩, F, b, m⟩
theorem Def.imp {k : Nat} {x : Str} {st : Stmt} {ps : List Str} {sp sp' : Sp} (D : Def P wd K mg base k x st ps sp) (h : ∀ vs H Q E, sp' vs H Q E → sp vs H Q E) : Def P wd K mg base k x st ps sp' := by
  obtain ⟨f, fd, G, F, b, m⟩ := D.ex
  exact ⟨f, fd, ⟨fun vs H Q E q => G.1 vs H Q E (h _ _ _ _ q), fun A outer s H args us vs Q E hG hr he hb hv hs => G.2 A outer s H args us vs Q E hG hr he hb hv (h _ _ _ _ hs)⟩, F, b, m⟩
/-- a promise that asks for what cannot be -/
theorem Def.no {k : Nat} {x : Str} {st : Stmt} {ps : List Str} {sp : Sp} (c : Fct K mg x st ps) (h : ∀ vs H Q E, ¬ sp vs H Q E) : Def P wd K mg base k x st ps sp := by
  obtain ⟨f, fd, F, b, m⟩ := c.ex
  exact ⟨f, fd, ⟨fun vs H Q E q => (h _ _ _ _ q).elim, fun A outer s H args us vs Q E hG hr he hb hv hs => (h _ _ _ _ hs).elim⟩, F, b, m⟩
def env0 (N : List Str) (xs : List DV) : List (Option DV) := xs.map some ++ List.replicate (N.length - xs.length) none
theorem env0_get {N : List Str} {xs : List DV} {i : Nat} {x : DV} (h : (env0 N xs)[i]? = some (some x)) : xs[i]? = some x := by
  unfold env0 at h
  by_cases hl : i < xs.length
  · rw [List.getElem?_append_left (by rw [List.length_map]; exact hl), List.getElem?_map, List.getElem?_eq_getElem hl] at h
    rw [List.getElem?_eq_getElem hl]
    simpa using h
  · rw [List.getElem?_append_right (by rw [List.length_map]; omega)] at h
    obtain ⟨_, h2⟩ := List.getElem?_eq_some_iff.mp h
    rw [List.getElem_replicate] at h2
    cases h2
theorem start_get {N : List Str} {vs : List V} {i : Nat} {v : V} (h : vs[i]? = some v) : (L2.start N vs)[i]? = some (some v) := by
  unfold L2.start
  have hl := (List.getElem?_eq_some_iff.mp h).1
  rw [List.getElem?_append_left (by rw [List.length_map]; exact hl), List.getElem?_map, h]
  rfl
theorem env0_len {N : List Str} {xs : List DV} {vs : List V} (h : xs.length = vs.length) : (env0 N xs).length = (L2.start N vs).length := by
  unfold env0 L2.start
  rw [List.length_append, List.length_append, List.length_map, List.length_map, List.length_replicate, List.length_replicate, h]
theorem Def.pure {k : Nat} {x : Str} {st : Stmt} {N ps : List Str} {F : FP} (c : Fct K mg x st ps) (S : FnScope N ps (defScope st)) (hl : ∀ ds R, F ds R → ds.length = ps.length)
    (body : ∀ (f : Addr) (cdv : Value) (A : Around) (outer : List Env) (s : Shared) (H G : Hp) (E : XK) (ds : List PyData) (R : PyData → Prop), A.guards = some [] → Room k (A.deeper (envOfC x (defScope st) s.heap.objs.size f cdv)) → F ds R →
      ∃ t w, DSs (cxOf CX0 P wd K mg base N x (defScope st) f cdv A outer s H E).nox ⟨K, none, H, G⟩ (defBody st) t w ∧ w { nx := fun _ => R .none, rt := fun d _ => R d } ⟨env0 N (ds.map .d), 0⟩) : Def P wd K mg base (k + 1) x st ps (spP K F) := by
  obtain ⟨f, fd, Fn, b, m⟩ := c.ex
  refine ⟨f, fd, fnG_of Fn S (fun vs H Q E h => ?_) (fun cdv A outer s H vs Q E hG hr h => ?_), Fn, b, m⟩
  · obtain ⟨G, ds, R, _, p, hF, _⟩ := h
    rw [dpa_len p]
    exact hl ds R hF
  · obtain ⟨G, ds, R, gh, p, hF, kk⟩ := h
    obtain ⟨t, w, D, hw⟩ := body f cdv A outer s H G E ds R hG hr hF
    have rel : Rel ⟨K, none, H, G⟩ G (L2.start N vs) H ⟨env0 N (ds.map .d), 0⟩ := by
      refine ⟨⟨gh, Ex.refl G, Nw.refl G H, Gr.refl _ H, fun l hl => nomatch hl⟩, env0_len (by rw [List.length_map, dpa_len p]), fun i x e => ?_, fun i j x y q _ e1 _ m1 => ?_⟩
      · have e' := env0_get e
        rw [List.getElem?_map] at e'
        cases q : ds[i]? with
        | none => rw [q] at e'; cases e'
        | some d =>
          rw [q] at e'
          cases e'
          obtain ⟨v, hv, pv⟩ := dpa_back p q
          exact ⟨v, start_get hv, pv⟩
      · have e' := env0_get e1
        rw [List.getElem?_map] at e'
        cases q : ds[i]? with
        | none => rw [q] at e'; cases e'
        | some d => rw [q] at e'; cases e'; cases m1
    refine ⟨t, D.ps, D.is G (L2.start N vs) H _ _ _ rel hw ⟨fun σ' H' s' G' hn r' e => ?_, fun _ _ _ _ h => h.elim, fun _ _ _ _ h => h.elim, fun v d c' G' H' hR f' e pv => ?_⟩⟩
    · exact kk .non .none G' H' hn e (fun b o hb => r'.fin.hh b o (fun z => nomatch z) hb) r'.fin.gh r'.fin.nw .non
    · exact kk v d G' H' hR e (fun b o hb => f'.hh b o (fun z => nomatch z) hb) f'.gh f'.nw pv
theorem Def.draws {k : Nat} {x : Str} {st : Stmt} {N ps : List Str} {F : FB} (c : Fct K mg x st ps) (S : FnScope N ps (defScope st)) (hl : ∀ ds c R, F ds c R → ds.length + 1 = ps.length)
    (body : ∀ (f : Addr) (cdv : Value) (A : Around) (outer : List Env) (s : Shared) (H G : Hp) (l : Addr) (E : XK) (ds : List PyData) (c : Int) (R : PyData → Int → Prop), A.guards = some [] → Room k (A.deeper (envOfC x (defScope st) s.heap.objs.size f cdv)) → F ds c R →
      ∃ t w, DSs (cxOf CX0 P wd K mg base N x (defScope st) f cdv A outer s H E).nox ⟨K, some l, H, G⟩ (defBody st) t w ∧ w { nx := fun s => R .none s.c, rt := R } ⟨env0 N (.box :: ds.map .d), c⟩) : Def P wd K mg base (k + 1) x st ps (spB K F) := by
  obtain ⟨f, fd, Fn, b, m⟩ := c.ex
  refine ⟨f, fd, fnG_of Fn S (fun vs H Q E h => ?_) (fun cdv A outer s H vs Q E hG hr h => ?_), Fn, b, m⟩
  · obtain ⟨l, vs', G, ds, c, R, rfl, _, _, _, p, hF, _⟩ := h
    rw [List.length_cons, dpa_len p]
    exact hl ds c R hF
  · obtain ⟨l, vs', G, ds, c, R, rfl, hB, hGl, gh, p, hF, kk⟩ := h
    obtain ⟨t, w, D, hw⟩ := body f cdv A outer s H G l E ds c R hG hr hF
    have rel : Rel ⟨K, some l, H, G⟩ G (L2.start N (.ref l :: vs')) H ⟨env0 N (.box :: ds.map .d), c⟩ := by
      refine ⟨⟨gh, Ex.refl G, Nw.refl G H, Gr.refl _ H, fun l' hl' => ?_⟩, env0_len (by rw [List.length_cons, List.length_cons, List.length_map, dpa_len p]), fun i x e => ?_, fun i j x y q _ e1 _ m1 => ?_⟩
      · cases hl'
        exact ⟨hB, hGl, hB.ne⟩
      · have e' := env0_get e
        cases i with
        | zero =>
          cases e'
          exact ⟨.ref l, start_get rfl, l, rfl, rfl⟩
        | succ i =>
          rw [List.getElem?_cons_succ, List.getElem?_map] at e'
          cases q : ds[i]? with
          | none => rw [q] at e'; cases e'
          | some d =>
            rw [q] at e'
            cases e'
            obtain ⟨v, hv, pv⟩ := dpa_back p q
            exact ⟨v, start_get (by rw [List.getElem?_cons_succ]; exact hv), pv⟩
      · have e' := env0_get e1
        cases i with
        | zero => cases e'; cases m1
        | succ i =>
          rw [List.getElem?_cons_succ, List.getElem?_map] at e'
          cases q : ds[i]? with
          | none => rw [q] at e'; cases e'
          | some d => rw [q] at e'; cases e'; cases m1
    refine ⟨t, D.ps, D.is G _ H _ _ _ rel hw ⟨fun σ' H' s' G' hn r' e => ?_, fun _ _ _ _ h => h.elim, fun _ _ _ _ h => h.elim, fun v d c' G' H' hR f' e pv => ?_⟩⟩
    · exact kk .non .none s'.c G' H' hn e (fun b o hb hx => r'.fin.hh b o (fun z => hb (by cases z; rfl)) hx) (r'.fin.bx l rfl).1 r'.fin.gh r'.fin.nw .non
    · exact kk v d c' G' H' hR e (fun b o hb hx => f'.hh b o (fun z => hb (by cases z; rfl)) hx) (f'.bx l rfl).1 f'.gh f'.nw pv
end
section
variable {X : Cx} {C : Ct} {a b e tg : Expr} {es : List Expr} {pos p : Pos} {t ta tb tc te : TE} {w wa wb wc we : WE} {tA : TA} {wA : WA} {x : Str} {st : Stmt} {sts : List Stmt} {ps : List Str} {k : Nat}
theorem de_c {F : FP} (D : Def X.prog X.w X.K X.mg X.base k x st ps (spP C.K F)) (hG : X.A.guards = some []) (hr : Room k X.A) (hg : Gl X x)
    (ha : DA X C (e :: es) tA wA) (hdb : (x == ("__debug__" : Str)) = false := by decide) (he : starEach (e :: es) X.env = (false, eval e X.env) :: starEach es X.env := by rfl) (hpl : (backTo pos (starEach es X.env)).any (·.1) = false := by rfl) :
    DE X C (.Call (.Name x p) (e :: es) [] pos) (tCall (spP C.K F) [] E0 tA) (wCall F wA) := by
  obtain ⟨f, fd, G, Fn, b, m⟩ := D.ex
  exact ⟨pe_callG G hG hr hg m Fn.kp b ha.pa hdb he hpl, ie_call ha.ia⟩
theorem de_cB (i : Nat) {F : FB} {y : Str} {p2 : Pos} (D : Def X.prog X.w X.K X.mg X.base k x st ps (spB C.K F)) (hG : X.A.guards = some []) (hr : Room k X.A) (hg : Gl X x)
    (ha : DA X C es tA wA) (hv : PE X (.Name y p2) (tVar i) := by exact pv _) (hdb : (x == ("__debug__" : Str)) = false := by decide) (he : starEach (.Name y p2 :: es) X.env = (false, eval (.Name y p2) X.env) :: starEach es X.env := by rfl) (hpl : (backTo pos (starEach es X.env)).any (·.1) = false := by rfl) :
    DE X C (.Call (.Name x p) (.Name y p2 :: es) [] pos) (tCall (spB C.K F) [] E0 (tCons (tVar i) tA)) (wCallB i F wA) := by
  obtain ⟨f, fd, G, Fn, b, m⟩ := D.ex
  exact ⟨pe_callG G hG hr hg m Fn.kp b (pa_cons hv ha.pa he) hdb he hpl, ie_callB ha.ia⟩
/-! by names alone -/
structure DKw (X : Cx) (C : Ct) (kws : List Keyword) (t : TA) (w : WA) : Prop where
  pk : PK X kws t
  ia : IA C t w
theorem dk_nil : DKw X C [] tNil (fun s Q => Q [] s) := ⟨pk_nil, ia_nil⟩
theorem dk_cons {kws : List Keyword} {nm : Option Str} {kpos : Pos} {tr : TA} {wr : WA} (h : DE X C e t w) (hr : DKw X C kws tr wr) : DKw X C (⟨nm, e, kpos⟩ :: kws) (tCons t tr) (wCons w wr) := ⟨pk_cons h.pe hr.pk, ia_cons h.ie hr.ia⟩
def tNm (sp : Sp) (n : Nat) (π : List Nat) (E : XK) (tk : TA) : TE := fun σ H Q => tk σ H fun zs H1 => zs.length = n ∧ sp (perm π zs) H1 Q E
theorem vals_perm {π : List Nat} {zs : List V} {ws : List Value} (h : Vals zs ws) : Vals (perm π zs) (perm π ws) := by
  unfold perm
  induction π with
  | nil => exact .nil
  | cons i π ih =>
    rw [List.filterMap_cons, List.filterMap_cons]
    cases q : zs[i]? with
    | none => rw [h.none_of q]; exact ih
    | some v =>
      obtain ⟨u, hu, ru⟩ := h.get q
      rw [hu]
      exact .cons ru ih
theorem dpa_perm {K : PySem.W.Frag} {G : Hp} {π : List Nat} {zs : List V} {ds : List PyData} (h : DpAll K G zs ds) : DpAll K G (perm π zs) (perm π ds) := by
  unfold perm
  induction π with
  | nil => exact .nil
  | cons i π ih =>
    rw [List.filterMap_cons, List.filterMap_cons]
    cases q : zs[i]? with
    | none =>
      rw [List.getElem?_eq_none_iff.mpr (by rw [← dpa_len h]; exact List.getElem?_eq_none_iff.mp q)]
      exact ih
    | some v =>
      obtain ⟨u, hu, ru⟩ := dpa_get h q
      rw [hu]
      exact .cons ru ih
theorem pe_nm {n : Nat} {f : Addr} {fd : FuncData} {ks : List Str} {sp : Sp} {kws : List Keyword} {tk : TA} {π : List Nat} (F : FnG X.prog X.w X.K X.mg X.base k f fd ps sp) (hG : X.A.guards = some []) (hr : Room k X.A) (hg : Gl X x) (hm : X.mg x = some (.ref f)) (hk : PySem.W.keepIn X.K (.ref f) = true) (hb : ByP fd ps ks π) (hn : ks.length = n) (hkw : PK X kws tk)
    (hall : (backToKw pos (keywordEach kws X.env)).all (·.1.isSome) = true := by rfl) (hks : (backToKw pos (keywordEach kws X.env)).filterMap (·.1) = ks := by rfl) (hdb : (x == ("__debug__" : Str)) = false := by decide)
    (hpl : ((backTo pos (starEach [] X.env)).any (·.1) || (backToKw pos (keywordEach kws X.env)).any (·.1.isNone)) = false := by rfl) :
    PE X (.Call (.Name x p) [] kws pos) (tNm sp n π E0 tk) := by
  refine ⟨fun pins s σ H Q I h => wpAny_Call_Name_kw (ld_glob I hg hm ?_ hdb)⟩
  refine PySem.W.callWith_KW0 (h₀ := X.base) I.ok.mod.kin hk hall (thn (hkw.run pos pins s σ H _ I h) fun ws s1 ⟨zs, H1, I1, rz, hl, q⟩ => ⟨I1.kIn, ?_⟩) hpl
  rw [hks]
  have hwl : ws.length = ks.length := by rw [← rz.length, hl, hn]
  refine wpAny_call (codeAny_mono (F.2 X.A X.stack s1 H1 ⟨[], ks.zip ws⟩ (perm π ws) (perm π zs) Q E0 hG hr I1.env0 (hb s1 ws hwl) (vals_perm rz) q) ?_)
  rintro (e | _ | _ | _ | u) s' hq
  all_goals first
    | exact I1.after hq
    | exact False.elim hq
def wNm (F : FP) (n : Nat) (π : List Nat) (wA : WA) : WE := fun s Q => wA s fun ds s1 => ds.length = n ∧ F (perm π ds) fun d => Q d s1
theorem ie_nm {F : FP} {n : Nat} {π : List Nat} (h : IA C tA wA) : IE C (tNm (spP C.K F) n π E0 tA) (wNm F n π wA) := fun G σ H s Q Q' r q k =>
  h G σ H s _ _ r q fun vs ds s1 G1 H1 q1 r1 eg eh p => ⟨by rw [dpa_len p]; exact q1.1, G1, perm π ds, _, r1.fin.gh, dpa_perm p, q1.2, fun v d G2 H2 q2 eg2 eh2 gh nw pd =>
    k v d s1 G2 H2 q2 (r1.grow eg2 eh2 gh nw) (eg.trans eg2) (eh.trans (.grow eh2 nw)) pd⟩
theorem de_nm {F : FP} {ks : List Str} {kws : List Keyword} {tk : TA} {wk : WA} (π : List Nat) (D : Def X.prog X.w X.K X.mg X.base k x st ps (spP C.K F)) (hG : X.A.guards = some []) (hr : Room k X.A) (hg : Gl X x)
    (hby : ∀ (kV doc pm : Value) (an : Option Addr) (cdv ct : Value) (ws : List Value), ws.length = ks.length → bindArgs (PySem.W.fnOf x x (defArgs st) (defBody st) (defScope st) .none kV doc pm an cdv ct) ⟨[], ks.zip ws⟩ = Pure.pure (ps.zip (perm π ws))) (hkw : DKw X C kws tk wk)
    (hall : (backToKw pos (keywordEach kws X.env)).all (·.1.isSome) = true := by rfl) (hks : (backToKw pos (keywordEach kws X.env)).filterMap (·.1) = ks := by rfl) (hdb : (x == ("__debug__" : Str)) = false := by decide)
    (hpl : ((backTo pos (starEach [] X.env)).any (·.1) || (backToKw pos (keywordEach kws X.env)).any (·.1.isNone)) = false := by rfl) :
    DE X C (.Call (.Name x p) [] kws pos) (tNm (spP C.K F) ks.length π E0 tk) (wNm F ks.length π wk) := by
  obtain ⟨f, fd, G, Fn, b, m⟩ := D.ex
  refine ⟨pe_nm (ks := ks) G hG hr hg m Fn.kp ?_ rfl hkw.pk hall hks hdb hpl, ie_nm hkw.ia⟩
  obtain ⟨oc, od, kV, doc, pm, an, cdv, ct, osl, rfl, lk, hcd⟩ := Fn.ex
  exact fun s ws hl => .of_eq (hby kV doc pm an cdv ct ws hl)
/-! ### name = [..] on one line -/
theorem ds_setLc {elt iter : Expr} {ifs : List Expr} {scope : Scope} {own : List (Str × Nat)} {wi : TI} {wI : WA} {g : TG} {ks : List Nat} {wg : WG} {tt : TT} {wt : WT} (i : Nat) {y : Str} {py spos : Pos} (hc : X.calm = true) (hN : X.N.Nodup) (hy : X.N[i]? = some y) (hyl : X.env.scope.names.lookup y = some .local)
    (hsw : swapsWith (.ListComp elt [⟨tg, iter, ifs, 0⟩] scope pos) (some (.Name y py)) spos.line X.env = Pure.pure true) (hi : DI X C tg iter wi wI) (ok : BlkOk X.N X.env.scope scope own)
    (hg : ∀ (s : Shared) (H : Hp) (A : Addr) (cl : List (Str × Addr)) (fp : List Addr), DG (X.blk s H scope (compEnvC scope cl A X.env) fp) C tg g ks wg)
    (ht : (∀ (s : Shared) (H : Hp) (A : Addr) (cl : List (Str × Addr)) (fp : List Addr), PTs (X.blk s H scope (compEnvC scope cl A X.env) fp) ifs tt) ∧ IT C tt wt)
    (he : ∀ (s : Shared) (H : Hp) (A : Addr) (cl : List (Str × Addr)) (fp : List Addr), DE (X.blk s H scope (compEnvC scope cl A X.env) fp) C elt te we) (hk : ∀ k ∈ ks, k ∈ own.map (·.2) := by decide) (hs : ∀ x, foldedSetIterable iter X.env x = Pure.pure x := by intro _; rfl) :
    DS X C (.Assign [.Name y py] (.ListComp elt [⟨tg, iter, ifs, 0⟩] scope pos) spos) (tAsg (tLc wi g tt te (own.map (·.2))) (gName i)) (wAsg (wPubO (wLc wI wg wt we (own.map (·.2)))) (wName i)) :=
  ⟨ps_setLc hc hN hy hyl hsw hi.pi ok (fun s H A cl fp => (hg s H A cl fp).pg) ht.1 (fun s H A cl fp => (he s H A cl fp).pe) hs, is_asg (ie_own (io_lc hk hi.ii (hg {} (fun _ => none) 0 [] []).ig ht.2 (he {} (fun _ => none) 0 [] []).ie)) (ig_name i)⟩
theorem ds_ownLc {elt iter : Expr} {ifs : List Expr} {scope : Scope} {own : List (Str × Nat)} {wi : TI} {wI : WA} {g : TG} {ks : List Nat} {wg : WG} {tt : TT} {wt : WT} (i : Nat) {y : Str} {py spos : Pos} (hc : X.calm = true) (hN : X.N.Nodup) (hy : X.N[i]? = some y) (hyl : X.env.scope.names.lookup y = some .local)
    (hsw : swapsWith (.ListComp elt [⟨tg, iter, ifs, 0⟩] scope pos) (some (.Name y py)) spos.line X.env = Pure.pure true) (hi : DI X C tg iter wi wI) (ok : BlkOk X.N X.env.scope scope own)
    (hg : ∀ (s : Shared) (H : Hp) (A : Addr) (cl : List (Str × Addr)) (fp : List Addr), DG (X.blk s H scope (compEnvC scope cl A X.env) fp) C tg g ks wg)
    (ht : (∀ (s : Shared) (H : Hp) (A : Addr) (cl : List (Str × Addr)) (fp : List Addr), PTs (X.blk s H scope (compEnvC scope cl A X.env) fp) ifs tt) ∧ IT C tt wt)
    (he : ∀ (s : Shared) (H : Hp) (A : Addr) (cl : List (Str × Addr)) (fp : List Addr), DE (X.blk s H scope (compEnvC scope cl A X.env) fp) C elt te we) (hk : ∀ k ∈ ks, k ∈ own.map (·.2) := by decide) (hs : ∀ x, foldedSetIterable iter X.env x = Pure.pure x := by intro _; rfl) :
    DS X C (.Assign [.Name y py] (.ListComp elt [⟨tg, iter, ifs, 0⟩] scope pos) spos) (tAsg (tLc wi g tt te (own.map (·.2))) (gName i)) (wOwn i (wLc wI wg wt we (own.map (·.2)))) :=
  ⟨ps_setLc hc hN hy hyl hsw hi.pi ok (fun s H A cl fp => (hg s H A cl fp).pg) ht.1 (fun s H A cl fp => (he s H A cl fp).pe) hs, is_own (io_lc hk hi.ii (hg {} (fun _ => none) 0 [] []).ig ht.2 (he {} (fun _ => none) 0 [] []).ie)⟩
theorem ts_nil : (∀ (s : Shared) (H : Hp) (scope : Scope) (A : Addr) (cl : List (Str × Addr)) (fp : List Addr), PTs (X.blk s H scope (compEnvC scope cl A X.env) fp) [] tYes) ∧ IT C tYes (fun s Q => Q true s) :=
  ⟨fun _ _ _ _ _ _ => pts_nil, fun G σ H s Q Q' r q k => k true s G H q r (Ex.refl G) Gs.refl⟩
theorem ts_one {c : Expr} {scope : Scope} {tt : TT} {wt : WT} (h : ∀ (s : Shared) (H : Hp) (A : Addr) (cl : List (Str × Addr)) (fp : List Addr), DT (X.blk s H scope (compEnvC scope cl A X.env) fp) C c tt wt) :
    (∀ (s : Shared) (H : Hp) (A : Addr) (cl : List (Str × Addr)) (fp : List Addr), PTs (X.blk s H scope (compEnvC scope cl A X.env) fp) [c] tt) ∧ IT C tt wt := ⟨fun s H A cl fp => pts_one (h s H A cl fp).pt, (h {} (fun _ => none) 0 [] []).it⟩
theorem ts_no {scope : Scope} : (∀ (s : Shared) (H : Hp) (A : Addr) (cl : List (Str × Addr)) (fp : List Addr), PTs (X.blk s H scope (compEnvC scope cl A X.env) fp) [] tYes) ∧ IT C tYes (fun s Q => Q true s) :=
  ⟨fun _ _ _ _ _ => pts_nil, fun G σ H s Q Q' r q k => k true s G H q r (Ex.refl G) Gs.refl⟩
/-! ### several names at once, some of them new lists of the def's own -/
abbrev WX := Dt → (DV → Dt → Prop) → Prop
abbrev WXs := Dt → (List DV → Dt → Prop) → Prop
def PV (C : Ct) (σ : L2.St) (G H : Hp) (s : Dt) (v : V) : DV → Prop
  | .d x => Dp C.K G v x
  | .own ds => ∃ p xs, v = .ref p ∧ H p = some (.lst xs) ∧ C.H0 p = none ∧ G p = none ∧ DpAll C.K G xs ds ∧ ∀ (i : Nat) x, s.env[i]? = some (some x) → x.mut = true → σ[i]? ≠ some (some (.ref p))
  | _ => False
theorem PV.mono {σ : L2.St} {G H G' H' : Hp} {s s' : Dt} {v : V} {x : DV} (h : PV C σ G H s v x) (r : Rel C G σ H s) (eg : Ex G G') (g : Gs C σ G H s G' H' s') : PV C σ G' H' s' v x := by
  cases x with
  | d _ => exact dp_ex eg h
  | own ds =>
    obtain ⟨p, xs, a1, a2, a3, a4, a5, a6⟩ := h
    refine ⟨p, xs, a1, g.gr p _ (r.fin.nbx a3) a2, a3, g.nk p a4 (by rw [a2]; exact Option.some_ne_none _) a6, dpa_ex eg a5, fun i y e m => ?_⟩
    obtain ⟨y', e', m'⟩ := g.ks i y e m
    exact a6 i y' e' m'
  | dic _ => exact h
  | dit _ => exact h
  | dd _ => exact h
  | oth _ => exact h
  | box => exact h
theorem PV.rv {σ : L2.St} {G H : Hp} {s : Dt} {v : V} {x : DV} (h : PV C σ G H s v x) : RV C G H v x := by
  cases x with
  | d _ => exact h
  | own ds =>
    obtain ⟨p, xs, a1, a2, a3, a4, a5, a6⟩ := h
    exact ⟨p, xs, a1, a2, a3, a4, a5⟩
  | dic _ => exact h.elim
  | dit _ => exact h.elim
  | dd _ => exact h.elim
  | oth _ => exact h.elim
  | box => exact h.elim
/-- new places over H -/
def Frs (H : Hp) (vs : List V) (xs : List DV) : Prop := ∀ (i : Nat) x p, xs[i]? = some x → x.mut = true → vs[i]? = some (.ref p) → H p = none
def Dst (vs : List V) (xs : List DV) : Prop := ∀ (i j : Nat) x y p, i ≠ j → xs[i]? = some x → xs[j]? = some y → x.mut = true → y.mut = true → vs[i]? = some (.ref p) → vs[j]? ≠ some (.ref p)
inductive PVs (C : Ct) (σ : L2.St) (G H : Hp) (s : Dt) : List V → List DV → Prop
  | nil : PVs C σ G H s [] []
  | cons {v : V} {x : DV} {vs : List V} {xs : List DV} : PV C σ G H s v x → PVs C σ G H s vs xs → PVs C σ G H s (v :: vs) (x :: xs)
def IX (C : Ct) (t : TE) (w : WX) : Prop := ∀ G σ H s Q Q', Rel C G σ H s → w s Q →
  (∀ v x s' G' H', Q x s' → Rel C G' σ H' s' → Ex G G' → Gs C σ G H s G' H' s' → PV C σ G' H' s' v x → (∀ p, x.mut = true → v = .ref p → H p = none) → Q' v H') → t σ H Q'
def IXs (C : Ct) (t : TA) (w : WXs) : Prop := ∀ G σ H s Q Q', Rel C G σ H s → w s Q →
  (∀ vs xs s' G' H', Q xs s' → Rel C G' σ H' s' → Ex G G' → Gs C σ G H s G' H' s' → PVs C σ G' H' s' vs xs → Frs H vs xs → Dst vs xs → Q' vs H') → t σ H Q'
structure DX (X : Cx) (C : Ct) (e : Expr) (t : TE) (w : WX) : Prop where
  pe : PE X e t
  ix : IX C t w
structure DXs (X : Cx) (C : Ct) (es : List Expr) (t : TA) (w : WXs) : Prop where
  pa : PA X es t
  ix : IXs C t w
theorem DE.dx (h : DE X C e t w) : DX X C e t (fun s Q => w s fun d s1 => Q (.d d) s1) := ⟨h.pe, fun G σ H s Q Q' r q k => h.ie G σ H s _ _ r q fun v d s' G' H' q' r' eg g p => k v (.d d) s' G' H' q' r' eg g p fun _ m => nomatch m⟩
theorem DO.dx {w : WA} (h : DO X C e t w) : DX X C e t (fun s Q => w s fun ds s1 => Q (.own ds) s1) := ⟨h.pe, fun G σ H s Q Q' r q k => h.io G σ H s _ _ r q fun p xs ds s' G' H' q' r' eg g hp h1 h2 h3 h4 =>
  k (.ref p) (.own ds) s' G' H' q' r' eg g ⟨p, xs, rfl, h1, r.fin.h0 hp, h2, h3, h4⟩ fun p' _ z => by cases z; exact hp⟩
theorem dx_nil : DXs X C [] tNil (fun s Q => Q [] s) := ⟨pa_nil, fun G σ H s Q Q' r q k => k [] [] s G H q r (Ex.refl G) Gs.refl .nil (fun i x p e => by simp at e) fun i j x y p _ e => by simp at e⟩
theorem PVs.mono {σ : L2.St} {G H G' H' : Hp} {s s' : Dt} (r : Rel C G σ H s) (eg : Ex G G') (g : Gs C σ G H s G' H' s') : ∀ {vs : List V} {xs : List DV}, PVs C σ G H s vs xs → PVs C σ G' H' s' vs xs
  | _, _, .nil => .nil
  | _, _, .cons h t => .cons (h.mono r eg g) (PVs.mono r eg g t)
theorem dx_cons {tr : TA} {w : WX} {wr : WXs} (h : DX X C e t w) (hr : DXs X C es tr wr) (hs : starEach (e :: es) X.env = (false, eval e X.env) :: starEach es X.env := by rfl) : DXs X C (e :: es) (tCons t tr) (fun s Q => w s fun x s1 => wr s1 fun xs s2 => Q (x :: xs) s2) :=
  ⟨pa_cons h.pe hr.pa hs, fun G σ H s Q Q' r q k => h.ix G σ H s _ _ r q fun v x s1 G1 H1 q1 r1 eg1 g1 p1 f1 => hr.ix G1 σ H1 s1 _ _ r1 q1 fun vs xs s2 G2 H2 q2 r2 eg2 g2 p2 f2 d2 => by
    refine k (v :: vs) (x :: xs) s2 G2 H2 q2 r2 (eg1.trans eg2) (g1.trans g2) (.cons (p1.mono r1 eg2 g2) p2) (fun i y p ei m hv => ?_) fun i j y z p hne ei ej m1 m2 hv => ?_
    · cases i with
      | zero =>
        cases ei
        cases hv
        exact f1 p m rfl
      | succ i =>
        have := f2 i y p (by simpa using ei) m (by simpa using hv)
        cases q : H p with
        | none => rfl
        | some o => exact absurd this (g1.dom p (by rw [q]; exact Option.some_ne_none _))
    · have key : ∀ (n : Nat) (y z : DV) (p : Addr), y = x → xs[n]? = some z → y.mut = true → z.mut = true → v = .ref p → vs[n]? ≠ some (.ref p) := fun n y z p e1 e2 m1 m2 hv hn => by
        subst e1
        have hz := f2 n z p e2 m2 hn
        cases y with
        | own ds =>
          obtain ⟨p', xs', a1, a2, _⟩ := p1
          rw [hv] at a1
          cases a1
          rw [hz] at a2
          cases a2
        | dic _ => exact p1
        | dit _ => exact p1
        | dd _ => exact p1
        | oth _ => exact p1
        | d _ => cases m1
        | box => cases m1
      cases i with
      | zero =>
        cases j with
        | zero => exact absurd rfl hne
        | succ j =>
          cases ei
          cases hv
          simpa using key j x z p rfl (by simpa using ej) m1 m2 rfl
      | succ i =>
        cases j with
        | zero =>
          cases ej
          intro hn
          cases hn
          exact key i x y p rfl (by simpa using ei) m2 m1 rfl (by simpa using hv)
        | succ j => simpa using d2 i j y z p (fun e => hne (by rw [e])) (by simpa using ei) (by simpa using ej) m1 m2 (by simpa using hv)⟩
/-- names by slots, all different -/
def setS (σ : L2.St) : List Nat → List V → L2.St
  | k :: ks, v :: vs => setS (σ.set k (some v)) ks vs
  | _, _ => σ
def Dt.sets (s : Dt) : List Nat → List DV → Dt
  | k :: ks, x :: xs => (s.set k x).sets ks xs
  | _, _ => s
theorem rel_sets {G H : Hp} : ∀ {ks : List Nat} {vs : List V} {xs : List DV} {σ : L2.St} {s : Dt}, Rel C G σ H s → PVs C σ G H s vs xs → Dst vs xs → Rel C G (setS σ ks vs) H (s.sets ks xs)
  | [], _, _, _, _, r, _, _ => r
  | _ :: _, _, _, _, _, r, .nil, _ => r
  | k :: ks, _, _, σ, s, r, .cons (v := v) (x := x) (vs := vs) (xs := xs) h t, hd => by
    have r1 : Rel C G (σ.set k (some v)) H (s.set k x) := r.put h.rv fun m j y p ej mj hv => by
      cases x with
      | own ds =>
        obtain ⟨p', xs', a1, a2, a3, a4, a5, a6⟩ := h
        rw [hv] at a1
        cases a1
        exact a6 j y ej mj
      | d _ => cases m
      | box => cases m
      | dic _ => exact h.elim
      | dit _ => exact h.elim
      | dd _ => exact h.elim
      | oth _ => exact h.elim
    refine rel_sets (ks := ks) r1 ?_ fun i j y z p hne ei ej m1 m2 hv => by
      simpa using hd (i + 1) (j + 1) y z p (fun e => hne (Nat.succ.inj e)) (by simpa using ei) (by simpa using ej) m1 m2 (by simpa using hv)
    -- the others stay no slot's
    have go : ∀ {vs' : List V} {xs' : List DV}, PVs C σ G H s vs' xs' → (∀ (n : Nat) z p, xs'[n]? = some z → z.mut = true → vs'[n]? = some (.ref p) → x.mut = true → v ≠ .ref p) → PVs C (σ.set k (some v)) G H (s.set k x) vs' xs' := by
      intro vs' xs' hp
      induction hp with
      | nil => exact fun _ => .nil
      | @cons v' x' vs' xs' h' t' ih =>
        intro hq
        refine .cons ?_ (ih fun n z p e m hv => hq (n + 1) z p (by simpa using e) m (by simpa using hv))
        cases x' with
        | d _ => exact h'
        | own ds' =>
          obtain ⟨p', xs'', a1, a2, a3, a4, a5, a6⟩ := h'
          refine ⟨p', xs'', a1, a2, a3, a4, a5, fun i y e m => ?_⟩
          rcases get_set e with ⟨rfl, rfl, hl⟩ | ⟨z, e⟩
          · intro hs
            rw [List.getElem?_set_self (by rw [← r.len]; exact hl)] at hs
            cases hs
            exact hq 0 _ p' rfl rfl (by rw [a1]; rfl) m rfl
          · rw [List.getElem?_set_ne (Ne.symm z)]
            exact a6 i y e m
        | dic _ => exact h'
        | dit _ => exact h'
        | dd _ => exact h'
        | oth _ => exact h'
        | box => exact h'
    exact go t fun n z p e m hv hx hvp => hd 0 (n + 1) x z p (by omega) rfl (by simpa using e) hx m (by rw [hvp]; rfl) (by simpa using hv)
def wPar (n : Nat) (ks : List Nat) (w : WXs) : WS := fun DD s => w s fun xs s1 => xs.length = n ∧ DD.nx (s1.sets ks xs)
theorem pvs_len {σ : L2.St} {G H : Hp} {s : Dt} : ∀ {vs : List V} {xs : List DV}, PVs C σ G H s vs xs → vs.length = xs.length
  | _, _, .nil => rfl
  | _, _, .cons _ t => by rw [List.length_cons, List.length_cons, pvs_len t]
theorem is_par2 {i j : Nat} {w : WXs} (h : IXs C tA w) : IS C (tPar i j tA) (wPar 2 [i, j] w) := fun G σ H s D DD r q o => h G σ H s _ _ r q fun vs xs s1 G1 H1 q1 r1 eg g p f d => by
  obtain ⟨hl, q1⟩ := q1
  have hv := pvs_len p
  match vs, hv with
  | [v, v'], _ => exact ⟨v, v', rfl, o.nx _ H1 _ G1 q1 (rel_sets (ks := [i, j]) r1 p d) eg⟩
  | [], hv => rw [hl] at hv; simp at hv
  | [_], hv => rw [hl] at hv; simp at hv
  | _ :: _ :: _ :: _, hv => rw [hl] at hv; simp at hv
theorem ds_par2 (i j : Nat) {xn yn : Str} {px py pt : Pos} {kt k2 pt2} {w : WXs} (hc : X.calm = true) (hN : X.N.Nodup) (h : DXs X C [a, b] tA w) (hi : X.N[i]? = some xn := by rfl) (hj : X.N[j]? = some yn := by rfl) (hij : i ≠ j := by decide)
    (hx : X.env.scope.names.lookup xn = some .local := by rfl) (hy : X.env.scope.names.lookup yn = some .local := by rfl)
    (hw : swappedStores [.Tuple [.Name xn px, .Name yn py] kt pt] (.Tuple [a, b] k2 pt2) X.env = Pure.pure (some [xn, yn]) := by rfl)
    (hs : swapsWithSole [.Tuple [.Name xn px, .Name yn py] kt pt] (.Tuple [a, b] k2 pt2) pos.line X.env = Pure.pure false := by rfl) :
    DS X C (.Assign [.Tuple [.Name xn px, .Name yn py] kt pt] (.Tuple [a, b] k2 pt2) pos) (tPar i j tA) (wPar 2 [i, j] w) := ⟨ps_par hc hN hi hj hij hx hy h.pa hw hs, is_par2 h.ix⟩
theorem is_par3 {i j l : Nat} {w : WXs} (h : IXs C tA w) : IS C (tPar3 i j l tA) (wPar 3 [i, j, l] w) := fun G σ H s D DD r q o => h G σ H s _ _ r q fun vs xs s1 G1 H1 q1 r1 eg g p f d => by
  obtain ⟨hl, q1⟩ := q1
  have hv := pvs_len p
  match vs, hv with
  | [v, v', v''], _ => exact ⟨v, v', v'', rfl, o.nx _ H1 _ G1 q1 (rel_sets (ks := [i, j, l]) r1 p d) eg⟩
  | [], hv => rw [hl] at hv; simp at hv
  | [_], hv => rw [hl] at hv; simp at hv
  | [_, _], hv => rw [hl] at hv; simp at hv
  | _ :: _ :: _ :: _ :: _, hv => rw [hl] at hv; simp at hv
def gNames : List Nat → TGs
  | [] => gNil
  | k :: ks => gCons (gName k) (gNames ks)
theorem ig_names {G H : Hp} {D : L2.St → Hp → Prop} : ∀ {ks : List Nat} {vs : List V} {σ : L2.St}, vs.length = ks.length → D (setS σ ks vs) H → gNames ks vs σ H D
  | [], [], _, _, h => ⟨rfl, h⟩
  | k :: ks, v :: vs, σ, hl, h => ⟨v, vs, rfl, ig_names (G := G) (ks := ks) (by simpa using hl) h⟩
theorem is_parT {n : Nat} {ks : List Nat} {w : WXs} (hn : ks.length = n) (hn2 : n ≤ 100 := by decide) (h : IXs C tA w) : IS C (tAsg (tTup tA) (gTup C.K n (gNames ks))) (wPar n ks w) := fun G σ H s D DD r q o => h G σ H s _ _ r q fun vs xs s1 G1 H1 q1 r1 eg g p f d => by
  obtain ⟨hl, q1⟩ := q1
  have hv := pvs_len p
  refine ⟨sz_of (by omega), fun T hT => ⟨T, vs, rfl, .inl (.inl upd_same), by omega, ig_names (G := G) (by omega) ?_⟩⟩
  have e : Ex H1 (upd H1 T (.tup vs)) := Ex.new hT
  exact o.nx _ _ _ G1 q1 (rel_sets (ks := ks) (r1.aside e) (p.mono r1 (Ex.refl G1) (.side e)) d) eg
theorem ds_parT {n : Nat} (ks : List Nat) {kk k2 : Nat} {es2 : List Expr} {pt pt2 : Pos} {w : WXs} (hK : X.K = C.K) (hpg : PG X (.Tuple es kk pt) (gTup X.K n (gNames ks))) (hn : ks.length = n) (h : DXs X C es2 tA w) (hn2 : n ≤ 100 := by decide)
    (hs : swapsWithSole [.Tuple es kk pt] (.Tuple es2 k2 pt2) pos.line X.env = Pure.pure false := by rfl) (hw : swappedStores [.Tuple es kk pt] (.Tuple es2 k2 pt2) X.env = Pure.pure none := by rfl) (h1 : (assignEach [.Tuple es kk pt] X.env).map (·.2) = [assign (.Tuple es kk pt) X.env] := by rfl) :
    DS X C (.Assign [.Tuple es kk pt] (.Tuple es2 k2 pt2) pos) (tAsg (tTup tA) (gTup C.K n (gNames ks))) (wPar n ks w) := ⟨ps_asg (pe_tup h.pa) (hK ▸ hpg) hs hw h1, is_parT hn hn2 h.ix⟩
end
end Dw

namespace Dw
open PySem PySem.Spec PyProof.Rows L2 OgR Evl
section
variable {X : Cx} {C : Ct} {a b e tg : Expr} {es : List Expr} {pos p : Pos} {t ta tb tc te ty : TE} {w wa wb wc we wy : WE} {tA : TA} {wA : WA} {x : Str} {st : Stmt} {sts : List Stmt} {ps : List Str} {k : Nat}
/-! ### constants of the module -/
structure GC (K : PySem.W.Frag) (mg : Str → Option Value) (x : Str) (d : PyData) : Prop where
  ex : ∃ a, mg x = some (.ref a) ∧ ∀ G, Dp K G (.ref a) d
def tGl (mg : Str → Option Value) (x : Str) : TE := fun _ H Q => ∀ a, mg x = some (.ref a) → Q (.ref a) H
theorem de_gc {d : PyData} {mg : Str → Option Value} (c : GC C.K mg x d) (hg : Gl X x) (hmg : X.mg = mg := by rfl) (hd : (x == ("__debug__" : Str)) = false := by decide) : DE X C (.Name x pos) (tGl mg x) (wC d) := by
  subst hmg
  obtain ⟨a, hm, hD⟩ := c.ex
  refine ⟨⟨fun pins s σ H Q I h => (pe_glob (v := .ref a) hg hm rfl hd).run pins s σ H Q I (h a hm)⟩, fun G σ H s Q Q' r q k a' hm' => ?_⟩
  rw [hm] at hm'
  cases hm'
  exact k _ _ s G H q r (Ex.refl G) Gs.refl (hD G)
/-- an int of the module -/
theorem de_gi {i : Int} {tk : Tok} (hm : X.mg x = some (.int i tk)) (hg : Gl X x) (hd : (x == ("__debug__" : Str)) = false := by decide) : DE X C (.Name x pos) (tC (.int i)) (wC (.int i)) := ⟨pe_glob hg hm ⟨_, rfl⟩ hd, ie_c fun _ => .int _⟩
/-! ### dicts of constants, by a key -/
def vOf : PyData → V
  | .int i => .int i
  | .str z => .str z
  | .bool b => .bl b
  | _ => .non
def flt : PyData → Bool
  | .int _ | .str _ | .bool _ | .none => true
  | _ => false
theorem dp_flt {K : PySem.W.Frag} {G : Hp} {d : PyData} (h : flt d = true) : Dp K G (vOf d) d := by
  cases d with
  | none => exact .non
  | bool b => exact .bl b
  | int i => exact .int i
  | str z => exact .str z
  | list _ => cases h
  | tuple _ => cases h
  | dict _ => cases h
structure GD (wd : World) (K : PySem.W.Frag) (mg : Str → Option Value) (x : Str) (tbl : List (Str × PyData)) : Prop where
  ex : ∃ a, mg x = some (.ref a) ∧ ∀ z d, (z, d) ∈ tbl → flt d = true ∧ KDct K wd a z (vOf d)
def wGix (tbl : List (Str × PyData)) (wy : WE) : WE := fun s Q => wy s fun y s1 => ∃ z d, y = .str z ∧ (z, d) ∈ tbl ∧ Q d s1
theorem de_gix {tbl : List (Str × PyData)} {p2 : Pos} {wd : World} {mg : Str → Option Value} (c : GD wd C.K mg x tbl) (hK : X.K = C.K) (hg : Gl X x) (hy : DE X C b ty wy) (hmg : X.mg = mg := by rfl) (hwd : X.w = wd := by rfl) (hs : PlainIx b := by exact fun _ _ => rfl) (hd : (x == ("__debug__" : Str)) = false := by decide) :
    DE X C (.Subscript (.Name x p2) b pos) (tOp (rIxD C.K wd) (tGl mg x) ty) (wGix tbl wy) := by
  subst hmg hwd
  obtain ⟨a, hm, hD⟩ := c.ex
  have hpe : PE X (.Name x p2) (tGl X.mg x) := ⟨fun pins s σ H Q I h => (pe_glob (v := .ref a) hg hm rfl hd).run pins s σ H Q I (h a hm)⟩
  refine ⟨pe_ix (hK ▸ ix_kdict) hpe hy.pe hs, fun G σ H s Q Q' r q k a' hm' => hy.ie G σ H s _ _ r q fun v d s1 G1 H1 q1 r1 eg g pd => ?_⟩
  rw [hm] at hm'
  cases hm'
  obtain ⟨z, dd, rfl, hz, q1⟩ := q1
  obtain ⟨hf, kd⟩ := hD z dd hz
  exact ⟨a, z, vOf dd, rfl, dp_str pd, kd, k _ _ s1 G1 H1 q1 r1 eg g (dp_flt hf)⟩
/-- a displayed dict -/
def keyD : PyData → Option Key
  | .int i => some (.inl i)
  | .str z => some (.inr z)
  | _ => none
theorem key_v {K : PySem.W.Frag} {G : Hp} {v : V} {d : PyData} {k : Key} (h : Dp K G v d) (e : keyD d = some k) : v = kV k := by
  cases h with
  | int i => cases e; rfl
  | str z => cases e; rfl
  | _ => cases e
def kvsV (tbl : List (Key × PyData)) : List (Key × V) := tbl.map fun kd => (kd.1, vOf kd.2)
def lookD (tbl : List (Key × PyData)) (k : Key) : Option PyData := (tbl.find? fun kd => decide (kd.1 = k)).map (·.2)
def wDix (tbl : List (Key × PyData)) (wy : WE) : WE := fun s Q => wy s fun y s1 => ∃ k d, keyD y = some k ∧ lookD tbl k = some d ∧ Q d s1
theorem valV_of {tbl : List (Key × PyData)} {k : Key} {d : PyData} (h : lookD tbl k = some d) : valV (kvsV tbl) k = some (vOf d) := by
  unfold lookD at h
  unfold valV kvsV
  rw [List.find?_map]
  cases q : tbl.find? (fun kd => decide (kd.1 = k)) with
  | none => rw [q] at h; cases h
  | some kd =>
    rw [q] at h
    cases h
    have e : ((fun kv : Key × V => decide (kv.1 = k)) ∘ fun kd : Key × PyData => (kd.1, vOf kd.2)) = fun kd => decide (kd.1 = k) := rfl
    rw [e, q]
    rfl
theorem lookD_mem {tbl : List (Key × PyData)} {k : Key} {d : PyData} (h : lookD tbl k = some d) : (k, d) ∈ tbl := by
  unfold lookD at h
  cases q : tbl.find? (fun kd => decide (kd.1 = k)) with
  | none => rw [q] at h; cases h
  | some kd =>
    rw [q] at h
    cases h
    have h1 := List.find?_some q
    have h2 := List.mem_of_find?_eq_some q
    obtain ⟨k', d'⟩ := kd
    have e : k' = k := of_decide_eq_true h1
    subst e
    exact h2
theorem de_dix {keys : List (Option Expr)} {vals : List Expr} {trs : List (TE × TE)} {p2 : Pos} (tbl : List (Key × PyData)) (hu : X.A.units + 1 < cLine) (hp : PE X (.Dict keys vals p2) (tDisp trs)) (hc : ∀ σ H Q, Q ((kvsV tbl).map fun kv => (kV kv.1, kv.2)) H → tPairs trs σ H Q) (hy : DE X C b ty wy)
    (hm : mergeK [] (kvsV tbl) = kvsV tbl := by rfl) (hl : tbl.length ≤ 15 := by decide) (hf : ∀ kd ∈ tbl, flt kd.2 = true := by decide) (hs : NoSl b := by exact fun _ _ => rfl) :
    DE X C (.Subscript (.Dict keys vals p2) b pos) (tDGet (tDisp trs) ty) (wDix tbl wy) := ⟨pe_dget hu hp hy.pe hs, fun G σ H s Q Q' r q k pp hpp => hc _ _ _ ⟨upd_same, kvsV tbl, rfl, by unfold kvsV; rw [List.length_map]; exact hl, by
    have e1 : Ex H (upd (upd H pp (.dK [])) pp (.dK (mergeK [] (kvsV tbl)))) := by
      rw [upd_upd]
      exact Ex.new hpp
    refine hy.ie G σ _ s _ _ (r.aside e1) q fun v d s1 G1 H1 q1 r1 eg g pd => ?_
    obtain ⟨kk, dd, hk, hl2, q1⟩ := q1
    have hp1 : H1 pp = some (.dK (kvsV tbl)) := by
      rw [hm] at g
      exact g.gr pp _ (r.fin.nbx (r.fin.h0 hpp)) upd_same
    refine ⟨pp, vOf dd, rfl, ?_, k _ _ s1 G1 H1 q1 r1 eg ((Gs.side e1).trans g) (dp_flt (hf _ (lookD_mem hl2)))⟩
    rw [key_v pd hk, ← valV_of hl2]
    exact DGet.k hp1⟩⟩
/-! ### list + list, looked at -/
def rCatL (K : PySem.W.Frag) : R2 := fun x y H Q => ∃ l m xs zs, x = .ref l ∧ y = .ref m ∧ SqL K H l xs ∧ SqL K H m zs ∧ xs.length + zs.length ≤ sizeLine ∧ ∀ p, H p = none → Q (.ref p) (upd H p (.lst (xs ++ zs)))
theorem op_catL : OpR X (binaryOp .Add) (rCatL X.K) := by
  intro pins s σ H x y v u Q I rx ry h
  obtain ⟨l, m, xs, zs, rfl, rfl, h1, h2, hz, q⟩ := h
  cases rx
  cases ry
  obtain ⟨its, r1, p1, _⟩ := I.list h1
  obtain ⟨js, r2, p2, _⟩ := I.list h2
  obtain ⟨⟨c1, d1, t1, s1⟩, n1, g1, e1, _, k1⟩ := p1
  obtain ⟨⟨c2, d2, t2, s2⟩, n2, g2, e2, _, k2⟩ := p2
  simp only at e1 k1 e2 k2
  subst e1 k1 e2 k2
  have hl : its.toArray.size + js.toArray.size ≤ sizeLine := by rw [List.size_toArray, List.size_toArray, ← r1.length, ← r2.length]; exact hz
  have hp := list_addW l m its.toArray js.toArray n1 n2 d1 d2 s1 s2 hl
  refine concat_meets ⟨_, g1, rfl⟩ ⟨_, g2, rfl⟩ noFill_list_add seq_list_add F.slot_list_add F.entry_list_add (F.args_list_add_2 _ _) hp ⟨g1, g2, ?_⟩
  rw [show its.toArray ++ js.toArray = (its ++ js).toArray by simp]
  exact ⟨.ref _, _, I.lnew (t' := s.toks) (r1.append r2) (by rw [List.length_append]; exact hz), rfl, q _ I.fresh⟩
def wCatP (u v : WE) : WA := fun s Q => u s fun d s1 => v s1 fun e s2 => ∃ ds es, d = .list ds ∧ e = .list es ∧ ds.length + es.length ≤ 100000 ∧ Q (ds ++ es) s2
theorem do_catP (hK : X.K = C.K) (ha : DP X C a ta wa) (hb : DP X C b tb wb) : DO X C (.BinOp a .Add b pos) (tOp (rCatL C.K) ta tb) (wCatP wa wb) := ⟨pe_op (hK ▸ op_catL) ha.pe hb.pe, fun G σ H s Q Q' r q k =>
  ha.ip G σ H s _ _ r q fun v d s1 G1 H1 q1 r1 eg1 g1 p1 => hb.ip G1 σ H1 s1 _ _ r1 q1 fun v2 d2 s2 G2 H2 q2 r2 eg2 g2 p2 => by
    obtain ⟨ds, es, rfl, rfl, hl, q2⟩ := q2
    obtain ⟨a, xs, rfl, h1, h2⟩ := pk_lst (p1.mono eg2 g2.gr) r2.fin.gh
    obtain ⟨b, ys, rfl, h3, h4⟩ := pk_lst p2 r2.fin.gh
    exact ⟨a, b, xs, ys, rfl, rfl, h1, h3, sz_of (by rw [dpa_len h2, dpa_len h4]; exact hl), fun l hl => own_new r q2 r2 (eg1.trans eg2) (g1.trans g2) (dpa_app h2 h4) hl k⟩⟩
/-! ### more of lists of the def's own -/
/-- y = x.pop(), y = x.pop(i) -/
def wPopTo (j i : Nat) (wA : WA) (f : List PyData → List PyData → (PyData → List PyData → Prop) → Prop) : WS := fun DD s => (∃ ds0, s.env[i]? = some (some (.own ds0))) ∧ wA s fun as s1 => ∃ ds, s1.env[i]? = some (some (.own ds)) ∧ f ds as fun d ds' => DD.nx ((s1.set i (.own ds')).set j (.d d))
def fPop : List PyData → List PyData → (PyData → List PyData → Prop) → Prop := fun ds as Q => ∃ ds' d, as = [] ∧ ds = ds' ++ [d] ∧ Q d ds'
theorem dpa_snoc {K : PySem.W.Frag} {G : Hp} {xs : List V} {ds : List PyData} {d : PyData} (h : DpAll K G xs (ds ++ [d])) : ∃ ys y, xs = ys ++ [y] ∧ DpAll K G ys ds ∧ Dp K G y d := by
  have h1 := dpa_take ds.length h
  have h2 := dpa_drop ds.length h
  rw [List.take_left' rfl] at h1
  rw [List.drop_left' rfl] at h2
  have e := List.take_append_drop ds.length xs
  generalize List.drop ds.length xs = r at h2 e
  cases h2 with
  | cons p1 p2 =>
    cases p2
    exact ⟨_, _, e.symm, h1, p1⟩
/-- a list's method of no argument, its answer stored -/
theorem is_pop0 {i j : Nat} : IS C (tAsg (tBM0 C.K "list" rPop (tVar i)) (gName j)) (wPopTo j i (fun s Q => Q [] s) fPop) := fun G σ H s D DD rr q o => by
  obtain ⟨⟨ds0, e0⟩, ds, e1, ds', d, _, rfl, q⟩ := q
  obtain ⟨v, hv, p, xs, rfl, a1, a2, a3, a4⟩ := rr.sl i _ e1
  obtain ⟨ys, y, rfl, h1, h2⟩ := dpa_snoc a4
  refine ⟨_, hv, .inl ⟨rfl, _, .inl (.inl a1)⟩, p, ys ++ [y], y, rfl, rfl, a1, ?_, ?_⟩
  · rw [List.length_append, List.length_singleton, Nat.add_sub_cancel, List.getElem?_concat_length]
  · rw [List.dropLast_concat]
    exact o.nx _ _ _ G q ((rr.mutl e1 hv h1).putd h2) (Ex.refl G)
theorem ds_popTo (j i : Nat) {y : Str} {apos cpos py : Pos} (hK : X.K = C.K) (hN : X.N.Nodup) (hb : PE X (.Call (.Attribute (.Name x p) "pop" apos) [] [] cpos) (tBM0 X.K "list" rPop (tVar i)))
    (hi : X.N[j]? = some y := by rfl) (hx : Loc X.env.scope y := by first | exact .inl rfl | exact .inr rfl) (hs : swapsWith (.Call (.Attribute (.Name x p) "pop" apos) [] [] cpos) (some (.Name y py)) pos.line X.env = Pure.pure false := by rfl)
    (hf : X.fn y = true ∨ X.env.scope.names.lookup y = some .local := by first | exact .inl rfl | exact .inr rfl | assumption) :
    DS X C (.Assign [.Name y py] (.Call (.Attribute (.Name x p) "pop" apos) [] [] cpos) pos) (tAsg (tBM0 C.K "list" rPop (tVar i)) (gName j)) (wPopTo j i (fun s Q => Q [] s) fPop) := ⟨ps_set hN hi hx (hK ▸ hb) hs hf, is_pop0⟩
/-- x.pop(i), x.insert(i, y) as statements -/
def fPopAt : List PyData → List PyData → (PyData → List PyData → Prop) → Prop := fun ds as Q => ∃ (n : Nat) (d : PyData), as = [.int n] ∧ ds[n]? = some d ∧ n < 100000 ∧ Q d (ds.eraseIdx n)
def fIns : List PyData → List PyData → (PyData → List PyData → Prop) → Prop := fun ds as Q => ∃ (n : Nat) (d : PyData), as = [.int n, d] ∧ ds.length < 100000 ∧ n < 100000 ∧ Q .none (ds.take n ++ [d] ++ ds.drop n)
theorem dpa_erase {K : PySem.W.Frag} {G : Hp} : ∀ {xs : List V} {ds : List PyData} (n : Nat), DpAll K G xs ds → DpAll K G (xs.eraseIdx n) (ds.eraseIdx n)
  | _, _, _, .nil => .nil
  | _, _, 0, .cons _ t => t
  | _, _, n + 1, .cons h t => .cons h (dpa_erase n t)
theorem seqIx {n m : Nat} (h : n < m) : seqIndex? (n : Int) m = some n := by
  have := (ixN_seq (n := m) (i := n) (j := n) (by unfold ixN; rw [if_pos (by omega), if_pos (by omega), Int.toNat_natCast])).1
  exact this
theorem ds_popAt (i : Nat) {apos cpos : Pos} (hK : X.K = C.K) (h : DE X C e t w) (hb : PE X (.Call (.Attribute (.Name x p) "pop" apos) [e] [] cpos) (tBM X.K "list" rPopAt (tVar i) (tCons t tNil)))
    (hs : swapsWith (.Call (.Attribute (.Name x p) "pop" apos) [e] [] cpos) none pos.line X.env = Pure.pure false := by rfl) :
    DS X C (.Expr (.Call (.Attribute (.Name x p) "pop" apos) [e] [] cpos) pos) (tDrop (tBM C.K "list" rPopAt (tVar i) (tCons t tNil))) (wDrop (wMeth i (wCons w fun s Q => Q [] s) fPopAt)) :=
  ⟨ps_expr (hK ▸ hb) hs, is_meth (fun G H p xs vs ds as R Q' h1 h2 h3 hf k => by
    obtain ⟨n, d, rfl, hd, hn, hf⟩ := hf
    cases h3 with
    | cons p1 p2 =>
      cases p2
      obtain ⟨v, hv, pv⟩ := dpa_back h2 hd
      have hl : n < xs.length := (List.getElem?_eq_some_iff.mp hv).1
      exact ⟨p, xs, n, n, v, rfl, by rw [dp_int p1], h1, by omega, by omega, seqIx hl, hv, k _ _ _ _ hf (dpa_erase n h2) pv⟩) (ia_cons h.ie ia_nil)⟩
theorem ds_ins (i : Nat) {apos cpos : Pos} (hK : X.K = C.K) (h : DE X C a ta wa) (h' : DE X C b tb wb) (hb : PE X (.Call (.Attribute (.Name x p) "insert" apos) [a, b] [] cpos) (tBM X.K "list" (fun x vs H Q => ∃ (l : Addr) (xs : List V) (i : Int) (y : V), x = .ref l ∧ vs = [.int i, y] ∧ H l = some (.lst xs) ∧ xs.length < sizeLine ∧ 0 ≤ i ∧ i < 2 ^ 63 ∧
    Q .non (upd H l (.lst (xs.take i.toNat ++ [y] ++ xs.drop i.toNat)))) (tVar i) (tCons ta (tCons tb tNil))))
    (hs : swapsWith (.Call (.Attribute (.Name x p) "insert" apos) [a, b] [] cpos) none pos.line X.env = Pure.pure false := by rfl) :
    DS X C (.Expr (.Call (.Attribute (.Name x p) "insert" apos) [a, b] [] cpos) pos) (tDrop (tBM C.K "list" (fun x vs H Q => ∃ (l : Addr) (xs : List V) (i : Int) (y : V), x = .ref l ∧ vs = [.int i, y] ∧ H l = some (.lst xs) ∧ xs.length < sizeLine ∧ 0 ≤ i ∧ i < 2 ^ 63 ∧
    Q .non (upd H l (.lst (xs.take i.toNat ++ [y] ++ xs.drop i.toNat)))) (tVar i) (tCons ta (tCons tb tNil)))) (wDrop (wMeth i (wCons wa (wCons wb fun s Q => Q [] s)) fIns)) :=
  ⟨ps_expr (hK ▸ hb) hs, is_meth (fun G H p xs vs ds as R Q' h1 h2 h3 hf k => by
    obtain ⟨n, d, rfl, hl, hn, hf⟩ := hf
    cases h3 with
    | cons p1 p2 =>
      cases p2 with
      | cons p2 p3 =>
        cases p3
        refine ⟨p, xs, n, _, rfl, by rw [dp_int p1], h1, sz_lt (by rw [dpa_len h2]; exact hl), by omega, by omega, ?_⟩
        rw [Int.toNat_natCast]
        exact k _ _ _ _ hf (dpa_app (dpa_app (dpa_take n h2) (.cons p2 .nil)) (dpa_drop n h2)) .non) (ia_cons h.ie (ia_cons h'.ie ia_nil))⟩
/-- x[i] = e -/
def wSetIx (i : Nat) (we wi : WE) : WS := fun DD s => we s fun d s1 => (∃ ds0, s1.env[i]? = some (some (.own ds0))) ∧ wi s1 fun k s2 => ∃ (n : Nat) (ds : List PyData), k = .int n ∧ s2.env[i]? = some (some (.own ds)) ∧ n < ds.length ∧ DD.nx (s2.set i (.own (ds.set n d)))
theorem ds_setIx (i : Nat) {p2 : Pos} (h : DE X C e t w) (hi : DE X C b ty wy) (hps : PS X (.Assign [.Subscript (.Name x p) b p2] e pos) (tAsg t (gSub (tVar i) ty rSetL))) : DS X C (.Assign [.Subscript (.Name x p) b p2] e pos) (tAsg t (gSub (tVar i) ty rSetL)) (wSetIx i w wy) := ⟨hps, fun G σ H s D DD r q o =>
  h.ie G σ H s _ _ r q fun v d s1 G1 H1 q1 r1 eg1 g1 pd => by
    obtain ⟨⟨ds0, e0⟩, q1⟩ := q1
    obtain ⟨v0, hv0, _⟩ := r1.sl i _ e0
    refine ⟨v0, hv0, hi.ie G1 σ H1 s1 _ _ r1 q1 fun v2 kk s2 G2 H2 q2 r2 eg2 g2 pk => ?_⟩
    obtain ⟨n, ds, rfl, e2, hn, q2⟩ := q2
    obtain ⟨v3, hv3, pp, xs, rfl, a1, a2, a3, a4⟩ := r2.sl i _ e2
    rw [hv0] at hv3
    cases hv3
    have hl : n < xs.length := by rw [dpa_len a4]; exact hn
    exact ⟨pp, xs, n, n, rfl, dp_int pk, a1, by unfold ixN; rw [if_pos (by omega), if_pos (by omega), Int.toNat_natCast], o.nx _ _ _ G2 q2 (r2.mutl e2 hv0 (dpa_set (dp_ex eg2 pd) n a4)) (eg1.trans eg2)⟩⟩
/-! ### repr of data -/
def RepOk (d : PyData) : Prop := d.showable = true ∧ d.hasDict = false ∧ d.depth ≤ 40 ∧ d.shown.length ≤ sizeLine
def gRepr : G1 := fun d s Q => RepOk d ∧ Q (.str d.shown) s
theorem r1_repr : R1D C (rRepr C.K) gRepr := ⟨fun G σ H s x d Q Q' r pk q k => by
  obtain ⟨⟨h1, h2, h3, h4⟩, q⟩ := q
  exact ⟨x, d, rfl, pk.dp r.fin.gh, h1, h2, h3, h4, k _ _ s G H q r (Ex.refl G) Gs.refl (.str _)⟩⟩
theorem de_repr (hK : X.K = C.K) (hG : X.A.guards = some []) (hu : X.A.units + 64 < cLine) (hg : Gl X "repr") (hm : X.mg "repr" = none) (ha : DP X C a ta wa) (hs : starEach [a] X.env = (false, eval a X.env) :: starEach [] X.env := by rfl) :
    DE X C (.Call (.Name "repr" p) [a] [] pos) (tCB (rRepr C.K) (tCons ta tNil)) (w1 gRepr wa) := de_b1 (hK ▸ cr_repr hG hu) r1_repr hg hm (by decide +kernel) ha (by decide) (by decide) hs
/-! ### min of a tuple of ints -/
def rMinT' (K : PySem.W.Frag) : List V → Hp → VK → Prop := fun vs H Q => ∃ (a : Addr) (n : Int) (ns : List Int), vs = [V.ref a] ∧ SqT K H a ((n :: ns).map V.int) ∧ Q (.int (ns.foldl min n)) H
theorem reads_ints {h : Heap} : ∀ {us : List Value} {ns : List Int}, IntsAre us ns → ∃ as, ReadsAll h us (ns.map PyData.int) as
  | _, _, .nil => ⟨_, .nil⟩
  | _, _, .cons n t r => by
    obtain ⟨as, q⟩ := reads_ints r
    exact ⟨_, .cons (.int n t) q⟩
theorem alike_ints (ns : List Int) : PySem.W.AlikeAll (ns.map PyData.int) := by
  refine ⟨fun x hx y hy => ?_, fun x hx => ?_⟩
  · obtain ⟨i, _, rfl⟩ := List.mem_map.mp hx
    obtain ⟨j, _, rfl⟩ := List.mem_map.mp hy
    simp only [PySem.W.alike]
  · obtain ⟨i, _, rfl⟩ := List.mem_map.mp hx
    exact fun e => nomatch e
theorem depth_ints : ∀ ns : List Int, PyData.depthAll (ns.map PyData.int) = 0
  | [] => by simp [PyData.depthAll]
  | n :: r => by rw [List.map_cons]; simp only [PyData.depthAll, PyData.depth]; rw [depth_ints r]; rfl
theorem cr_minT (hc : X.calm = true) (hu : X.A.units + 1 < cLine) : CallR X (.builtin "min") (rMinT' X.K) := by
  intro pins s σ H vs us Q I r h
  obtain ⟨a, n, ns, rfl, hs, q⟩ := h
  obtain ⟨its, rv, pt, hz⟩ := I.tuple hs
  rw [Vals.ref1 r]
  obtain ⟨as, ra⟩ := reads_ints (h := s.heap) rv.ints
  refine PySem.W.min_tuple_data (x := .int n) (xs := ns.map .int) (vs := its.toArray) (I.ok.hd hc) pt (by simpa using ra) (alike_ints (n :: ns)) ?_ fun i v h' tk bs hi rd hk => ?_
  · rw [show PyData.int n :: ns.map PyData.int = (n :: ns).map PyData.int from rfl, depth_ints]
    exact hu
  · rw [PySem.W.minD_ints] at rd
    cases rd
    exact ⟨.int _, H, I.kept hk, ⟨_, rfl⟩, q⟩
def gMinT : G1 := fun d s Q => ∃ (n : Int) (ns : List Int), d = .tuple ((n :: ns).map .int) ∧ Q (.int (ns.foldl min n)) s
theorem r1_minT : R1D C (rMinT' C.K) gMinT := ⟨fun G σ H s x d Q Q' r pk q k => by
  obtain ⟨n, ns, rfl, q⟩ := q
  obtain ⟨p, xs, rfl, h1, h2⟩ := pk_tup pk
  rw [ints_dpa h2] at h1
  exact ⟨p, n, ns, rfl, Evl.ex_t r.fin.gh h1, k _ _ s G H q r (Ex.refl G) Gs.refl (.int _)⟩⟩
theorem de_minT (hK : X.K = C.K) (hc : X.calm = true) (hu : X.A.units + 1 < cLine) (hg : Gl X "min") (hm : X.mg "min" = none) (ha : DP X C a ta wa) (hs : starEach [a] X.env = (false, eval a X.env) :: starEach [] X.env := by rfl) :
    DE X C (.Call (.Name "min" p) [a] [] pos) (tCB (rMinT' C.K) (tCons ta tNil)) (w1 gMinT wa) := de_b1 (hK ▸ cr_minT hc hu) r1_minT hg hm (by decide +kernel) ha (by decide) (by decide) hs
/-! ### tuple * int -/
end
end Dw

namespace Dw
open PySem PySem.Spec PyProof.Rows L2 OgR Evl
theorem u65 {k : Nat} {A : Around} (r : Room k A) : A.units + 65 < cLine := by have := r.un; omega
section
variable {X : Cx} {C : Ct} {a b c e tg : Expr} {es : List Expr} {pos p : Pos} {t ta tb tc te ty : TE} {w wa wb wc we wy : WE} {tA : TA} {wA : WA} {x : Str} {st : Stmt} {sts : List Stmt} {ps : List Str} {k : Nat}
theorem dgs_c {g : TG} {gs : TGs} {k1 k2 : List Nat} {w : WG} {u : WGs} (h1 : DG X C e g k1 w) (h2 : DGs X C es gs k2 u) (hs : (assignEach (e :: es) X.env).map (·.2) = assign e X.env :: (assignEach es X.env).map (·.2) := by rfl) :
    DGs X C (e :: es) (gCons g gs) (k1 ++ k2) (wGCons w u) := dgs_cons h1 h2 (pgs_cons h1.pg h2.pg hs)
theorem di_zip2 {elts : List Expr} {kk : Nat} {tpos : Pos} (hK : X.K = C.K) (hg : Gl X "zip") (hm : X.mg "zip" = none) (h : DE X C a ta wa) (h' : DE X C b tb wb) (hs : starEach [a, b] X.env = (false, eval a X.env) :: starEach [b] X.env := by rfl) (hs2 : starEach [b] X.env = (false, eval b X.env) :: starEach [] X.env := by rfl)
    (hpl : (backTo pos (starEach [b] X.env)).any (·.1) = false := by rfl) : DI X C (.Tuple elts kk tpos) (.Call (.Name "zip" p) [a, b] [] pos) (iZipB C.K (tCons ta (tCons tb tNil))) (wZip wa wb) :=
  di_zip hK hg hm h h' (pi_zipB hg hm (pa_cons h.pe (pa_cons h'.pe pa_nil hs2) hs) hs hpl)
theorem ds_par3 (i j l : Nat) {xn yn zn : Str} {px py pz pt : Pos} {kt k2 pt2} {w : WXs} (hc : X.calm = true) (hN : X.N.Nodup) (h : DXs X C [a, b, c] tA w) (hi : X.N[i]? = some xn := by rfl) (hj : X.N[j]? = some yn := by rfl) (hl : X.N[l]? = some zn := by rfl) (hij : i ≠ j := by decide) (hil : i ≠ l := by decide) (hjl : j ≠ l := by decide)
    (hx : X.env.scope.names.lookup xn = some .local := by rfl) (hy : X.env.scope.names.lookup yn = some .local := by rfl) (hz : X.env.scope.names.lookup zn = some .local := by rfl)
    (hw : swappedStores [.Tuple [.Name xn px, .Name yn py, .Name zn pz] kt pt] (.Tuple [a, b, c] k2 pt2) X.env = Pure.pure (some [xn, yn, zn]) := by rfl)
    (hs : swapsWithSole [.Tuple [.Name xn px, .Name yn py, .Name zn pz] kt pt] (.Tuple [a, b, c] k2 pt2) pos.line X.env = Pure.pure false := by rfl) :
    DS X C (.Assign [.Tuple [.Name xn px, .Name yn py, .Name zn pz] kt pt] (.Tuple [a, b, c] k2 pt2) pos) (tPar3 i j l tA) (wPar 3 [i, j, l] w) := ⟨ps_par3 hc hN hi hj hl hij hil hjl hx hy hz h.pa hw hs, is_par3 h.ix⟩
/-! the methods of a list of the def's own, in short -/
theorem ds_app (i : Nat) {apos cpos : Pos} (hK : X.K = C.K) (h : DE X C e t w) (hv : PE X (.Name x p) (tVar i) := by exact pv _) (hb0 : attributeBase (.Name x p) "append" X.env (eval (.Name x p) X.env) = eval (.Name x p) X.env := by rfl)
    (hfew : ((backTo cpos (starEach [e] X.env)).all (fun x => !x.1) && (backToKw cpos (keywordEach [] X.env)).all (fun x => x.1.isSome) && decide ([e].length + ([] : List Keyword).length + (if ([] : List Keyword).isEmpty then 0 else 1) < 30)) = true := by rfl)
    (hline : (apos.endLine == cpos.line) = true := by rfl) (hst : starEach [e] X.env = (false, eval e X.env) :: starEach [] X.env := by rfl) (hpl : (backTo cpos (starEach [] X.env)).any (·.1) = false := by rfl)
    (hs : swapsWith (.Call (.Attribute (.Name x p) "append" apos) [e] [] cpos) none pos.line X.env = Pure.pure false := by rfl) :
    DS X C (.Expr (.Call (.Attribute (.Name x p) "append" apos) [e] [] cpos) pos) (tDrop (tBM C.K "list" rAppend (tVar i) (tCons t tNil))) (wDrop (wMeth i (wCons w fun s Q => Q [] s) fAppend)) :=
  ds_append i hK h hv (pe_bm PySem.F.plainAttrs_list PySem.F.slot_list_append PySem.F.type_list_append mt_append hv (pa_cons h.pe pa_nil hst) hb0 hfew hline hst hpl) hs
theorem ds_popA (i : Nat) {apos cpos : Pos} (hK : X.K = C.K) (h : DE X C e t w) (hv : PE X (.Name x p) (tVar i) := by exact pv _) (hb0 : attributeBase (.Name x p) "pop" X.env (eval (.Name x p) X.env) = eval (.Name x p) X.env := by rfl)
    (hfew : ((backTo cpos (starEach [e] X.env)).all (fun x => !x.1) && (backToKw cpos (keywordEach [] X.env)).all (fun x => x.1.isSome) && decide ([e].length + ([] : List Keyword).length + (if ([] : List Keyword).isEmpty then 0 else 1) < 30)) = true := by rfl)
    (hline : (apos.endLine == cpos.line) = true := by rfl) (hst : starEach [e] X.env = (false, eval e X.env) :: starEach [] X.env := by rfl) (hpl : (backTo cpos (starEach [] X.env)).any (·.1) = false := by rfl)
    (hs : swapsWith (.Call (.Attribute (.Name x p) "pop" apos) [e] [] cpos) none pos.line X.env = Pure.pure false := by rfl) :
    DS X C (.Expr (.Call (.Attribute (.Name x p) "pop" apos) [e] [] cpos) pos) (tDrop (tBM C.K "list" rPopAt (tVar i) (tCons t tNil))) (wDrop (wMeth i (wCons w fun s Q => Q [] s) fPopAt)) :=
  ds_popAt i hK h (pe_bm PySem.F.plainAttrs_list PySem.F.slot_list_pop PySem.F.type_list_pop mt_popAt hv (pa_cons h.pe pa_nil hst) hb0 hfew hline hst hpl) hs
abbrev rIns : V → List V → Hp → VK → Prop := fun x vs H Q => ∃ (l : Addr) (xs : List V) (i : Int) (y : V), x = .ref l ∧ vs = [.int i, y] ∧ H l = some (.lst xs) ∧ xs.length < sizeLine ∧ 0 ≤ i ∧ i < 2 ^ 63 ∧
  Q .non (upd H l (.lst (xs.take i.toNat ++ [y] ++ xs.drop i.toNat)))
theorem ds_insA (i : Nat) {apos cpos : Pos} (hK : X.K = C.K) (h : DE X C a ta wa) (h' : DE X C b tb wb) (hv : PE X (.Name x p) (tVar i) := by exact pv _) (hb0 : attributeBase (.Name x p) "insert" X.env (eval (.Name x p) X.env) = eval (.Name x p) X.env := by rfl)
    (hfew : ((backTo cpos (starEach [a, b] X.env)).all (fun x => !x.1) && (backToKw cpos (keywordEach [] X.env)).all (fun x => x.1.isSome) && decide ([a, b].length + ([] : List Keyword).length + (if ([] : List Keyword).isEmpty then 0 else 1) < 30)) = true := by rfl)
    (hline : (apos.endLine == cpos.line) = true := by rfl) (hst : starEach [a, b] X.env = (false, eval a X.env) :: starEach [b] X.env := by rfl) (hst2 : starEach [b] X.env = (false, eval b X.env) :: starEach [] X.env := by rfl) (hpl : (backTo cpos (starEach [b] X.env)).any (·.1) = false := by rfl)
    (hs : swapsWith (.Call (.Attribute (.Name x p) "insert" apos) [a, b] [] cpos) none pos.line X.env = Pure.pure false := by rfl) :
    DS X C (.Expr (.Call (.Attribute (.Name x p) "insert" apos) [a, b] [] cpos) pos) (tDrop (tBM C.K "list" rIns (tVar i) (tCons ta (tCons tb tNil)))) (wDrop (wMeth i (wCons wa (wCons wb fun s Q => Q [] s)) fIns)) :=
  ds_ins i hK h h' (pe_bm PySem.F.plainAttrs_list PySem.F.slot_list_insert PySem.F.type_list_insert mt_insert hv (pa_cons h.pe (pa_cons h'.pe pa_nil hst2) hst) hb0 hfew hline hst hpl) hs
theorem ds_sub (i : Nat) {p2 : Pos} (h : DE X C e t w) (hi : DE X C b ty wy) (hps : PE X e t → PE X b ty → PS X (.Assign [.Subscript (.Name x p) b p2] e pos) (tAsg t (gSub (tVar i) ty rSetL)) := by exact fun h hi => ps_asg h (pg_sub (pv _) hi set_list)) :
    DS X C (.Assign [.Subscript (.Name x p) b p2] e pos) (tAsg t (gSub (tVar i) ty rSetL)) (wSetIx i w wy) := ds_setIx i h hi (hps h.pe hi.pe)
end
/-! ### loops, what follows a turn kept closed -/
theorem for_by {ds : List PyData} {g : WG} {wb : WS} {DD : DEnds} {s1 : Dt} (Inv : Nat → Dt → Prop) (h0 : Inv 0 s1)
    (hs : ∀ (i : Nat) d s2 (J : Dt → Prop), ds[i]? = some d → Inv i s2 → (∀ s, Inv (i + 1) s → J s) → g d s2 fun s3 => wb { nx := J, rt := DD.rt, bk := DD.nx, ct := J } s3) (hd : ∀ s2, Inv ds.length s2 → DD.nx s2) :
    ∃ Inv : Nat → Dt → Prop, Inv 0 s1 ∧ (∀ (i : Nat) d s2, ds[i]? = some d → Inv i s2 → g d s2 fun s3 => wb { nx := Inv (i + 1), rt := DD.rt, bk := DD.nx, ct := Inv (i + 1) } s3) ∧ ∀ s2, Inv ds.length s2 → DD.nx s2 :=
  ⟨Inv, h0, fun i d s2 e inv => hs i d s2 (Inv (i + 1)) e inv fun _ h => h, hd⟩
/-! ### simple comprehensions -/
theorem lc_by {ds : List PyData} {g : WG} {tt : WT} {te : WE} {vs : List Nat} {env : List (Option DV)} {c : Int} {Q : List PyData → Dt → Prop} (f : PyData → Option PyData) (hl : ds.length ≤ 99999)
    (h : ∀ d ∈ ds, ∀ (acc : List PyData) (J : List PyData → Int → Prop), acc.length < 100000 → (∀ y, f d = some y → J (acc ++ [y]) c) → (f d = none → J acc c) →
      g d ⟨wipeD env vs, c⟩ fun s2 => tt s2 fun b s3 => s3.env = s2.env ∧ if b = true then te s3 fun y s4 => s4.env = s2.env ∧ acc.length < 100000 ∧ J (acc ++ [y]) s4.c else J acc s3.c) (q : Q (ds.filterMap f) ⟨env, c⟩) :
    ∃ Inv : Nat → List PyData → Int → Prop, Inv 0 [] c ∧
      (∀ (i : Nat) d acc c', ds[i]? = some d → Inv i acc c' → g d ⟨wipeD env vs, c'⟩ fun s2 => tt s2 fun b s3 => s3.env = s2.env ∧ if b = true then te s3 fun y s4 => s4.env = s2.env ∧ acc.length < 100000 ∧ Inv (i + 1) (acc ++ [y]) s4.c else Inv (i + 1) acc s3.c) ∧
      ∀ acc c', Inv ds.length acc c' → Q acc ⟨env, c'⟩ := by
  refine ⟨fun i acc c' => c' = c ∧ acc = (ds.take i).filterMap f, ⟨rfl, rfl⟩, fun i d acc c' hd inv => ?_, fun acc c' inv => ?_⟩
  · obtain ⟨rfl, rfl⟩ := inv
    have e : ds.take (i + 1) = ds.take i ++ [d] := by rw [List.take_add_one, hd]; rfl
    refine h d (List.mem_of_getElem? hd) _ (fun acc c2 => c2 = c' ∧ acc = (ds.take (i + 1)).filterMap f) ?_ (fun y hy => ⟨rfl, ?_⟩) fun hy => ⟨rfl, ?_⟩
    · have := List.length_filterMap_le f (ds.take i)
      rw [List.length_take] at this
      omega
    · rw [e, List.filterMap_append, List.filterMap_cons, hy]
      rfl
    · rw [e, List.filterMap_append, List.filterMap_cons, hy]
      simp
  · obtain ⟨rfl, rfl⟩ := inv
    rw [List.take_length]
    exact q
theorem lc_map {ds : List PyData} {g : WG} {te : WE} {vs : List Nat} {env : List (Option DV)} {c : Int} {Q : List PyData → Dt → Prop} (f : PyData → PyData) (hl : ds.length ≤ 99999)
    (h : ∀ d ∈ ds, ∀ (acc : List PyData) (J : List PyData → Int → Prop), acc.length < 100000 → J (acc ++ [f d]) c → g d ⟨wipeD env vs, c⟩ fun s2 => te s2 fun y s4 => s4.env = s2.env ∧ acc.length < 100000 ∧ J (acc ++ [y]) s4.c) (q : Q (ds.map f) ⟨env, c⟩) :
    ∃ Inv : Nat → List PyData → Int → Prop, Inv 0 [] c ∧
      (∀ (i : Nat) d acc c', ds[i]? = some d → Inv i acc c' → g d ⟨wipeD env vs, c'⟩ fun s2 => (fun s (Q : Bool → Dt → Prop) => Q true s) s2 fun b s3 => s3.env = s2.env ∧ if b = true then te s3 fun y s4 => s4.env = s2.env ∧ acc.length < 100000 ∧ Inv (i + 1) (acc ++ [y]) s4.c else Inv (i + 1) acc s3.c) ∧
      ∀ acc c', Inv ds.length acc c' → Q acc ⟨env, c'⟩ := by
  refine ⟨fun i acc c' => c' = c ∧ acc = (ds.take i).map f, ⟨rfl, rfl⟩, fun i d acc c' hd inv => ?_, fun acc c' inv => ?_⟩
  · obtain ⟨rfl, rfl⟩ := inv
    have e : ds.take (i + 1) = ds.take i ++ [d] := by rw [List.take_add_one, hd]; rfl
    have := h d (List.mem_of_getElem? hd) ((ds.take i).map f) (fun acc c2 => c2 = c' ∧ acc = (ds.take (i + 1)).map f) (by rw [List.length_map, List.length_take]; omega) ⟨rfl, by rw [e, List.map_append]; rfl⟩
    simp only [if_true, true_and]
    exact this
  · obtain ⟨rfl, rfl⟩ := inv
    rw [List.take_length]
    exact q
end Dw

namespace Dw
open PySem PySem.Spec PyProof.Rows L2 OgR Evl
/-- data whose text is short -/
structure Shw (k m : Nat) (d : PyData) : Prop where
  sh : d.showable = true
  nd : d.hasDict = false
  dp : d.depth ≤ k
  ln : d.shown.length ≤ m
theorem Shw.up {k m k' m' : Nat} {d : PyData} (h : Shw k m d) (hk : k ≤ k') (hm : m ≤ m') : Shw k' m' d := ⟨h.sh, h.nd, Nat.le_trans h.dp hk, Nat.le_trans h.ln hm⟩
theorem tf_le {m : Nat} : ∀ (ts : List Str) (k : Nat) (acc : Str), (∀ t ∈ ts, t.length ≤ m) → (textFrom k acc ts).length ≤ acc.length + (m + 2) * ts.length
  | [], k, acc, _ => by show acc.length ≤ _; omega
  | t :: ts, k, acc, h => by
    have ih := tf_le ts (k + 1) (acc ++ (if k > 0 then ", " else "" : String) ++ t) fun x hx => h x (List.mem_cons_of_mem _ hx)
    have h1 := h t List.mem_cons_self
    rw [strLen_append, strLen_append] at ih
    have h2 : (Str.ofString (if k > 0 then ", " else "")).length ≤ 2 := by
      split <;> decide
    show (textFrom (k + 1) (acc ++ (if k > 0 then ", " else "" : String) ++ t) ts).length ≤ _
    rw [List.length_cons, Nat.mul_add]
    have e3 : (Str.ofString (if k > 0 then ", " else "")).length ≤ 2 := h2
    omega
theorem piled_le {m : Nat} : ∀ ts : List Str, (∀ t ∈ ts, t.length ≤ m) → piled ts ≤ (m + 2) * ts.length
  | [], _ => by rw [piled_nil]; omega
  | t :: ts, h => by
    rw [piled_cons, List.length_cons, Nat.mul_add]
    have := piled_le ts fun x hx => h x (List.mem_cons_of_mem _ hx)
    have := h t List.mem_cons_self
    omega
theorem lt_le {m : Nat} {ts : List Str} (h : ∀ t ∈ ts, t.length ≤ m) : (listText ts).length ≤ (m + 2) * ts.length + 4 := by
  have h1 := tf_le ts 0 "[" h
  show (textFrom 0 "[" ts ++ "]").length ≤ _
  rw [strLen_append]
  have e1 : (Str.ofString "[").length = 1 := by decide
  have e2 : (Str.ofString "]").length = 1 := by decide
  omega
theorem tt_le {m : Nat} {ts : List Str} (h : ∀ t ∈ ts, t.length ≤ m) : (tupleText ts).length ≤ (m + 2) * ts.length + 4 := by
  unfold tupleText
  rw [strLen_append, strLen_append]
  have e1 : (Str.ofString "(").length = 1 := by decide
  have e2 : (Str.ofString (if ts.length == 1 then ",)" else ")")).length ≤ 2 := by
    split <;> decide
  have h1 := piled_le ts h
  by_cases hn : ts = []
  · subst hn
    have e3 : ((Str.ofString ", ").join []).length = 0 := by decide
    rw [e3]
    omega
  · have h2 := join_length_add ts hn
    omega
theorem shownAll_map : ∀ ds : List PyData, PyData.shownAll ds = ds.map PyData.shown
  | [] => by simp only [PyData.shownAll, List.map_nil]
  | d :: ds => by simp only [PyData.shownAll, List.map_cons, shownAll_map ds]
theorem seq_facts {k m : Nat} : ∀ {ds : List PyData}, (∀ d ∈ ds, Shw k m d) → PyData.showableAll ds = true ∧ PyData.hasDictAll ds = false ∧ PyData.depthAll ds ≤ k
  | [], _ => ⟨by simp only [PyData.showableAll], by simp only [PyData.hasDictAll], by simp only [PyData.depthAll]; omega⟩
  | d :: ds, h => by
    obtain ⟨h1, h2, h3⟩ := seq_facts fun x hx => h x (List.mem_cons_of_mem _ hx)
    have h0 := h d List.mem_cons_self
    refine ⟨?_, ?_, ?_⟩
    · simp only [PyData.showableAll, h0.sh, h1, Bool.and_self]
    · simp only [PyData.hasDictAll, h0.nd, h2, Bool.or_self]
    · simp only [PyData.depthAll]
      exact Nat.max_le.mpr ⟨h0.dp, h3⟩
theorem shw_tup {k m n : Nat} {ds : List PyData} (h : ∀ d ∈ ds, Shw k m d) (hn : ds.length ≤ n) : Shw (k + 1) ((m + 2) * n + 4) (.tuple ds) := by
  obtain ⟨h1, h2, h3⟩ := seq_facts h
  refine ⟨by simpa only [PyData.showable] using h1, by simpa only [PyData.hasDict] using h2, by simp only [PyData.depth]; omega, ?_⟩
  simp only [PyData.shown]
  refine Nat.le_trans (tt_le (m := m) fun t ht => ?_) ?_
  · rw [shownAll_map] at ht
    obtain ⟨d, hd, rfl⟩ := List.mem_map.mp ht
    exact (h d hd).ln
  · rw [shownAll_map, List.length_map]
    exact Nat.add_le_add_right (Nat.mul_le_mul_left _ hn) 4
theorem shw_lst {k m n : Nat} {ds : List PyData} (h : ∀ d ∈ ds, Shw k m d) (hn : ds.length ≤ n) : Shw (k + 1) ((m + 2) * n + 4) (.list ds) := by
  obtain ⟨h1, h2, h3⟩ := seq_facts h
  refine ⟨by simpa only [PyData.showable] using h1, by simpa only [PyData.hasDict] using h2, by simp only [PyData.depth]; omega, ?_⟩
  simp only [PyData.shown]
  refine Nat.le_trans (lt_le (m := m) fun t ht => ?_) ?_
  · rw [shownAll_map] at ht
    obtain ⟨d, hd, rfl⟩ := List.mem_map.mp ht
    exact (h d hd).ln
  · rw [shownAll_map, List.length_map]
    exact Nat.add_le_add_right (Nat.mul_le_mul_left _ hn) 4
theorem shw_int {i : Int} (h : i.natAbs ≤ 10 ^ 30 + 1000) : Shw 0 400 (.int i) := by
  have h1 : i.natAbs < 10 ^ 31 := Nat.lt_of_le_of_lt h (by decide)
  have h2 := int_text_length_le10 (k := 31) (by decide) h1
  refine ⟨?_, rfl, Nat.le_refl _, ?_⟩
  · simp only [PyData.showable, decide_eq_true_eq]
    by_cases hz : i.natAbs = 0
    · rw [hz]
      decide
    · exact (Nat.log2_lt hz).mpr (Nat.lt_of_lt_of_le h1 (Nat.le_trans (show 10 ^ 31 ≤ 2 ^ 128 by decide) (Nat.pow_le_pow_right (by decide) (by decide))))
  · simp only [PyData.shown]
    rw [PySem.ofString_length]
    omega
theorem shw_none : Shw 0 400 .none := ⟨rfl, rfl, Nat.le_refl _, by decide⟩
theorem shw_bool (b : Bool) : Shw 0 400 (.bool b) := by cases b <;> exact ⟨rfl, rfl, Nat.le_refl _, by decide⟩
theorem shw_str {x : Str} (h : (reprText x).length ≤ 400) : Shw 0 400 (.str x) := ⟨rfl, rfl, Nat.le_refl _, h⟩
theorem sok (s : String) : PyData.strOk (Str.ofString s) = true := by
  unfold PyData.strOk
  rw [Array.all_eq_true_iff_forall_mem]
  intro c hc
  have : c ∈ s.toList.map Char.toNat := by
    rw [Str.ofString_eq_toList] at hc
    simpa using hc
  obtain ⟨ch, _, rfl⟩ := List.mem_map.mp this
  have h := ch.valid
  refine decide_eq_true ?_
  have : ch.val.toNat < 1114112 := by
    rcases h with h | h
    · exact Nat.lt_trans h (by decide)
    · exact h.2
  exact this
theorem eqv_str (x y : Str) : PyData.eqv (.str x) (.str y) = decide (x = y) := by
  simp only [PyData.eqv]
  by_cases h : x = y
  · subst h
    simp
  · rw [decide_eq_false h]
    exact beq_eq_false_iff_ne.mpr h
theorem eqv_int (x y : Int) : PyData.eqv (.int x) (.int y) = decide (x = y) := by
  simp only [PyData.eqv]
  by_cases h : x = y
  · subst h
    simp
  · rw [decide_eq_false h]
    exact beq_eq_false_iff_ne.mpr h
theorem eqv_bool (x y : Bool) : PyData.eqv (.bool x) (.bool y) = decide (x = y) := by
  cases x <;> cases y <;> rfl
/-! ### bounded data -/
def FlB : PyData → Prop
  | .none => True
  | .bool _ => True
  | .int i => i.natAbs ≤ 10 ^ 30 + 1000
  | .str z => PyData.strOk z = true ∧ (reprText z).length ≤ 400
  | _ => False
def Bd (w : Nat) : Nat → PyData → Prop
  | 0, d => FlB d
  | k + 1, d => FlB d ∨ ∃ ds, (d = .list ds ∨ d = .tuple ds) ∧ ds.length ≤ w ∧ ∀ x ∈ ds, Bd w k x
theorem Bd.flat {w k : Nat} {d : PyData} (h : FlB d) : Bd w k d := by
  cases k with
  | zero => exact h
  | succ k => exact .inl h
theorem Bd.up {w w' : Nat} (hw : w ≤ w') : ∀ {k k' : Nat} {d : PyData}, k ≤ k' → Bd w k d → Bd w' k' d
  | 0, _, _, _, h => .flat h
  | k + 1, 0, _, hk, _ => absurd hk (by omega)
  | k + 1, k' + 1, d, hk, h => by
    rcases h with h | ⟨ds, e, hl, hd⟩
    · exact .inl h
    · exact .inr ⟨ds, e, Nat.le_trans hl hw, fun x hx => Bd.up hw (by omega) (hd x hx)⟩
theorem bd_tup {w k : Nat} {ds : List PyData} (hl : ds.length ≤ w) (h : ∀ x ∈ ds, Bd w k x) : Bd w (k + 1) (.tuple ds) := .inr ⟨ds, .inr rfl, hl, h⟩
theorem bd_lst {w k : Nat} {ds : List PyData} (hl : ds.length ≤ w) (h : ∀ x ∈ ds, Bd w k x) : Bd w (k + 1) (.list ds) := .inr ⟨ds, .inl rfl, hl, h⟩
/-- the parts of bounded data -/
theorem Bd.its {w k : Nat} {d : PyData} (h : Bd w k d) (hs : seqd d = true) : ∃ j, k = j + 1 ∧ (Dw.its d).length ≤ w ∧ ∀ x ∈ Dw.its d, Bd w j x := by
  cases k with
  | zero => cases d <;> first | exact (h : False).elim | cases hs
  | succ k =>
    refine ⟨k, rfl, ?_⟩
    rcases h with h | ⟨ds, rfl | rfl, hl, hd⟩
    · cases d <;> first | exact (h : False).elim | cases hs
    · exact ⟨hl, hd⟩
    · exact ⟨hl, hd⟩
theorem canAll : ∀ {ds : List PyData}, (∀ d ∈ ds, PyData.canLay0 d = true) → PyData.canLayAll0 ds = true
  | [], _ => by simp only [PyData.canLayAll0]
  | d :: ds, h => by simp only [PyData.canLayAll0, h d List.mem_cons_self, canAll fun x hx => h x (List.mem_cons_of_mem _ hx), Bool.and_self]
theorem depAll {n : Nat} : ∀ {ds : List PyData}, (∀ d ∈ ds, PyData.depth d ≤ n) → PyData.depthAll ds ≤ n
  | [], _ => by simp only [PyData.depthAll]; omega
  | d :: ds, h => by
    simp only [PyData.depthAll]
    exact Nat.max_le.mpr ⟨h d List.mem_cons_self, depAll fun x hx => h x (List.mem_cons_of_mem _ hx)⟩
theorem FlB.can {d : PyData} (h : FlB d) : PyData.canLay0 d = true ∧ PyData.depth d = 0 := by
  cases d with
  | none => exact ⟨by simp only [PyData.canLay0], by simp only [PyData.depth]⟩
  | bool _ => exact ⟨by simp only [PyData.canLay0], by simp only [PyData.depth]⟩
  | int _ => exact ⟨by simp only [PyData.canLay0], by simp only [PyData.depth]⟩
  | str z => exact ⟨by simp only [PyData.canLay0]; exact h.1, by simp only [PyData.depth]⟩
  | list _ => exact h.elim
  | tuple _ => exact h.elim
  | dict _ => exact h.elim
theorem Bd.can {w : Nat} : ∀ {k : Nat} {d : PyData}, Bd w k d → PyData.canLay0 d = true ∧ PyData.depth d ≤ k
  | 0, d, h => ⟨(FlB.can h).1, by rw [(FlB.can h).2]; exact Nat.le_refl _⟩
  | k + 1, d, h => by
    rcases h with h | ⟨ds, rfl | rfl, hl, hd⟩
    · exact ⟨h.can.1, by rw [h.can.2]; omega⟩
    · refine ⟨by simp only [PyData.canLay0]; exact canAll fun x hx => (Bd.can (hd x hx)).1, ?_⟩
      simp only [PyData.depth]
      exact Nat.succ_le_succ (depAll fun x hx => (Bd.can (hd x hx)).2)
    · refine ⟨by simp only [PyData.canLay0]; exact canAll fun x hx => (Bd.can (hd x hx)).1, ?_⟩
      simp only [PyData.depth]
      exact Nat.succ_le_succ (depAll fun x hx => (Bd.can (hd x hx)).2)
theorem Bd.shp {w k : Nat} {d : PyData} (h : Bd w k d) (hk : k ≤ 64) : Shp d := by
  obtain ⟨h1, h2⟩ := h.can
  exact Bool.and_eq_true_iff.mpr ⟨h1, decide_eq_true (Nat.le_trans h2 hk)⟩
theorem shp_int (i : Int) : Shp (.int i) := rfl
theorem shp_bool (i : Bool) : Shp (.bool i) := rfl
theorem shp_none : Shp .none := rfl
theorem shp_z {z : Str} (h : PyData.strOk z = true) : Shp (.str z) := by
  show SeqAt.shaped (.str z) = true
  simp [SeqAt.shaped, PyData.canLay0, PyData.depth, h]
theorem shp_str (s : String) : Shp (.str (Str.ofString s)) := shp_z (sok s)
/-- how long the text of bounded data is -/
def lenB (w : Nat) : Nat → Nat
  | 0 => 400
  | k + 1 => (lenB w k + 2) * w + 404
theorem FlB.shw {d : PyData} (h : FlB d) : Shw 0 400 d := by
  cases d with
  | none => exact shw_none
  | bool _ => exact shw_bool _
  | int _ => exact shw_int h
  | str z => exact shw_str h.2
  | list _ => exact h.elim
  | tuple _ => exact h.elim
  | dict _ => exact h.elim
theorem lenB_400 (w : Nat) : ∀ k, 400 ≤ lenB w k
  | 0 => Nat.le_refl _
  | k + 1 => by show 400 ≤ (lenB w k + 2) * w + 404; omega
theorem Bd.shw {w : Nat} : ∀ {k : Nat} {d : PyData}, Bd w k d → Shw k (lenB w k) d
  | 0, d, h => FlB.shw h
  | k + 1, d, h => by
    rcases h with h | ⟨ds, rfl | rfl, hl, hd⟩
    · exact h.shw.up (Nat.zero_le _) (lenB_400 w (k + 1))
    · exact (shw_lst (fun x hx => Bd.shw (hd x hx)) hl).up (Nat.le_refl _) (by show _ ≤ (lenB w k + 2) * w + 404; omega)
    · exact (shw_tup (fun x hx => Bd.shw (hd x hx)) hl).up (Nat.le_refl _) (by show _ ≤ (lenB w k + 2) * w + 404; omega)
theorem Bd.rep {w k : Nat} {d : PyData} (h : Bd w k d) (hk : k ≤ 40) (hl : lenB w k ≤ sizeLine) : RepOk d := by
  have s := h.shw
  exact ⟨s.sh, s.nd, Nat.le_trans s.dp hk, Nat.le_trans s.ln hl⟩
end Dw

namespace Dw
open PySem PySem.Spec PyProof.Rows L2 OgR Evl
/-! ### data that a law makes: leaves, depth, width, and how long its text is -/
def Lf (b : Nat) : PyData → Prop
  | .none => True
  | .bool _ => True
  | .int i => i.natAbs ≤ 10 ^ 30 + b
  | .str z => PyData.strOk z = true ∧ (reprText z).length ≤ 400
  | _ => False
theorem Lf.fl {b : Nat} (hb : b ≤ 1000) {d : PyData} (h : Lf b d) : FlB d := by
  cases d with
  | int i => exact Nat.le_trans (h : i.natAbs ≤ 10 ^ 30 + b) (by omega)
  | _ => exact h
theorem Lf.up {b b' : Nat} (hb : b ≤ b') {d : PyData} (h : Lf b d) : Lf b' d := by
  cases d with
  | int i => exact Nat.le_trans (h : i.natAbs ≤ 10 ^ 30 + b) (by omega)
  | _ => exact h
def Lv (b w : Nat) : Nat → PyData → Prop
  | 0, d => Lf b d
  | k + 1, d => Lf b d ∨ ∃ ds, (d = .list ds ∨ d = .tuple ds) ∧ ds.length ≤ w ∧ ∀ x ∈ ds, Lv b w k x
theorem Lv.flat {b w k : Nat} {d : PyData} (h : Lf b d) : Lv b w k d := by
  cases k with
  | zero => exact h
  | succ k => exact .inl h
theorem Lv.up {b b' w w' : Nat} (hb : b ≤ b') (hw : w ≤ w') : ∀ {k k' : Nat} {d : PyData}, k ≤ k' → Lv b w k d → Lv b' w' k' d
  | 0, _, _, _, h => .flat (Lf.up hb h)
  | k + 1, 0, _, hk, _ => absurd hk (by omega)
  | k + 1, k' + 1, d, hk, h => by
    rcases h with h | ⟨ds, e, hl, hd⟩
    · exact .inl (h.up hb)
    · exact .inr ⟨ds, e, Nat.le_trans hl hw, fun x hx => Lv.up hb hw (by omega) (hd x hx)⟩
theorem Lv.bd {b w : Nat} (hb : b ≤ 1000) : ∀ {k : Nat} {d : PyData}, Lv b w k d → Bd w k d
  | 0, _, h => Lf.fl hb h
  | k + 1, d, h => by
    rcases h with h | ⟨ds, e, hl, hd⟩
    · exact .inl (h.fl hb)
    · exact .inr ⟨ds, e, hl, fun x hx => Lv.bd hb (hd x hx)⟩
theorem Lv.its {b w k : Nat} {d : PyData} (h : Lv b w k d) (hs : seqd d = true) : ∃ j, k = j + 1 ∧ (Dw.its d).length ≤ w ∧ ∀ x ∈ Dw.its d, Lv b w j x := by
  cases k with
  | zero => cases d <;> first | exact (h : False).elim | cases hs
  | succ k =>
    refine ⟨k, rfl, ?_⟩
    rcases h with h | ⟨ds, rfl | rfl, hl, hd⟩
    · cases d <;> first | exact (h : False).elim | cases hs
    · exact ⟨hl, hd⟩
    · exact ⟨hl, hd⟩
mutual
def Tw : PyData → Nat
  | .list ds => TwA ds + 4
  | .tuple ds => TwA ds + 4
  | _ => 400
def TwA : List PyData → Nat
  | [] => 0
  | d :: ds => Tw d + 2 + TwA ds
end
theorem twA_app : ∀ xs ys : List PyData, TwA (xs ++ ys) = TwA xs + TwA ys
  | [], ys => by simp only [List.nil_append, TwA]; omega
  | x :: xs, ys => by
    simp only [List.cons_append, TwA, twA_app xs ys]
    omega
theorem twA_mem : ∀ {xs : List PyData} {x : PyData}, x ∈ xs → Tw x + 2 ≤ TwA xs
  | y :: xs, x, h => by
    simp only [TwA]
    rcases List.mem_cons.mp h with rfl | h
    · omega
    · have := twA_mem h
      omega
theorem twA_td (xs : List PyData) (n : Nat) : TwA (xs.take n) + TwA (xs.drop n) = TwA xs := by
  rw [← twA_app, List.take_append_drop]
theorem twA_erase : ∀ (xs : List PyData) (n : Nat), TwA (xs.eraseIdx n) ≤ TwA xs
  | [], n => by simp [List.eraseIdx]
  | x :: xs, 0 => by simp only [List.eraseIdx, TwA]; omega
  | x :: xs, n + 1 => by
    have := twA_erase xs n
    simp only [List.eraseIdx, TwA]
    omega
theorem twA_set : ∀ (xs : List PyData) (n : Nat) (x y : PyData), xs[n]? = some x → TwA (xs.set n y) + Tw x = TwA xs + Tw y
  | [], n, x, y, h => by simp at h
  | z :: xs, 0, x, y, h => by
    have : z = x := Option.some.inj h
    subst this
    simp only [List.set, TwA]
    omega
  | z :: xs, n + 1, x, y, h => by
    have := twA_set xs n x y h
    simp only [List.set, TwA]
    omega
theorem twA_len : ∀ (m : Nat) (xs : List PyData), (∀ x ∈ xs, Tw x ≤ m) → TwA xs ≤ (m + 2) * xs.length
  | m, [], _ => by simp only [TwA]; omega
  | m, x :: xs, h => by
    have h1 := h x List.mem_cons_self
    have h2 := twA_len m xs fun y hy => h y (List.mem_cons_of_mem _ hy)
    simp only [TwA, List.length_cons, Nat.mul_add]
    omega
theorem tf_le2 : ∀ (ts : List Str) (k : Nat) (acc : Str), (textFrom k acc ts).length ≤ acc.length + piled ts
  | [], k, acc => by rw [piled_nil]; exact Nat.le_refl _
  | t :: ts, k, acc => by
    have ih := tf_le2 ts (k + 1) (acc ++ (if k > 0 then ", " else "" : String) ++ t)
    rw [strLen_append, strLen_append] at ih
    have e3 : (Str.ofString (if k > 0 then ", " else "")).length ≤ 2 := by
      split <;> decide
    show (textFrom (k + 1) (acc ++ (if k > 0 then ", " else "" : String) ++ t) ts).length ≤ _
    rw [piled_cons]
    omega
theorem lt_le2 (ts : List Str) : (listText ts).length ≤ piled ts + 4 := by
  have h1 := tf_le2 ts 0 "["
  show (textFrom 0 "[" ts ++ "]").length ≤ _
  rw [strLen_append]
  have e1 : (Str.ofString "[").length = 1 := by decide
  have e2 : (Str.ofString "]").length = 1 := by decide
  omega
theorem tt_le2 (ts : List Str) : (tupleText ts).length ≤ piled ts + 4 := by
  unfold tupleText
  rw [strLen_append, strLen_append]
  have e1 : (Str.ofString "(").length = 1 := by decide
  have e2 : (Str.ofString (if ts.length == 1 then ",)" else ")")).length ≤ 2 := by
    split <;> decide
  by_cases hn : ts = []
  · subst hn
    have e3 : ((Str.ofString ", ").join []).length = 0 := by decide
    rw [e3]
    omega
  · have h2 := join_length_add ts hn
    omega
theorem piled_tw : ∀ {ds : List PyData}, (∀ d ∈ ds, d.shown.length ≤ Tw d) → piled (PyData.shownAll ds) ≤ TwA ds
  | [], _ => by simp only [PyData.shownAll, TwA, piled_nil]; exact Nat.le_refl _
  | d :: ds, h => by
    have h1 := h d List.mem_cons_self
    have h2 := piled_tw fun x hx => h x (List.mem_cons_of_mem _ hx)
    simp only [PyData.shownAll, TwA, piled_cons]
    omega
theorem FlB.tw {d : PyData} (h : FlB d) : Tw d = 400 := by
  cases d with
  | list _ => exact h.elim
  | tuple _ => exact h.elim
  | dict _ => exact h.elim
  | _ => simp only [Tw]
theorem Bd.tw {w : Nat} : ∀ {k : Nat} {d : PyData}, Bd w k d → d.shown.length ≤ Tw d
  | 0, d, h => by rw [FlB.tw h]; exact (FlB.shw h).ln
  | k + 1, d, h => by
    rcases h with h | ⟨ds, rfl | rfl, hl, hd⟩
    · rw [FlB.tw h]
      exact (FlB.shw h).ln
    · have := piled_tw fun x hx => Bd.tw (hd x hx)
      have h2 := lt_le2 (PyData.shownAll ds)
      simp only [PyData.shown, Tw]
      omega
    · have := piled_tw fun x hx => Bd.tw (hd x hx)
      have h2 := tt_le2 (PyData.shownAll ds)
      simp only [PyData.shown, Tw]
      omega
structure Sm (b w k L : Nat) (d : PyData) : Prop where
  lv : Lv b w k d
  tw : Tw d ≤ L
theorem Sm.up {b w k L b' w' k' L' : Nat} {d : PyData} (h : Sm b w k L d) (hb : b ≤ b') (hw : w ≤ w') (hk : k ≤ k') (hL : L ≤ L') : Sm b' w' k' L' d := ⟨h.lv.up hb hw hk, Nat.le_trans h.tw hL⟩
theorem Sm.bd {b w k L : Nat} {d : PyData} (h : Sm b w k L d) (hb : b ≤ 1000) : Bd w k d := h.lv.bd hb
theorem Sm.rep {b w k L : Nat} {d : PyData} (h : Sm b w k L d) (hb : b ≤ 1000) (hk : k ≤ 40) (hL : L ≤ sizeLine) : RepOk d := by
  have s := (h.bd hb).shw
  exact ⟨s.sh, s.nd, Nat.le_trans s.dp hk, Nat.le_trans (h.bd hb).tw (Nat.le_trans h.tw hL)⟩
theorem Lf.tw {b : Nat} {d : PyData} (h : Lf b d) : Tw d = 400 := by
  cases d with
  | list _ => exact h.elim
  | tuple _ => exact h.elim
  | dict _ => exact h.elim
  | _ => simp only [Tw]
theorem Sm.leaf {b w k L : Nat} {d : PyData} (h : Lf b d) (hL : 400 ≤ L) : Sm b w k L d := ⟨.flat h, by rw [h.tw]; exact hL⟩
theorem Sm.tup {b w k L : Nat} {ds : List PyData} (h : ∀ x ∈ ds, Lv b w k x) (hw : ds.length ≤ w) (hL : TwA ds + 4 ≤ L) : Sm b w (k + 1) L (.tuple ds) := ⟨.inr ⟨ds, .inr rfl, hw, h⟩, by simp only [Tw]; exact hL⟩
theorem Sm.lst {b w k L : Nat} {ds : List PyData} (h : ∀ x ∈ ds, Lv b w k x) (hw : ds.length ≤ w) (hL : TwA ds + 4 ≤ L) : Sm b w (k + 1) L (.list ds) := ⟨.inr ⟨ds, .inl rfl, hw, h⟩, by simp only [Tw]; exact hL⟩
theorem lf_digits {b : Nat} (hb : b ≤ 1000) {i : Int} (h : i.natAbs ≤ 10 ^ 30 + b) {b' : Nat} : Lf b' (.str (toString i)) := by
  have h1 : i.natAbs < 10 ^ 31 := by omega
  have h2 := int_text_length_le10 (k := 31) (by decide) h1
  refine ⟨sok _, ?_⟩
  have h3 : (reprText (Str.ofString (toString i))).length ≤ 10 * (Str.ofString (toString i)).length + 2 := PySem.StrLaws.reprText_len _ fun c hc => by
    have hs := sok (toString i)
    unfold PyData.strOk at hs
    rw [Array.all_eq_true_iff_forall_mem] at hs
    have := of_decide_eq_true (hs c (by simpa using hc))
    exact Nat.lt_of_lt_of_le this (by decide)
  rw [PySem.ofString_length] at h3
  exact Nat.le_trans h3 (by omega)


end Dw

namespace Dw
open PySem PySem.Spec PyProof.Rows L2 OgR Evl
theorem tuple_mul1 (l : Addr) (items : Array Value) (n : Nat) (dd : Option Addr) (sl : Array (Option Value)) (u : Tok) :
    Meets (Builtin.«tuple.__mul__» ⟨[.ref l, .int 1 u], []⟩) (fun _ R s => s.heap.get? l = some { cls := .type "tuple", dict := dd, data := .seq items n, slots := sl } ∧
      R (.ok (.ret (Value.ref l))) s) :=
  .of_wp fun prog w A R s h => by
    obtain ⟨hp, g, d, tk, os⟩ := s
    obtain ⟨hl, h⟩ := h
    have f1 := AutoSeq1.idx_int
    have c1 : (items.isEmpty || (1 : Int) == 1) = true := by rw [show ((1 : Int) == 1) = true by decide, Bool.or_true]
    wp_walk using wpAny_loadPart' hl
    repeat (first
      | (refine wpAny_ite_true (decide_eq_true c1) ?_; wp_walk using wpAny_loadPart' hl))
    exact ⟨_, rfl, h⟩
theorem tuple_mul0 (l : Addr) (items : Array Value) (n : Nat) (dd : Option Addr) (sl : Array (Option Value)) (x : Int) (u : Tok) (c0 : (decide (x < -(2 ^ 63)) || decide (x ≥ 2 ^ 63)) = false) (c1 : (items.isEmpty || x == 1) = false) (c2 : (decide (x ≤ 0) || items.isEmpty) = true) :
    Meets (Builtin.«tuple.__mul__» ⟨[.ref l, .int x u], []⟩) (fun _ R s => s.heap.get? l = some { cls := .type "tuple", dict := dd, data := .seq items n, slots := sl } ∧
      R (.ok (.ret (Value.ref s.heap.objs.size))) { s with heap := s.heap.push { cls := Value.type "tuple", data := Data.seq #[] }, toks := s.toks }) :=
  .of_wp fun prog w A R s h => by
    obtain ⟨hp, g, d, tk, os⟩ := s
    obtain ⟨hl, h⟩ := h
    have f1 := AutoSeq1.idx_int
    wp_walk using wpAny_loadPart' hl
    repeat (first
      | (refine wpAny_ite_false (decide_eq_false (by rw [c0]; exact Bool.false_ne_true)) ?_; wp_walk using wpAny_loadPart' hl)
      | (refine wpAny_ite_false (decide_eq_false (by rw [c1]; exact Bool.false_ne_true)) ?_; wp_walk using wpAny_loadPart' hl)
      | (refine wpAny_ite_true (decide_eq_true c2) ?_; wp_walk using wpAny_loadPart' hl))
    exact ⟨_, rfl, h⟩
/-- a tuple that is not empty, times a number -/
def rRepN (K : PySem.W.Frag) : R2 := fun x y H Q => ∃ l k xs, x = .ref l ∧ y = .int k ∧ SqT K H l xs ∧ xs ≠ [] ∧ -1000 ≤ k ∧ k ≤ 1000 ∧ xs.length ≤ 1000 ∧ (k = 1 → Q (.ref l) H) ∧ (k ≠ 1 → ∀ p, H p = none → Q (.ref p) (upd H p (.tup (List.replicate k.toNat xs).flatten)))
section
variable {X : Cx}
theorem op_repN : OpR X (binaryOp .Mult) (rRepN X.K) := by
  intro pins s σ H x y v u Q I rx ry h
  obtain ⟨l, k, xs, rfl, rfl, hT, hne, h1, h2, hz, q1, q2⟩ := h
  by_cases hk2 : 2 ≤ k
  · exact op_repT pins s σ H _ _ v u Q I rx ry ⟨l, k, xs, rfl, rfl, hT, hne, hk2, h2, hz, q2 (by omega)⟩
  cases rx
  obtain ⟨t, rfl⟩ := ry
  obtain ⟨its, r, ⟨⟨cls, dd, data, sl⟩, ho, hc, n, hd⟩, hs⟩ := I.tuple hT
  simp only at hc hd
  subst hc hd
  have hle : its.length = xs.length := r.length.symm
  have hn : its ≠ [] := fun e => hne (by
    rw [e] at hle
    exact List.eq_nil_of_length_eq_zero hle.symm)
  have hi : its.toArray.isEmpty = false := by
    cases its with
    | nil => exact absurd rfl hn
    | cons a b => rfl
  by_cases hk1 : k = 1
  · subst hk1
    refine wpAny_binaryOp_repeat_ref (T := "tuple") (U := "int") (by decide) ⟨_, ho, rfl⟩ (fun s' => typeIs_int s' 1 t) noFill_tuple_mul F.fills_int_mul F.slot_int_rmul repeat_tuple F.slot_int_index.lookup
      (call_meets F.slot_int_rmul (typeIs_int s 1 t) F.entry_int_rmul (F.args_int_rmul_2 _ _) (int_rmul_tuple 1 t l its.toArray n dd sl)
        ⟨ho, rfl, ⟨_, ho, rfl⟩, call_meets F.slot_tuple_mul ⟨_, ho, rfl⟩ F.entry_tuple_mul (F.args_tuple_mul_2 _ _) (tuple_mul1 l its.toArray n dd sl t) ⟨ho, ?_⟩⟩)
    exact ⟨.ref l, H, I, rfl, q1 rfl⟩
  · have c0 : (decide (k < -(2 ^ 63)) || decide (k ≥ 2 ^ 63)) = false := by
      rw [decide_eq_false (by omega), decide_eq_false (by omega)] <;> rfl
    have c1 : (its.toArray.isEmpty || k == 1) = false := by
      rw [hi, Bool.false_or]
      exact beq_eq_false_iff_ne.mpr hk1
    have c2 : (decide (k ≤ 0) || its.toArray.isEmpty) = true := by
      rw [decide_eq_true (by omega)]
      rfl
    refine wpAny_binaryOp_repeat_ref (T := "tuple") (U := "int") (by decide) ⟨_, ho, rfl⟩ (fun s' => typeIs_int s' k t) noFill_tuple_mul F.fills_int_mul F.slot_int_rmul repeat_tuple F.slot_int_index.lookup
      (call_meets F.slot_int_rmul (typeIs_int s k t) F.entry_int_rmul (F.args_int_rmul_2 _ _) (int_rmul_tuple k t l its.toArray n dd sl)
        ⟨ho, rfl, ⟨_, ho, rfl⟩, call_meets F.slot_tuple_mul ⟨_, ho, rfl⟩ F.entry_tuple_mul (F.args_tuple_mul_2 _ _) (tuple_mul0 l its.toArray n dd sl k t c0 c1 c2) ⟨ho, ?_⟩⟩)
    have e0 : k.toNat = 0 := by omega
    have q := q2 hk1
    rw [e0] at q
    refine ⟨.ref s.heap.objs.size, _, I.laid (t' := s.toks) (o := .tup (List.replicate 0 xs).flatten) (fun b ob q => Heap.get?_push_of_some _ q) (Nat.le_refl _) ?_, rfl, q _ (I.hok.fresh (Nat.le_refl _))⟩
    have r0 := r.rep 0
    exact ⟨Nat.zero_le _, _, r0, IsTup.new _ _⟩
end
section
variable {X : Cx} {C : Ct}
/-- != of texts -/
def gNeS : G2 := fun d e s Q => ∃ x y, d = .str x ∧ e = .str y ∧ Q (.bool (!decide (x = y))) s
theorem o_neS : OpD X C (compareOp .NotEq) rNe gNeS := ⟨op_ne, ⟨fun G σ H s x y d e Q Q' r p1 p2 q k => by
  obtain ⟨a, b, rfl, rfl, q⟩ := q
  have h1 := pk_str p1
  have h2 := pk_str p2
  subst h1 h2
  refine ⟨rfl, ?_⟩
  have e : decide (V.str a = V.str b) = decide (a = b) := by simp
  rw [e]
  exact k _ _ s G H q r (Ex.refl G) Gs.refl (.bl _)⟩⟩
def repD (k : Int) (ds : List PyData) : List PyData := (List.replicate k.toNat ds).flatten
def gRepN : G2 := fun d e s Q => ∃ (ds : List PyData) (k : Int), d = .tuple ds ∧ e = .int k ∧ ds ≠ [] ∧ -1000 ≤ k ∧ k ≤ 1000 ∧ ds.length ≤ 1000 ∧ Q (.tuple (repD k ds)) s
theorem dpa_repN {K : PySem.W.Frag} {G : Hp} {xs : List V} {ds : List PyData} (h : DpAll K G xs ds) : ∀ n, DpAll K G (List.replicate n xs).flatten (List.replicate n ds).flatten
  | 0 => .nil
  | n + 1 => by
    rw [List.replicate_succ, List.replicate_succ, List.flatten_cons, List.flatten_cons]
    exact dpa_app h (dpa_repN h n)
theorem o_repT (hK : X.K = C.K) : OpD X C (binaryOp .Mult) (rRepN C.K) gRepN := ⟨hK ▸ op_repN, ⟨fun G σ H s x y d e Q Q' r p1 p2 q k => by
  obtain ⟨ds, n, rfl, rfl, hne, h1, h2, hl, q⟩ := q
  obtain ⟨a, xs, rfl, h3, h4⟩ := pk_tup p1
  have hy : y = .int n := by
    rcases p2 with h | ⟨_, _, _, _, h, _⟩
    · exact dp_int h
    · cases h
  subst hy
  refine ⟨a, n, xs, rfl, rfl, Evl.ex_t r.fin.gh h3, fun e => hne ?_, h1, h2, by rw [dpa_len h4]; exact hl, fun e => ?_, fun e p hp => ?_⟩
  · subst e
    exact dpa_nil h4
  · subst e
    have e1 : repD 1 ds = ds := by
      unfold repD
      show (List.replicate 1 ds).flatten = ds
      simp
    rw [e1] at q
    exact k _ _ s G H q r (Ex.refl G) Gs.refl (.tup h3 h4)
  · obtain ⟨r2, eg, eh⟩ := r.new (o := .tup (List.replicate n.toNat xs).flatten) hp
    exact k _ _ s _ _ q r2 eg eh (.tup (.inl (.inl upd_same)) (dpa_ex eg (dpa_repN h4 _)))⟩⟩
end
end Dw

namespace Dw
open PySem PySem.Spec PyProof.Rows L2 OgR Evl
/-! ### what the head of a law wants -/
def ExB (l : Addr) (H H' : Hp) : Prop := ∀ a o, a ≠ l → H a = some o → H' a = some o
theorem ExB.of {l : Addr} {H H' : Hp} (e : Ex H H') : ExB l H H' := fun a o _ h => e a o h
theorem ExB.trans {l : Addr} {H H1 H2 : Hp} (a : ExB l H H1) (b : ExB l H1 H2) : ExB l H H2 := fun x o n h => b x o n (a x o n h)
theorem ExB.mut {l p : Addr} {H H' : Hp} {o : HO} (e : ExB l H H') (h : H p = none) : ExB l H (upd H' p o) := fun x u n hx => by
  rw [upd_ne (fun z => by rw [z, h] at hx; cases hx)]
  exact e x u n hx
theorem BoxAt.ex {H H' : Hp} {l : Addr} {c : Int} (h : BoxAt H l c) (e : Ex H H') : BoxAt H' l c := h.keep fun o q => e l o q
theorem BoxAt.upd {H : Hp} {l p : Addr} {c : Int} {o : HO} (h : BoxAt H l c) (n : l ≠ p) : BoxAt (upd H p o) l c := h.keep fun u q => by
  rw [upd_ne n]
  exact q
theorem repT_snoc (n : Nat) : List.replicate (n + 1) true = List.replicate n true ++ [true] := by
  rw [List.replicate_succ']
theorem repT_all (n : Nat) : (List.replicate n true).all id = true := by
  rw [List.all_eq_true]
  intro x hx
  rw [(List.mem_replicate.mp hx).2]
  rfl
theorem box01 (b : Bool) : -(2 ^ 64) < (if b = true then (1 : Int) else 0) ∧ (if b = true then (1 : Int) else 0) < 2 ^ 64 := by
  cases b <;> decide
/-- promises of _law_cell_at, _law_box, _law_right, law -/
def spCel (K : PySem.W.Frag) : Sp := fun vs H Q _ => ∃ (a : Addr) (ns : List Int) (k : Nat), vs = [.ref a, .int k] ∧ SqL K H a (ns.map V.int) ∧ Q (.int (ns.getD k 0)) H
def spBox (K : PySem.W.Frag) : Sp := fun vs H Q _ => ∃ (a : Addr) (ns : List Int) (k : Nat), vs = [.ref a, .int k] ∧ SqL K H a (ns.map V.int) ∧ k ≤ 1000 ∧
  ∀ l x y, H l = none → 0 ≤ x → 0 ≤ y → y < 2 ^ 62 → Q (.ref l) (upd H l (.lst [.int x, .int y, .int 0]))
def spRight : Sp := fun vs H Q _ => ∃ (l : Addr) (c : Int), vs = [.ref l] ∧ BoxAt H l c ∧ c ≤ 800000 ∧ ∀ H' c', ExB l H H' → BoxAt H' l c' → c' ≤ c + 1000 → Q (.bl true) H'
def spLaw (K : PySem.W.Frag) : Sp := fun vs H Q _ => ∃ (s : Addr) (ns : List Int), vs = [.ref s] ∧ SqL K H s (ns.map V.int) ∧ ns.length ≤ 63 ∧ ∀ H', Q (.bl true) H'
/-- what a law's _law_right promises -/
def fRight : FB := fun ds c R => ds = [] ∧ c ≤ 800000 ∧ ∀ c', c' ≤ c + 1000 → R (.bool true) c'
theorem right_of {P : Program} {wd : World} {K : PySem.W.Frag} {mg : Str → Option Value} {base : Heap} {k : Nat} {x : Str} {st : Stmt} {ps : List Str} (D : Def P wd K mg base k x st ps (spB K fRight)) : Def P wd K mg base k x st ps spRight :=
  D.imp fun vs H Q E h => by
    obtain ⟨l, c, rfl, hB, hc, q⟩ := h
    refine ⟨l, [], fun _ => none, [], c, fun d c' => d = .bool true ∧ c' ≤ c + 1000, rfl, hB, rfl, (fun b o h => by cases h), .nil, ⟨rfl, hc, fun c' h => ⟨rfl, h⟩⟩, fun v d c' G' H' hR eg eh hB' gh nw pd => ?_⟩
    obtain ⟨rfl, h2⟩ := hR
    rw [dp_bl pd]
    exact q H' c' (fun a o n h => eh a o n h) hB' h2
end Dw

namespace Dw
open PySem PySem.Spec PyProof.Rows L2 OgR Evl
/-! ### dicts by data -/
section
variable {κ : Type} [DecidableEq κ]
def lookG (tbl : List (κ × PyData)) (k : κ) : Option PyData := (tbl.find? fun kd => decide (kd.1 = k)).map (·.2)
def putG (tbl : List (κ × PyData)) (k : κ) (d : PyData) : List (κ × PyData) :=
  if (tbl.any fun kd => decide (kd.1 = k)) = true then tbl.map (fun kd => if kd.1 = k then (kd.1, d) else kd) else tbl ++ [(k, d)]
abbrev PK2 (K : PySem.W.Frag) (G : Hp) (ks : List (κ × V)) (kvs : List (κ × PyData)) : Prop := Paired (fun a b => a.1 = b.1 ∧ Dp K G a.2 b.2) ks kvs
theorem look_pair {K : PySem.W.Frag} {G : Hp} (k : κ) {ks : List (κ × V)} {kvs : List (κ × PyData)} (h : PK2 K G ks kvs) :
    (valV ks k = none ∧ lookG kvs k = none) ∨ ∃ v d, valV ks k = some v ∧ lookG kvs k = some d ∧ Dp K G v d := by
  unfold valV lookG
  induction h with
  | nil => exact .inl ⟨rfl, rfl⟩
  | @cons a b l1 l2 h t ih =>
    by_cases e : a.1 = k
    · refine .inr ⟨a.2, b.2, ?_, ?_, h.2⟩
      · rw [List.find?_cons_of_pos (by simpa using e)]
        rfl
      · rw [List.find?_cons_of_pos (by rw [← h.1]; simpa using e)]
        rfl
    · rw [List.find?_cons_of_neg (by simpa using e), List.find?_cons_of_neg (by rw [← h.1]; simpa using e)]
      exact ih
theorem any_pair {K : PySem.W.Frag} {G : Hp} (k : κ) {ks : List (κ × V)} {kvs : List (κ × PyData)} (h : PK2 K G ks kvs) : (ks.any fun kd => decide (kd.1 = k)) = (kvs.any fun kd => decide (kd.1 = k)) := by
  induction h with
  | nil => rfl
  | cons h t ih => rw [List.any_cons, List.any_cons, ih, h.1]
theorem map_pair {K : PySem.W.Frag} {G : Hp} (k : κ) {v : V} {d : PyData} (hv : Dp K G v d) {ks : List (κ × V)} {kvs : List (κ × PyData)} (h : PK2 K G ks kvs) : PK2 K G (ks.map fun kv => if kv.1 = k then (kv.1, v) else kv) (kvs.map fun kv => if kv.1 = k then (kv.1, d) else kv) := by
  induction h with
  | nil => exact .nil
  | @cons a b l1 l2 h t ih =>
    refine .cons ?_ ih
    show (if a.1 = k then (a.1, v) else a).1 = (if b.1 = k then (b.1, d) else b).1 ∧ Dp K G (if a.1 = k then (a.1, v) else a).2 (if b.1 = k then (b.1, d) else b).2
    rw [← h.1]
    by_cases e : a.1 = k
    · rw [if_pos e, if_pos e]
      exact ⟨rfl, hv⟩
    · rw [if_neg e, if_neg e]
      exact h
theorem snoc_pair {K : PySem.W.Frag} {G : Hp} (k : κ) {v : V} {d : PyData} (hv : Dp K G v d) {ks : List (κ × V)} {kvs : List (κ × PyData)} (h : PK2 K G ks kvs) : PK2 K G (ks ++ [(k, v)]) (kvs ++ [(k, d)]) := by
  induction h with
  | nil => exact .cons ⟨rfl, hv⟩ .nil
  | cons h t ih => exact .cons h ih
theorem put_pair {K : PySem.W.Frag} {G : Hp} (k : κ) {v : V} {d : PyData} (hv : Dp K G v d) {ks : List (κ × V)} {kvs : List (κ × PyData)} (h : PK2 K G ks kvs) : PK2 K G (putK ks k v) (putG kvs k d) := by
  unfold putK putG
  rw [any_pair k h]
  split
  · exact map_pair k hv h
  · exact snoc_pair k hv h
theorem len_pair {K : PySem.W.Frag} {G : Hp} {ks : List (κ × V)} {kvs : List (κ × PyData)} (h : PK2 K G ks kvs) : ks.length = kvs.length := by
  induction h with
  | nil => rfl
  | cons h t ih => rw [List.length_cons, List.length_cons, ih]
end
section
variable {C : Ct} {G G' H H' : Hp} {σ : L2.St} {s : Dt} {c c' : Int}
/-- an object of the def's own changes, and what stands in its slot -/
theorem Rel.mutO (r : Rel C G σ H s) {i : Nat} {p : Addr} {x x' : DV} {u o : HO} (e : s.env[i]? = some (some x)) (mx : x.mut = true) (hs : σ[i]? = some (some (.ref p))) (h1 : H p = some u) (hu : ∀ od w, u ≠ .frz od w) (h2 : C.H0 p = none) (h3 : G p = none) (rv : RV C G (upd H p o) (.ref p) x') (su : soft u = true := by rfl) : Rel C G σ (upd H p o) (s.set i x') := by
  have gp : ∀ b, G b ≠ none → b ≠ p := fun b hb z => hb (by rw [z]; exact h3)
  have oth : ∀ (j : Nat) y q, j ≠ i → s.env[j]? = some (some y) → y.mut = true → σ[j]? = some (some (.ref q)) → q ≠ p := fun j y q hj ej m hq z => r.dis i j x y p (Ne.symm hj) e ej mx m hs (by rw [hq, z])
  refine ⟨⟨fun b o hb => ?_, r.fin.g0, r.fin.nw, fun b o n hb => ?_, fun l hl => ?_⟩, by show (s.env.set i _).length = _; rw [List.length_set]; exact r.len, fun j y ej => ?_, fun j k y z q hne e1 e2 m1 m2 => ?_⟩
  · rw [upd_ne (gp b (by rw [hb]; exact Option.some_ne_none _))]
    exact r.fin.gh b o hb
  · rw [upd_ne (fun z => by rw [z, h2] at hb; cases hb)]
    exact r.fin.hh b o n hb
  · have hlp : l ≠ p := fun z => r.fin.nbx h2 (by rw [← z]; exact hl)
    refine ⟨(r.fin.bx l hl).1.keep fun o q => ?_, (r.fin.bx l hl).2⟩
    rw [upd_ne hlp]
    exact q
  · rcases get_set ej with ⟨rfl, rfl, hl⟩ | ⟨z, ej⟩
    · exact ⟨_, hs, rv⟩
    · obtain ⟨v', hv', rv⟩ := r.sl j y ej
      refine ⟨v', hv', ?_⟩
      cases y with
      | d x => exact rv
      | box => exact rv
      | own ds2 =>
        obtain ⟨p2, xs2, rfl, a2, a3, a4, a5⟩ := rv
        exact ⟨p2, xs2, rfl, by rw [upd_ne (oth j _ p2 z ej rfl hv')]; exact a2, a3, a4, a5⟩
      | dic ks =>
        obtain ⟨p2, xs2, rfl, a2, a3, a4, a5⟩ := rv
        exact ⟨p2, xs2, rfl, by rw [upd_ne (oth j _ p2 z ej rfl hv')]; exact a2, a3, a4, a5⟩
      | dit ks =>
        obtain ⟨p2, xs2, rfl, a2, a3, a4, a5⟩ := rv
        exact ⟨p2, xs2, rfl, by rw [upd_ne (oth j _ p2 z ej rfl hv')]; exact a2, a3, a4, a5⟩
      | oth φ => exact Oth.step (φ := φ) rv (Ex.refl G) (Kept.upd h1 su)
      | dd ks =>
        obtain ⟨p2, xs2, a1, a2, a5⟩ := rv
        exact ⟨p2, xs2, a1, a2.upd h1 h2 hu, a5⟩
  · have go : ∀ (j : Nat) y, (s.set i x').env[j]? = some (some y) → y.mut = true → ∃ y', s.env[j]? = some (some y') ∧ y'.mut = true := fun j y ej m => by
      rcases get_set ej with ⟨rfl, rfl, hl⟩ | ⟨z, ej⟩
      · exact ⟨_, e, mx⟩
      · exact ⟨y, ej, m⟩
    obtain ⟨y', f1, n1⟩ := go j y e1 m1
    obtain ⟨z', f2, n2⟩ := go k z e2 m2
    exact r.dis j k y' z' q hne f1 f2 n1 n2
end
section
variable {X : Cx} {C : Ct} {a b e f tg : Expr} {es : List Expr} {pos p : Pos} {t ta tb tc te ty tx : TE} {w wa wb wc we wy wx : WE} {tA : TA} {wA : WA} {x : Str} {st : Stmt} {sts : List Stmt} {ps : List Str} {k : Nat}
/-- name = {} : int and text keys; tuple keys -/
theorem ds_newD (i : Nat) {pos' p2 : Pos} (hN : X.N.Nodup) (hi : X.N[i]? = some x := by rfl) (hx : Loc X.env.scope x := by first | exact .inl rfl | exact .inr rfl) (hs : swapsWith (.Dict [] [] p2) (some (.Name x pos')) pos.line X.env = pure false := by rfl)
    (hf : X.fn x = true ∨ X.env.scope.names.lookup x = some .local := by first | exact .inl rfl | exact .inr rfl | assumption) : DS X C (.Assign [.Name x pos'] (.Dict [] [] p2) pos) (tAsg tDNewK (gName i)) (fun DD s => DD.nx (s.set i (.dic []))) :=
  ⟨ps_set hN hi hx pe_dnewK hs hf, fun G σ H s D DD r q o p hp => o.nx _ _ _ G q ((r.aside (Ex.new hp)).put (x := .dic []) ⟨p, [], rfl, upd_same, r.fin.h0 hp, r.gnone hp, .nil⟩ fun _ j y p' ej m z => by
    cases z
    exact r.notslot hp j y ej m) (Ex.refl G)⟩
theorem ds_newT (i : Nat) {pos' p2 : Pos} (hN : X.N.Nodup) (hi : X.N[i]? = some x := by rfl) (hx : Loc X.env.scope x := by first | exact .inl rfl | exact .inr rfl) (hs : swapsWith (.Dict [] [] p2) (some (.Name x pos')) pos.line X.env = pure false := by rfl)
    (hf : X.fn x = true ∨ X.env.scope.names.lookup x = some .local := by first | exact .inl rfl | exact .inr rfl | assumption) : DS X C (.Assign [.Name x pos'] (.Dict [] [] p2) pos) (tAsg tDNewT (gName i)) (fun DD s => DD.nx (s.set i (.dit []))) :=
  ⟨ps_set hN hi hx pe_dnewT hs hf, fun G σ H s D DD r q o p hp => o.nx _ _ _ G q ((r.aside (Ex.new hp)).put (x := .dit []) ⟨p, [], rfl, upd_same, r.fin.h0 hp, r.gnone hp, .nil⟩ fun _ j y p' ej m z => by
    cases z
    exact r.notslot hp j y ej m) (Ex.refl G)⟩
/-- d.get(e, f), int and text keys -/
def wDGet2 (i : Nat) (we wf : WE) : WE := fun s Q => (∃ kvs0, s.env[i]? = some (some (.dic kvs0))) ∧ we s fun kd s1 => wf s1 fun fd s2 => ∃ kvs k, s2.env[i]? = some (some (.dic kvs)) ∧ keyD kd = some k ∧ Q ((lookG kvs k).getD fd) s2
theorem de_dget2 (i : Nat) {apos cpos : Pos} (hu : X.A.units + 1 < cLine) (he : DE X C e te we) (hf : DE X C f tx wx) (hv : PE X (.Name x p) (tVar i) := by exact pv _) (m : M2 X (.Name x p) "get" apos e f cpos := by exact ⟨rfl, rfl, rfl, rfl⟩) :
    DE X C (.Call (.Attribute (.Name x p) "get" apos) [e, f] [] cpos) (tDGet2 (tVar i) te tx) (wDGet2 i we wx) := ⟨pe_dget2 hu hv he.pe hf.pe m, fun G σ H s Q Q' r q k => by
  obtain ⟨⟨kvs0, e0⟩, q⟩ := q
  obtain ⟨v, hv, p, ks, rfl, a1, a2, a3, a4⟩ := r.sl i _ e0
  refine ⟨_, hv, p, rfl, .inl ⟨ks, .inl a1⟩, he.ie G σ H s _ _ r q fun v1 d1 s1 G1 H1 q1 r1 eg1 g1 p1 => hf.ie G1 σ H1 s1 _ _ r1 q1 fun v2 d2 s2 G2 H2 q2 r2 eg2 g2 p2 => ?_⟩
  obtain ⟨kvs, kk, e2, hk, q2⟩ := q2
  obtain ⟨v', hv', p', ks', hp', b1, b2, b3, b4⟩ := r2.sl i _ e2
  rw [hv] at hv'
  cases hv'
  cases hp'
  have gs := g1.trans g2
  refine ⟨valV ks' kk, ?_, ?_⟩
  · rw [key_v p1 hk]
    exact DGet.k b1
  · rcases look_pair kk b4 with ⟨z1, z2⟩ | ⟨v3, d3, z1, z2, z3⟩
    · rw [z2] at q2
      rw [z1]
      exact k _ _ s2 G2 H2 q2 r2 (eg1.trans eg2) gs p2
    · rw [z2] at q2
      rw [z1]
      exact k _ _ s2 G2 H2 q2 r2 (eg1.trans eg2) gs z3⟩
/-- d[k] = e, int and text keys -/
def wDPut (i : Nat) (we wy : WE) : WS := fun DD s => we s fun d s1 => (∃ kvs0, s1.env[i]? = some (some (.dic kvs0))) ∧ wy s1 fun kd s2 => ∃ kvs k, s2.env[i]? = some (some (.dic kvs)) ∧ keyD kd = some k ∧ kvs.length < 100000 ∧ DD.nx (s2.set i (.dic (putG kvs k d)))
theorem ds_dput (i : Nat) {p2 : Pos} (hu : X.A.units + 1 < cLine) (h : DE X C e te we) (hy : DE X C b ty wy) (hv : PE X (.Name x p) (tVar i) := by exact pv _) (hs : swapsWith e (some (.Subscript (.Name x p) b p2)) pos.line X.env = pure false := by rfl) :
    DS X C (.Assign [.Subscript (.Name x p) b p2] e pos) (sDPut (tVar i) ty te) (wDPut i we wy) := ⟨ps_dput hu hv hy.pe h.pe hs, fun G σ H s D DD r q o => h.ie G σ H s _ _ r q fun v1 d1 s1 G1 H1 q1 r1 eg1 g1 p1 => by
  obtain ⟨⟨kvs0, e0⟩, q1⟩ := q1
  obtain ⟨v, hv, p, ks, rfl, a1, a2, a3, a4⟩ := r1.sl i _ e0
  refine ⟨_, hv, hy.ie G1 σ H1 s1 _ _ r1 q1 fun v2 d2 s2 G2 H2 q2 r2 eg2 g2 p2 => ?_⟩
  obtain ⟨kvs, kk, e2, hk, hl, q2⟩ := q2
  obtain ⟨v', hv', p', ks', hp', b1, b2, b3, b4⟩ := r2.sl i _ e2
  rw [hv] at hv'
  cases hv'
  cases hp'
  refine ⟨p, _, rfl, ?_, o.nx σ _ _ G2 q2 (r2.mutO (x' := .dic (putG kvs kk d1)) e2 rfl hv b1 (fun _ _ z => by cases z) b2 b3 ⟨p, putK ks' kk v1, rfl, upd_same, b2, b3, put_pair kk (dp_ex eg2 p1) b4⟩) (eg1.trans eg2)⟩
  rw [key_v p2 hk]
  exact DPut.k b1 (sz_lt (by rw [len_pair b4]; exact hl))⟩
/-! tuple keys, the key a display -/
def keysD : List PyData → Option (List Key)
  | [] => some []
  | d :: ds => match keyD d, keysD ds with
    | some k, some ks => some (k :: ks)
    | _, _ => none
theorem keys_v {K : PySem.W.Frag} {G : Hp} : ∀ {ds : List PyData} {vs : List V} {ks : List Key}, DpAll K G vs ds → keysD ds = some ks → vs = ks.map kV
  | _, _, _, .nil, e => by cases e; rfl
  | d :: ds, _, _, .cons h t, e => by
    unfold keysD at e
    split at e
    · rename_i k ks h1 h2
      cases e
      rw [key_v h h1, keys_v t h2]
      rfl
    · cases e
/-- d[(a, b)] = e -/
def wTPut (i : Nat) (we : WE) (wA : WA) : WS := fun DD s => we s fun d s1 => (∃ kvs0, s1.env[i]? = some (some (.dit kvs0))) ∧ wA s1 fun kd s2 => ∃ kvs k, s2.env[i]? = some (some (.dit kvs)) ∧ keysD kd = some k ∧ kd.length ≤ 100000 ∧ kvs.length < 100000 ∧ DD.nx (s2.set i (.dit (putG kvs k d)))
theorem ds_tput (i : Nat) {p2 p3 : Pos} {kk : Nat} (hu : X.A.units + 1 < cLine) (h : DE X C e te we) (hA : DA X C es tA wA) (hv : PE X (.Name x p) (tVar i) := by exact pv _) (hs : swapsWith e (some (.Subscript (.Name x p) (.Tuple es kk p3) p2)) pos.line X.env = pure false := by rfl) :
    DS X C (.Assign [.Subscript (.Name x p) (.Tuple es kk p3) p2] e pos) (sDPut (tVar i) (tTup tA) te) (wTPut i we wA) := ⟨ps_dput hu hv (pe_tup hA.pa) h.pe hs, fun G σ H s D DD r q o => h.ie G σ H s _ _ r q fun v1 d1 s1 G1 H1 q1 r1 eg1 g1 p1 => by
  obtain ⟨⟨kvs0, e0⟩, q1⟩ := q1
  obtain ⟨v, hv, p, ks, rfl, a1, a2, a3, a4⟩ := r1.sl i _ e0
  refine ⟨_, hv, hA.ia G1 σ H1 s1 _ _ r1 q1 fun vs2 ds2 s2 G2 H2 q2 r2 eg2 g2 p2 => ?_⟩
  obtain ⟨kvs, kk, e2, hk, hl0, hl, q2⟩ := q2
  obtain ⟨v', hv', p', ks', hp', b1, b2, b3, b4⟩ := r2.sl i _ e2
  rw [hv] at hv'
  cases hv'
  cases hp'
  refine ⟨by rw [dpa_len p2]; exact sz_of hl0, fun T hT => ?_⟩
  have ne : p ≠ T := fun z => by rw [z, hT] at b1; cases b1
  have b1' : upd H2 T (.tup vs2) p = some (.dT ks') := by rw [upd_ne ne]; exact b1
  have r3 := r2.aside (Ex.new (o := .tup vs2) hT)
  refine ⟨p, _, rfl, DPut.t b1' (b := T) (k := kk) (by rw [upd_same, keys_v p2 hk]) (sz_lt (by rw [len_pair b4]; exact hl)), o.nx σ _ _ G2 q2 (r3.mutO (x' := .dit (putG kvs kk d1)) e2 rfl hv b1' (fun _ _ z => by cases z) b2 b3 ⟨p, putK ks' kk v1, rfl, upd_same, b2, b3, put_pair kk (dp_ex eg2 p1) b4⟩) (eg1.trans eg2)⟩⟩
/-- d[(a, b)], the dict only read -/
def wTGet (i : Nat) (wA : WA) : WE := fun s Q => (∃ kvs0, s.env[i]? = some (some (.dd kvs0))) ∧ wA s fun kd s1 => ∃ kvs k d, s1.env[i]? = some (some (.dd kvs)) ∧ keysD kd = some k ∧ kd.length ≤ 100000 ∧ lookG kvs k = some d ∧ Q d s1
theorem RdD.rd {H : Hp} {p : Addr} {ks : List (List Key × V)} (h : RdD C H p ks) : Rd H p (.dT ks) := by
  obtain ⟨(⟨od, h⟩ | ⟨h, h0⟩), n⟩ := h
  · exact .inr ⟨od, h⟩
  · exact .inl h
theorem de_tget (i : Nat) {p2 p3 : Pos} {kk : Nat} (hu : X.A.units + 1 < cLine) (hA : DA X C es tA wA) (hv : PE X (.Name x p) (tVar i) := by exact pv _) (hs : NoSl (.Tuple es kk p3) := by exact fun _ _ => rfl) :
    DE X C (.Subscript (.Name x p) (.Tuple es kk p3) pos) (tDGet (tVar i) (tTup tA)) (wTGet i wA) := ⟨pe_dget hu hv (pe_tup hA.pa) hs, fun G σ H s Q Q' r q k => by
  obtain ⟨⟨kvs0, e0⟩, q⟩ := q
  obtain ⟨v, hv, p, ks, rfl, a1, a2⟩ := r.sl i _ e0
  refine ⟨_, hv, hA.ia G σ H s _ _ r q fun vs ds s1 G1 H1 q1 r1 eg1 g1 p1 => ?_⟩
  obtain ⟨kvs, kk, d, e2, hk, hl, hd, q1⟩ := q1
  obtain ⟨v', hv', p', ks', hp', b1, b2⟩ := r1.sl i _ e2
  rw [hv] at hv'
  cases hv'
  cases hp'
  refine ⟨by rw [dpa_len p1]; exact sz_of hl, fun T hT => ?_⟩
  rcases look_pair kk b2 with ⟨z1, z2⟩ | ⟨v3, d3, z1, z2, z3⟩
  · rw [z2] at hd
    cases hd
  · rw [z2] at hd
    cases hd
    refine ⟨p, v3, rfl, .inr ⟨ks', kk, T, ?_, rfl, by rw [upd_same, keys_v p1 hk], z1.symm⟩, k _ _ s1 G1 _ q1 (r1.aside (Ex.new hT)) eg1 (g1.trans (.side (Ex.new hT))) z3⟩
    exact (b1.gr (Gr.of (Ex.new hT))).rd⟩
end
end Dw

namespace Dw
open PySem PySem.Spec PyProof.Rows L2 OgR Evl
section
variable {X : Cx} {C : Ct} {a b e tg : Expr} {es : List Expr} {pos p : Pos} {t ta tb tc te : TE} {w wa wb wc we : WE} {tA : TA} {wA : WA} {x : Str} {st : Stmt} {sts : List Stmt} {u v : TS} {wu wv : WS}
/-! ### comprehensions, the turns said at once -/
theorem lc_core {J : It} {ds : List PyData} {g : TG} {ks vs : List Nat} {wg : WG} {tt : TT} {wt : WT} {te : TE} {we : WE} {G H : Hp} {σ : L2.St} {s : Dt} {Q : List PyData → Dt → Prop} {Q' : VK} (hk : ∀ k ∈ ks, k ∈ vs) (ht : IT C tt wt) (he : IE C te we) (r : Rel C G σ H s)
    (turn : ∀ G' H' c', Ex G G' → Rel C G' σ H' ⟨s.env, c'⟩ → Gs C σ G H s G' H' ⟨s.env, c'⟩ → (∀ (i : Nat) d, ds[i]? = some d → J.go i H' ∧ ∀ x H3, J.yld i H' x H3 → ∃ G3, Ex G' G3 ∧ Ex H' H3 ∧ Ex G3 H3 ∧ Nw G' G3 H' ∧ ∀ σ2 s2 Q Q', Rel C G3 σ2 H3 s2 → wg d s2 Q →
      (∀ σ' s', Q s' → Rel C G3 σ' H3 s' → σ'.length = σ2.length → (∀ j : Nat, j ∉ ks → σ'[j]? = σ2[j]?) → Q' σ' H3) → g x σ2 H3 Q') ∧ J.stop ds.length H')
    (q1 : ∃ Inv : Nat → List PyData → Int → Prop, Inv 0 [] s.c ∧
      (∀ (i : Nat) d acc c, ds[i]? = some d → Inv i acc c → wg d ⟨wipeD s.env vs, c⟩ fun s2 => wt s2 fun b s3 => s3.env = s2.env ∧ if b = true then we s3 fun y s4 => s4.env = s2.env ∧ acc.length < 100000 ∧ Inv (i + 1) (acc ++ [y]) s4.c else Inv (i + 1) acc s3.c) ∧
      ∀ acc c, Inv ds.length acc c → Q acc ⟨s.env, c⟩)
    (k : ∀ p xs ds s' G' H', Q ds s' → Rel C G' σ H' s' → Ex G G' → Gs C σ G H s G' H' s' → H p = none → H' p = some (.lst xs) → G' p = none → DpAll C.K G' xs ds → (∀ (i : Nat) x, s'.env[i]? = some (some x) → x.mut = true → σ[i]? ≠ some (some (.ref p))) → Q' (.ref p) H') :
    tLc (fun _ H1 R => R J H1) g tt te vs σ H Q' := fun D hD => by
    obtain ⟨Inv, h0, hs, hd⟩ := q1
    have hHD : H D = none := by
      cases z : H D with
      | none => rfl
      | some o => rw [z] at hD; cases hD
    refine ⟨fun i m H' => m = ds.length - i ∧ i ≤ ds.length ∧ ∃ G' acc xs c', Ex G G' ∧ Rel C G' σ H' ⟨s.env, c'⟩ ∧ Gs C σ G H s G' H' ⟨s.env, c'⟩ ∧ H' D = some (.lst xs) ∧ G' D = none ∧ DpAll C.K G' xs acc ∧ Inv i acc c', ⟨ds.length, by simp, Nat.zero_le _, G, [], [], s.c, Ex.refl G, r.aside (Ex.new hD), .side (Ex.new hD), upd_same, r.gnone hD, .nil, h0⟩, ?_⟩
    rintro i m H' ⟨rfl, hi, G', acc, xs, c', e', r', g', hHd, hGd, dacc, inv⟩
    obtain ⟨go, stop⟩ := turn G' H' c' e' r' g'
    have nbD : C.bx ≠ some D := r.fin.nbx (r.fin.h0 hHD)
    by_cases hlt : i < ds.length
    · have hd1 : ds[i]? = some ds[i] := List.getElem?_eq_getElem hlt
      obtain ⟨g1, g2⟩ := go i _ hd1
      refine .inr ⟨g1, fun H2 => ∃ G' acc xs c', Ex G G' ∧ Rel C G' σ H2 ⟨s.env, c'⟩ ∧ Gs C σ G H s G' H2 ⟨s.env, c'⟩ ∧ H2 D = some (.lst xs) ∧ G' D = none ∧ DpAll C.K G' xs acc ∧ Inv (i + 1) acc c', fun H2 ⟨G2, a1, a2, a3, a4, a5, a6, a7, a8, a9, a10⟩ => ⟨ds.length - (i + 1), by omega, rfl, hlt, G2, a1, a2, a3, a4, a5, a6, a7, a8, a9, a10⟩, fun x H3 y => ?_⟩
      obtain ⟨G3, b1, b2, b3, b4, b5⟩ := g2 x H3 y
      have r3 := r'.grow b1 b2 b3 b4
      have gs3 : Gs C σ G' H' ⟨s.env, c'⟩ G3 H3 ⟨s.env, c'⟩ := .grow b2 b4
      have e3 := e'.trans b1
      have hG3 : G3 D = none := gs3.nk D hGd (by rw [hHd]; exact Option.some_ne_none _) fun j y ej m z => by
        obtain ⟨v, hv, rv⟩ := r.sl j y ej
        rw [z] at hv
        cases hv
        exact r.notslot hD j y ej m z
      refine b5 (L2.wipe σ vs) ⟨wipeD s.env vs, c'⟩ _ _ (r3.wipe vs) (hs i _ acc c' hd1 inv) fun σ4 s4 q4 r4 l4 f4 => ⟨wipe_of l4 f4 hk, ht G3 σ4 H3 s4 _ _ r4 q4 fun bb s5 G5 H5 q5 r5 eg5 gs5 => ?_⟩
      obtain ⟨he5, q5⟩ := q5
      cases bb with
      | false =>
        rw [if_neg (by decide)] at q5
        have rr := r3.back r4 r5 he5 eg5 gs5
        refine iteF ⟨G5, acc, xs, s5.c, e3.trans eg5, rr, g'.trans (gs3.trans ⟨gs5.gr, gs5.dom, fun b h1 h2 h3 => gs5.keep r4 r5 he5 h1 h2, fun i x e m => ⟨x, e, m⟩⟩), gs5.gr D _ nbD (b2 D _ hHd), gs5.keep r4 r5 he5 hG3 (by rw [b2 D _ hHd]; exact Option.some_ne_none _), dpa_ex (b1.trans eg5) dacc, q5⟩
      | true =>
        rw [if_pos rfl] at q5
        refine iteT (he G5 σ4 H5 s5 _ _ r5 q5 fun v y s6 G6 H6 q6 r6 eg6 gs6 pv => ?_)
        obtain ⟨he6, hl, q6⟩ := q6
        have gs7 := gs5.trans gs6
        have rr := r3.back r4 r6 he6 (eg5.trans eg6) gs7
        have hD6 : H6 D = some (.lst xs) := gs7.gr D _ nbD (b2 D _ hHd)
        have gD6 : G6 D = none := gs7.keep r4 r6 he6 hG3 (by rw [b2 D _ hHd]; exact Option.some_ne_none _)
        have hm : ∀ b, b ≠ D → upd H6 D (.lst (xs ++ [v])) b = H6 b := fun b hb => upd_ne hb
        refine ⟨xs, hD6, sz_lt (by rw [dpa_len dacc]; exact hl), G6, acc ++ [y], xs ++ [v], s6.c, e3.trans (eg5.trans eg6), ?_, ?_, upd_same, gD6, dpa_app (dpa_ex ((b1.trans eg5).trans eg6) dacc) (.cons pv .nil), q6⟩
        · -- D is no slot's and not data
          have h0D : C.H0 D = none := r.fin.h0 hHD
          refine ⟨⟨fun b o hb => ?_, rr.fin.g0, rr.fin.nw, fun b o n hb => ?_, fun l hl => ?_⟩, rr.len, fun j y ej => ?_, rr.dis⟩
          · rw [hm b (fun z => by rw [z, gD6] at hb; cases hb)]
            exact rr.fin.gh b o hb
          · rw [hm b (fun z => by rw [z, h0D] at hb; cases hb)]
            exact rr.fin.hh b o n hb
          · refine ⟨(rr.fin.bx l hl).1.keep fun o q => ?_, (rr.fin.bx l hl).2⟩
            rw [hm l (fun z => nbD (by rw [← z]; exact hl))]
            exact q
          · obtain ⟨v', hv', rv⟩ := rr.sl j y ej
            refine ⟨v', hv', ?_⟩
            cases y with
            | d _ => exact rv
            | box => exact rv
            | own ds2 =>
              obtain ⟨p2, xs2, a1, a2, a3, a4, a5⟩ := rv
              exact ⟨p2, xs2, a1, by rw [hm p2 (fun z => r.notslot hD j _ ej rfl (by rw [hv', a1, z]))]; exact a2, a3, a4, a5⟩
            | dic ds2 =>
              obtain ⟨p2, xs2, a1, a2, a3, a4, a5⟩ := rv
              exact ⟨p2, xs2, a1, by rw [hm p2 (fun z => r.notslot hD j _ ej rfl (by rw [hv', a1, z]))]; exact a2, a3, a4, a5⟩
            | dit ds2 =>
              obtain ⟨p2, xs2, a1, a2, a3, a4, a5⟩ := rv
              exact ⟨p2, xs2, a1, by rw [hm p2 (fun z => r.notslot hD j _ ej rfl (by rw [hv', a1, z]))]; exact a2, a3, a4, a5⟩
            | oth φ => exact Oth.step (φ := φ) rv (Ex.refl G6) (Kept.upd hD6 rfl)
            | dd ds2 =>
              obtain ⟨p2, xs2, a1, a2, a5⟩ := rv
              exact ⟨p2, xs2, a1, a2.upd hD6 h0D (fun _ _ z => by cases z), a5⟩
        · have gg := g'.trans (gs3.trans (s2 := ⟨s.env, s6.c⟩) ⟨gs7.gr, gs7.dom, fun b h1 h2 h3 => gs7.keep r4 r6 he6 h1 h2, fun i x e m => ⟨x, e, m⟩⟩)
          refine ⟨fun b o n hb => ?_, fun b hb => ?_, gg.nk, gg.ks⟩
          · rw [hm b (fun z => by rw [z, hD] at hb; cases hb)]
            exact gg.gr b o n hb
          · by_cases z : b = D
            · rw [z, upd_same]
              exact Option.some_ne_none _
            · rw [hm b z]
              exact gg.dom b hb
    · have e : i = ds.length := by omega
      subst e
      refine .inl ⟨stop, k D xs acc ⟨s.env, c'⟩ G' H' (hd acc c' inv) r' e' g' hHD hHd hGd dacc fun j y ej m => r.notslot hD j y ej m⟩
/-! ### [.. for a, b in d], d a dict of the def's own with tuple keys: it is locked meanwhile -/
def kD : Key → PyData
  | .inl i => .int i
  | .inr z => .str z
theorem dp_kD {K : PySem.W.Frag} {G : Hp} : ∀ k : Key, Dp K G (kV k) (kD k)
  | .inl i => .int i
  | .inr z => .str z
theorem dpa_kD {K : PySem.W.Frag} {G : Hp} : ∀ ks : List Key, DpAll K G (ks.map kV) (ks.map kD)
  | [] => .nil
  | k :: ks => .cons (dp_kD k) (dpa_kD ks)
def keyT (kv : List Key × PyData) : PyData := .tuple (kv.1.map kD)
/-- targets of a tuple that stands in the heap -/
def IGH (C : Ct) (g : TG) (ks : List Nat) (w : WG) : Prop := ∀ G σ H s q xs ds Q Q', Rel C G σ H s → H q = some (.tup xs) → DpAll C.K G xs ds → w (.tuple ds) s Q →
  (∀ σ' s', Q s' → Rel C G σ' H s' → σ'.length = σ.length → (∀ j : Nat, j ∉ ks → σ'[j]? = σ[j]?) → Q' σ' H) → g (.ref q) σ H Q'
theorem igh_tup {n : Nat} {g : TGs} {ks : List Nat} {u : WGs} (h : IGs C g ks u) : IGH C (gSeqB C.K n g) ks (wGTup n u) := fun G σ H s q xs ds Q Q' r hq hd hw k => by
  obtain ⟨hs, hl, hw⟩ := hw
  exact ⟨true, q, xs, rfl, .inl (.inl hq), by rw [dpa_len hd]; exact hl, h G σ H s xs ds Q Q' r hd hw k⟩
def noDD (env : List (Option DV)) : Bool := env.all fun x => match x with
  | some (.dd _) => false
  | _ => true
theorem noDD_at {env : List (Option DV)} (h : noDD env = true) {i : Nat} {kvs : List (List Key × PyData)} : env[i]? ≠ some (some (.dd kvs)) := fun e => by
  have := List.all_eq_true.mp h _ (List.mem_of_getElem? e)
  cases this
def wLcK (i0 : Nat) (g : WG) (tt : WT) (te : WE) (vs : List Nat) : WA := fun s Q => ∃ kvs, s.env[i0]? = some (some (.dit kvs)) ∧ noDD s.env = true ∧ ∃ Inv : Nat → List PyData → Int → Prop, Inv 0 [] s.c ∧
  (∀ (i : Nat) d acc c, (kvs.map keyT)[i]? = some d → Inv i acc c → g d ⟨wipeD (s.env.set i0 (some (.dd kvs))) vs, c⟩ fun s2 => tt s2 fun b s3 => s3.env = s2.env ∧ if b = true then te s3 fun y s4 => s4.env = s2.env ∧ acc.length < 100000 ∧ Inv (i + 1) (acc ++ [y]) s4.c else Inv (i + 1) acc s3.c) ∧
  ∀ acc c, Inv (kvs.map keyT).length acc c → Q acc ⟨s.env, c⟩
theorem pair_at {α β : Type} {F : α → β → Prop} : ∀ {l1 : List α} {l2 : List β} {i : Nat} {b : β}, Paired F l1 l2 → l2[i]? = some b → ∃ a, l1[i]? = some a ∧ F a b
  | _, _, _, _, .nil, e => by simp at e
  | _, _, 0, _, .cons h _, e => by
    simp at e
    subst e
    exact ⟨_, rfl, h⟩
  | _, _, i + 1, _, .cons _ t, e => pair_at (i := i) t (by simpa using e)
theorem io_lcK {i0 : Nat} {g : TG} {ks vs : List Nat} {wg : WG} {tt : TT} {wt : WT} (hk : ∀ k ∈ ks, k ∈ vs) (hg : IGH C g ks wg) (ht : IT C tt wt) (he : IE C te we) : IO C (tLockE (tLc (iKeys (tVar i0)) g tt te vs)) (wLcK i0 wg wt we vs) := fun G σ H s Q Q' r q k => by
  obtain ⟨kvs, e0, nd, q⟩ := q
  obtain ⟨v, hv, p, kk, rfl, h1, h2, h3, h4⟩ := r.sl i0 _ e0
  refine ⟨p, _, h1, trivial, fun od => ?_⟩
  have nb := r.fin.nbx h2
  have rl : Rel C G σ (upd H p (.frz od (.dT kk))) (s.set i0 (.dd kvs)) := r.mutO (x' := .dd kvs) e0 rfl hv h1 (fun _ _ z => by cases z) h2 h3 ⟨p, kk, rfl, ⟨.inl ⟨od, upd_same⟩, nb⟩, h4⟩
  have hl : kk.length = kvs.length := len_pair h4
  refine ⟨_, hv, p, od, rfl, .inr ⟨kk, upd_same, ?_⟩⟩
  have fz : ∀ (G' H' : Hp) (c' : Int), Gs C σ G (upd H p (.frz od (.dT kk))) (s.set i0 (.dd kvs)) G' H' ⟨(s.set i0 (.dd kvs)).env, c'⟩ → H' p = some (.frz od (.dT kk)) := fun G' H' c' gs => gs.gr p _ nb upd_same
  have np : ∀ (i : Nat) x, (s.set i0 (.dd kvs)).env[i]? = some (some x) → x.mut = true → σ[i]? ≠ some (some (.ref p)) := fun i x ei m hp => by
    rcases get_set ei with ⟨rfl, rfl, _⟩ | ⟨z, ei⟩
    · cases m
    · exact r.dis i0 i _ x p (Ne.symm z) e0 ei rfl m hv hp
  exact lc_core (J := Itkt p od kk) (ds := kvs.map keyT) (Q' := fun v H' => H' p = some (.frz od (.dT kk)) ∧ Q' v (upd H' p (.dT kk))) (Q := fun acc s' => ∃ c', s' = ⟨(s.set i0 (.dd kvs)).env, c'⟩ ∧ Q acc ⟨s.env, c'⟩) hk ht he rl (fun G' H' c' eg rr gs => by
    have hz := fz G' H' c' gs
    refine ⟨fun i d hd => ?_, hz, by rw [List.length_map, hl]; exact Nat.le_refl _⟩
    rw [List.getElem?_map] at hd
    cases qk : kvs[i]? with
    | none => rw [qk] at hd; cases hd
    | some kv =>
      rw [qk] at hd
      cases hd
      obtain ⟨kw, hw, ek, _⟩ := pair_at h4 qk
      refine ⟨⟨hz, (List.getElem?_eq_some_iff.mp hw).1⟩, fun x H3 y => ?_⟩
      obtain ⟨rfl, k1, v1, q1, hk1, rfl, hq1⟩ := y
      rw [hw] at hk1
      cases hk1
      refine ⟨G', Ex.refl G', Ex.refl H3, rr.fin.gh, Nw.refl G' H3, fun σ2 s2 Q2 Q2' r2 w2 k2 => ?_⟩
      refine hg G' σ2 H3 s2 q1 _ _ Q2 Q2' r2 hq1 (dpa_kD k1) ?_ k2
      have ek' : k1 = kv.1 := ek
      rw [ek']
      exact w2) (by
    obtain ⟨Inv, i0', is, ie⟩ := q
    exact ⟨Inv, i0', is, fun acc c hi => ⟨c, rfl, ie acc c hi⟩⟩) fun D xs acc s' G' H' qq r' eg gs hD hD' gD dacc nsl => by
    obtain ⟨c', rfl, qq⟩ := qq
    have hz := fz G' H' c' gs
    have hDp : D ≠ p := fun z => by rw [z, hz] at hD'; cases hD'
    have gp : G' p = none := gs.nk p h3 (by rw [upd_same]; exact Option.some_ne_none _) np
    refine ⟨hz, ?_⟩
    have env0 : (s.env.set i0 (some (.dd kvs))).set i0 (some (.dit kvs)) = s.env := by
      rw [List.set_set]
      refine List.ext_getElem? fun j => ?_
      by_cases z : i0 = j
      · subst z
        rw [List.getElem?_set_self (List.getElem?_eq_some_iff.mp e0).1, e0]
      · rw [List.getElem?_set_ne z]
    have oth : ∀ (j : Nat) y, j ≠ i0 → s.env[j]? = some (some y) → (s.set i0 (.dd kvs)).env[j]? = some (some y) := fun j y z ej => by
      show (s.env.set i0 _)[j]? = _
      rw [List.getElem?_set_ne (Ne.symm z)]
      exact ej
    have hu : ∀ b, b ≠ p → upd H' p (.dT kk) b = H' b := fun b hb => upd_ne hb
    have rel : Rel C G' σ (upd H' p (.dT kk)) ⟨s.env, c'⟩ := by
      refine ⟨⟨fun b o hb => ?_, r'.fin.g0, r'.fin.nw, fun b o n hb => ?_, fun l hl => ?_⟩, r.len, fun j y ej => ?_, r.dis⟩
      · rw [hu b (fun z => by rw [z, gp] at hb; cases hb)]
        exact r'.fin.gh b o hb
      · rw [hu b (fun z => by rw [z, h2] at hb; cases hb)]
        exact r'.fin.hh b o n hb
      · refine ⟨(r'.fin.bx l hl).1.keep fun o q => ?_, (r'.fin.bx l hl).2⟩
        rw [hu l (fun z => nb (by rw [← z]; exact hl))]
        exact q
      · by_cases z : j = i0
        · subst z
          rw [e0] at ej
          cases ej
          exact ⟨_, hv, p, kk, rfl, upd_same, h2, gp, paired_mapP h4 fun a b q => ⟨q.1, dp_ex eg q.2⟩⟩
        · obtain ⟨v', hv', rv⟩ := r'.sl j y (oth j y z ej)
          refine ⟨v', hv', ?_⟩
          have nep : ∀ q, v' = .ref q → y.mut = true → q ≠ p := fun q hq m zz => np j y (oth j y z ej) m (by rw [hv', hq, zz])
          cases y with
          | d x => exact rv
          | box => exact rv
          | own ds2 =>
            obtain ⟨p2, xs2, a1, a2, a3, a4, a5⟩ := rv
            exact ⟨p2, xs2, a1, by rw [hu p2 (nep p2 a1 rfl)]; exact a2, a3, a4, a5⟩
          | dic ds2 =>
            obtain ⟨p2, xs2, a1, a2, a3, a4, a5⟩ := rv
            exact ⟨p2, xs2, a1, by rw [hu p2 (nep p2 a1 rfl)]; exact a2, a3, a4, a5⟩
          | dit ds2 =>
            obtain ⟨p2, xs2, a1, a2, a3, a4, a5⟩ := rv
            exact ⟨p2, xs2, a1, by rw [hu p2 (nep p2 a1 rfl)]; exact a2, a3, a4, a5⟩
          | dd ds2 => exact absurd ej (noDD_at nd)
          | oth φ => exact Oth.step (φ := φ) rv (Ex.refl G') (Kept.upd hz rfl)
    have hHD : H D = none := by rw [upd_ne hDp] at hD; exact hD
    refine k D xs acc ⟨s.env, c'⟩ G' _ qq rel eg ⟨fun b o n hb => ?_, fun b hb => ?_, fun b b1 b2 b3 => ?_, fun i x e m => ⟨x, e, m⟩⟩ hHD (by rw [hu D hDp]; exact hD') gD dacc fun i x ei m => ?_
    · by_cases z : b = p
      · subst z
        rw [h1] at hb
        cases hb
        exact upd_same
      · rw [hu b z]
        exact gs.gr b o n (by rw [upd_ne z]; exact hb)
    · by_cases z : b = p
      · subst z
        rw [upd_same]
        exact Option.some_ne_none _
      · rw [hu b z]
        exact gs.dom b (by rw [upd_ne z]; exact hb)
    · by_cases z : b = p
      · subst z
        exact gp
      · refine gs.nk b b1 (by rw [upd_ne z]; exact b2) fun i x ei m => ?_
        rcases get_set ei with ⟨rfl, rfl, _⟩ | ⟨z', ei⟩
        · cases m
        · exact b3 i x ei m
    · by_cases z : i = i0
      · subst z
        rw [hv]
        intro zz
        cases zz
        exact hDp rfl
      · exact nsl i x (oth i x z ei) m
theorem do_lcK (i0 : Nat) {elt : Expr} {ifs : List Expr} {scope : Scope} {own : List (Str × Nat)} {p2 : Pos} {g : TG} {ks : List Nat} {wg : WG} {tt : TT} {wt : WT} (hc : X.calm = true) (hN : X.N.Nodup) (ok : BlkOk X.N X.env.scope scope own)
    (hg : (∀ (s : Shared) (H : Hp) (A : Addr) (cl : List (Str × Addr)) (fp : List Addr), PG (X.blk s H scope (compEnvC scope cl A X.env) fp) tg g) ∧ IGH C g ks wg)
    (ht : (∀ (s : Shared) (H : Hp) (A : Addr) (cl : List (Str × Addr)) (fp : List Addr), PTs (X.blk s H scope (compEnvC scope cl A X.env) fp) ifs tt) ∧ IT C tt wt)
    (he : ∀ (s : Shared) (H : Hp) (A : Addr) (cl : List (Str × Addr)) (fp : List Addr), DE (X.blk s H scope (compEnvC scope cl A X.env) fp) C elt te we) (hv : PE X (.Name x p2) (tVar i0) := by exact pv _) (hk : ∀ k ∈ ks, k ∈ own.map (·.2) := by decide) (hs : ∀ z, foldedSetIterable (.Name x p2) X.env z = pure z := by intro _; rfl) :
    DO X C (.ListComp elt [⟨tg, .Name x p2, ifs, 0⟩] scope pos) (tLockE (tLc (iKeys (tVar i0)) g tt te (own.map (·.2)))) (wLcK i0 wg wt we (own.map (·.2))) :=
  ⟨pe_lock (pe_lc hc hN (pi_keys hv) ok hg.1 ht.1 (fun s H A cl fp => (he s H A cl fp).pe) hs), io_lcK hk hg.2 ht.2 (he {} (fun _ => none) 0 [] []).ie⟩
end
end Dw

namespace Dw
open PySem PySem.Spec PyProof.Rows L2 OgR Evl
/-! ### sorted of tuples that begin with an int and a text, all whose beginnings are different (or the whole is the same) -/
def hdD : PyData → PyData
  | .tuple (a :: b :: _) => .tuple [a, b]
  | d => d
/-- (int, text) or (int, text, something flat) -/
def RowD (d : PyData) : Prop := ∃ i z r, d = .tuple (.int i :: .str z :: r) ∧ PySem.W.alikeAll r r = true ∧ PyData.depthAll r = 0
structure RowsOk (ds : List PyData) : Prop where
  row : ∀ d ∈ ds, RowD d
  uni : ∀ d ∈ ds, ∀ e ∈ ds, hdD d = hdD e → d = e
def hdLe (a b : PyData) : Bool := !PySem.W.dataLt (hdD b) (hdD a)
theorem row_uni {h : Heap} {v : Value} {d e : PyData} {as bs : List Addr} (hd : RowD d) (he : RowD e) (ra : Reads h v d as) (rb : Reads h v e bs) : hdD d = hdD e := by
  obtain ⟨i, z, r, rfl, _⟩ := hd
  obtain ⟨j, y, q, rfl, _⟩ := he
  cases ra with
  | @tuple a o vs n _ _ h1 h2 h3 h4 =>
    cases rb with
    | @tuple a' o' vs' n' _ _ k1 k2 k3 k4 =>
      rw [h1] at k1
      cases k1
      rw [h3] at k3
      injection k3 with e1 e2
      subst e1
      generalize vs.toList = l at h4 k4
      cases h4 with
      | cons r1 h4 =>
        cases k4 with
        | cons r1' k4 =>
          cases h4 with
          | cons r2 h4 =>
            cases k4 with
            | cons r2' k4 =>
              cases r1
              cases r1'
              cases r2
              cases r2'
              rfl
def RdIn (h : Heap) (ds : List PyData) (v : Value) (d : PyData) : Prop := d ∈ ds ∧ ∃ as, Reads h v d as
noncomputable def rowKind (h : Heap) (ds : List PyData) : PyProof.Rows.KeyKind where
  toKeyOrd := listOrd itemOrd
  keyOf v := open Classical in if w : ∃ d, RdIn h ds v d then some (PySem.W.keyToks (hdD w.choose)) else none
  dflt := List.nil
theorem row_key {h : Heap} {ds : List PyData} {v : Value} (w : ∃ d, RdIn h ds v d) : (rowKind h ds).keyOf v = some (PySem.W.keyToks (hdD w.choose)) := dif_pos w
theorem row_nokey {h : Heap} {ds : List PyData} {v : Value} (w : ¬ ∃ d, RdIn h ds v d) : (rowKind h ds).keyOf v = none := dif_neg w
theorem rowKind_some {h : Heap} {ds : List PyData} (ok : RowsOk ds) {v : Value} {d : PyData} {as : List Addr} (hd : d ∈ ds) (r : Reads h v d as) : (rowKind h ds).keyOf v = some (PySem.W.keyToks (hdD d)) := by
  have w : ∃ d, RdIn h ds v d := ⟨d, hd, as, r⟩
  obtain ⟨c1, c2, c3⟩ := w.choose_spec
  rw [row_key w, row_uni (ok.row _ c1) (ok.row _ hd) c3 r]
theorem rowKind_inv {h : Heap} {ds : List PyData} {v : Value} {k : List (Int ⊕ List Nat)} (e : (rowKind h ds).keyOf v = some k) : ∃ d as, d ∈ ds ∧ Reads h v d as ∧ k = PySem.W.keyToks (hdD d) := by
  by_cases w : ∃ d, RdIn h ds v d
  · rw [row_key w] at e
    obtain ⟨c1, c2, c3⟩ := w.choose_spec
    exact ⟨_, c2, c1, c3, (Option.some.inj e).symm⟩
  · rw [row_nokey w] at e
    cases e
section
variable {prog : Program} {w : World} {A : Around} {s : Shared}
/-- two such tuples compared as sorting does -/
theorem row_lex {fin : Bool} {Q : Bool → Shared → Prop} {i j : Int} {z y : Str} {r q : List PyData} {vs ws : List Value} {as bs : List Addr} (ra : ReadsAll s.heap vs (.int i :: .str z :: r) as) (rb : ReadsAll s.heap ws (.int j :: .str y :: q) bs)
    (same : i = j → z = y → r = q) (hr : PySem.W.alikeAll r r = true) (hdp : PyData.depthAll r = 0) (hu : A.units < cLine) (hf : fin = decide ((PyData.int i :: .str z :: r).length < (PyData.int j :: .str y :: q).length))
    (hq : Q (PySem.W.dataLt (.tuple [.int i, .str z]) (.tuple [.int j, .str y])) s) : PySem.W.KatLex prog w A true fin Q (vs.zip ws) 0 s := by
  have al1 : PySem.W.alike (.int i) (.int j) = true := rfl
  have al2 : PySem.W.alike (.str z) (.str y) = true := rfl
  have u0 : ∀ x : PyData, x.depth = 0 → ∀ x' : PyData, A.units + min x.depth x'.depth < cLine := fun x h x' => by
    rw [h, Nat.zero_min]
    exact hu
  rw [PySem.W.dataLt_tuple] at hq
  cases ra with
  | cons r1 ra =>
    cases rb with
    | cons r1' rb =>
      cases ra with
      | cons r2 ra =>
        cases rb with
        | cons r2' rb =>
          rw [List.zip_cons_cons, List.zip_cons_cons]
          refine PySem.W.kat_cons (PySem.W.eqAt_alike _ _ A s _ _ _ _ r1 r1' al1 (u0 _ rfl _) prog w _ _ ?_)
          cases e1 : PyData.eqv (.int i) (.int j) with
          | false =>
            rw [PySem.W.dataLt_all_no al1 e1] at hq
            exact PySem.W.kat_no (PySem.W.oneLt_alike (by intro _ t e; cases e) r1 r1' al1 (by intro e; cases e) (u0 _ rfl _) hq)
          | true =>
            rw [PySem.W.dataLt_all_yes al1 e1] at hq
            refine PySem.W.kat_yes (PySem.W.kat_cons (PySem.W.eqAt_alike _ _ A s _ _ _ _ r2 r2' al2 (u0 _ rfl _) prog w _ _ ?_))
            cases e2 : PyData.eqv (.str z) (.str y) with
            | false =>
              rw [PySem.W.dataLt_all_no al2 e2] at hq
              exact PySem.W.kat_no (PySem.W.oneLt_alike (by intro _ t e; cases e) r2 r2' al2 (by intro e; cases e) (u0 _ rfl _) hq)
            | true =>
              rw [PySem.W.dataLt_all_yes al2 e2] at hq
              have ei : i = j := by simpa [PyData.eqv] using e1
              have ez : z = y := by simpa [PyData.eqv] using e2
              have er := same ei ez
              subst er
              refine PySem.W.kat_yes (PySem.W.katLex_alike r r 2 _ _ _ _ ra rb hr (by rw [hdp, Nat.zero_min]; exact hu) (fun _ h => absurd h (by decide)) ?_ ?_)
              · rw [hf]
                simp
              · have e3 : PyProof.Rows.lexLt itemOrd (PySem.W.keyToksAll r) (PySem.W.keyToksAll r) = PyProof.Rows.lexLt itemOrd (PySem.W.keyToksAll []) (PySem.W.keyToksAll []) := by rw [lex_irrefl, lex_irrefl]
                rw [e3]
                exact hq
theorem row_dt {d : PyData} (h : RowD d) : ∃ x r, d = .tuple (x :: r) ∧ PySem.W.dataType x = .type "int" := by
  obtain ⟨i, z, r, rfl, _⟩ := h
  exact ⟨_, _, rfl, rfl⟩
theorem row_sorts {vs : List Value} {ds : List PyData} (e : PySem.W.EachIs (fun v d => ∃ as, Reads s.heap v d as) vs ds) (ok : RowsOk ds) (hu : A.units < cLine) : PySem.W.SortsAt prog w A s (rowKind s.heap ds) vs := by
  refine ⟨fun v hv => ?_, tuples' true, ?_, fun h2 E Q hq => ?_⟩
  · obtain ⟨d, hd, as, r⟩ := e.left v hv
    exact ⟨_, rowKind_some ok hd r⟩
  · intro E x y a b Q ha hb hq
    obtain ⟨d, as, hd, ra, rfl⟩ := rowKind_inv ha
    obtain ⟨d', as', hd', rb, rfl⟩ := rowKind_inv hb
    obtain ⟨i, z, r, e1, al, dp⟩ := ok.row d hd
    obtain ⟨j, y, q, e2, _, _⟩ := ok.row d' hd'
    have un : i = j → z = y → r = q := fun h1 h2 => by
      have := ok.uni d hd d' hd' (by rw [e1, e2, h1, h2]; rfl)
      rw [e1, e2] at this
      injection this with this
      simp only [List.cons.injEq] at this
      exact this.2.2
    subst e1 e2
    cases ra with
    | @tuple l o xs n _ _ h1 h2 h3 h4 =>
      cases rb with
      | @tuple l' o' xs' n' _ _ k1 k2 k3 k4 =>
        have n1 : xs.size = (PyData.int i :: .str z :: r).length := by simpa using SeqAt.ReadsAll.length _ _ _ h4
        have n2 : xs'.size = (PyData.int j :: .str y :: q).length := by simpa using SeqAt.ReadsAll.length _ _ _ k4
        exact PySem.W.kat_lt h1 h3 k1 k3 (row_lex h4 k4 un al dp hu (by rw [n1, n2]) hq)
  · have ht : ∀ d, d ∈ ds → ∃ x r, d = PyData.tuple (x :: r) := fun d hd => by
      obtain ⟨x, r, e, _⟩ := row_dt (ok.row d hd)
      exact ⟨x, r, e⟩
    obtain ⟨fs, t1, t2, t3⟩ := PySem.W.each_katTups e ht
    refine PySem.W.kat_kind (T := .type "int") t1 (by omega) (fun f hf => ?_) (beq_self_eq_true _) hq
    obtain ⟨x, r, as, m1, m2⟩ := t3 f hf
    obtain ⟨x2, r2, e3, e4⟩ := row_dt (ok.row _ m1)
    cases e3
    rw [← e4]
    exact PySem.W.looks_reads m2
end
theorem each_of {K : PySem.W.Frag} {H : Hp} {P : V → PyData → Prop} : ∀ {xs : List V} {us : List Value} {ds : List PyData}, Vals xs us → DpAll K H xs ds → (∀ (j : Nat) x d, xs[j]? = some x → ds[j]? = some d → P x d) → PySem.W.EachIs (fun u d => ∃ x, RelV x u ∧ P x d) us ds
  | _, _, _, .nil, .nil, _ => .nil
  | _, _, _, .cons r rs, .cons p ps, h => .cons ⟨_, r, h 0 _ _ rfl rfl⟩ (each_of rs ps fun j x d e1 e2 => h (j + 1) x d (by simpa using e1) (by simpa using e2))
theorem each_back {P : V → PyData → Prop} : ∀ {us : List Value} {ds : List PyData}, PySem.W.EachIs (fun u d => ∃ x, RelV x u ∧ P x d) us ds → ∃ ys : List V, Vals ys us ∧ Paired P ys ds
  | _, _, .nil => ⟨[], .nil, .nil⟩
  | _, _, .cons ⟨x, r, p⟩ t => by
    obtain ⟨ys, h1, h2⟩ := each_back t
    exact ⟨x :: ys, .cons r h1, .cons p h2⟩
theorem pair_dpa {K : PySem.W.Frag} {G : Hp} {P : V → PyData → Prop} (h : ∀ x d, P x d → Dp K G x d) : ∀ {ys : List V} {ds : List PyData}, Paired P ys ds → DpAll K G ys ds
  | _, _, .nil => .nil
  | _, _, .cons p t => .cons (h _ _ p) (pair_dpa h t)
def srtR (ds : List PyData) : List PyData := ds.mergeSort hdLe
section
variable {prog : Program} {w : World} {A : Around} {E : Value → Shared → Prop} {s : Shared} {κ : PyProof.Rows.KeyKind}
/-- sorted(t), t a tuple -/
theorem sorted_tupV {l : Addr} {vs : List Value} {Q : Value → Shared → Prop} (ht : IsTup s.heap l vs.toArray) (S : PySem.W.SortsAt prog w A.in1.in1 { s with heap := PySem.W.sortingHeap (PySem.W.copyHeap s.heap vs) (s.heap.objs.size + 1) vs } κ vs) (hL : vs.length ≤ sizeLine)
    (h : Q (.ref (s.heap.objs.size + 1)) { s with heap := sortedAll s.heap vs (PySem.W.sortVals κ false vs vs).toArray }) : wpAny (model prog w) A (call (.builtin "sorted") [.ref l]) Q E s := by
  obtain ⟨o, ho, hc, n, hd⟩ := ht
  refine Calls.call_function_entry kind_sorted plain_sorted entry_sorted (args_sorted1 _) ?_
  unfold Builtin.«sorted»
  refine wpAny_bind (m := checkCount "sorted" 1 1 _) (wpAny_pure ?_)
  refine wpAny_bind (gather_tup ho hc hd (by simpa using hL) ?_)
  rw [List.toList_toArray]
  have hsz : ((s.heap.push (seqObj "list" #[] 0)).update s.heap.objs.size (Obj.mapSeq (· ++ vs.toArray))).objs.size = s.heap.objs.size + 1 := by
    rw [Heap.size_update, size_push']
  refine wpAny_bind (wpAny_newList ?_ hL)
  show wpAny _ _ _ _ _ { s with heap := PySem.W.copyHeap s.heap vs }
  rw [hsz]
  refine wpAny_bind (wpAny_holding (wpAny_call_entry slot_list_sort ⟨_, PySem.W.copyHeap_at s.heap vs, rfl⟩ entry_list_sort (PySem.W.list_sort_vals (s := { s with heap := PySem.W.copyHeap s.heap vs }) (PySem.W.copyHeap_at s.heap vs) S hL ⟨_, rfl, wpAny_pure ⟨_, rfl, h⟩⟩) (args_list_sort _)))
end
def rSrtR (K : PySem.W.Frag) : List V → Hp → VK → Prop := fun vs H Q => ∃ (b : Bool) (a : Addr) (xs : List V) (ds : List PyData), vs = [.ref a] ∧ SqB K b H a xs ∧ DpAll K H xs ds ∧ RowsOk ds ∧ ∀ ys p, (∀ G, DpAll K G xs ds → DpAll K G ys (srtR ds)) → H p = none → Q (.ref p) (upd H p (.lst ys))
theorem cr_srtR {X : Cx} (hu : X.A.units + 64 < cLine) : CallR X (.builtin "sorted") (rSrtR X.K) := by
  intro pins s σ H vs us Q I r h
  obtain ⟨bb, a, xs, ds, rfl, hs, hd, ok, q⟩ := h
  have go : ∃ its : List Value, Vals xs its ∧ xs.length ≤ sizeLine ∧ ∀ {κ : PyProof.Rows.KeyKind} {Q : Value → Shared → Prop}, PySem.W.SortsAt X.prog X.w X.A.in1.in1 { s with heap := PySem.W.sortingHeap (PySem.W.copyHeap s.heap its) (s.heap.objs.size + 1) its } κ its → its.length ≤ sizeLine →
      Q (.ref (s.heap.objs.size + 1)) { s with heap := sortedAll s.heap its (PySem.W.sortVals κ false its its).toArray } → wpAny (model X.prog X.w) X.A (call (.builtin "sorted") [.ref a]) Q X.xe s := by
    cases bb with
    | true =>
      obtain ⟨its, rv, pt, hz⟩ := I.tuple hs
      exact ⟨its, rv, hz, fun S hL h => sorted_tupV pt S hL h⟩
    | false =>
      obtain ⟨its, rv, pt, hz⟩ := I.list hs
      exact ⟨its, rv, hz, fun S hL h => PySem.W.sorted_vals pt.isList S hL h⟩
  obtain ⟨its, rv, hz, run⟩ := go
  rw [Vals.ref1 r]
  have er : PySem.W.EachIs (fun u d => ∃ as, Reads s.heap u d as) its ds := (each_of (P := fun x d => Dp X.K H x d) rv hd fun j x d e1 e2 => by
    obtain ⟨d', e3, p⟩ := dpa_get hd e1
    rw [e2] at e3
    cases e3
    exact p).mono fun u d ⟨x, rx, px⟩ => Dp.reads I d x u px rx
  have ee : PySem.W.EachIs (fun u d => ∃ x, RelV x u ∧ ∀ G, DpAll X.K G xs ds → Dp X.K G x d) its ds := each_of rv hd fun j x d e1 e2 G hG => by
    obtain ⟨d', e3, p⟩ := dpa_get hG e1
    rw [e2] at e3
    cases e3
    exact p
  have er2 : PySem.W.EachIs (fun u d => ∃ as, Reads (PySem.W.sortingHeap (PySem.W.copyHeap s.heap its) (s.heap.objs.size + 1) its) u d as) its ds := er.mono fun _ _ w => ⟨w.choose, PyProof.Rows.Reads.keeps (fun _ _ => PySem.W.sorting_copy_old) w.choose_spec⟩
  have hk : PySem.W.EachIs (fun u d => (rowKind (PySem.W.sortingHeap (PySem.W.copyHeap s.heap its) (s.heap.objs.size + 1) its) ds).keyOf u = some (PySem.W.keyToks (hdD d))) its ds := (PySem.W.each_mem er2).mono fun _ _ w => rowKind_some ok w.2 w.1.choose_spec
  have hl : its.length = ds.length := er.length
  refine run (κ := rowKind (PySem.W.sortingHeap (PySem.W.copyHeap s.heap its) (s.heap.objs.size + 1) its) ds) (row_sorts (s := { s with heap := PySem.W.sortingHeap (PySem.W.copyHeap s.heap its) (s.heap.objs.size + 1) its }) er2 ok ?_) (by rw [← rv.length]; exact hz) ?_
  · show X.A.units + 1 + 1 < cLine
    omega
  · have es := PySem.W.sortVals_each (rev := false) (κ := rowKind (PySem.W.sortingHeap (PySem.W.copyHeap s.heap its) (s.heap.objs.size + 1) its) ds) (fun d => PySem.W.keyToks (hdD d)) ee hk
    obtain ⟨ys, y1, y2⟩ := each_back es
    obtain ⟨n, hn⟩ := sortedAll_at s.heap its (PySem.W.sortVals (rowKind (PySem.W.sortingHeap (PySem.W.copyHeap s.heap its) (s.heap.objs.size + 1) its) ds) false its its).toArray
    refine ⟨.ref (s.heap.objs.size + 1), upd H (s.heap.objs.size + 1) (.lst ys), I.laid (t' := s.toks) (fun _ _ => sortedAll_old) (Nat.le_succ _) ⟨?_, _, n, y1, ?_⟩, rfl, q ys _ (fun G hG => pair_dpa (fun x d p => p G hG) y2) (I.hok.fresh (Nat.le_succ _))⟩
    · have z1 := y1.length
      have z2 := es.length
      rw [z1, z2, List.length_mergeSort, ← hl, ← rv.length]
      exact hz
    · exact hn
section
variable {X : Cx} {C : Ct} {a b e : Expr} {pos p : Pos} {t ta tb : TE} {w wa wb : WE}
def gSrtR : PyData → Dt → (List PyData → Dt → Prop) → Prop := fun d s Q => seqd d = true ∧ RowsOk (its d) ∧ Q (srtR (its d)) s
theorem r1_srtR : R1O C (rSrtR C.K) gSrtR := ⟨fun G σ H s x d Q Q' r pk q k => by
  obtain ⟨hs, ok, q⟩ := q
  obtain ⟨p, xs, rfl, h1, h2⟩ := pk.seq r.fin.gh hs
  exact ⟨isT d, p, xs, its d, rfl, h1, dpa_ex r.fin.gh h2, ok, fun ys l hy hl => k ys _ l q (hy G h2) hl⟩⟩
theorem do_srtR (hK : X.K = C.K) (hu : X.A.units + 64 < cLine) (hg : Gl X "sorted") (hm : X.mg "sorted" = none) (ha : DP X C a ta wa) (hs : starEach [a] X.env = (false, eval a X.env) :: starEach [] X.env := by rfl) :
    DO X C (.Call (.Name "sorted" p) [a] [] pos) (tCB (rSrtR C.K) (tCons ta tNil)) (w1O gSrtR wa) := do_b1 (hK ▸ cr_srtR hu) r1_srtR hg hm (by decide +kernel) ha (by decide) (by decide) hs
theorem srtR_perm (ds : List PyData) : (srtR ds).Perm ds := List.mergeSort_perm ds hdLe
/-- d < e, tuples of an int and a text -/
def PairD (d : PyData) : Prop := ∃ i z, d = .tuple [.int i, .str z]
def rLtP (K : PySem.W.Frag) : R2 := fun x y H Q => ∃ d e, Dp K H x d ∧ Dp K H y e ∧ PairD d ∧ PairD e ∧ Q (.bl (PySem.W.dataLt d e)) H
theorem op_ltP (hu : X.A.units + 64 < cLine) : OpR X (compareOp .Lt) (rLtP X.K) := by
  intro pins s σ H x y v u Q I rx ry h
  obtain ⟨d, e, hd, he, ⟨i, z, rfl⟩, ⟨j, q, rfl⟩, k⟩ := h
  obtain ⟨as, r1⟩ := Dp.reads I _ x v hd rx
  obtain ⟨bs, r2⟩ := Dp.reads I _ y u he ry
  exact PySem.W.lt_data r1 r2 rfl (by intro z; cases z) (by simp [PyData.depth, PyData.depthAll]; omega) ⟨.bl _, H, I, rfl, k⟩
def gLtP : G2 := fun d e s Q => PairD d ∧ PairD e ∧ Q (.bool (PySem.W.dataLt d e)) s
theorem o_ltP (hK : X.K = C.K) (hu : X.A.units + 64 < cLine) : OpD X C (compareOp .Lt) (rLtP C.K) gLtP := ⟨hK ▸ op_ltP hu, ⟨fun G σ H s x y d e Q Q' r p1 p2 q k => ⟨d, e, p1.dp r.fin.gh, p2.dp r.fin.gh, q.1, q.2.1, k _ _ s G H q.2.2 r (Ex.refl G) Gs.refl (.bl _)⟩⟩⟩
end
end Dw

namespace Gx
open PySem PySem.Spec PyProof.Rows L2
/-! ### an own exception class with an __init__, over any built-in one -/
structure XC (K : PySem.W.Frag) (C : Addr) (B newId initId : String) (bmB : List Value) : Prop where
  fb : ExcBaseFacts B newId initId bmB
  sf : StoreFacts B bmB "object.__setattr__" "object"
  ini : PySem.W.excInitIn K C bmB newId = true
  ovr : PySem.W.excOver K C bmB = true
  dct : PySem.W.hasDictIn K C = true
  sa : PySem.W.findIn K (.ref C) "__setattr__" = some (some (.builtin "object.__setattr__"))
  ga : PySem.W.findIn K (.ref C) "__getattribute__" = some (some (.builtin "BaseException.__getattribute__"))
  gg : PySem.W.findIn K (.ref C) "__getattr__" = some none
  sub : PySem.W.subIn K (.ref C) (.type "BaseException") = some true
  cls : PySem.W.findIn K (.ref C) "__class__" = some (some (.builtin "object.__class__"))
  kp : PySem.W.keepIn K (.ref C) = true
  cin : (PySem.W.clsIn K C).isSome = true
  mro : PySem.W.mroIn K C (.type "object") = some true
  spc : PySem.W.specialIn K (.builtin "object.__class__") "__get__" = some (some (.builtin "getset_descriptor.__get__"))
  tks : PySem.W.takesIn K (.builtin "object.__class__") = some true
section
variable {prog : Program} {w : World} {A : Around} {E : Value → Shared → Prop} {s : Shared} {K : PySem.W.Frag} {C x t : Addr} {B newId initId : String} {bmB : List Value}
/-- x.name = v, the first field -/
theorem osaG {name : Str} {tk : Tok} {v : Value} {R : Result → Shared → Prop} (T : XC K C B newId initId bmB) (ok : K.In s.heap) (hx : s.heap.get? x = some (PySem.W.excObj C t none .none)) (ht : PySem.W.takerIn K C name = some none)
    (hq : ∀ h' tk' dx, (∀ b o, b ≠ x → s.heap.get? b = some o → h'.get? b = some o) → s.heap.objs.size ≤ dx → dx ≠ x → h'.get? x = some (PySem.W.excObj C t (some dx) .none) →
      h'.Ns1 dx (fun y => if y = name then some v else none) → R (.ok (.ret .none)) { s with heap := h', toks := tk' }) :
    codeAny (model prog w) A (.call (.builtin "object.__setattr__") ⟨[.ref x, .str name tk, v], []⟩) R s := by
  obtain ⟨cd, c1, c2⟩ := PySem.W.any_some T.dct
  have hlt := Heap.lt_size hx
  refine PySem.W.osa_openX (od := none) T.sf ok ⟨hx, rfl, rfl, trivial⟩ T.ovr ht fun bb => ?_
  refine wpAny_bind (wpAny_pure (wpAny_bind (PySem.W.instanceDict_exc hx (PySem.W.looks_clsIn ok c1) c2 ?_)))
  obtain ⟨hp, g, dr, tk0, os⟩ := s
  show wpAny _ _ (Builtin.ObjectAttr.storeInDict hp.objs.size (.str name tk) name v) _ _ _
  refine HandSPX.store_in_new ⟨_, #[], _, (Heap.get?_update_ne _ _ _ _ (Nat.ne_of_gt hlt)).trans (Heap.get?_push_at rfl rfl), rfl, fun e he => absurd he (by simp), fun _ => rfl⟩ fun h1 tk1 ns sb => ?_
  have up : (hp.push (PySem.W.dictOf [] 0)).get? x = some (PySem.W.excObj C t none .none) := Heap.get?_push_of_some _ hx
  refine hq h1 tk1 hp.objs.size (fun b o nb hb => ?_) (Nat.le_refl _) (Nat.ne_of_gt hlt) ?_ ns
  · rw [sb.2 b (Nat.ne_of_lt (Heap.lt_size hb)), Heap.get?_update_ne _ _ _ _ nb]
    exact Heap.get?_push_of_some _ hb
  · rw [sb.2 x (Nat.ne_of_lt hlt)]
    exact Heap.get?_update_self _ up rfl
end
section
variable {X : Cx} {pins : List (Addr × Obj)} {σ : L2.St} {H : Hp} {s : Shared} {a C dx : Addr} {f : Str} {y : V} {u : Value} {A : Around} {E : Value → Shared → Prop} {B newId initId : String} {bmB : List Value}
/-- the same over the tracked heap -/
theorem storeG {Q : Unit → Shared → Prop} (T : XC X.K C B newId initId bmB) (I : Inv X pins σ H s) (he : H a = some (exo a C none)) (ht : PySem.W.takerIn X.K C f = some none) (ry : RelV y u)
    (h : ∀ dx s', H dx = none → dx ≠ a → Inv X pins σ (upd (upd H dx (exd dx [(f, y)])) a (exo a C (some dx))) s' → Q () s') : wpAny (model X.prog X.w) A (setAttr (.ref a) f u) Q E s := by
  obtain ⟨t1, ho⟩ := exo_at I.hok he
  refine PySem.W.set_plain I.kIn (od := none) ⟨ho, rfl, rfl, trivial⟩ T.sa ?_
  refine osaG (s := { s with toks := s.toks + 1 }) (t := t1) T I.kIn ho ht fun h1 tk1 dx kk sz nx hx ns => ?_
  have free : H dx = none := I.hok.fresh sz
  have young : ∀ {b : Addr} {o : Obj}, s.heap.get? b = some o → b ≠ dx := fun {b o} z e => by
    rw [e] at z
    exact absurd (Heap.lt_size z) (Nat.not_lt.mpr sz)
  have nota : ∀ {b : Addr}, H b = none → b ≠ a := fun {b} n z => by
    rw [z, he] at n
    cases n
  have far : ∀ {b : Addr} {o : HO}, H b = some o → o ≠ exo a C none → upd (upd H dx (exd dx [(f, y)])) a (exo a C (some dx)) b = some o := fun {b o} z ne => by
    have b1 : b ≠ a := fun z1 => by
      rw [z1, he] at z
      exact ne (Option.some.inj z).symm
    have b2 : b ≠ dx := fun z1 => by
      rw [z1, free] at z
      cases z
    rw [upd_ne b1, upd_ne b2]
    exact z
  have un : Un X.fs [] H (upd (upd H dx (exd dx [(f, y)])) a (exo a C (some dx))) s.heap h1 := by
    refine ⟨fun b o z n _ _ => kk b o (nota n) z, fun b o z n _ _ => ⟨o.slots, kk b o (nota n) z⟩, fun b o z n _ => ?_, fun b o z _ => ?_, fun b xs z => far z fun e => exo_tup e.symm, fun b o v z => far z fun e => exo_frz e.symm, fun b ps z => ⟨#[], ?_⟩⟩
    · rw [upd_ne (nota n), upd_ne (young z)]
      exact n
    · by_cases ab : b = a
      · exact ⟨_, ab ▸ hx⟩
      · exact ⟨o, kk b o ab z⟩
    · rw [far z fun e => exo_tbl e.symm, Array.append_empty]
  refine h dx _ free nx (I.un (t' := tk1) un fun b o z => ?_)
  by_cases ab : b = a
  · rw [ab, upd_same] at z
    cases z
    rw [ab]
    exact exo_ok hx
  · rw [upd_ne ab] at z
    by_cases bd : b = dx
    · rw [bd, upd_same] at z
      cases z
      rw [bd]
      exact exd_ok ns (relO_put (fs := []) ry fun _ => trivial)
    · rw [upd_ne bd] at z
      refine (I.hok b o z).stay (fun c v hc zz => kk c v ?_ zz) (fun c hc => far hc fun e => exo_own e.symm) fun c xs hc => far hc fun e => exo_tup e.symm
      rcases hc with hc | hc
      · exact hc ▸ ab
      · exact fun z1 => by
          rw [z1, he] at hc
          exact exo_own (Option.some.inj hc)
end
section
variable {X : Cx} {o e : Expr} {es : List Expr} {to te : TE} {ta : TA} {f : Str} {p p' pos : Pos} {C : Addr} {B newId initId : String} {bmB : List Value}
/-- self.f = e, as the first and only field -/
def tFld (C : Addr) (f : Str) (to te : TE) : TS := fun D σ H => te σ H fun y H1 => to σ H1 fun x H2 => ∃ a : Addr, x = .ref a ∧ H2 a = some (exo a C none) ∧ ∀ dx, H2 dx = none → dx ≠ a → D.nx σ (upd (upd H2 dx (exd dx [(f, y)])) a (exo a C (some dx)))
theorem ps_fld (T : XC X.K C B newId initId bmB) (ht : PySem.W.takerIn X.K C f = some none) (ho : PE X o to) (he : PE X e te) (hs : swapsWith e (some (.Attribute o f p')) pos.line X.env = pure false := by rfl) : PS X (.Assign [.Attribute o f p'] e pos) (tFld C f to te) := by
  refine ⟨fun pins s σ H D I h => plainObj_wpAny_Assign_Attribute (thn (he.run pins s σ H _ I h) fun v s1 g1 => ?_) hs⟩
  obtain ⟨y, H1, I1, ry, q1⟩ := g1
  refine thn (ho.run pins s1 σ H1 _ I1 q1) fun u s2 g2 => ?_
  obtain ⟨x, H2, I2, rx, a, e1, ha, q⟩ := g2
  subst e1
  cases (show u = Value.ref a from rx)
  exact storeG T I2 ha ht ry fun dx s3 n ne J => ⟨σ, _, J, q dx n ne⟩
end
end Gx

namespace PySem.GxK
open PySem.W PySem.Calls PyProof.Rows
/-! ### C(f=v): the class called with one name -/
section
variable {prog : Program} {w : World} {M : Model} {A : Around} {E : Value → Shared → Prop} {R : Result → Shared → Prop} {h : Heap} {g : Array GenState} {d : Drawn} {t : Nat} {os : OsState}
variable {nm q n : Str} {C N : Addr} {bs bm bmB : List Value} {hdct : Bool} {sn : List Str} {sub : List Value} {ab : Bool} {col : Option Bool} {dd : Option Addr} {k0 k1 k2 k3 k5 : Option Value} {B newId initId : String} {v : Value}
theorem kw_chkT {Q : Unit → Shared → Prop} (hC : h.get? C = some (excClassObj nm q C N bs bm hdct sn sub ab col dd k0 k1 k2 k3 k5 newId)) (hq : Q () ⟨h, g, d, t, os⟩) :
    wpAny M A (checkBuiltinCall "type.__call__" ⟨[.ref C], [(n, v)]⟩) Q E ⟨h, g, d, t, os⟩ := by
  have sb := tc_sub
  have ty : (⟨h, g, d, t, os⟩ : Shared).TypeIs (.ref C) "type" := ⟨_, hC, rfl⟩
  simp only [checkBuiltinCall, tc_kind, tc_split]
  repeat (any_goals (first | assumption | with_reducible refine wpAny_loadPart_at hC ?_ | with_reducible refine wpAny_onRaise ?_ | with_reducible refine wpAny_map ?_ | wp_step))
theorem kw_chkN (F : ExcBaseFacts B newId initId bmB) (hT : ∀ X : String, bm.contains (.type X) = bmB.contains (.type X)) {Q : Unit → Shared → Prop}
    (hC : h.get? C = some (excClassObj nm q C N bs bm hdct sn sub ab col dd k0 k1 k2 k3 k5 newId)) (hq : Q () ⟨h, g, d, t, os⟩) : wpAny M A (checkBuiltinCall newId ⟨[.ref C], [(n, v)]⟩) Q E ⟨h, g, d, t, os⟩ := by
  have inB : (Value.ref C :: bm).contains (.type B) = true := by rw [List.contains_cons, hT, F.hasB, Bool.or_true]
  have ns := F.noStar
  simp only [checkBuiltinCall, F.newKind, F.newSplit, F.newRow]
  repeat (first | refine wpAny_loadPart_at hC ?_ | (refine wpAny_isSubtype_exc hC ?_; rw [inB]) | refine wpAny_staticBase_exc hC ?_ | refine wpAny_madeBy_exc hC ?_ | simp only [bne_self_eq_false, Bool.false_eq_true, if_false] | wp_step)
  exact hq
theorem kw_new (F : ExcBaseFacts B newId initId bmB) (hT : ∀ X : String, bm.contains (.type X) = bmB.contains (.type X))
    (hC : h.get? C = some (excClassObj nm q C N bs bm hdct sn sub ab col dd k0 k1 k2 k3 k5 newId))
    (hq : R (.ok (.ret (.ref (h.objs.size + 1)))) ⟨(h.push (PySem.W.kdv_tup [])).push (HandSPX.excO C h.objs.size), g, d, t, os⟩) :
    codeAny (model prog w) A (.builtin newId ⟨[.ref C], [(n, v)]⟩) R ⟨h, g, d, t, os⟩ := by
  have fin := F.ends
  have c1 : (Value.ref C :: bm).contains (.type B) = true := by rw [List.contains_cons, hT, F.hasB, Bool.or_true]
  have c2 : (Value.ref C :: bm).contains (.type "AttributeError") = false := by rw [List.contains_cons, hT, F.noAttr]; rfl
  have c3 : (Value.ref C :: bm).contains (.type "NameError") = false := by rw [List.contains_cons, hT, F.noName]; rfl
  refine codeAny_builtinAt F.entry ?_
  unfold Builtin.«BaseException.__new__»
  refine wpAt_bind ?_
  show wpAt _ _ _ (stack >>= _) _ _ _
  refine wpAt_bind (wpAt_stack fun p below => wpAt_of_wpAny ?_)
  wp_walk
  refine wpAt_of_wpAny ?_
  rw [F.owner]
  repeat (first | with_reducible refine wpAny_madeHere_exc F.canon hC ?_ | with_reducible refine wpAny_loadPart_at hC ?_ | (with_reducible refine wpAny_isSubtype_exc hC ?_; first | rw [c1] | rw [c2] | rw [c3]) | wp_step)
  show R _ _
  rw [Heap.size_push]
  exact hq
theorem kw_call (F : ExcBaseFacts B newId initId bmB) (hT : ∀ X : String, bm.contains (.type X) = bmB.contains (.type X)) {fI : Addr}
    (hC : h.get? C = some (excClassObj nm q C N bs bm hdct sn sub ab col dd k0 k1 k2 k3 k5 newId))
    (hi : PySem.W.Looks (model prog w) h (typeLookup (.ref C) "__init__") (some (.ref fI))) (hb : ∀ self, PySem.W.Looks (model prog w) h (bindSpecial (.ref fI) self) (.ref fI, [self]))
    (hq : codeAny (model prog w) (A.under (.builtin "type.__call__" ⟨[.ref C], [(n, v)]⟩)) (.call (.ref fI) ⟨[.ref (h.objs.size + 1)], [(n, v)]⟩) (PySem.W.InitBack (h.objs.size + 1) R)
      ⟨(h.push (PySem.W.kdv_tup [])).push (HandSPX.excO C h.objs.size), g, d, t, os⟩) :
    codeAny (model prog w) A (.call (.ref C) ⟨[], [(n, v)]⟩) R ⟨h, g, d, t, os⟩ := by
  have g1 := tc_lookup
  have g2 := tc_bind (.ref C)
  have ty : (⟨h, g, d, t, os⟩ : Shared).TypeIs (.ref C) "type" := ⟨_, hC, rfl⟩
  refine codeAny_of_tree ?_
  show wpAny _ _ (callAny (.ref C) _) _ _ _
  repeat (any_goals (first | assumption | with_reducible refine wpAny_loadPart_at hC ?_ | wp_step))
  refine ⟨rfl, ?_⟩
  refine codeAny_call_builtin_at (Code.quiet_builtin _ (by decide +kernel)) entry_typeCall (kw_chkT hC ?_)
  repeat (first | with_reducible refine wpAny_loadPart_at hC ?_ | with_reducible refine wpAny_madeBy_exc hC ?_ | wp_step)
  refine codeAny_call_builtin_code (Code.quiet_builtin _ F.quiet) (kw_chkN F hT hC ?_)
  refine kw_new F hT hC ?_
  show wpAny _ _ _ _ _ _
  have up : ∀ b o, h.get? b = some o → ((h.push (PySem.W.kdv_tup [])).push (HandSPX.excO C h.objs.size)).get? b = some o := fun b o e => Heap.get?_push_of_some _ (Heap.get?_push_of_some _ e)
  have hC1 := up _ _ hC
  have hnew : ((h.push (PySem.W.kdv_tup [])).push (HandSPX.excO C h.objs.size)).get? (h.objs.size + 1) = some (HandSPX.excO C h.objs.size) := by heap_get
  have own : (Value.ref C :: bm).contains (.ref C) = true := by simp
  have i1 := hi.keeps up
  have b1 := (hb (.ref (h.objs.size + 1))).keeps up
  unfold isInstance
  repeat (first | with_reducible refine wpAny_loadPart_at hnew ?_ | (with_reducible refine wpAny_isSubtype_exc hC1 ?_; rw [own]) | wp_step)
  show wpAny _ _ (typeLookup (.ref C) _) _ _ _
  refine i1.at (wpAny_holding (wpAny_bind (b1.at (wpAny_bind (wpAny_call (codeAny_mono hq fun r s' z => ?_))))))
  rcases r with e | (u | _ | _ | _) <;> first | exact z | exact z.elim | skip
  obtain ⟨rfl, z⟩ := z
  first
    | exact wpAny_pure (wpAny_pure z)
    | (wp_walk; exact z)
end
end PySem.GxK

namespace Gx
open PySem PySem.Spec PyProof.Rows L2
def XCx (K : PySem.W.Frag) (C : Addr) : Prop := ∃ B n i bm, XC K C B n i bm
/-- at a: an exception of the class at C, with the fields fs -/
def XAt (H : Hp) (a C : Addr) (fs : List (Str × V)) : Prop := ∃ d, H a = some (exo a C (some d)) ∧ H d = some (exd d fs)
theorem XAt.mono {H H' : Hp} {a C : Addr} {fs : List (Str × V)} (h : XAt H a C fs) (e : ∀ b o, H b = some o → H' b = some o) : XAt H' a C fs := by
  obtain ⟨d, h1, h2⟩ := h
  exact ⟨d, e _ _ h1, e _ _ h2⟩
section
variable {X : Cx} {pins : List (Addr × Obj)} {σ : L2.St} {H : Hp} {s : Shared} {a C : Addr} {fs : List (Str × V)}
theorem xat_inst (I : Inv X pins σ H s) (h : XAt H a C fs) : ∃ ox od, PySem.W.InstAt s.heap a ox C (some od) ∧ ∀ f, RelO (fs.lookup f) ((PySem.W.lookIn f od).getD none) ∧ (PySem.W.lookIn f od).isSome = true := by
  obtain ⟨d, h1, h2⟩ := h
  obtain ⟨t1, ho⟩ := exo_at I.hok h1
  obtain ⟨mA, hns, rel⟩ := exd_at I.hok h2
  obtain ⟨od, hod, hl⟩ := lookIn_ns hns
  exact ⟨_, od, ⟨ho, rfl, rfl, hod⟩, fun f => ⟨by rw [hl]; exact rel f, by rw [hl]; rfl⟩⟩
end
section
variable {X : Cx} {o e : Expr} {es : List Expr} {to te : TE} {ta : TA} {f n : Str} {p p' pos : Pos}
/-- e.f -/
@[irreducible] def tGet (K : PySem.W.Frag) (n : Str) (te : TE) : TE := fun σ H Q => te σ H fun x H1 => ∃ a C fs v, x = .ref a ∧ XAt H1 a C fs ∧ XCx K C ∧ PySem.W.findIn K (.ref C) n = some none ∧ fs.lookup n = some v ∧ Q v H1
theorem pe_get (he : PE X e te) (hb : attributeBase e n X.env (eval e X.env) = eval e X.env := by rfl) : PE X (.Attribute e n pos) (tGet X.K n te) := by
  refine ⟨fun pins s σ H Q I h => ?_⟩
  unfold tGet at h
  refine attr_of hb (thn (he.run pins s σ H _ I h) fun u s1 g => ?_)
  obtain ⟨x, H1, I1, rx, a, C, fs, v, ex, ha, ⟨B, nn, ii, bm, T⟩, hno, l, q⟩ := g
  subst ex
  cases (show u = Value.ref a from rx)
  obtain ⟨ox, od, J, hl⟩ := xat_inst I1 ha
  obtain ⟨r1, r2⟩ := hl n
  rw [l] at r1
  obtain ⟨z, hz⟩ := Option.isSome_iff_exists.mp r2
  rw [hz] at r1
  obtain ⟨u2, hu, ru⟩ := RelO.some_of r1
  have hz2 : z = some u2 := hu
  subst hz2
  exact HandSPX.exc_get I1.kIn J T.ga T.gg T.sub (PySem.W.findObj_own T.dct hno rfl hz) (handed_of ru) ⟨v, H1, I1.tok _, ru, q⟩
end
section
variable {X : Cx}
/-- isinstance(e, c) -/
def rIsX (K : PySem.W.Frag) : List V → Hp → VK → Prop := fun xs H Q => ∃ (a C : Addr) (fs : List (Str × V)) (c : V) (cv : Value) (b : Bool), xs = [.ref a, c] ∧ XAt H a C fs ∧ XCx K C ∧ (∀ u, RelV c u → u = cv) ∧ PySem.W.kitOne K (.ref C) cv = some b ∧ Q (.bl b) H
theorem call_isX : CallR X (.builtin "isinstance") (rIsX X.K) := by
  intro pins s σ H xs us Q I r h
  obtain ⟨a, C, fs, c, cv, b, rfl, ha, ⟨B, n, i, bm, T⟩, hcv, e, q⟩ := h
  cases r with
  | cons rx rr =>
    cases rr with
    | cons rt rr =>
      cases rr
      cases rx
      have ec := hcv _ rt
      subst ec
      obtain ⟨ox, od, J, _⟩ := xat_inst I ha
      exact PySem.W.kia_one (PySem.W.kitx_exc T.cin T.ga T.gg T.sub T.cls T.spc T.tks T.mro) I.kIn J e (fun z => nomatch z) fun tk => ⟨.bl b, H, I.kept (t' := tk) fun _ _ z => z, rfl, q⟩
/-- isinstance(e, (c, ..)) -/
def rIsXT (K : PySem.W.Frag) : List V → Hp → VK → Prop := fun xs H Q => ∃ (a C tp : Addr) (fs : List (Str × V)) (cs : List V) (cvs : List Value) (b : Bool), xs = [.ref a, .ref tp] ∧ XAt H a C fs ∧ XCx K C ∧ H tp = some (.tup cs) ∧ (∀ us, Vals cs us → us = cvs) ∧ PySem.W.kitAny K (.ref C) cvs = some b ∧ Q (.bl b) H
theorem call_isXT : CallR X (.builtin "isinstance") (rIsXT X.K) := by
  intro pins s σ H xs us Q I r h
  obtain ⟨a, C, tp, fs, cs, cvs, b, rfl, ha, ⟨B, n, i, bm, T⟩, ht, hcv, e, q⟩ := h
  cases r with
  | cons rx rr =>
    cases rr with
    | cons rt rr =>
      cases rr
      cases rx
      cases rt
      obtain ⟨ox, od, J, _⟩ := xat_inst I ha
      obtain ⟨_, its2, r2, ob, ho, hc, nn, hd⟩ := I.hok _ _ ht
      have e2 := hcv _ r2
      subst e2
      obtain ⟨c1, c2, c3, c4⟩ := ob
      dsimp only at hc hd
      subst hc hd
      exact PySem.W.kia_tup (PySem.W.kitx_exc T.cin T.ga T.gg T.sub T.cls T.spc T.tks T.mro) I.kIn J ho e (fun z => nomatch z) fun tk => ⟨.bl b, H, I.kept (t' := tk) fun _ _ z => z, rfl, q⟩
end
/-! ### making one -/
section
variable {X : Cx} {e : Expr} {es : List Expr} {ta : TA} {p pos : Pos} {x : Str} {C fI : Addr} {k : Nat} {fd : FuncData} {ps : List Str} {sp : Sp} {B newId initId : String} {bmB : List Value}
@[irreducible] def tMk (C : Addr) (sp : Sp) (ta : TA) : TE := fun σ H Q => ta σ H fun vs H1 => vs.length ≤ 1000 ∧ ∀ a, H1 a = none → sp (.ref a :: vs) (upd H1 a (exo a C none)) (fun v H2 => v = .non ∧ Q (.ref a) H2) E0
theorem pe_mk (T : XC X.K C B newId initId bmB) (iC : PySem.W.findIn X.K (.ref C) "__init__" = some (some (.ref fI))) (tI : PySem.W.typeIn X.K (.ref fI) = some (.type "function")) (F1 : FnOk X.prog X.w X.K X.mg X.base CX0 k fI fd ps sp) (hr : Room (k + 1) X.A) (hb : Binds X.K fd ps [])
    (hg : Gl X x) (hm : X.mg x = some (.ref C)) (ha : PA X (e :: es) ta) (hdb : (x == ("__debug__" : Str)) = false := by decide) (he : starEach (e :: es) X.env = (false, eval e X.env) :: starEach es X.env := by rfl) (hpl : (backTo pos (starEach es X.env)).any (·.1) = false := by rfl) :
    PE X (.Call (.Name x p) (e :: es) [] pos) (tMk C sp ta) := by
  refine ⟨fun pins s σ H Q I h => wpAny_Call_Name_kw (ld_glob I hg hm ?_ hdb)⟩
  unfold tMk at h
  refine PySem.W.callWith_K (h₀ := X.base) I.ok.mod.kin T.kp (thn (ha.run pos pins s σ H _ I h) fun us s1 g => ?_) he hpl
  obtain ⟨vs, H1, I1, r1, hz, q1⟩ := g
  refine ⟨I1.kIn, ?_⟩
  show wpAny _ _ (call (.ref C) us) _ _ _
  obtain ⟨nm, N, qn, bs, bm, hdct, sn, sub, ab, col, dd, k0, k1, k2, k3, k5, hC, hT⟩ := PySem.W.excInit_of I1.kIn T.ini
  obtain ⟨hp, g, dr, tk, os⟩ := s1
  have sz : hp.objs.size ≤ hp.objs.size + 1 := Nat.le_succ _
  have fr : H1 (hp.objs.size + 1) = none := I1.hok.fresh sz
  have q2 := q1 (hp.objs.size + 1) fr
  have up : ∀ b o, hp.get? b = some o → ((hp.push (PySem.W.kdv_tup us)).push (HandSPX.excO C hp.objs.size)).get? b = some o := fun b o z => Heap.get?_push_of_some _ (Heap.get?_push_of_some _ z)
  have new : ((hp.push (PySem.W.kdv_tup us)).push (HandSPX.excO C hp.objs.size)).get? (hp.objs.size + 1) = some (HandSPX.excO C hp.objs.size) := by heap_get
  have I2 : Inv X pins σ (upd H1 (hp.objs.size + 1) (exo (hp.objs.size + 1) C none)) ⟨(hp.push (PySem.W.kdv_tup us)).push (HandSPX.excO C hp.objs.size), g, dr, tk, os⟩ :=
    I1.laid (t' := tk) (a := hp.objs.size + 1) (o := exo (hp.objs.size + 1) C none) (h' := (hp.push (PySem.W.kdv_tup us)).push (HandSPX.excO C hp.objs.size)) up sz (exo_ok new)
  have r2 : Vals (V.ref (hp.objs.size + 1) :: vs) (Value.ref (hp.objs.size + 1) :: us) := .cons rfl r1
  have hl : (Value.ref (hp.objs.size + 1) :: us).length = ps.length := by rw [← r2.length, F1.len _ _ _ _ q2]
  have hus : us.length ≤ sizeLine := by
    rw [← r1.length, sizeLine_eq]
    omega
  have hbb := hb ⟨(hp.push (PySem.W.kdv_tup us)).push (HandSPX.excO C hp.objs.size), g, dr, tk, os⟩ (Value.ref (hp.objs.size + 1) :: us) I2.kIn (by rw [List.append_nil]; exact hl)
  rw [List.append_nil] at hbb
  refine wpAny_call (HandSPX.call_own T.fb hT hC (PySem.W.looks_findIn I1.kIn iC) (fun self => PySem.W.bind_fn I1.kIn self tI) hus
    (codeAny_mono (F1.run _ X.stack _ _ _ _ _ _ E0 (hr.make C us []) (I2.env0.make C us []) hbb r2 q2) fun r s' w => ?_))
  rcases r with er | (_ | _ | _ | u)
  case ok.ret =>
    obtain ⟨v, H2, J, rv, ev, q3⟩ := I2.after w
    subst ev
    exact ⟨rv, .ref (hp.objs.size + 1), H2, J, rfl, q3⟩
  all_goals exact False.elim w
/-- C(f=e) -/
theorem pe_mkK {n : Str} {te : TE} {kpos : Pos} (T : XC X.K C B newId initId bmB) (iC : PySem.W.findIn X.K (.ref C) "__init__" = some (some (.ref fI))) (tI : PySem.W.typeIn X.K (.ref fI) = some (.type "function")) (F1 : FnOk X.prog X.w X.K X.mg X.base CX0 k fI fd ps sp) (hr : Room (k + 1) X.A)
    (hb : ∀ (s : Shared) (a u : Value), BindsTo s fd ⟨[a], [(n, u)]⟩ (ps.zip [a, u])) (hg : Gl X x) (hm : X.mg x = some (.ref C)) (he : PE X e te) (hn2 : ps.length = 2 := by rfl) (hdb : (x == ("__debug__" : Str)) = false := by decide)
    (hall : (backToKw pos (keywordEach [⟨some n, e, kpos⟩] X.env)).all (·.1.isSome) = true := by rfl) (hks : (backToKw pos (keywordEach [⟨some n, e, kpos⟩] X.env)).filterMap (·.1) = [n] := by rfl)
    (hpl : ((backTo pos (starEach [] X.env)).any (·.1) || (backToKw pos (keywordEach [⟨some n, e, kpos⟩] X.env)).any (·.1.isNone)) = false := by rfl) :
    PE X (.Call (.Name x p) [] [⟨some n, e, kpos⟩] pos) (tMk C sp (tCons te tNil)) := by
  refine ⟨fun pins s σ H Q I h => wpAny_Call_Name_kw (ld_glob I hg hm ?_ hdb)⟩
  unfold tMk at h
  refine PySem.W.callWith_KW0 (h₀ := X.base) I.ok.mod.kin T.kp hall (thn ((pk_cons (nm := some n) (kpos := kpos) he pk_nil).run pos pins s σ H _ I h) fun us s1 g => ?_) hpl
  obtain ⟨vs, H1, I1, r1, hz, q1⟩ := g
  refine ⟨I1.kIn, ?_⟩
  rw [hks]
  obtain ⟨nm, N, qn, bs, bm, hdct, sn, sub, ab, col, dd, k0, k1, k2, k3, k5, hC, hT⟩ := PySem.W.excInit_of I1.kIn T.ini
  obtain ⟨hp, g, dr, tk, os⟩ := s1
  have sz : hp.objs.size ≤ hp.objs.size + 1 := Nat.le_succ _
  have fr : H1 (hp.objs.size + 1) = none := I1.hok.fresh sz
  have q2 := q1 (hp.objs.size + 1) fr
  have hl := F1.len _ _ _ _ q2
  have hp2 : ps.length = 2 → ∃ v u, vs = [v] ∧ us = [u] ∧ RelV v u := fun e2 => by
    rw [e2] at hl
    cases r1 with
    | nil => simp at hl
    | cons r rr =>
      cases rr with
      | nil => exact ⟨_, _, rfl, rfl, r⟩
      | cons _ _ => simp at hl
  obtain ⟨v, u, rfl, rfl, ru⟩ := hp2 hn2
  have up : ∀ b o, hp.get? b = some o → ((hp.push (PySem.W.kdv_tup [])).push (HandSPX.excO C hp.objs.size)).get? b = some o := fun b o z => Heap.get?_push_of_some _ (Heap.get?_push_of_some _ z)
  have new : ((hp.push (PySem.W.kdv_tup [])).push (HandSPX.excO C hp.objs.size)).get? (hp.objs.size + 1) = some (HandSPX.excO C hp.objs.size) := by heap_get
  have I2 : Inv X pins σ (upd H1 (hp.objs.size + 1) (exo (hp.objs.size + 1) C none)) ⟨(hp.push (PySem.W.kdv_tup [])).push (HandSPX.excO C hp.objs.size), g, dr, tk, os⟩ :=
    I1.laid (t' := tk) (a := hp.objs.size + 1) (o := exo (hp.objs.size + 1) C none) (h' := (hp.push (PySem.W.kdv_tup [])).push (HandSPX.excO C hp.objs.size)) up sz (exo_ok new)
  have r2 : Vals [V.ref (hp.objs.size + 1), v] [Value.ref (hp.objs.size + 1), u] := .cons rfl (.cons ru .nil)
  refine wpAny_call (PySem.GxK.kw_call T.fb hT hC (PySem.W.looks_findIn I1.kIn iC) (fun self => PySem.W.bind_fn I1.kIn self tI)
    (codeAny_mono (F1.run _ X.stack _ _ _ _ _ _ E0 (hr.make C [] [(n, u)]) (I2.env0.make C [] [(n, u)]) (hb _ _ _) r2 q2) fun r s' w => ?_))
  rcases r with er | (_ | _ | _ | u)
  case ok.ret =>
    obtain ⟨v, H2, J, rv, ev, q3⟩ := I2.after w
    subst ev
    exact ⟨rv, .ref (hp.objs.size + 1), H2, J, rfl, q3⟩
  all_goals exact False.elim w
end
end Gx

namespace Gx
open PySem PySem.Spec PyProof.Rows L2
/-! ### an exception that was caught, kept as a value -/
theorem fly_keep {B h h' : Heap} {l : List Env} {e : Addr} {Z : Obj → Prop} (x : HandSPX.FlyingZ B l e Z h) (k : ∀ b o, h.get? b = some o → h'.get? b = some o) : HandSPX.FlyingZ B l e Z h' := by
  obtain ⟨f1, f2, f3, oe, vs, T, oT, ts, he, hz, hd, h1, h2, h3, h4, h5⟩ := x
  exact ⟨fun b o q => k b o (f1 b o q), f2, f3.of_keeps fun b o q _ => ⟨o, k b o q, rfl⟩, oe, vs, T, oT, ts, k _ _ he, hz, hd, h1, h2, h3, k _ _ h4, h5⟩
/-- at a: an exception of the class cls, its dict at d -/
def exg (a : Addr) (cls : Value) (d : Option Addr) : HO := .ext fun h => ∃ (oe : Obj) (vs : Array Value), h.get? a = some oe ∧ Zc cls d oe ∧ oe.data = .fields vs
theorem exg_ok {P : Program} {w : World} {H : Hp} {h : Heap} {a : Addr} {cls : Value} {d : Option Addr} {oe : Obj} {vs : Array Value} (e : h.get? a = some oe) (z : Zc cls d oe) (hd : oe.data = .fields vs) : ObjOk P w H h a (exg a cls d) :=
  ⟨⟨oe, vs, e, z, hd⟩, ⟨oe, e⟩, fun _ _ g k => by
    obtain ⟨o, v, q, r⟩ := g
    exact ⟨o, v, k o q, r⟩⟩
section
variable {X : Cx} {pins : List (Addr × Obj)} {σ : L2.St} {H : Hp} {s : Shared} {a : Addr} {cls : Value} {d : Option Addr} {oe : Obj} {vs : Array Value}
theorem track (I : Inv X pins σ H s) (ha : s.heap.get? a = some oe) (hz : Zc cls d oe) (hd : oe.data = .fields vs) (na : H a = none) (n0 : X.s_0.heap.get? a = none) (nL : a ≠ X.env.locals) (nP : ∀ p ∈ X.pn ++ pins, p.1 ≠ a) : Inv X pins σ (upd H a (exg a cls d)) s := by
  have oth : ∀ {b : Addr} {o : HO}, H b = some o → upd H a (exg a cls d) b = some o := fun {b o} e => by
    rw [upd_ne (fun z => by rw [z, na] at e; cases e)]
    exact e
  have non : ∀ {b : Addr}, b ≠ a → H b = none → upd H a (exg a cls d) b = none := fun {b} n e => by
    rw [upd_ne n]
    exact e
  refine ⟨I.ok, I.os, I.bare, ⟨I.base.keep, I.base.slot, fun b o e n hx => non (fun z => by rw [z, n0] at e; cases e) (I.base.free b o e n hx), I.base.there, fun b xs e => oth (I.base.tups b xs e), fun b o u e => oth (I.base.frzs b o u e), fun b ps e => ?_⟩, I.loc, I.cell, non (Ne.symm nL) I.free, fun x c e => non (fun z => ?_) (I.freeC x c e), fun p hp => ?_, fun b o e => ?_, I.len⟩
  · obtain ⟨m, q⟩ := I.base.tbls b ps e
    exact ⟨m, oth q⟩
  · obtain ⟨v, ob, ho, hv⟩ := I.cell x c e
    rw [z, ha] at ho
    cases ho
    rw [hd] at hv
    cases hv
  · obtain ⟨e1, e2, e3⟩ := I.pin p hp
    exact ⟨e1, non (nP p hp) e2, e3⟩
  · by_cases z : b = a
    · rw [z, upd_same] at e
      cases e
      rw [z]
      exact exg_ok ha hz hd
    · rw [upd_ne z] at e
      exact (I.hok b o e).stay (fun _ _ _ q => q) (fun c q => oth q) fun c xs q => oth q
end
/-- what 'except (..) as n: m = n' wishes of an exception of the body -/
def wKeep (K : PySem.W.Frag) (cs : List Value) (i j : Nat) (Wout : WX) (D : Ends) : WX := fun cls d σ H => ∃ b, PySem.W.exmAny K cls cs = some b ∧
  (b = true → ∀ a, H a = none → D.nx (((σ.set i (some (.ref a))).set j (some (.ref a))).set i none) (upd H a (exg a cls d))) ∧ (b = false → Wout cls d σ H)
section
variable {X : Cx} {x1 x2 x3 x4 n m : Str} {c1 c2 c3 c4 : Value} {i j : Nat} {body : List Stmt} {q1 q2 q3 q4 tp mp np ap pos pos' : Pos} {kk : Nat} {tb : WX → TS} {Wout : WX}
theorem ps_try_keep (hex : X.ex = []) (hs : X.stack = X.env :: X.outer) (hf : X.env.frame = some X.env.locals) (hN : X.N.Nodup) (hi : X.N[i]? = some n) (hln : X.env.kindOf n = some .local) (hj : X.N[j]? = some m) (hlm : X.env.kindOf m = some .local)
    (n1 : Names X x1 c1) (n2 : Names X x2 c2) (n3 : Names X x3 c3) (n4 : Names X x4 c4) (tk : Takes X Wout)
    (hb : ∀ (W : WX) (pn : List (Addr × Obj)) (xe : Value → Shared → Prop), Takes (X.tr pn xe) W → PassesOwn (model X.prog X.w) X.A X.env xe → PSs (X.tr pn xe) body (tb W))
    (hsu : ∀ (a : Addr) (oe : Obj) (pn : List (Addr × Obj)), PSs (X.suite a ((a, oe) :: pn)) [.Assign [.Name m mp] (.Name n np) ap] (tAsg (tVar i) (gName j))) :
    PS X (.Try body [.ExceptHandler (some (.Tuple [.Name x1 q1, .Name x2 q2, .Name x3 q3, .Name x4 q4] kk tp)) (some n) [.Assign [.Name m mp] (.Name n np) ap] pos'] [] [] pos) (fun D σ H => tb (wKeep X.K [c1, c2, c3, c4] i j Wout D) D σ H) := by
  refine ⟨fun pins s σ H D I h => ?_⟩
  have ok := I.ok
  have fr : X.A.frames = some (X.env :: X.outer) := by rw [ok.frames, hs]
  refine wpAny_Try_except ?_
  refine wpAny_mono ((hb (wKeep X.K [c1, c2, c3, c4] i j Wout D) (X.pn ++ pins) (fun e s1 => wpAny (model X.prog X.w) X.A (noteFrame e X.env) (fun _ s2 => wpAny (model X.prog X.w) X.A (setFlight e none) (fun _ s3 =>
    wpAny (model X.prog X.w) X.A (handleBy e X.env [.ExceptHandler (some (.Tuple [.Name x1 q1, .Name x2 q2, .Name x3 q3, .Name x4 q4] kk tp)) (some n) [.Assign [.Name m mp] (.Name n np) ap] pos']) (SP X pins D) X.xe s3) X.xe s2) X.xe s1) (fun u s' xx => ?_) PassesOwn.looking).run [] s σ H D (I.toTry _) h) (fun fl s1 hsp => ?_) (fun _ _ he => he)
  · obtain ⟨a, B, sI, pins', σ', H', cls, d, rfl, J', nb, up, sky, na, os, ag, b, hb1, yes, no⟩ := xx
    have J : Inv X pins σ' H' sI := J'.ofTry ok
    have sky1 : Sky B (X.env :: X.outer) a (Zc cls d) X.env.locals s'.heap := hs ▸ sky
    show wpAny (model X.prog X.w) X.A (noteFrame (.ref a) X.env) _ _ _
    refine Sky.land Zc.steady fr hf sky1 fun h3 fl3 up3 => ?_
    obtain ⟨oe3, vs3, he3, hz3, hd3⟩ := fl3.there
    have Ba : B.get? a = none := fl3.2.1
    have nfr : a ∉ frs (X.env :: X.outer) := fun hm => by
      obtain ⟨_, o1, e1, hnf⟩ := fl3.2.2.1.mem hm
      rw [he3] at e1
      cases e1
      exact hnf _ hd3
    have nL : a ≠ X.env.locals := fun z => nfr (List.mem_filterMap.mpr ⟨X.env, List.mem_cons_self, by rw [hf, z]⟩)
    have nF : a ∉ X.fs := fun hm => by
      obtain ⟨e, he, q⟩ := List.mem_filterMap.mp hm
      exact nfr (List.mem_filterMap.mpr ⟨e, List.mem_cons_of_mem _ he, q⟩)
    have notI : ∀ o, sI.heap.get? a ≠ some o := fun o e => by
      rw [nb a o e (by rw [hs]; exact nfr)] at Ba
      cases Ba
    have n0 : X.s_0.heap.get? a = none := by
      cases z : X.s_0.heap.get? a with
      | none => rfl
      | some o =>
        obtain ⟨o1, e1⟩ := J.base.there a o z (by rw [hex]; exact fun z => nomatch z)
        exact absurd e1 (notI o1)
    have nP : ∀ p ∈ X.pn ++ pins, p.1 ≠ a := fun p hp z => by
      have := (J.pin p hp).1
      rw [z] at this
      exact notI _ this
    have J3 : Inv X pins σ' H' { s' with heap := h3 } := J.landed nb fl3.1 (up.trans up3) os ag
    have S3 := J3.suite he3 hd3 na nL nF
    have look : ∀ {x : Str} {c : Value} {q : Pos} {Q : Value → Shared → Prop} {E : Value → Shared → Prop}, Names X x c → Q c { s' with heap := h3 } → wpAny (model X.prog X.w) (X.A.mark (some (.ref a))) (eval (.Name x q) X.env) Q E { s' with heap := h3 } := fun {x c q Q E} hc w => by
      obtain ⟨hg, hdb, hm | ⟨hm, hv, hnn⟩⟩ := hc
      · exact ld_glob (X := X.suite a ((a, oe3) :: (X.pn ++ pins))) S3 hg hm w hdb
      · exact ld_blt (X := X.suite a ((a, oe3) :: (X.pn ++ pins))) S3 hg hm hv w hnn hdb
    refine wpAny_handleBy_cons (codeAny_handlers_test ?_) (by intro z; cases z)
    have LT : PySem.W.Looks (model X.prog X.w) h3 (typeOf (.ref a)) cls := fun A Q E s k w => wpAny_typeOf_ref (k _ _ he3) (by rw [hz3.1]; exact w)
    have kp : ∀ b o, h3.get? b = some o → (h3.push { cls := .type "tuple", data := .seq [c1, c2, c3, c4].toArray }).get? b = some o := fun _ _ z => Heap.get?_push_of_some _ z
    refine wpAny_Tuple (wpAny_items_cons (look n1 (wpAny_items_cons (look n2 (wpAny_items_cons (look n3 (wpAny_items_cons (look n4 (wpAny_items_nil ⟨by size_fits, ?_⟩)))))))))
    refine (PySem.W.exm_tup4 (M := model X.prog X.w) (J3.kIn.keeps kp) (LT.keeps kp) (Heap.get?_push_size h3 rfl) hb1).here ?_
    have fl5 := fly_keep fl3 kp
    have up5 : sI.heap.UpToSlots (h3.push { cls := .type "tuple", data := .seq [c1, c2, c3, c4].toArray }) := (up.trans up3).trans (Heap.UpToSlots.of_keeps kp)
    cases b with
    | true =>
      refine codeAny_handlers_suite_as ?_
      refine HandSPX.lands_againZ fl5 fun h4 fl4 up4 => ?_
      have J4 : Inv X pins σ' H' { s' with heap := h4 } := J.landed nb fl4.1 (up5.trans up4) os ag
      obtain ⟨oe4, vs4, he4, hz4, hd4⟩ := fl4.there
      have S4 := J4.suite he4 hd4 na nL nF
      refine store_ok (X := X.suite a ((a, oe4) :: (X.pn ++ pins))) (v := .ref a) S4 hN hi (.inl hln) rfl (fun s5 S5 => ?_) (.inr hln)
      have iσ : i < σ'.length := by rw [J.len]; exact (List.getElem?_eq_some_iff.mp hi).1
      refine wpAny_mono ((hsu a oe4 (X.pn ++ pins)).run [] s5 _ H' ⟨fun σ6 H6 => σ6 = (σ'.set i (some (.ref a))).set j (some (.ref a)) ∧ H6 = H', fun _ _ => False, fun _ _ => False, fun _ _ => False⟩ S5 ⟨_, List.getElem?_set_self iσ, rfl, rfl⟩) (fun fl s6 hsp => ?_) (fun _ _ z => False.elim z)
      cases fl with
      | next =>
        obtain ⟨σ6, H6, S6, rfl, rfl⟩ := hsp
        obtain ⟨z1, _⟩ := S6.pin (a, oe4) (List.mem_append_left _ List.mem_cons_self)
        exact gone_ok (track (S6.unsuite ok) z1 hz4 hd4 na n0 nL nP) hN hi hln fun s7 J7 => ⟨_, _, J7, yes rfl a na⟩
      | brk =>
        obtain ⟨_, _, _, z⟩ := hsp
        exact z.elim
      | cont =>
        obtain ⟨_, _, _, z⟩ := hsp
        exact z.elim
      | ret u =>
        obtain ⟨_, _, _, _, _, z⟩ := hsp
        exact z.elim
    | false =>
      show wpAny _ X.A (handleBy (.ref a) X.env []) _ _ _
      refine wpAny_handleBy_nil ?_
      obtain ⟨k1, k2, k3, oe, ws, T, oT, ts, he, hz, hd, h1, hr⟩ := id fl5
      unfold PySem.passOn
      refine wpAny_bind (wpAny_field he hd h1 ?_)
      rw [if_neg (show ¬ ((Value.ref T == Value.none) = true) from by simp)]
      have fin : wpAny (model X.prog X.w) X.A (setFlight (.ref a) X.env.frame) (fun _ s4 => wpAny (model X.prog X.w) X.A (throw (.ref a) : Sem Flow) (SP X pins D) X.xe s4) X.xe { s' with heap := h3.push { cls := .type "tuple", data := .seq [c1, c2, c3, c4].toArray } } := by
        rw [hf]
        refine HandSPX.setFlight_upZ fl5 fun h4 hh4 up4 => wpAny_throw (tk _ _ ?_)
        exact ⟨a, B, sI, pins, σ', H', cls, d, rfl, J, nb, up5.trans up4, .inr (.inr (by rw [hs]; exact hh4)), na, os, ag, no rfl⟩
      first
        | exact wpAny_bind (wpAny_pure (wpAny_bind fin))
        | exact wpAny_bind fin
  · cases fl with
    | next =>
      obtain ⟨σ2, H2, J2, w⟩ := hsp
      exact wpAny_execs_nil ⟨σ2, H2, J2.ofTry ok, w⟩
    | brk =>
      obtain ⟨σ2, H2, J2, w⟩ := hsp
      exact ⟨σ2, H2, J2.ofTry ok, w⟩
    | cont =>
      obtain ⟨σ2, H2, J2, w⟩ := hsp
      exact ⟨σ2, H2, J2.ofTry ok, w⟩
    | ret u =>
      obtain ⟨v, σ2, H2, J2, r, w⟩ := hsp
      exact ⟨v, σ2, H2, J2.ofTry ok, r, w⟩
end
/-! ### raise C(e), C an own class with an __init__, over any built-in one -/
section
variable {X : Cx} {e : Expr} {es : List Expr} {ta : TA} {p pos : Pos} {x : Str} {C fI : Addr} {k : Nat} {fd : FuncData} {ps : List Str} {sp : Sp} {B newId initId : String} {bmB : List Value}
@[irreducible] def tMkX (C : Addr) (sp : Sp) (ta : TA) : L2.St → Hp → XK → Prop := fun σ H Q => ta σ H fun vs H1 => vs.length ≤ 1000 ∧ ∀ a, H1 a = none → sp (.ref a :: vs) (upd H1 a (exo a C none))
  (fun v H2 => v = .non ∧ ∃ (d : Addr) (fs : List (Str × V)), H2 a = some (exo a C (some d)) ∧ H2 d = some (exd d fs) ∧ H1 d = none ∧ Q (.ref C) (some d) (upd (del H2 a) d (.xd fs))) E0
theorem pmkG {CX : CXT} (T : XC X.K C B newId initId bmB) (tyC : PySem.W.typeIn X.K (.ref C) = some (.type "type")) (iC : PySem.W.findIn X.K (.ref C) "__init__" = some (some (.ref fI))) (tI : PySem.W.typeIn X.K (.ref fI) = some (.type "function")) (F1 : FnOk X.prog X.w X.K X.mg X.base CX0 k fI fd ps sp) (hr : Room (k + 1) X.A) (hb : Binds X.K fd ps [])
    (hg : Gl X x) (hm : X.mg x = some (.ref C)) (ha : PA X (e :: es) ta) (hdb : (x == ("__debug__" : Str)) = false := by decide) (he : starEach (e :: es) X.env = (false, eval e X.env) :: starEach es X.env := by rfl) (hpl : (backTo pos (starEach es X.env)).any (·.1) = false := by rfl) :
    PMk X (.Call (.Name x p) (e :: es) [] pos) (tMkX C sp ta) := by
  intro pins s σ H Q I h
  unfold tMkX at h
  refine wpAny_Call_Name_kw (ld_glob I hg hm ?_ hdb)
  refine PySem.W.callWith_K (h₀ := X.base) I.ok.mod.kin T.kp (thn (ha.run pos pins s σ H _ I h) fun us s1 g => ?_) he hpl
  obtain ⟨vs, H1, I1, r1, hz, q1⟩ := g
  refine ⟨I1.kIn, ?_⟩
  show wpAny _ _ (call (.ref C) us) _ _ _
  obtain ⟨nm, N, qn, bs, bm, hdct, sn, sub, ab, col, dd, k0, k1, k2, k3, k5, hC, hT⟩ := PySem.W.excInit_of I1.kIn T.ini
  obtain ⟨hp, g, dr, tk, os⟩ := s1
  have sz : hp.objs.size ≤ hp.objs.size + 1 := Nat.le_succ _
  have fr : H1 (hp.objs.size + 1) = none := I1.hok.fresh sz
  have q2 := q1 (hp.objs.size + 1) fr
  have up : ∀ b o, hp.get? b = some o → ((hp.push (PySem.W.kdv_tup us)).push (HandSPX.excO C hp.objs.size)).get? b = some o := fun b o z => Heap.get?_push_of_some _ (Heap.get?_push_of_some _ z)
  have new : ((hp.push (PySem.W.kdv_tup us)).push (HandSPX.excO C hp.objs.size)).get? (hp.objs.size + 1) = some (HandSPX.excO C hp.objs.size) := by heap_get
  have I2 : Inv X pins σ (upd H1 (hp.objs.size + 1) (exo (hp.objs.size + 1) C none)) ⟨(hp.push (PySem.W.kdv_tup us)).push (HandSPX.excO C hp.objs.size), g, dr, tk, os⟩ :=
    I1.laid (t' := tk) (a := hp.objs.size + 1) (o := exo (hp.objs.size + 1) C none) (h' := (hp.push (PySem.W.kdv_tup us)).push (HandSPX.excO C hp.objs.size)) up sz (exo_ok new)
  have r2 : Vals (V.ref (hp.objs.size + 1) :: vs) (Value.ref (hp.objs.size + 1) :: us) := .cons rfl r1
  have hl : (Value.ref (hp.objs.size + 1) :: us).length = ps.length := by rw [← r2.length, F1.len _ _ _ _ q2]
  have hus : us.length ≤ sizeLine := by
    rw [← r1.length, sizeLine_eq]
    omega
  have hbb := hb ⟨(hp.push (PySem.W.kdv_tup us)).push (HandSPX.excO C hp.objs.size), g, dr, tk, os⟩ (Value.ref (hp.objs.size + 1) :: us) I2.kIn (by rw [List.append_nil]; exact hl)
  rw [List.append_nil] at hbb
  refine wpAny_call (HandSPX.call_own T.fb hT hC (PySem.W.looks_findIn I1.kIn iC) (fun self => PySem.W.bind_fn I1.kIn self tI) hus
    (codeAny_mono (F1.run _ X.stack _ _ _ _ _ _ E0 (hr.make C us []) (I2.env0.make C us []) hbb r2 q2) fun r s' w => ?_))
  rcases r with er | (_ | _ | _ | u)
  case ok.ret =>
    obtain ⟨v, H2, os2, bare2, un2, hok2, rv, ev, d, fs, ea, ed, hd1, q3⟩ := w
    subst ev
    obtain ⟨h2, g2, d2, t2, os'⟩ := s'
    exact ⟨rv, mk_end (raises_own T.sub tyC) I1 sz up un2 hok2 os2 bare2 ea ed hd1 q3⟩
  all_goals exact False.elim w
/-- with an __init__ of one field -/
theorem mkX_st {f : Str} {Pr : V → Hp → Prop} {σ : L2.St} {H : Hp} {Q : XK} {v : V} {te : TE} (spI : Addr → Str → (V → Hp → Prop) → Sp) : True := trivial
/-- what is read of a caught one -/
def XAg (H : Hp) (a C : Addr) (fs : List (Str × V)) : Prop := ∃ d, H a = some (exg a (.ref C) (some d)) ∧ H d = some (.xd fs)
end
end Gx

namespace Dw
open PySem PySem.Spec PyProof.Rows L2 OgR Evl Gx
/-! ### slices of a list or a tuple; starred displays -/
section
variable {X : Cx} {C : Ct} {a b e : Expr} {es : List Expr} {pos p p2 : Pos} {t ta tb te : TE} {w wa wb we : WE} {tA : TA} {wA : WA} {lo hi : Option Expr} {tl th : TO} {wl wh : WO}
def rSlB (K : PySem.W.Frag) : V → Option Int → Option Int → Hp → VK → Prop := fun x lo hi H Q => rSlA K x lo hi H Q ∨ rSlL K x lo hi H Q
theorem sl_B : SlR X (rSlB X.K) := sl_tupA.or sl_list
def cutSq (d : PyData) (lo hi : Option Int) : PyData := match d with
  | .tuple ds => .tuple (cutD ds lo hi)
  | .list ds => .list (cutD ds lo hi)
  | d => d
def wSlB (wa : WE) (wl wh : WO) : WE := fun s Q => wa s fun d s1 => wl s1 fun l s2 => wh s2 fun h s3 => seqd d = true ∧ Q (cutSq d l h) s3
theorem de_slB (hK : X.K = C.K) (ha : DP X C a ta wa) (hl : DOp X C lo tl wl) (hh : DOp X C hi th wh) : DE X C (.Subscript a (.Slice lo hi none p2) pos) (tSl (rSlB C.K) ta tl th) (wSlB wa wl wh) := ⟨pe_slice (hK ▸ sl_B) ha.pe hl.po hh.po, fun G σ H s Q Q' r q k =>
  ha.ip G σ H s _ _ r q fun v d s1 G1 H1 q1 r1 eg1 eh1 pk => hl.io G1 σ H1 s1 _ _ r1 q1 fun l s2 G2 H2 q2 r2 eg2 eh2 => hh.io G2 σ H2 s2 _ _ r2 q2 fun h s3 G3 H3 q3 r3 eg3 eh3 => by
    obtain ⟨hs, q3⟩ := q3
    have pk3 := (pk.mono eg2 eh2.gr).mono eg3 eh3.gr
    cases d with
    | tuple ds =>
      obtain ⟨p, xs, rfl, h1, h2⟩ := pk_tup pk3
      have h1' := Evl.ex_t r3.fin.gh h1
      refine .inl ⟨p, xs, rfl, h1', fun hw => ?_, fun _ l hl => ?_⟩
      · have e : cutD ds l h = ds := by
          unfold cutD
          rw [dpa_len h2] at hw
          rw [hw.1, hw.2, List.drop_zero, Nat.sub_zero, List.take_length]
        have q3 : Q (.tuple (cutD ds l h)) s3 := q3
        rw [e] at q3
        exact k _ _ s3 G3 H3 q3 r3 ((eg1.trans eg2).trans eg3) ((eh1.trans eh2).trans eh3) (.tup h1 h2)
      · obtain ⟨r4, eg, eh⟩ := r3.new (o := .tup (cutV xs _ _)) hl
        exact k _ _ s3 _ _ q3 r4 (((eg1.trans eg2).trans eg3).trans eg) (((eh1.trans eh2).trans eh3).trans eh) (.tup (.inl (.inl upd_same)) (dpa_ex eg (dpa_cut h2 _ _)))
    | list ds =>
      obtain ⟨p, xs, rfl, h1, h2⟩ := pk_lst pk3 r3.fin.gh
      refine .inr ⟨p, xs, rfl, h1, fun l hl => ?_⟩
      obtain ⟨r4, eg, eh⟩ := r3.new (o := .lst (cutV xs _ _)) hl
      exact k _ _ s3 _ _ q3 r4 (((eg1.trans eg2).trans eg3).trans eg) (((eh1.trans eh2).trans eh3).trans eh) (.lst (.inl (.inl upd_same)) (dpa_ex eg (dpa_cut h2 _ _)))
    | _ => cases hs⟩
def wStar (w : WE) (wr : WA) : WA := fun s Q => w s fun d s1 => seqd d = true ∧ wr s1 fun ds s2 => Q (its d ++ ds) s2
theorem da_star (hK : X.K = C.K) (h : DP X C e te we) (hr : DA X C es tA wA) (hs : starEach (.Starred e p :: es) X.env = (true, eval e X.env) :: starEach es X.env := by rfl) : DA X C (.Starred e p :: es) (StX.tStar C.K te tA) (wStar we wA) := ⟨hK ▸ StX.pa_star h.pe hr.pa hs, fun G σ H s Q Q' r q k =>
  h.ip G σ H s _ _ r q fun v d s1 G1 H1 q1 r1 eg1 eh1 pk => by
    obtain ⟨hs, q1⟩ := q1
    obtain ⟨p, xs, rfl, h1, h2⟩ := pk.seq r1.fin.gh hs
    refine ⟨p, xs, rfl, ?_, hr.ia G1 σ H1 s1 _ _ r1 q1 fun vs ds s2 G2 H2 q2 r2 eg2 eh2 p2 => k _ _ s2 G2 H2 q2 r2 (eg1.trans eg2) (eh1.trans eh2) (dpa_app (dpa_ex eg2 h2) p2)⟩
    cases d with
    | tuple _ => exact .inl h1
    | list _ => exact .inr h1
    | _ => cases hs⟩
end
/-! ### defs that may raise -/
inductive Oc where
  | ok (d : PyData)
  | ex (nm fld : Str) (d : PyData)
abbrev FX := List PyData → (Oc → Prop) → Prop
/-- what is to be had of an exception: its class by name, its one field -/
def Exk (K : PySem.W.Frag) (mg : Str → Option Value) (G H : Hp) (R : Oc → Prop) (E : XK) : Prop := ∀ (nm fld : Str) (d : PyData) (C dx : Addr) (u : V) (G' H' : Hp), R (.ex nm fld d) → mg nm = some (.ref C) → Ex G G' → Ex H H' → Ex G' H' → Nw G G' H → H dx = none → H' dx = some (.xd [(fld, u)]) → Dp K G' u d → E (.ref C) (some dx) H'
def spX (K : PySem.W.Frag) (mg : Str → Option Value) (F : FX) : Sp := fun vs H Q E => ∃ G ds R, Ex G H ∧ DpAll K G vs ds ∧ F ds R ∧ (∀ v d G' H', R (.ok d) → Ex G G' → Ex H H' → Ex G' H' → Nw G G' H → Dp K G' v d → Q v H') ∧ Exk K mg G H R E
section
variable {P : Program} {wd : World} {K : PySem.W.Frag} {mg : Str → Option Value} {base : Heap}
def FnGX (P : Program) (w : World) (K : PySem.W.Frag) (mg : Str → Option Value) (base : Heap) (k : Nat) (f : Addr) (fd : FuncData) (ps : List Str) (sp : Sp) : Prop :=
  (∀ vs H Q E, sp vs H Q E → vs.length = ps.length) ∧
  ∀ (A : Around) (outer : List Env) (s : Shared) (H : Hp) (args : Args) (us : List Value) (vs : List V) (Q : VK) (E : XK), A.guards = some [] → Room k A → Env0 P w K mg base A outer s H → BindsTo s fd args (ps.zip us) → Vals vs us →
    sp vs H Q E → codeAny (model P w) A (.call (.ref f) args) (CR (L2.CX P w) outer P w H s Q E) s
theorem fnGX_of {x qual : Str} {st : Stmt} {f : Addr} {fd : FuncData} {N ps : List Str} {k : Nat} {sp : Sp} (F : Fun K x qual st f fd) (S : FnScope N ps (defScope st)) (hl : ∀ vs H Q E, sp vs H Q E → vs.length = ps.length)
    (body : ∀ (cdv : Value) (A : Around) (outer : List Env) (s : Shared) (H : Hp) (vs : List V) (Q : VK) (E : XK), A.guards = some [] → Room k (A.deeper (envOfC qual (defScope st) s.heap.objs.size f cdv)) → sp vs H Q E →
      ∃ t, PSs (cxOf (L2.CX P wd) P wd K mg base N qual (defScope st) f cdv A outer s H E) (defBody st) t ∧ t { nx := fun _ H' => Q .non H', rt := Q } (start N vs) H) : FnGX P wd K mg base (k + 1) f fd ps sp := by
  obtain ⟨oc, od, kV, doc, pm, an, cdv, ct, osl, rfl, lk, hcd⟩ := F.ex
  refine ⟨hl, fun A outer s H args us vs Q E hG hr e0 hb r hsp => ?_⟩
  have here : ∀ b o, base.get? b = some o → s.heap.get? b = some o := fun b o e => (e0.bs b o e).1
  have KX : K.In s.heap := e0.mod.kin.keeps here
  refine codeAny_call_function hr.depth (KX _ _ lk) rfl S.co S.gen rfl (PySem.W.codeRec_of KX hcd) (hb _ _ _ _ (wpAny_newFunctionEnv_cells S.kind ?_ fun env he s1 y => ?_))
  · rintro ⟨n, v⟩ hy
    exact (S.par n (List.of_mem_zip hy).1).imp id fun q => ⟨q, PySem.W.cellsFrom_some _ _ _ (.inl q)⟩
  · subst he
    obtain ⟨t, ht, hq⟩ := body cdv A outer s H vs Q E hG (hr.deeper _) hsp
    have I := inv_start (CX := L2.CX P wd) (E := E) S hr.hd e0 (hl _ _ _ _ hsp) r y
    refine ⟨(e0.mod.nolimit.keeps here).keeps y.toInCall.keep, codeAny_func (wpAny_mono (ht.run [] s1 (start N vs) H _ I hq) ?_ fun e s' hs => hs)⟩
    rintro (_ | _ | _ | u) s' hs
    all_goals first
      | (obtain ⟨v, σ', H', J, rv, q⟩ := hs; exact ⟨v, H', J.os, J.bare, J.base, J.hok, rv, q⟩)
      | (obtain ⟨σ', H', J, q⟩ := hs; exact ⟨V.non, H', J.os, J.bare, J.base, J.hok, rfl, q⟩)
      | (obtain ⟨_, _, _, q⟩ := hs; exact q.elim)
structure DefX (P : Program) (wd : World) (K : PySem.W.Frag) (mg : Str → Option Value) (base : Heap) (k : Nat) (x : Str) (st : Stmt) (ps : List Str) (sp : Sp) : Prop where
  ex : ∃ f fd, FnGX P wd K mg base k f fd ps sp ∧ Fun K x x st f fd ∧ Binds K fd ps [] ∧ mg x = some (.ref f)
theorem DefX.make {k : Nat} {x : Str} {st : Stmt} {N ps : List Str} {F : FX} (c : Fct K mg x st ps) (S : FnScope N ps (defScope st)) (hl : ∀ ds R, F ds R → ds.length = ps.length)
    (body : ∀ (f : Addr) (cdv : Value) (A : Around) (outer : List Env) (s : Shared) (H G : Hp) (E : XK) (ds : List PyData) (R : Oc → Prop), A.guards = some [] → Room k (A.deeper (envOfC x (defScope st) s.heap.objs.size f cdv)) → F ds R → Exk K mg G H R E →
      ∃ t w, DSs (cxOf (L2.CX P wd) P wd K mg base N x (defScope st) f cdv A outer s H E) ⟨K, none, H, G⟩ (defBody st) t w ∧ w { nx := fun _ => R (.ok .none), rt := fun d _ => R (.ok d) } ⟨env0 N (ds.map .d), 0⟩) : DefX P wd K mg base (k + 1) x st ps (spX K mg F) := by
  obtain ⟨f, fd, Fn, b, m⟩ := c.ex
  refine ⟨f, fd, fnGX_of Fn S (fun vs H Q E h => ?_) (fun cdv A outer s H vs Q E hG hr h => ?_), Fn, b, m⟩
  · obtain ⟨G, ds, R, _, p, hF, _⟩ := h
    rw [dpa_len p]
    exact hl ds R hF
  · obtain ⟨G, ds, R, gh, p, hF, kk, kx⟩ := h
    obtain ⟨t, w, D, hw⟩ := body f cdv A outer s H G E ds R hG hr hF kx
    have rel : Rel ⟨K, none, H, G⟩ G (L2.start N vs) H ⟨env0 N (ds.map .d), 0⟩ := by
      refine ⟨⟨gh, Ex.refl G, Nw.refl G H, Gr.refl _ H, fun l hl => nomatch hl⟩, env0_len (by rw [List.length_map, dpa_len p]), fun i x e => ?_, fun i j x y q _ e1 _ m1 => ?_⟩
      · have e' := env0_get e
        rw [List.getElem?_map] at e'
        cases q : ds[i]? with
        | none => rw [q] at e'; cases e'
        | some d =>
          rw [q] at e'
          cases e'
          obtain ⟨v, hv, pv⟩ := dpa_back p q
          exact ⟨v, start_get hv, pv⟩
      · have e' := env0_get e1
        rw [List.getElem?_map] at e'
        cases q : ds[i]? with
        | none => rw [q] at e'; cases e'
        | some d => rw [q] at e'; cases e'; cases m1
    refine ⟨t, D.ps, D.is G (L2.start N vs) H _ _ _ rel hw ⟨fun σ' H' s' G' hn r' e => ?_, fun _ _ _ _ h => h.elim, fun _ _ _ _ h => h.elim, fun v d c' G' H' hR f' e pv => ?_⟩⟩
    · exact kk .non .none G' H' hn e (fun b o hb => r'.fin.hh b o (fun z => nomatch z) hb) r'.fin.gh r'.fin.nw .non
    · exact kk v d G' H' hR e (fun b o hb => f'.hh b o (fun z => nomatch z) hb) f'.gh f'.nw pv
end
/-! ### the classes of exceptions, their __init__ of one field -/
def spIni (C : Addr) (f : Str) (P : V → Hp → Prop) : Sp := fun vs H Q _ => ∃ (a : Addr) (y : V), vs = [.ref a, y] ∧ H a = some (exo a C none) ∧ P y H ∧ ∀ dx, H dx = none → dx ≠ a → Q .non (upd (upd H dx (exd dx [(f, y)])) a (exo a C (some dx)))
def IsTp (K : PySem.W.Frag) : V → Hp → Prop := fun y H => ∃ p xs, y = .ref p ∧ SqT K H p xs
/-- which data a field takes -/
def okF (tup : Bool) (d : PyData) : Bool := !tup || isT d
structure MkD (P : Program) (wd : World) (K : PySem.W.Frag) (mg : Str → Option Value) (base : Heap) (x f : Str) (tup : Bool) (C : Addr) : Prop where
  here : mg x = some (.ref C)
  ex : ∃ B n i bm fI fd, XC K C B n i bm ∧ PySem.W.typeIn K (.ref C) = some (.type "type") ∧ PySem.W.findIn K (.ref C) "__init__" = some (some (.ref fI)) ∧ PySem.W.typeIn K (.ref fI) = some (.type "function") ∧ FnOk P wd K mg base CX0 2 fI fd ["self", f] (spIni C f fun y H => tup = true → IsTp K y H) ∧ Binds K fd ["self", f] []
section
variable {X : Cx} {C : Ct} {e : Expr} {p pos pos' : Pos} {te : TE} {we : WE} {x fld : Str} {tup : Bool} {Cc : Addr} {R : Oc → Prop} {E : XK}
/-- raise C(e) -/
def wRaise (R : Oc → Prop) (x fld : Str) (tup : Bool) (we : WE) : WS := fun _ s => we s fun d _ => okF tup d = true ∧ R (.ex x fld d)
theorem ds_raise (M : MkD X.prog X.w X.K X.mg X.base x fld tup Cc) (hK : X.K = C.K) (hx : Exk C.K X.mg C.G0 C.H0 R E) (hc : X.calm = true) (tk : Takes X (fun cls d _ H => E cls d H)) (hb : C.bx = none) (hr : Room 3 X.A) (hg : Gl X x) (he : DE X C e te we)
    (hdb : (x == ("__debug__" : Str)) = false := by decide) (hs : starEach [e] X.env = (false, eval e X.env) :: starEach [] X.env := by rfl) :
    DS X C (.Raise (some (.Call (.Name x p) [e] [] pos)) none pos') (fun _ σ H => tMkX Cc (spIni Cc fld fun y H => tup = true → IsTp X.K y H) (tCons te tNil) σ H fun cls d H' => E cls d H') (wRaise R x fld tup we) := by
  obtain ⟨B, n, i, bm, fI, fd, T, tyC, iC, tI, F1, bnd⟩ := M.ex
  refine ⟨ps_raise hc tk (pmkG (CX := CX0) T tyC iC tI F1 hr bnd hg M.here (pa_cons he.pe pa_nil hs) hdb hs), fun G σ H s D DD r q o => ?_⟩
  show tMkX _ _ _ _ _ _
  unfold tMkX
  refine he.ie G σ H s _ _ r q fun v d s1 G1 H1 q1 r1 eg g pd => ⟨(by show 1 ≤ 1000; decide), fun a ha => ?_⟩
  obtain ⟨ht, q1⟩ := q1
  refine ⟨a, v, rfl, upd_same, fun tp => ?_, fun dx hdx hne => ⟨rfl, dx, [(fld, v)], upd_same, by rw [upd_ne hne, upd_same], ?_, ?_⟩⟩
  · subst tp
    cases d with
    | tuple ds =>
      cases pd with
      | tup h1 h2 => exact ⟨_, _, rfl, by rw [hK]; exact Evl.ex_t (r1.fin.gh.trans (Ex.new ha)) h1⟩
    | _ => cases ht
  · rw [upd_ne hne] at hdx
    exact hdx
  · rw [upd_ne hne] at hdx
    have e1 : Ex H1 (upd (del (upd (upd (upd H1 a (exo a Cc none)) dx (exd dx [(fld, v)])) a (exo a Cc (some dx))) a) dx (.xd [(fld, v)])) := fun b o hb' => by
      have n1 : b ≠ dx := fun z => by rw [z, hdx] at hb'; cases hb'
      have n2 : b ≠ a := fun z => by rw [z, ha] at hb'; cases hb'
      rw [upd_ne n1, del_ne n2, upd_ne n2, upd_ne n1, upd_ne n2]
      exact hb'
    have e0 : Ex C.H0 H1 := fun b o hb' => r1.fin.hh b o (by rw [hb]; exact fun z => nomatch z) hb'
    exact hx x fld d Cc dx v G1 _ q1 M.here r1.fin.g0 (e0.trans e1) (r1.fin.gh.trans e1) r1.fin.nw (r1.fin.h0 hdx) upd_same pd
end
/-! ### an expression that may raise, in the body of a try -/
abbrev WY := Dt → (PyData → Dt → Prop) → (Str → Str → PyData → Dt → Prop) → Prop
structure DEX (X : Cx) (C : Ct) (e : Expr) (t : L2.WX → TE) (w : WY) : Prop where
  pe : ∀ (W : L2.WX) (pn : List (Addr × Obj)) (xe : Value → Shared → Prop), Takes (X.tr pn xe) W → PE (X.tr pn xe) e (t W)
  ie : ∀ (W : L2.WX) G σ H s Q QX Q', Rel C G σ H s → w s Q QX →
    (∀ v d s' G' H', Q d s' → Rel C G' σ H' s' → Ex G G' → Gs C σ G H s G' H' s' → Dp C.K G' v d → Q' v H') →
    (∀ (nm fld : Str) d s' G' H' (Cc dx : Addr) u, QX nm fld d s' → X.mg nm = some (.ref Cc) → Rel C G' σ H' s' → Ex G G' → Gs C σ G H s G' H' s' → C.bx ≠ some dx → H' dx = some (.xd [(fld, u)]) → Dp C.K G' u d → W (.ref Cc) (some dx) σ H') → t W σ H Q'
section
variable {X : Cx} {C : Ct} {a b c e : Expr} {pos p : Pos} {ta tb : L2.WX → TE} {wa wb : WY} {tc : TT} {wc : WT} {x : Str} {st : Stmt} {ps : List Str} {k : Nat}
theorem dex_if (hc : ∀ pn xe, DT (X.tr pn xe) C c tc wc) (h1 : DEX X C a ta wa) (h2 : DEX X C b tb wb) : DEX X C (.IfExp c a b pos) (fun W => tIf tc (ta W) (tb W)) (fun s Q QX => wc s fun b s1 => if b = true then wa s1 Q QX else wb s1 Q QX) :=
  ⟨fun W pn xe tk => pe_ifExp (hc pn xe).pt (h1.pe W pn xe tk) (h2.pe W pn xe tk), fun W G σ H s Q QX Q' r q k kx => (hc [] fun _ _ => False).it G σ H s _ _ r q fun bb s1 G1 H1 q1 r1 eg g => by
    cases bb with
    | true =>
      rw [if_pos rfl] at q1
      exact iteT (h1.ie W G1 σ H1 s1 Q QX Q' r1 q1 (fun v d s' G' H' a1 a2 a3 a4 a5 => k v d s' G' H' a1 a2 (eg.trans a3) (g.trans a4) a5) fun nm fld d s' G' H' Cc dx u b1 b2 b3 b4 b5 b6 b7 b8 => kx nm fld d s' G' H' Cc dx u b1 b2 b3 (eg.trans b4) (g.trans b5) b6 b7 b8)
    | false =>
      rw [if_neg (by decide)] at q1
      exact iteF (h2.ie W G1 σ H1 s1 Q QX Q' r1 q1 (fun v d s' G' H' a1 a2 a3 a4 a5 => k v d s' G' H' a1 a2 (eg.trans a3) (g.trans a4) a5) fun nm fld d s' G' H' Cc dx u b1 b2 b3 b4 b5 b6 b7 b8 => kx nm fld d s' G' H' Cc dx u b1 b2 b3 (eg.trans b4) (g.trans b5) b6 b7 b8)⟩
def tNmX (sp : Sp) (n : Nat) (π : List Nat) (tk : TA) (W : L2.WX) : TE := fun σ H Q => tk σ H fun zs H1 => zs.length = n ∧ sp (perm π zs) H1 Q (L2.WE W σ)
theorem pe_nmX {n : Nat} {f : Addr} {fd : FuncData} {ks : List Str} {sp : Sp} {kws : List Keyword} {tk : TA} {π : List Nat} {W : L2.WX} (F : FnGX X.prog X.w X.K X.mg X.base k f fd ps sp) (hG : X.A.guards = some []) (tks : Takes X W) (hr : Room k X.A) (hg : Gl X x) (hm : X.mg x = some (.ref f)) (hk : PySem.W.keepIn X.K (.ref f) = true) (hb : ByP fd ps ks π) (hn : ks.length = n) (hkw : PK X kws tk)
    (hall : (backToKw pos (keywordEach kws X.env)).all (·.1.isSome) = true := by rfl) (hks : (backToKw pos (keywordEach kws X.env)).filterMap (·.1) = ks := by rfl) (hdb : (x == ("__debug__" : Str)) = false := by decide)
    (hpl : ((backTo pos (starEach [] X.env)).any (·.1) || (backToKw pos (keywordEach kws X.env)).any (·.1.isNone)) = false := by rfl) :
    PE X (.Call (.Name x p) [] kws pos) (tNmX sp n π tk W) := by
  refine ⟨fun pins s σ H Q I h => wpAny_Call_Name_kw (ld_glob I hg hm ?_ hdb)⟩
  refine PySem.W.callWith_KW0 (h₀ := X.base) I.ok.mod.kin hk hall (thn (hkw.run pos pins s σ H _ I h) fun ws s1 ⟨zs, H1, I1, rz, hl, q⟩ => ⟨I1.kIn, ?_⟩) hpl
  rw [hks]
  have hwl : ws.length = ks.length := by rw [← rz.length, hl, hn]
  refine wpAny_call (codeAny_mono (F.2 X.A X.stack s1 H1 ⟨[], ks.zip ws⟩ (perm π ws) (perm π zs) Q (L2.WE W σ) hG hr I1.env0 (hb s1 ws hwl) (vals_perm rz) q) fun r s' hq => ?_)
  cases r with
  | error e => exact passAt tks σ pins H1 s1 e s' I1 hq
  | ok fl =>
    cases fl with
    | ret u => exact I1.after hq
    | next => exact False.elim hq
    | brk => exact False.elim hq
    | cont => exact False.elim hq
def wNmX (F : FX) (n : Nat) (π : List Nat) (wA : WA) : WY := fun s Q QX => wA s fun ds s1 => ds.length = n ∧ F (perm π ds) fun o => match o with
  | .ok d => Q d s1
  | .ex nm fld d => QX nm fld d s1
theorem dex_nm {F : FX} {ks : List Str} {kws : List Keyword} {tk : TA} {wk : WA} (π : List Nat) (D : DefX X.prog X.w X.K X.mg X.base k x st ps (spX C.K X.mg F)) (hG : X.A.guards = some []) (hr : Room k X.A) (hg : Gl X x)
    (hby : ∀ (kV doc pm : Value) (an : Option Addr) (cdv ct : Value) (ws : List Value), ws.length = ks.length → bindArgs (PySem.W.fnOf x x (defArgs st) (defBody st) (defScope st) .none kV doc pm an cdv ct) ⟨[], ks.zip ws⟩ = Pure.pure (ps.zip (perm π ws))) (hkw : ∀ pn xe, DKw (X.tr pn xe) C kws tk wk)
    (hall : (backToKw pos (keywordEach kws X.env)).all (·.1.isSome) = true := by rfl) (hks : (backToKw pos (keywordEach kws X.env)).filterMap (·.1) = ks := by rfl) (hdb : (x == ("__debug__" : Str)) = false := by decide)
    (hpl : ((backTo pos (starEach [] X.env)).any (·.1) || (backToKw pos (keywordEach kws X.env)).any (·.1.isNone)) = false := by rfl) :
    DEX X C (.Call (.Name x p) [] kws pos) (tNmX (spX C.K X.mg F) ks.length π tk) (wNmX F ks.length π wk) := by
  obtain ⟨f, fd, G, Fn, b, m⟩ := D.ex
  refine ⟨fun W pn xe tks => ?_, fun W G σ H s Q QX Q' r q k kx => ?_⟩
  · obtain ⟨oc, od, kV, doc, pm, an, cdv, ct, osl, rfl, lk, hcd⟩ := Fn.ex
    exact pe_nmX (X := X.tr pn xe) G hG tks hr hg m Fn.kp (fun s ws hl => .of_eq (hby kV doc pm an cdv ct ws hl)) rfl (hkw pn xe).pk hall hks hdb hpl
  · refine (hkw [] fun _ _ => False).ia G σ H s _ _ r q fun vs ds s1 G1 H1 q1 r1 eg eh p => ⟨by rw [dpa_len p]; exact q1.1, G1, perm π ds, _, r1.fin.gh, dpa_perm p, q1.2, fun v d G2 H2 q2 eg2 eh2 gh nw pd => ?_, fun nm fld d Cc dx u G2 H2 q2 hm eg2 eh2 gh nw hdx hd2 pd => ?_⟩
    · exact k v d s1 G2 H2 q2 (r1.grow eg2 eh2 gh nw) (eg.trans eg2) (eh.trans (.grow eh2 nw)) pd
    · refine kx nm fld d s1 G2 H2 Cc dx u q2 hm (r1.grow eg2 eh2 gh nw) (eg.trans eg2) (eh.trans (.grow eh2 nw)) (fun z => (r1.fin.bx dx z).1.ne hdx) hd2 pd
end
/-! ### try: x = e  except (A, B, C, D) as n: m = n -/
/-- a caught exception in a slot -/
def xcV (K : PySem.W.Frag) (mg : Str → Option Value) (bx : Option Addr) (nm fld : Str) (d : PyData) : Hp → Hp → V → Prop := fun G H v => ∃ (a Cc dx : Addr) (u : V), v = .ref a ∧ mg nm = some (.ref Cc) ∧ bx ≠ some a ∧ bx ≠ some dx ∧ H a = some (exg a (.ref Cc) (some dx)) ∧ H dx = some (.xd [(fld, u)]) ∧ Dp K G u d
theorem xcV_oth {C : Ct} {mg : Str → Option Value} {nm fld : Str} {d : PyData} {G H : Hp} {v : V} (h : xcV C.K mg C.bx nm fld d G H v) : Oth C (xcV C.K mg C.bx nm fld d) G H v := ⟨h, fun G' H' eg eh => by
  obtain ⟨a, Cc, dx, u, h1, h2, h3, h4, h5, h6, h7⟩ := h
  exact ⟨a, Cc, dx, u, h1, h2, h3, h4, eh a _ h3 h5 rfl, eh dx _ h4 h6 rfl, dp_ex eg h7⟩⟩
theorem Rel.hole {C : Ct} {G H : Hp} {σ : L2.St} {s : Dt} (r : Rel C G σ H s) (i : Nat) (y : Option V) : Rel C G (σ.set i y) H ⟨s.env.set i none, s.c⟩ := by
  have go : ∀ (j : Nat) x, (s.env.set i none)[j]? = some (some x) → j ≠ i ∧ s.env[j]? = some (some x) := fun j x e => by
    by_cases z : j = i
    · subst z
      by_cases hl : j < s.env.length
      · rw [List.getElem?_set_self hl] at e
        cases e
      · rw [List.getElem?_eq_none (by rw [List.length_set]; omega)] at e
        cases e
    · rw [List.getElem?_set_ne (Ne.symm z)] at e
      exact ⟨z, e⟩
  refine ⟨r.fin, by show (s.env.set i none).length = _; rw [List.length_set, List.length_set]; exact r.len, fun j x e => ?_, fun j k x z q hne e1 e2 m1 m2 => ?_⟩
  · obtain ⟨z, e⟩ := go j x e
    obtain ⟨v, hv, rv⟩ := r.sl j x e
    exact ⟨v, by rw [List.getElem?_set_ne (Ne.symm z)]; exact hv, rv⟩
  · obtain ⟨z1, e1⟩ := go j x e1
    obtain ⟨z2, e2⟩ := go k z e2
    rw [List.getElem?_set_ne (Ne.symm z1), List.getElem?_set_ne (Ne.symm z2)]
    exact r.dis j k x z q hne e1 e2 m1 m2
def wTryK (K : PySem.W.Frag) (mg : Str → Option Value) (bx : Option Addr) (cs : List Value) (jf i j : Nat) (w : WY) : WS := fun DD s => w s (fun d s1 => DD.nx (s1.set jf (.d d))) fun nm fld d s1 => (∀ Cc, mg nm = some (.ref Cc) → PySem.W.exmAny K (.ref Cc) cs = some true) ∧ DD.nx ⟨(s1.env.set j (some (.oth (xcV K mg bx nm fld d)))).set i none, s1.c⟩
section
variable {X : Cx} {C : Ct} {e : Expr} {x1 x2 x3 x4 n m y : Str} {c1 c2 c3 c4 : Value} {q1 q2 q3 q4 tp mp np ap yp bp pos pos' : Pos} {kk : Nat} {t : L2.WX → TE} {w : WY}
theorem ds_tryK (jf i j : Nat) (hK : X.K = C.K) (hex : X.ex = []) (hs : X.stack = X.env :: X.outer) (hf : X.env.frame = some X.env.locals) (hN : X.N.Nodup) (n1 : Names X x1 c1) (n2 : Names X x2 c2) (n3 : Names X x3 c3) (n4 : Names X x4 c4) (h : DEX X C e t w)
    (hi : X.N[i]? = some n := by rfl) (hln : X.env.kindOf n = some .local := by rfl) (hj : X.N[j]? = some m := by rfl) (hlm : X.env.kindOf m = some .local := by rfl) (hy : X.N[jf]? = some y := by rfl)
    (hyl : Loc X.env.scope y := by first | exact .inl rfl | exact .inr rfl) (hsw : swapsWith e (some (.Name y yp)) bp.line X.env = pure false := by rfl) (hyf : X.fn y = true ∨ X.env.scope.names.lookup y = some .local := by first | exact .inl rfl | exact .inr rfl | assumption)
    (hsu : ∀ (a : Addr) (oe : Obj) (pn : List (Addr × Obj)), PSs (X.suite a ((a, oe) :: pn)) [.Assign [.Name m mp] (.Name n np) ap] (tAsg (tVar i) (gName j))) :
    DS X C (.Try [.Assign [.Name y yp] e bp] [.ExceptHandler (some (.Tuple [.Name x1 q1, .Name x2 q2, .Name x3 q3, .Name x4 q4] kk tp)) (some n) [.Assign [.Name m mp] (.Name n np) ap] pos'] [] [] pos)
      (fun D σ H => tAsg (t (wKeep X.K [c1, c2, c3, c4] i j (fun _ _ _ _ => False) D)) (gName jf) D σ H) (wTryK C.K X.mg C.bx [c1, c2, c3, c4] jf i j w) :=
  ⟨ps_try_keep (tb := fun W => tAsg (t W) (gName jf)) (Wout := fun _ _ _ _ => False) hex hs hf hN hi hln hj hlm n1 n2 n3 n4 takes0 (fun W pn xe tk po => pss_one (ps_set (X := X.tr pn xe) hN hy hyl (h.pe W pn xe tk) hsw hyf)) hsu, fun G σ H s D DD r q o => by
    refine h.ie _ G σ H s _ _ _ r q (fun v d s1 G1 H1 q1 r1 eg g pd => o.nx _ H1 _ G1 q1 (r1.putd pd) eg) fun nm fld d s1 G1 H1 Cc dx u q1 hm r1 eg g hbx hdx pd => ?_
    obtain ⟨hex, q1⟩ := q1
    refine ⟨true, by rw [hK]; exact hex Cc hm, fun _ a ha => ?_, fun z => nomatch z⟩
    have e1 : Ex H1 (upd H1 a (exg a (.ref Cc) (some dx))) := Ex.new ha
    have na : C.bx ≠ some a := fun z => (r1.fin.bx a z).1.ne ha
    have nd : dx ≠ a := fun z => by rw [z, ha] at hdx; cases hdx
    have r2 : Rel C G1 ((σ.set i (some (.ref a))).set j (some (.ref a))) (upd H1 a (exg a (.ref Cc) (some dx))) ((⟨s1.env.set i none, s1.c⟩ : Dt).set j (.oth (xcV C.K X.mg C.bx nm fld d))) := ((r1.aside e1).hole i (some (.ref a))).put (x := .oth (xcV C.K X.mg C.bx nm fld d)) (xcV_oth ⟨a, Cc, dx, u, rfl, hm, na, hbx, upd_same, by rw [upd_ne nd]; exact hdx, pd⟩) fun mm => nomatch mm
    have r3 := r2.hole i none
    refine o.nx _ _ _ G1 q1 ?_ eg
    have e2 : ((s1.env.set i none).set j (some (.oth (xcV C.K X.mg C.bx nm fld d)))).set i none = (s1.env.set j (some (.oth (xcV C.K X.mg C.bx nm fld d)))).set i none := by
      by_cases z : i = j
      · subst z
        rw [List.set_set, List.set_set, List.set_set]
      · rw [List.set_comm _ _ z, List.set_set]
    have r3 : Rel C G1 _ _ ⟨((s1.env.set i none).set j (some (.oth (xcV C.K X.mg C.bx nm fld d)))).set i none, s1.c⟩ := r3
    rw [e2] at r3
    exact r3⟩
end
end Dw

namespace Gx
open PySem PySem.Spec PyProof.Rows L2
section
variable {X : Cx} {pins : List (Addr × Obj)} {σ : L2.St} {H : Hp} {s : Shared} {a C : Addr} {fs : List (Str × V)}
theorem xag_inst (I : Inv X pins σ H s) (h : XAg H a C fs) : ∃ ox od, PySem.W.InstAt s.heap a ox C (some od) ∧ ∀ f, RelO (fs.lookup f) ((PySem.W.lookIn f od).getD none) ∧ (PySem.W.lookIn f od).isSome = true := by
  obtain ⟨d, h1, h2⟩ := h
  obtain ⟨⟨oe, vs, ho, hz, hd⟩, _⟩ := (show ObjOk X.prog X.w H s.heap a (.ext fun h => ∃ (oe : Obj) (vs : Array Value), h.get? a = some oe ∧ Zc (.ref C) (some d) oe ∧ oe.data = .fields vs) from I.hok _ _ h1)
  obtain ⟨mA, hns, rel⟩ := I.hok _ _ h2
  obtain ⟨od, hod, hl⟩ := lookIn_ns hns
  refine ⟨oe, od, ⟨ho, hz.1, by unfold PySem.W.notCls; rw [hd], by rw [hz.2]; exact hod⟩, fun f => ⟨by rw [hl]; exact rel f, by rw [hl]; rfl⟩⟩
end
section
variable {X : Cx} {o e : Expr} {es : List Expr} {to te : TE} {ta : TA} {f n : Str} {p p' pos : Pos}
@[irreducible] def tGetG (K : PySem.W.Frag) (n : Str) (te : TE) : TE := fun σ H Q => te σ H fun x H1 => ∃ a C fs v, x = .ref a ∧ XAg H1 a C fs ∧ XCx K C ∧ PySem.W.findIn K (.ref C) n = some none ∧ fs.lookup n = some v ∧ Q v H1
theorem pe_getG (he : PE X e te) (hb : attributeBase e n X.env (eval e X.env) = eval e X.env := by rfl) : PE X (.Attribute e n pos) (tGetG X.K n te) := by
  refine ⟨fun pins s σ H Q I h => ?_⟩
  unfold tGetG at h
  refine attr_of hb (thn (he.run pins s σ H _ I h) fun u s1 g => ?_)
  obtain ⟨x, H1, I1, rx, a, C, fs, v, ex, ha, ⟨B, nn, ii, bm, T⟩, hno, l, q⟩ := g
  subst ex
  cases (show u = Value.ref a from rx)
  obtain ⟨ox, od, J, hl⟩ := xag_inst I1 ha
  obtain ⟨r1, r2⟩ := hl n
  rw [l] at r1
  obtain ⟨z, hz⟩ := Option.isSome_iff_exists.mp r2
  rw [hz] at r1
  obtain ⟨u2, hu, ru⟩ := RelO.some_of r1
  have hz2 : z = some u2 := hu
  subst hz2
  exact HandSPX.exc_get I1.kIn J T.ga T.gg T.sub (PySem.W.findObj_own T.dct hno rfl hz) (handed_of ru) ⟨v, H1, I1.tok _, ru, q⟩
def rIsG (K : PySem.W.Frag) : List V → Hp → VK → Prop := fun xs H Q => ∃ (a C : Addr) (fs : List (Str × V)) (c : V) (cv : Value) (b : Bool), xs = [.ref a, c] ∧ XAg H a C fs ∧ XCx K C ∧ (∀ u, RelV c u → u = cv) ∧ PySem.W.kitOne K (.ref C) cv = some b ∧ Q (.bl b) H
theorem call_isG : CallR X (.builtin "isinstance") (rIsG X.K) := by
  intro pins s σ H xs us Q I r h
  obtain ⟨a, C, fs, c, cv, b, rfl, ha, ⟨B, n, i, bm, T⟩, hcv, e, q⟩ := h
  cases r with
  | cons rx rr =>
    cases rr with
    | cons rt rr =>
      cases rr
      cases rx
      have ec := hcv _ rt
      subst ec
      obtain ⟨ox, od, J, _⟩ := xag_inst I ha
      exact PySem.W.kia_one (PySem.W.kitx_exc T.cin T.ga T.gg T.sub T.cls T.spc T.tks T.mro) I.kIn J e (fun z => nomatch z) fun tk => ⟨.bl b, H, I.kept (t' := tk) fun _ _ z => z, rfl, q⟩
def rIsGT (K : PySem.W.Frag) : List V → Hp → VK → Prop := fun xs H Q => ∃ (a C tp : Addr) (fs : List (Str × V)) (cs : List V) (cvs : List Value) (b : Bool), xs = [.ref a, .ref tp] ∧ XAg H a C fs ∧ XCx K C ∧ H tp = some (.tup cs) ∧ (∀ us, Vals cs us → us = cvs) ∧ PySem.W.kitAny K (.ref C) cvs = some b ∧ Q (.bl b) H
theorem call_isGT : CallR X (.builtin "isinstance") (rIsGT X.K) := by
  intro pins s σ H xs us Q I r h
  obtain ⟨a, C, tp, fs, cs, cvs, b, rfl, ha, ⟨B, n, i, bm, T⟩, ht, hcv, e, q⟩ := h
  cases r with
  | cons rx rr =>
    cases rr with
    | cons rt rr =>
      cases rr
      cases rx
      cases rt
      obtain ⟨ox, od, J, _⟩ := xag_inst I ha
      obtain ⟨_, its2, r2, ob, ho, hc, nn, hd⟩ := I.hok _ _ ht
      have e2 := hcv _ r2
      subst e2
      obtain ⟨c1, c2, c3, c4⟩ := ob
      dsimp only at hc hd
      subst hc hd
      exact PySem.W.kia_tup (PySem.W.kitx_exc T.cin T.ga T.gg T.sub T.cls T.spc T.tks T.mro) I.kIn J ho e (fun z => nomatch z) fun tk => ⟨.bl b, H, I.kept (t' := tk) fun _ _ z => z, rfl, q⟩
end
end Gx
namespace Dw
open PySem PySem.Spec PyProof.Rows L2 OgR Evl Gx
/-! ### a caught exception looked at -/
section
variable {X : Cx} {C : Ct} {c c' : Expr} {pos p p2 : Pos} {x n : Str} {cV cV' : V} {cv cv' : Value}
/-- what is known of a class by its name -/
def KitN (K : PySem.W.Frag) (mg : Str → Option Value) (nm : Str) (cvs : List Value) (b : Bool) : Prop := ∀ Cc, mg nm = some (.ref Cc) → XCx K Cc ∧ PySem.W.kitAny K (.ref Cc) cvs = some b
def FldN (K : PySem.W.Frag) (mg : Str → Option Value) (nm fld : Str) : Prop := ∀ Cc, mg nm = some (.ref Cc) → XCx K Cc ∧ PySem.W.findIn K (.ref Cc) fld = some none
def wXat (K : PySem.W.Frag) (mg : Str → Option Value) (bx : Option Addr) (i : Nat) (n : Str) : WE := fun s Q => ∃ nm d, s.env[i]? = some (some (.oth (xcV K mg bx nm n d))) ∧ FldN K mg nm n ∧ Q d s
theorem de_xat (i : Nat) (hK : X.K = C.K) (hv : PE X (.Name x p) (tVar i) := by exact pv _) (hb : attributeBase (.Name x p) n X.env (eval (.Name x p) X.env) = eval (.Name x p) X.env := by rfl) : DE X C (.Attribute (.Name x p) n pos) (tGetG C.K n (tVar i)) (wXat C.K X.mg C.bx i n) := ⟨hK ▸ pe_getG hv hb, fun G σ H s Q Q' r q k => by
  obtain ⟨nm, d, e, hf, q⟩ := q
  obtain ⟨v, hv, ⟨a, Cc, dx, u, rfl, hm, b1, b2, h1, h2, h3⟩, _⟩ := r.sl i _ e
  unfold tGetG
  exact ⟨_, hv, a, Cc, _, u, rfl, ⟨dx, h1, h2⟩, (hf Cc hm).1, (hf Cc hm).2, by simp [List.lookup], k u d s G H q r (Ex.refl G) Gs.refl h3⟩⟩
def wXis (K : PySem.W.Frag) (mg : Str → Option Value) (bx : Option Addr) (i : Nat) (cvs : List Value) : WE := fun s Q => ∃ nm fld d b, s.env[i]? = some (some (.oth (xcV K mg bx nm fld d))) ∧ KitN K mg nm cvs b ∧ Q (.bool b) s
theorem kit_one {K : PySem.W.Frag} {t c : Value} {b : Bool} (h : PySem.W.kitAny K t [c] = some b) : PySem.W.kitOne K t c = some b := by
  unfold PySem.W.kitAny at h
  split at h
  · rename_i e
    rw [e, h]
  · rename_i e
    rw [e]
    exact h
  · cases h
theorem de_xis (i : Nat) (hK : X.K = C.K) (hg : Gl X "isinstance") (hm : X.mg "isinstance" = none) (hp : PE X c (tC cV)) (hcv : ∀ u, RelV cV u → u = cv) (hv : PE X (.Name x p2) (tVar i) := by exact pv _)
    (hs : starEach [.Name x p2, c] X.env = (false, eval (.Name x p2) X.env) :: starEach [c] X.env := by rfl) (hpl : (backTo pos (starEach [c] X.env)).any (·.1) = false := by rfl) (hs2 : starEach [c] X.env = (false, eval c X.env) :: starEach [] X.env := by rfl) :
    DE X C (.Call (.Name "isinstance" p) [.Name x p2, c] [] pos) (tCB (rIsG C.K) (tCons (tVar i) (tCons (tC cV) tNil))) (wXis C.K X.mg C.bx i [cv]) :=
  ⟨pe_callB (hK ▸ call_isG) hg hm (by decide +kernel) (pa_cons hv (pa_cons hp pa_nil hs2) hs) (by decide) (by decide) hs hpl, fun G σ H s Q Q' r q k => by
    obtain ⟨nm, fld, d, b, e, hk, q⟩ := q
    obtain ⟨v, hv, ⟨a, Cc, dx, u, rfl, hm, b1, b2, h1, h2, h3⟩, _⟩ := r.sl i _ e
    exact ⟨_, hv, a, Cc, _, cV, cv, b, rfl, ⟨dx, h1, h2⟩, (hk Cc hm).1, hcv, kit_one (hk Cc hm).2, k _ _ s G H q r (Ex.refl G) Gs.refl (.bl b)⟩⟩
theorem de_xisT (i : Nat) {kk : Nat} {p4 : Pos} (hK : X.K = C.K) (hg : Gl X "isinstance") (hm : X.mg "isinstance" = none) (hp : PE X c (tC cV)) (hcv : ∀ u, RelV cV u → u = cv) (hp' : PE X c' (tC cV')) (hcv' : ∀ u, RelV cV' u → u = cv') (hv : PE X (.Name x p2) (tVar i) := by exact pv _)
    (hs : starEach [.Name x p2, .Tuple [c, c'] kk p4] X.env = (false, eval (.Name x p2) X.env) :: starEach [.Tuple [c, c'] kk p4] X.env := by rfl) (hpl : (backTo pos (starEach [.Tuple [c, c'] kk p4] X.env)).any (·.1) = false := by rfl)
    (hs2 : starEach [.Tuple [c, c'] kk p4] X.env = (false, eval (.Tuple [c, c'] kk p4) X.env) :: starEach [] X.env := by rfl) (hs3 : starEach [c, c'] X.env = (false, eval c X.env) :: starEach [c'] X.env := by rfl) (hs4 : starEach [c'] X.env = (false, eval c' X.env) :: starEach [] X.env := by rfl) :
    DE X C (.Call (.Name "isinstance" p) [.Name x p2, .Tuple [c, c'] kk p4] [] pos) (tCB (rIsGT C.K) (tCons (tVar i) (tCons (tTup (tCons (tC cV) (tCons (tC cV') tNil))) tNil))) (wXis C.K X.mg C.bx i [cv, cv']) :=
  ⟨pe_callB (hK ▸ call_isGT) hg hm (by decide +kernel) (pa_cons hv (pa_cons (pe_tup (pa_cons hp (pa_cons hp' pa_nil hs4) hs3)) pa_nil hs2) hs) (by decide) (by decide) hs hpl, fun G σ H s Q Q' r q k => by
    obtain ⟨nm, fld, d, b, e, hk, q⟩ := q
    obtain ⟨v, hv, ⟨a, Cc, dx, u, rfl, hm, b1, b2, h1, h2, h3⟩, _⟩ := r.sl i _ e
    refine ⟨_, hv, (show 2 ≤ sizeLine by decide), fun tp htp => ?_⟩
    have e1 : Ex H (upd H tp (.tup [cV, cV'])) := Ex.new htp
    refine ⟨a, Cc, tp, [(fld, u)], [cV, cV'], [cv, cv'], b, rfl, ⟨dx, e1 a _ h1, e1 dx _ h2⟩, (hk Cc hm).1, upd_same, fun us hv => ?_, (hk Cc hm).2, k _ _ s G _ q (r.aside e1) (Ex.refl G) (.side e1) (.bl b)⟩
    cases hv with
    | cons r1 rr =>
      cases rr with
      | cons r2 rr =>
        cases rr
        rw [hcv _ r1, hcv' _ r2]⟩
/-- is None, of a slot with data or a caught exception -/
def wXnon (K : PySem.W.Frag) (mg : Str → Option Value) (bx : Option Addr) (i : Nat) : WT := fun s Q => (∃ d, s.env[i]? = some (some (.d d)) ∧ Q (isNone d) s) ∨ ∃ nm fld d, s.env[i]? = some (some (.oth (xcV K mg bx nm fld d))) ∧ Q false s
theorem dt_xnon (i : Nat) {j : Nat} (hv : PE X (.Name x p) (tVar i) := by exact pv _) : DT X C (.Compare (.Name x p) [.Is] [.Constant .none j p2] pos) (tTest (tOp (fun x y H Q => y = .non ∧ Q (.bl (decide (x = .non))) H) (tVar i) (tC .non))) (wXnon C.K X.mg C.bx i) :=
  ⟨pt_cmpR op_isN hv pe_non (nomark _), fun G σ H s Q Q' r q k => by
    rcases q with ⟨d, e, q⟩ | ⟨nm, fld, d, e, q⟩
    · obtain ⟨v, hv, rv⟩ := r.sl i _ e
      refine ⟨v, hv, rfl, _, rfl, ?_⟩
      rw [pk_none (C := C) (H := H) (.inl rv)]
      exact k _ s G H q r (Ex.refl G) Gs.refl
    · obtain ⟨v, hv, ⟨a, Cc, dx, u, rfl, hm, b1, b2, h1, h2, h3⟩, _⟩ := r.sl i _ e
      refine ⟨_, hv, rfl, _, rfl, ?_⟩
      exact k _ s G H q r (Ex.refl G) Gs.refl⟩
end
end Dw

namespace Dw
open PySem PySem.Spec PyProof.Rows L2 OgR Evl Gx
section
variable {X : Cx} {C : Ct} {a b e tg : Expr} {es : List Expr} {pos p : Pos} {te : TE} {we : WE} {x : Str}
theorem do_lcKT (i0 : Nat) {elt : Expr} {ifs : List Expr} {scope : Scope} {own : List (Str × Nat)} {p2 tpos : Pos} {kk n : Nat} {g : TGs} {ks : List Nat} {wg : WGs} {tt : TT} {wt : WT} (hK : X.K = C.K) (hc : X.calm = true) (hN : X.N.Nodup) (ok : BlkOk X.N X.env.scope scope own)
    (hg : ∀ (s : Shared) (H : Hp) (A : Addr) (cl : List (Str × Addr)) (fp : List Addr), DGs (X.blk s H scope (compEnvC scope cl A X.env) fp) C es g ks wg)
    (ht : (∀ (s : Shared) (H : Hp) (A : Addr) (cl : List (Str × Addr)) (fp : List Addr), PTs (X.blk s H scope (compEnvC scope cl A X.env) fp) ifs tt) ∧ IT C tt wt)
    (he : ∀ (s : Shared) (H : Hp) (A : Addr) (cl : List (Str × Addr)) (fp : List Addr), DE (X.blk s H scope (compEnvC scope cl A X.env) fp) C elt te we) (hv : PE X (.Name x p2) (tVar i0) := by exact pv _) (hk : ∀ k ∈ ks, k ∈ own.map (·.2) := by decide) (hs : ∀ z, foldedSetIterable (.Name x p2) X.env z = pure z := by intro _; rfl)
    (hn : ∀ (s : Shared) (H : Hp) (A : Addr) (cl : List (Str × Addr)) (fp : List Addr), (assignEach es (X.blk s H scope (compEnvC scope cl A X.env) fp).env).length = n := by intros; rfl) (hst : ∀ (s : Shared) (H : Hp) (A : Addr) (cl : List (Str × Addr)) (fp : List Addr), (assignEach es (X.blk s H scope (compEnvC scope cl A X.env) fp).env).findIdx? (·.1) = none := by intros; rfl) :
    DO X C (.ListComp elt [⟨.Tuple es kk tpos, .Name x p2, ifs, 0⟩] scope pos) (tLockE (tLc (iKeys (tVar i0)) (gSeqB C.K n g) tt te (own.map (·.2)))) (wLcK i0 (wGTup n wg) wt we (own.map (·.2))) :=
  do_lcK i0 hc hN ok ⟨fun s H A cl fp => (dg_tup (X := X.blk s H scope (compEnvC scope cl A X.env) fp) hK hc (hg s H A cl fp) (hn s H A cl fp) (hst s H A cl fp)).pg, igh_tup (hg {} (fun _ => none) 0 [] []).ig⟩ ht he hv hk hs
end
section
variable {X : Cx} {C : Ct}
/-- == of texts -/
def gEqS : G2 := fun d e s Q => ∃ x y, d = .str x ∧ e = .str y ∧ Q (.bool (decide (x = y))) s
theorem o_eqS : OpD X C (compareOp .Eq) rEq gEqS := ⟨op_eq, ⟨fun G σ H s x y d e Q Q' r p1 p2 q k => by
  obtain ⟨a, b, rfl, rfl, q⟩ := q
  have h1 := pk_str p1
  have h2 := pk_str p2
  subst h1 h2
  refine ⟨rfl, ?_⟩
  have e : decide (V.str a = V.str b) = decide (a = b) := by simp
  rw [e]
  exact k _ _ s G H q r (Ex.refl G) Gs.refl (.bl _)⟩⟩
end
/-- what is bounded equals itself -/
theorem eqvAll_rf : ∀ {l : List PyData}, (∀ x ∈ l, PyData.eqv x x = true) → PyData.eqvAll l l = true
  | [], _ => by simp only [PyData.eqvAll]
  | x :: l, h => by simp only [PyData.eqvAll, h x List.mem_cons_self, eqvAll_rf fun y hy => h y (List.mem_cons_of_mem _ hy), Bool.and_self]
theorem FlB.rf {d : PyData} (h : FlB d) : PyData.eqv d d = true := by
  cases d with
  | none => simp only [PyData.eqv]
  | bool b => rw [eqv_bool]; simp
  | int i => rw [eqv_int]; simp
  | str z => rw [eqv_str]; simp
  | list _ => exact h.elim
  | tuple _ => exact h.elim
  | dict _ => exact h.elim
theorem Bd.rf {w : Nat} : ∀ {k : Nat} {d : PyData}, Bd w k d → PyData.eqv d d = true
  | 0, d, h => FlB.rf h
  | k + 1, d, h => by
    rcases h with h | ⟨ds, rfl | rfl, hl, hd⟩
    · exact h.rf
    · simp only [PyData.eqv]
      exact eqvAll_rf fun x hx => Bd.rf (hd x hx)
    · simp only [PyData.eqv]
      exact eqvAll_rf fun x hx => Bd.rf (hd x hx)
/-! ### the classes of the program's errors -/
structure Cls (K : PySem.W.Frag) (mg : Str → Option Value) (x f q : Str) (B n i : String) (bm : List Value) (st : Stmt) (C : Addr) : Prop where
  xc : XC K C B n i bm
  here : mg x = some (.ref C)
  fld : PySem.W.findIn K (.ref C) f = some none
  ty : PySem.W.typeIn K (.ref C) = some (.type "type")
  ini : ∃ fI fd, PySem.W.findIn K (.ref C) "__init__" = some (some (.ref fI)) ∧ PySem.W.typeIn K (.ref fI) = some (.type "function") ∧ Fun K "__init__" q st fI fd ∧ Binds K fd ["self", f] []
theorem taker {K : PySem.W.Frag} {C : Addr} {f : Str} (h : PySem.W.findIn K (.ref C) f = some none) : PySem.W.takerIn K C f = some none := by
  unfold PySem.W.takerIn
  rw [h]
  rfl
abbrev bVE : List Value := [.type "ValueError", .type "Exception", .type "BaseException", .type "object"]
abbrev bLE : List Value := [.type "LookupError", .type "Exception", .type "BaseException", .type "object"]
abbrev bRE : List Value := [.type "RuntimeError", .type "Exception", .type "BaseException", .type "object"]
abbrev bOE : List Value := [.type "OverflowError", .type "ArithmeticError", .type "Exception", .type "BaseException", .type "object"]
theorem kitN {K : PySem.W.Frag} {mg : Str → Option Value} {nm : Str} {cvs : List Value} {b : Bool} {C : Addr} (hm : mg nm = some (.ref C)) (x : XCx K C) (h : PySem.W.kitAny K (.ref C) cvs = some b) : KitN K mg nm cvs b := fun C' hm' => by
  rw [hm] at hm'
  cases hm'
  exact ⟨x, h⟩
theorem fldN {K : PySem.W.Frag} {mg : Str → Option Value} {nm fld : Str} {C : Addr} (hm : mg nm = some (.ref C)) (x : XCx K C) (h : PySem.W.findIn K (.ref C) fld = some none) : FldN K mg nm fld := fun C' hm' => by
  rw [hm] at hm'
  cases hm'
  exact ⟨x, h⟩
theorem kit_1 {K : PySem.W.Frag} {t c : Value} {b : Bool} (h : PySem.W.kitOne K t c = some b) : PySem.W.kitAny K t [c] = some b := by
  unfold PySem.W.kitAny
  rw [h]
  cases b <;> rfl
theorem kit_2 {K : PySem.W.Frag} {t c c' : Value} {b b' : Bool} (h : PySem.W.kitOne K t c = some b) (h' : PySem.W.kitOne K t c' = some b') : PySem.W.kitAny K t [c, c'] = some (b || b') := by
  unfold PySem.W.kitAny
  rw [h]
  cases b with
  | true => rfl
  | false => exact kit_1 h'
end Dw

namespace Dw
open PySem PySem.Spec PyProof.Rows L2 OgR Evl
/-! ### promises of the older kind, by data -/
theorem fnG_ok {P : Program} {w : World} {K : PySem.W.Frag} {mg : Str → Option Value} {base : Heap} {k : Nat} {f : Addr} {fd : FuncData} {ps : List Str} {sp : Sp} (F : FnOk P w K mg base CX0 k f fd ps sp) : FnG P w K mg base k f fd ps sp :=
  ⟨F.len, fun A outer s H args us vs Q E _ hr => F.run A outer s H args us vs Q E hr⟩
/-- what is new becomes data -/
def nwG (G H H' : Hp) : Hp := fun b => match H b with
  | none => H' b
  | some _ => G b
section
variable {G H H' : Hp}
theorem nwG_at {b : Addr} (h : H b = none) : nwG G H H' b = H' b := by
  unfold nwG
  rw [h]
theorem nwG_old {b : Addr} {o : HO} (h : H b = some o) : nwG G H H' b = G b := by
  unfold nwG
  rw [h]
theorem nwG_up (gh : Ex G H) : Ex G (nwG G H H') := fun b o e => by
  rw [nwG_old (gh b o e)]
  exact e
theorem nwG_in (gh : Ex G H) (eh : Ex H H') : Ex (nwG G H H') H' := fun b o e => by
  cases q : H b with
  | none => rw [nwG_at q] at e; exact e
  | some u => rw [nwG_old q] at e; exact eh b o (gh b o e)
theorem nwG_nw : Nw G (nwG G H H') H := fun b hb => by
  cases q : H b with
  | none => exact .inr rfl
  | some u => rw [nwG_old q] at hb; exact .inl hb
end
theorem dpa_one {K : PySem.W.Frag} {G : Hp} {vs : List V} {d : PyData} (h : DpAll K G vs [d]) : ∃ v, vs = [v] ∧ Dp K G v d := by
  cases h with
  | cons a b => cases b; exact ⟨_, rfl, a⟩
theorem dpa_two {K : PySem.W.Frag} {G : Hp} {vs : List V} {d e : PyData} (h : DpAll K G vs [d, e]) : ∃ v u, vs = [v, u] ∧ Dp K G v d ∧ Dp K G u e := by
  cases h with
  | cons a b =>
    cases b with
    | cons b c => cases c; exact ⟨_, _, rfl, a, b⟩
theorem dp_sq {K : PySem.W.Frag} {G : Hp} {v : V} {d : PyData} (h : Dp K G v d) (hs : seqd d = true) : ∃ p xs, v = .ref p ∧ SqB K (isT d) G p xs ∧ DpAll K G xs (its d) := by
  cases h with
  | lst h t => exact ⟨_, _, rfl, h, t⟩
  | tup h t => exact ⟨_, _, rfl, h, t⟩
  | _ => cases hs
/-- a row of ints, given as a tuple or a list -/
def IsR (d : PyData) (ns : List Int) : Prop := d = .tuple (ns.map .int) ∨ d = .list (ns.map .int)
theorem IsR.sq {d : PyData} {ns : List Int} (h : IsR d ns) : seqd d = true ∧ its d = ns.map .int := by
  rcases h with rfl | rfl <;> exact ⟨rfl, rfl⟩
theorem dp_row {K : PySem.W.Frag} {G H : Hp} {v : V} {d : PyData} {ns : List Int} (gh : Ex G H) (h : Dp K G v d) (r : IsR d ns) : ∃ b p, v = .ref p ∧ SqB K b H p (ns.map V.int) := by
  obtain ⟨p, xs, rfl, h1, h2⟩ := dp_sq h r.sq.1
  rw [r.sq.2] at h2
  rw [ints_dpa h2] at h1
  exact ⟨_, p, rfl, h1.ex gh⟩
end Dw

namespace Dw
open PySem PySem.Spec PyProof.Rows L2 OgR Evl
/-! ### loops by name, for rewriting -/
def ForD (ds : List PyData) (g : WG) (wb : WS) (DD : DEnds) (s1 : Dt) : Prop := ∃ Inv : Nat → Dt → Prop, Inv 0 s1 ∧
  (∀ (i : Nat) d s2, ds[i]? = some d → Inv i s2 → g d s2 fun s3 => wb { nx := Inv (i + 1), rt := DD.rt, bk := DD.nx, ct := Inv (i + 1) } s3) ∧ ∀ s2, Inv ds.length s2 → DD.nx s2
theorem wFor_eq {w : WA} {g : WG} {wb : WS} {DD : DEnds} {s : Dt} : wFor w g wb DD s = w s fun ds s1 => ForD ds g wb DD s1 := rfl
theorem forD_by {ds : List PyData} {g : WG} {wb : WS} {DD : DEnds} {s1 : Dt} (Inv : Nat → Dt → Prop) (h0 : Inv 0 s1)
    (hs : ∀ (i : Nat) d s2 (J : Dt → Prop), ds[i]? = some d → Inv i s2 → (∀ s, Inv (i + 1) s → J s) → g d s2 fun s3 => wb { nx := J, rt := DD.rt, bk := DD.nx, ct := J } s3) (hd : ∀ s2, Inv ds.length s2 → DD.nx s2) : ForD ds g wb DD s1 :=
  for_by Inv h0 hs hd
/-- by the items that are left: for loops that end early -/
theorem forD_nil {g : WG} {wb : WS} {DD : DEnds} {s1 : Dt} (h : DD.nx s1) : ForD [] g wb DD s1 := forD_by (fun _ s => s = s1) rfl (fun i d s2 J e => by simp at e) (fun s2 e => by rw [e]; exact h)
def WhileD (c : WT) (wb : WS) (DD : DEnds) (s : Dt) : Prop := wWhile c wb DD s
theorem wWhile_eq {c : WT} {wb : WS} {DD : DEnds} {s : Dt} : wWhile c wb DD s = WhileD c wb DD s := rfl
theorem whileD_by {c : WT} {wb : WS} {DD : DEnds} {s0 : Dt} (Inv : Nat → Dt → Prop) {m : Nat} (h0 : Inv m s0)
    (h : ∀ m s (J : Dt → Prop), Inv m s → (∀ m' s', m' < m → Inv m' s' → J s') → c s fun b s1 => if b = true then wb { nx := J, rt := DD.rt, bk := DD.nx, ct := J } s1 else DD.nx s1) : WhileD c wb DD s0 :=
  ⟨Inv, ⟨m, h0⟩, fun m s hi => h m s _ hi fun m' s' hm hi' => ⟨m', hm, hi'⟩⟩
def LcD (ds : List PyData) (g : WG) (tt : WT) (te : WE) (vs : List Nat) (s1 : Dt) (Q : List PyData → Dt → Prop) : Prop := ∃ Inv : Nat → List PyData → Int → Prop, Inv 0 [] s1.c ∧
  (∀ (i : Nat) d acc c, ds[i]? = some d → Inv i acc c → g d ⟨wipeD s1.env vs, c⟩ fun s2 => tt s2 fun b s3 => s3.env = s2.env ∧ if b = true then te s3 fun y s4 => s4.env = s2.env ∧ acc.length < 100000 ∧ Inv (i + 1) (acc ++ [y]) s4.c else Inv (i + 1) acc s3.c) ∧
  ∀ acc c, Inv ds.length acc c → Q acc ⟨s1.env, c⟩
theorem wLc_eq {w : WA} {g : WG} {tt : WT} {te : WE} {vs : List Nat} {s : Dt} {Q : List PyData → Dt → Prop} : wLc w g tt te vs s Q = w s fun ds s1 => LcD ds g tt te vs s1 Q := rfl
theorem lcD_by {ds : List PyData} {g : WG} {tt : WT} {te : WE} {vs : List Nat} {env : List (Option DV)} {c : Int} {Q : List PyData → Dt → Prop} (f : PyData → Option PyData) (hl : ds.length ≤ 99999)
    (h : ∀ d ∈ ds, ∀ (acc : List PyData) (J : List PyData → Int → Prop), acc.length < 100000 → (∀ y, f d = some y → J (acc ++ [y]) c) → (f d = none → J acc c) →
      g d ⟨wipeD env vs, c⟩ fun s2 => tt s2 fun b s3 => s3.env = s2.env ∧ if b = true then te s3 fun y s4 => s4.env = s2.env ∧ acc.length < 100000 ∧ J (acc ++ [y]) s4.c else J acc s3.c) (q : Q (ds.filterMap f) ⟨env, c⟩) : LcD ds g tt te vs ⟨env, c⟩ Q :=
  lc_by f hl h q
theorem lcD_map {ds : List PyData} {g : WG} {te : WE} {vs : List Nat} {env : List (Option DV)} {c : Int} {Q : List PyData → Dt → Prop} (f : PyData → PyData) (hl : ds.length ≤ 99999)
    (h : ∀ d ∈ ds, ∀ (acc : List PyData) (J : List PyData → Int → Prop), acc.length < 100000 → J (acc ++ [f d]) c → g d ⟨wipeD env vs, c⟩ fun s2 => te s2 fun y s4 => s4.env = s2.env ∧ acc.length < 100000 ∧ J (acc ++ [y]) s4.c) (q : Q (ds.map f) ⟨env, c⟩) : LcD ds g (fun s Q => Q true s) te vs ⟨env, c⟩ Q :=
  lc_map f hl h q
/-! ### small facts, for rewriting -/
theorem look_d (x : PyData) : (DV.d x).look = some x := rfl
theorem look_own (x : List PyData) : (DV.own x).look = some (.list x) := rfl
theorem shpI (i : Int) : Shp (.int i) = True := eq_true rfl
theorem shpB (i : Bool) : Shp (.bool i) = True := eq_true rfl
theorem shpN : Shp .none = True := eq_true rfl
theorem shpS (s : String) : Shp (.str (Str.ofString s)) = True := eq_true (shp_str s)
theorem seqT (ds : List PyData) : seqd (.tuple ds) = true := rfl
theorem seqL (ds : List PyData) : seqd (.list ds) = true := rfl
theorem itsT (ds : List PyData) : its (.tuple ds) = ds := rfl
theorem itsL (ds : List PyData) : its (.list ds) = ds := rfl
theorem lenT (ds : List PyData) : lenD (.tuple ds) = some ds.length := rfl
theorem lenL (ds : List PyData) : lenD (.list ds) = some ds.length := rfl
theorem okFF (d : PyData) : okF false d = true := rfl
theorem at_nat {l : List PyData} {i : Nat} (h : i < l.length) : atI l (i : Int) = l[i]? := by
  unfold atI ixN
  rw [if_pos (by omega), if_pos (by omega)]
  rfl
theorem wGCons_c {w : WG} {u : WGs} {d : PyData} {r : List PyData} {s : Dt} {Q : Dt → Prop} : wGCons w u (d :: r) s Q = w d s fun s' => u r s' Q := by
  refine propext ⟨fun ⟨d', r', e, h⟩ => ?_, fun h => ⟨d, r, rfl, h⟩⟩
  cases e
  exact h
theorem wGNil_n {s : Dt} {Q : Dt → Prop} : wGNil [] s Q = Q s := propext ⟨fun h => h.2, fun h => ⟨rfl, h⟩⟩
end Dw

namespace Dw
open PySem PySem.Spec PyProof.Rows L2 OgR Evl
/-! ### calls whose arguments are data, dicts that are only read, or functions -/
def AV (K : PySem.W.Frag) (bx : Option Addr) (G H : Hp) (v : V) : DV → Prop
  | .d x => Dp K G v x
  | .dd kvs => ∃ p ks, v = .ref p ∧ Rd H p (.dT ks) ∧ bx ≠ some p ∧ Paired (fun a b => a.1 = b.1 ∧ Dp K G a.2 b.2) ks kvs
  | .oth φ => ∀ G H, φ G H v
  | _ => False
inductive AVs (K : PySem.W.Frag) (bx : Option Addr) (G H : Hp) : List V → List DV → Prop
  | nil : AVs K bx G H [] []
  | cons {v x vs xs} (h : AV K bx G H v x) (t : AVs K bx G H vs xs) : AVs K bx G H (v :: vs) (x :: xs)
section
variable {C : Ct} {K : PySem.W.Frag} {bx : Option Addr} {G H G' H' : Hp} {σ : L2.St}
theorem rd_gr {p : Addr} {o : HO} (h : Rd H p o) (n : C.bx ≠ some p) (e : Gr C H H') : Rd H' p o := by
  rcases h with h | ⟨od, h⟩
  · exact .inl (e p _ n h)
  · exact .inr ⟨od, e p _ n h⟩
theorem AV.mono {v : V} : ∀ {x : DV}, AV C.K C.bx G H v x → Ex G G' → Gr C H H' → AV C.K C.bx G' H' v x
  | .d x, h, eg, _ => dp_ex eg h
  | .dd kvs, ⟨p, ks, h1, h2, h3, h4⟩, eg, eh => ⟨p, ks, h1, rd_gr h2 h3 eh, h3, paired_mapP h4 fun a b q => ⟨q.1, dp_ex eg q.2⟩⟩
  | .oth φ, h, _, _ => h
  | .own _, h, _, _ => h.elim
  | .dic _, h, _, _ => h.elim
  | .dit _, h, _, _ => h.elim
  | .box, h, _, _ => h.elim
theorem AVs.mono {vs : List V} {xs : List DV} (h : AVs C.K C.bx G H vs xs) (eg : Ex G G') (eh : Gr C H H') : AVs C.K C.bx G' H' vs xs := by
  induction h with
  | nil => exact .nil
  | cons h _ ih => exact .cons (h.mono eg eh) ih
theorem AVs.len {vs : List V} {xs : List DV} (h : AVs K bx G H vs xs) : vs.length = xs.length := by
  induction h with
  | nil => rfl
  | cons _ _ ih => rw [List.length_cons, List.length_cons, ih]
theorem AVs.at {vs : List V} {xs : List DV} (h : AVs K bx G H vs xs) : ∀ {i : Nat} {x : DV}, xs[i]? = some x → ∃ v, vs[i]? = some v ∧ AV K bx G H v x := by
  induction h with
  | nil => intro i x e; simp at e
  | cons h _ ih =>
    intro i x e
    cases i with
    | zero => cases e; exact ⟨_, rfl, h⟩
    | succ i => rw [List.getElem?_cons_succ] at e ⊢; exact ih e
theorem AV.none {v : V} : ∀ {x : DV}, AV K bx G H v x → AV K none G H v x
  | .d x, h => h
  | .dd kvs, ⟨p, ks, h1, h2, h3, h4⟩ => ⟨p, ks, h1, h2, (fun z => nomatch z), h4⟩
  | .oth φ, h => h
  | .own _, h => h.elim
  | .dic _, h => h.elim
  | .dit _, h => h.elim
  | .box, h => h.elim
theorem AVs.none {vs : List V} {xs : List DV} (h : AVs K bx G H vs xs) : AVs K none G H vs xs := by
  induction h with
  | nil => exact .nil
  | cons h _ ih => exact .cons h.none ih
def IY (C : Ct) (t : TA) (w : WXs) : Prop := ∀ G σ H s Q Q', Rel C G σ H s → w s Q →
  (∀ vs xs s' G' H', Q xs s' → Rel C G' σ H' s' → Ex G G' → Gs C σ G H s G' H' s' → AVs C.K C.bx G' H' vs xs → Q' vs H') → t σ H Q'
structure DYs (X : Cx) (C : Ct) (es : List Expr) (t : TA) (w : WXs) : Prop where
  pa : PA X es t
  iy : IY C t w
end
section
variable {X : Cx} {C : Ct} {a b e : Expr} {es : List Expr} {pos p : Pos} {t te : TE} {w we : WE} {tr tA : TA} {wr wA : WXs} {x : Str}
theorem dy_nil : DYs X C [] tNil (fun s Q => Q [] s) := ⟨pa_nil, fun G σ H s Q Q' r q k => k [] [] s G H q r (Ex.refl G) Gs.refl .nil⟩
def wYd (w : WE) (wr : WXs) : WXs := fun s Q => w s fun d s1 => wr s1 fun xs s2 => Q (.d d :: xs) s2
theorem dy_d (h : DE X C e t w) (hr : DYs X C es tr wr) (hs : starEach (e :: es) X.env = (false, eval e X.env) :: starEach es X.env := by rfl) : DYs X C (e :: es) (tCons t tr) (wYd w wr) :=
  ⟨pa_cons h.pe hr.pa hs, fun G σ H s Q Q' r q k => h.ie G σ H s _ _ r q fun v d s1 G1 H1 q1 r1 eg1 g1 p1 => hr.iy G1 σ H1 s1 _ _ r1 q1 fun vs xs s2 G2 H2 q2 r2 eg2 g2 p2 =>
    k (v :: vs) (.d d :: xs) s2 G2 H2 q2 r2 (eg1.trans eg2) (g1.trans g2) (.cons (dp_ex eg2 p1) p2)⟩
/-- a dict that a slot holds -/
def dicAt (s : Dt) (i : Nat) (kvs : List (List Key × PyData)) : Prop := s.env[i]? = some (some (.dit kvs)) ∨ s.env[i]? = some (some (.dd kvs))
theorem dic_av {C : Ct} {G H : Hp} {σ : L2.St} {s : Dt} {i : Nat} {kvs : List (List Key × PyData)} (r : Rel C G σ H s) (h : dicAt s i kvs) : ∃ v, σ[i]? = some (some v) ∧ AV C.K C.bx G H v (.dd kvs) := by
  rcases h with h | h
  · obtain ⟨v, hv, p, ks, rfl, h1, h2, h3, h4⟩ := r.sl i _ h
    exact ⟨_, hv, p, ks, rfl, .inl h1, r.fin.nbx h2, h4⟩
  · obtain ⟨v, hv, p, ks, rfl, h1, h2⟩ := r.sl i _ h
    refine ⟨_, hv, p, ks, rfl, ?_, h1.2, h2⟩
    obtain ⟨(⟨od, h⟩ | ⟨h, _⟩), n⟩ := h1
    · exact .inr ⟨od, h⟩
    · exact .inl h
def wYdic (i : Nat) (wr : WXs) : WXs := fun s Q => ∃ kvs, dicAt s i kvs ∧ wr s fun xs s2 => Q (.dd kvs :: xs) s2
theorem dy_dic (i : Nat) (hr : DYs X C es tr wr) (hv : PE X (.Name x p) (tVar i) := by exact pv _) (hs : starEach (.Name x p :: es) X.env = (false, eval (.Name x p) X.env) :: starEach es X.env := by rfl) : DYs X C (.Name x p :: es) (tCons (tVar i) tr) (wYdic i wr) :=
  ⟨pa_cons hv hr.pa hs, fun G σ H s Q Q' r q k => by
    obtain ⟨kvs, hd, q⟩ := q
    obtain ⟨v, hv, av⟩ := dic_av r hd
    exact ⟨v, hv, hr.iy G σ H s _ _ r q fun vs xs s2 G2 H2 q2 r2 eg2 g2 p2 => k (v :: vs) (.dd kvs :: xs) s2 G2 H2 q2 r2 eg2 g2 (.cons (av.mono eg2 g2.gr) p2)⟩⟩
/-- a function that a slot holds -/
def fnV (P : Program) (wd : World) (K : PySem.W.Frag) (mg : Str → Option Value) (base : Heap) (k : Nat) (g : FP) : Hp → Hp → V → Prop := fun _ _ v => ∃ f fd ps, v = .ref f ∧ FnG P wd K mg base k f fd ps (spP K g) ∧ PySem.W.keepIn K (.ref f) = true ∧ Binds K fd ps []
def wYfn (i : Nat) (φ : Hp → Hp → V → Prop) (wr : WXs) : WXs := fun s Q => s.env[i]? = some (some (.oth φ)) ∧ wr s fun xs s2 => Q (.oth φ :: xs) s2
theorem dy_fn (i : Nat) {P : Program} {wd : World} {K : PySem.W.Frag} {mg : Str → Option Value} {base : Heap} {k : Nat} {g : FP} (hr : DYs X C es tr wr) (hv : PE X (.Name x p) (tVar i) := by exact pv _) (hs : starEach (.Name x p :: es) X.env = (false, eval (.Name x p) X.env) :: starEach es X.env := by rfl) : DYs X C (.Name x p :: es) (tCons (tVar i) tr) (wYfn i (fnV P wd K mg base k g) wr) :=
  ⟨pa_cons hv hr.pa hs, fun G σ H s Q Q' r q k => by
    obtain ⟨hd, q⟩ := q
    obtain ⟨v, hv, av⟩ := r.sl i _ hd
    exact ⟨v, hv, hr.iy G σ H s _ _ r q fun vs xs s2 G2 H2 q2 r2 eg2 g2 p2 => k (v :: vs) (.oth _ :: xs) s2 G2 H2 q2 r2 eg2 g2 (.cons (fun _ _ => av.now) p2)⟩⟩
/-- a def named -/
def wYg (φ : Hp → Hp → V → Prop) (wr : WXs) : WXs := fun s Q => wr s fun xs s2 => Q (.oth φ :: xs) s2
theorem dy_g {k : Nat} {st : Stmt} {ps : List Str} {g : FP} (D : Def X.prog X.w X.K X.mg X.base k x st ps (spP X.K g)) (hg : Gl X x) (hr : DYs X C es tr wr) (hd : (x == ("__debug__" : Str)) = false := by decide) (hs : starEach (.Name x p :: es) X.env = (false, eval (.Name x p) X.env) :: starEach es X.env := by rfl) :
    DYs X C (.Name x p :: es) (tCons (tGl X.mg x) tr) (wYg (fnV X.prog X.w X.K X.mg X.base k g) wr) := by
  obtain ⟨f, fd, G, Fn, b, m⟩ := D.ex
  refine ⟨pa_cons ⟨fun pins s σ H Q I h => (pe_glob (v := .ref f) hg m rfl hd).run pins s σ H Q I (h f m)⟩ hr.pa hs, fun G' σ H s Q Q' r q k a ha => ?_⟩
  rw [m] at ha
  cases ha
  exact hr.iy G' σ H s _ _ r q fun vs xs s2 G2 H2 q2 r2 eg2 g2 p2 => k (.ref f :: vs) (.oth _ :: xs) s2 G2 H2 q2 r2 eg2 g2 (.cons (fun _ _ => ⟨f, fd, ps, rfl, G, Fn.kp, b⟩) p2)
end
/-! the promise of such a def -/
abbrev FD := List DV → (PyData → Prop) → Prop
def spD (K : PySem.W.Frag) (F : FD) : Sp := fun vs H Q _ => ∃ G xs R, Ex G H ∧ AVs K none G H vs xs ∧ F xs R ∧
  ∀ v d G' H', R d → Ex G G' → Ex H H' → Ex G' H' → Nw G G' H → Dp K G' v d → Q v H'
def wCallD (F : FD) (wA : WXs) : WE := fun s Q => wA s fun xs s1 => F xs fun d => Q d s1
section
variable {P : Program} {wd : World} {K : PySem.W.Frag} {mg : Str → Option Value} {base : Heap}
theorem rel_av {G H : Hp} {N : List Str} {vs : List V} {xs : List DV} (gh : Ex G H) (p : AVs K none G H vs xs) : Rel ⟨K, none, H, G⟩ G (L2.start N vs) H ⟨env0 N xs, 0⟩ := by
  refine ⟨⟨gh, Ex.refl G, Nw.refl G H, Gr.refl _ H, fun l hl => nomatch hl⟩, env0_len p.len.symm, fun i x e => ?_, fun i j x y q _ e1 _ m1 => ?_⟩
  · have e' := env0_get e
    obtain ⟨v, hv, av⟩ := p.at e'
    refine ⟨v, start_get hv, ?_⟩
    cases x with
    | d x => exact av
    | dd kvs =>
      obtain ⟨p, ks, rfl, h1, h2, h3⟩ := av
      refine ⟨p, ks, rfl, ⟨?_, h2⟩, h3⟩
      rcases h1 with h1 | ⟨od, h1⟩
      · exact .inr ⟨h1, by show H p ≠ none; rw [h1]; exact Option.some_ne_none _⟩
      · exact .inl ⟨od, h1⟩
    | oth φ => exact ⟨av G H, fun G' H' _ _ => av G' H'⟩
    | own _ => exact av.elim
    | dic _ => exact av.elim
    | dit _ => exact av.elim
    | box => exact av.elim
  · have e' := env0_get e1
    obtain ⟨v, hv, av⟩ := p.at e'
    cases x with
    | d x => cases m1
    | dd kvs => cases m1
    | oth φ => cases m1
    | own _ => exact av.elim
    | dic _ => exact av.elim
    | dit _ => exact av.elim
    | box => exact av.elim
theorem Def.byD {k : Nat} {x : Str} {st : Stmt} {N ps : List Str} {F : FD} (c : Fct K mg x st ps) (S : FnScope N ps (defScope st)) (hl : ∀ xs R, F xs R → xs.length = ps.length)
    (body : ∀ (f : Addr) (cdv : Value) (A : Around) (outer : List Env) (s : Shared) (H G : Hp) (E : XK) (xs : List DV) (R : PyData → Prop), A.guards = some [] → Room k (A.deeper (envOfC x (defScope st) s.heap.objs.size f cdv)) → F xs R →
      ∃ t w, DSs (cxOf CX0 P wd K mg base N x (defScope st) f cdv A outer s H E).nox ⟨K, none, H, G⟩ (defBody st) t w ∧ w { nx := fun _ => R .none, rt := fun d _ => R d } ⟨env0 N xs, 0⟩) : Def P wd K mg base (k + 1) x st ps (spD K F) := by
  obtain ⟨f, fd, Fn, b, m⟩ := c.ex
  refine ⟨f, fd, fnG_of Fn S (fun vs H Q E h => ?_) (fun cdv A outer s H vs Q E hG hr h => ?_), Fn, b, m⟩
  · obtain ⟨G, xs, R, _, p, hF, _⟩ := h
    rw [p.len]
    exact hl xs R hF
  · obtain ⟨G, xs, R, gh, p, hF, kk⟩ := h
    obtain ⟨t, w, D, hw⟩ := body f cdv A outer s H G E xs R hG hr hF
    refine ⟨t, D.ps, D.is G (L2.start N vs) H _ _ _ (rel_av gh p) hw ⟨fun σ' H' s' G' hn r' e => ?_, fun _ _ _ _ h => h.elim, fun _ _ _ _ h => h.elim, fun v d c' G' H' hR f' e pv => ?_⟩⟩
    · exact kk .non .none G' H' hn e (fun b o hb => r'.fin.hh b o (fun z => nomatch z) hb) r'.fin.gh r'.fin.nw .non
    · exact kk v d G' H' hR e (fun b o hb => f'.hh b o (fun z => nomatch z) hb) f'.gh f'.nw pv
end
section
variable {X : Cx} {C : Ct} {e : Expr} {es : List Expr} {pos p : Pos} {tA : TA} {wA : WXs} {x : Str} {st : Stmt} {ps : List Str} {k : Nat}
theorem ie_callD {F : FD} (h : IY C tA wA) : IE C (tCall (spD C.K F) [] E0 tA) (wCallD F wA) := fun G σ H s Q Q' r q k =>
  h G σ H s _ _ r q fun vs xs s1 G1 H1 q1 r1 eg eh p => ⟨G1, xs, _, r1.fin.gh, by rw [List.append_nil]; exact p.none, q1, fun v d G2 H2 q2 eg2 eh2 gh nw pd =>
    k v d s1 G2 H2 q2 (r1.grow eg2 eh2 gh nw) (eg.trans eg2) (eh.trans (.grow eh2 nw)) pd⟩
theorem de_cD {F : FD} (D : Def X.prog X.w X.K X.mg X.base k x st ps (spD C.K F)) (hG : X.A.guards = some []) (hr : Room k X.A) (hg : Gl X x)
    (ha : DYs X C (e :: es) tA wA) (hdb : (x == ("__debug__" : Str)) = false := by decide) (he : starEach (e :: es) X.env = (false, eval e X.env) :: starEach es X.env := by rfl) (hpl : (backTo pos (starEach es X.env)).any (·.1) = false := by rfl) :
    DE X C (.Call (.Name x p) (e :: es) [] pos) (tCall (spD C.K F) [] E0 tA) (wCallD F wA) := by
  obtain ⟨f, fd, G, Fn, b, m⟩ := D.ex
  exact ⟨pe_callG G hG hr hg m Fn.kp b ha.pa hdb he hpl, ie_callD ha.iy⟩
/-! a call of a function that a slot holds -/
def tCallV (P : Program) (wd : World) (K : PySem.W.Frag) (mg : Str → Option Value) (base : Heap) (k : Nat) (g : FP) (i : Nat) (t : TA) : TE := fun σ H Q => ∃ f fd ps, σ[i]? = some (some (.ref f)) ∧ FnG P wd K mg base k f fd ps (spP K g) ∧ PySem.W.keepIn K (.ref f) = true ∧ Binds K fd ps [] ∧ t σ H fun vs H1 => spP K g vs H1 Q E0
theorem pe_callV {i : Nat} {g : FP} (hG : X.A.guards = some []) (hr : Room k X.A) (hN : X.N[i]? = some x) (hv : Vis X.env.scope x) (ha : PA X (e :: es) tA)
    (hdb : (x == ("__debug__" : Str)) = false := by decide) (hcd : (x == ("__classdict__" : Str)) = false := by decide)
    (he : starEach (e :: es) X.env = (false, eval e X.env) :: starEach es X.env := by rfl) (hpl : (backTo pos (starEach es X.env)).any (·.1) = false := by rfl) :
    PE X (.Call (.Name x p) (e :: es) [] pos) (tCallV X.prog X.w X.K X.mg X.base k g i tA) := by
  refine ⟨fun pins s σ H Q I h => ?_⟩
  obtain ⟨f, fd, ps, hs, F, hk, hb, ht⟩ := h
  refine wpAny_Call_Name_kw (thn ((pe_var (pos := p) hN hv hdb hcd).run pins s σ H (fun v H1 => v = .ref f ∧ H1 = H) I ⟨.ref f, hs, rfl, rfl⟩) fun u s1 ⟨v, H1, I1, r1, q1⟩ => ?_)
  obtain ⟨rfl, rfl⟩ := q1
  cases r1
  refine PySem.W.callWith_K (h₀ := X.base) I.ok.mod.kin hk (thn (ha.run pos pins s1 σ _ _ I1 ht) fun us s2 ⟨vs, H2, I2, r, q⟩ => ⟨I2.kIn, ?_⟩) he hpl
  have hl : us.length = ps.length := by rw [← r.length]; exact F.1 _ _ _ _ q
  have hb' := hb s2 us I2.kIn (by rw [List.append_nil]; exact hl)
  rw [List.append_nil] at hb'
  refine wpAny_call (codeAny_mono (F.2 X.A X.stack s2 H2 ⟨us, []⟩ us vs Q E0 hG hr I2.env0 hb' r q) ?_)
  rintro (e | _ | _ | _ | u) s' hq
  all_goals first
    | exact I2.after hq
    | exact False.elim hq
def wCallV (i : Nat) (φ : Hp → Hp → V → Prop) (g : FP) (wA : WA) : WE := fun s Q => s.env[i]? = some (some (.oth φ)) ∧ wA s fun ds s1 => g ds fun d => Q d s1
theorem de_callV (i : Nat) {g : FP} {tA : TA} {wA : WA} (k : Nat) {P : Program} {wd : World} {mg : Str → Option Value} {base : Heap} (hK : X.K = C.K) (hG : X.A.guards = some []) (hr : Room k X.A) (ha : DA X C (e :: es) tA wA) (hP : X.prog = P := by rfl) (hw : X.w = wd := by rfl) (hmg : X.mg = mg := by rfl) (hba : X.base = base := by rfl) (hN : X.N[i]? = some x := by rfl) (hv : Vis X.env.scope x := by first | exact Or.inl rfl | exact Or.inr (Or.inl rfl) | exact Or.inr (Or.inr rfl))
    (hdb : (x == ("__debug__" : Str)) = false := by decide) (hcd : (x == ("__classdict__" : Str)) = false := by decide)
    (he : starEach (e :: es) X.env = (false, eval e X.env) :: starEach es X.env := by rfl) (hpl : (backTo pos (starEach es X.env)).any (·.1) = false := by rfl) :
    DE X C (.Call (.Name x p) (e :: es) [] pos) (tCallV P wd C.K mg base k g i tA) (wCallV i (fnV P wd C.K mg base k g) g wA) := by
  subst hP hw hmg hba
  exact ⟨hK ▸ pe_callV hG hr hN hv ha.pa hdb hcd he hpl, fun G σ H s Q Q' r q kk => by
    obtain ⟨hd, q⟩ := q
    obtain ⟨v, hv, av⟩ := r.sl i _ hd
    obtain ⟨f, fd, ps, rfl, F, hk, hb⟩ := av.now
    exact ⟨f, fd, ps, hv, F, hk, hb, ha.ia G σ H s _ _ r q fun vs ds s1 G1 H1 q1 r1 eg eh p => ⟨G1, ds, _, r1.fin.gh, p, q1, fun v d G2 H2 q2 eg2 eh2 gh nw pd =>
      kk v d s1 G2 H2 q2 (r1.grow eg2 eh2 gh nw) (eg.trans eg2) (eh.trans (.grow eh2 nw)) pd⟩⟩⟩
end
end Dw

namespace Dw
open PySem PySem.Spec PyProof.Rows L2 OgR Evl
/-! ### {(a, b): v for target in iter}: keys that are tuples -/
section
variable {X : Cx}
/-- the store of a comprehension, keys of either kind -/
theorem dset {pins : List (Addr × Obj)} {σ : L2.St} {H H' : Hp} {s : Shared} {a : Addr} {y v : V} {u r : Value} {E : Value → Shared → Prop} {Q : Unit → Shared → Prop}
    (room : X.A.units < cLine) (I : Inv X pins σ H s) (g : DPut H a y v H') (ry : RelV y u) (rv : RelV v r) (go : ∀ s', Inv X pins σ H' s' → Q () s') : wpAny (model X.prog X.w) X.A (dictSet a u r) Q E s := by
  rcases g with ⟨kvs, k, at_, rfl, small, rfl⟩ | ⟨kvs, k, b, at_, rfl, key, small, rfl⟩
  · exact d_dictSet I at_ small ry rv go
  · obtain rfl : u = Value.ref b := ry
    obtain ⟨z, nm, xs, rel, dd⟩ := dt_of I.hok at_
    have more := length_putK kvs k v
    refine wpAny_dictSet_heap (hsz := by rw [← Paired.length rel]; exact z) room (key_of I.hok key) dd fun h' dd' same => go _ ?_
    obtain ⟨q, es, ep, c1, c2, c3, c4, _, c5⟩ := dd'
    refine d_write I (by rw [at_]; exact True.intro) same ⟨q, c1⟩ ⟨by omega, nm, _, (rel.put k key rv).keeps fun c ys ec => ?_, q, es, ep, c1, c2, c3, c4, c5⟩
    rw [upd_ne (ne_of ec at_ fun z => nomatch z)]
    exact ec
/-- the loop of the block, where the i-th item is next -/
structure Wait (Y : Cx) (σ : L2.St) (fp : List Addr) (tn : Nat → Heap → Prop) (i : Nat) (H : Hp) (s : Shared) : Prop where
  inv : Inv Y [] σ H s
  now : tn i s.heap
  out : ∀ b ∈ fp, H b = none
def tDcT (wi : TI) (g : TG) (tk tv : TE) (vs : List Nat) : TE := fun σ H Q => wi σ H fun J H1 => ∀ D, H1 D = none → ∃ W : Nat → Nat → Hp → Prop, (∃ m, W 0 m (upd H1 D (.dT []))) ∧ ∀ i m H2, W i m H2 →
  (J.stop i H2 ∧ Q (.ref D) H2) ∨ (J.go i H2 ∧ ∀ x H3, J.yld i H2 x H3 → g x (wipe σ vs) H3 fun σ4 H4 => wipe σ4 vs = wipe σ vs ∧ tk σ4 H4 fun y H5 => tv σ4 H5 fun z H6 => ∃ H7 m', DPut H6 D y z H7 ∧ m' < m ∧ W (i + 1) m' H7)
variable {s0 : Shared} {H0 : Hp} {scope : Scope} {ce : Env} {fp : List Addr} {it D : Addr} {tn : Nat → Heap → Prop} {J : It} {own : List (Str × Nat)} {σ : L2.St} {kx vx tg iter : Expr} {pos : Pos} {g : TG} {tk tv : TE} {Q : VK}
theorem Wait.fpok {i : Nat} {H : Hp} {s : Shared} {σ : L2.St} (a : Wait (X.blk s0 H0 scope ce fp) σ fp tn i H s) : ∀ b ∈ fp, FpOk (X.blk s0 H0 scope ce fp) [] H b := fun b hb =>
  ⟨a.out b hb, (a.inv.ok.exf b hb).1, a.inv.ok.exfs b hb, .inl hb, (a.inv.ok.exf b hb).2, fun p hp => nomatch (show p ∈ ([] : List (Addr × Obj)) from hp)⟩
theorem block_loop (calm : X.calm = true) (room : X.A.units < cLine) (T : Turn X.prog X.w X.K tg J fp it tn) (pg : PG (X.blk s0 H0 scope ce fp) tg g) (pk : PE (X.blk s0 H0 scope ce fp) kx tk) (pv : PE (X.blk s0 H0 scope ce fp) vx tv)
    {W : Nat → Nat → Hp → Prop} (turn : ∀ i m H2, W i m H2 → (J.stop i H2 ∧ Q (.ref D) H2) ∨ (J.go i H2 ∧ ∀ x H3, J.yld i H2 x H3 → g x (wipe σ (own.map (·.2))) H3 fun σ4 H4 => wipe σ4 (own.map (·.2)) = wipe σ (own.map (·.2)) ∧ tk σ4 H4 fun y H5 => tv σ4 H5 fun z H6 => ∃ H7 m', DPut H6 D y z H7 ∧ m' < m ∧ W (i + 1) m' H7))
    {R : Result → Shared → Prop} (last : ∀ H s, Inv (X.blk s0 H0 scope ce fp) [] (wipe σ (own.map (·.2))) H s → Q (.ref D) H → R (.ok .next) s)
    {m : Nat} {H : Hp} {s : Shared} (a : Wait (X.blk s0 H0 scope ce fp) (wipe σ (own.map (·.2))) fp tn 0 H s) (w : W 0 m H) :
    codeAny (model X.prog X.w) X.A (.compLoop (.DictComp kx vx [⟨tg, iter, [], 0⟩] scope pos) 0 (.ref it) (.ref D) ce) R s := by
  refine compLoop_anyD (fun n s' => ∃ i H', Wait (X.blk s0 H0 scope ce fp) (wipe σ (own.map (·.2))) fp tn i H' s' ∧ W i n H') (fun n s1 ⟨i, H1, a1, w1⟩ => ?_) m ⟨0, H, a, w⟩
  rcases turn i n H1 w1 with ⟨ends, fin⟩ | ⟨goes, each⟩
  · exact thnF (T.done (X.blk s0 H0 scope ce fp) rfl rfl rfl calm i [] s1 _ H1 _ a1.inv a1.fpok a1.now ends) fun r s2 ⟨no, I2⟩ => by
      subst no
      exact last H1 s2 I2 fin
  · refine thnF (T.item (X.blk s0 H0 scope ce fp) rfl rfl rfl calm i [] s1 _ H1 _ a1.inv a1.fpok a1.now goes) fun r s2 ⟨u, yes, more⟩ => ?_
    subst yes
    refine thnF more fun _ s3 ⟨x, H3, I3, rx, yd, now3, out3⟩ => ?_
    have a3 : Wait (X.blk s0 H0 scope ce fp) (wipe σ (own.map (·.2))) fp tn (i + 1) H3 s3 := ⟨I3, now3, out3⟩
    have P3 := I3.pinned a3.fpok (T.obj _ _ now3)
    refine thnF (pg.run _ s3 _ H3 x u _ P3 rx (each x H3 yd)) fun _ s4 ⟨σ4, H4, I4, same, q4⟩ => ?_
    refine wpAny_tests_nil ?_
    rw [if_pos rfl]
    refine thnF (pk.run _ s4 σ4 H4 _ I4 q4) fun ky s5 ⟨y, H5, I5, ry, q5⟩ => ?_
    refine thnF (pv.run _ s5 σ4 H5 _ I5 q5) fun vy s6 ⟨z, H6, I6, rz, H7, m', put, less, w7⟩ => ?_
    refine dset (X := X.blk s0 H0 scope ce fp) room I6 put ry rz fun s7 I7 => ⟨m', less, i + 1, H7, ?_, w7⟩
    have held : ∀ b ∈ fp, ∀ o, s3.heap.get? b = some o → s7.heap.get? b = some o ∧ H7 b = none := fun b hb o e => by
      have z := I7.pin (b, o) (List.mem_append_right _ (List.mem_append_right _ (mem_pinsAt hb e)))
      exact ⟨z.1, z.2.1⟩
    refine ⟨(I7.unpinned (pins := [])).weak (by rw [← same, wipe_length]) fun j v e => ?_, T.keep _ _ _ now3 fun b hb o e => (held b hb o e).1, fun b hb => ?_⟩
    · rw [← same] at e
      exact (wipe_some e).1
    · obtain ⟨o, e, _⟩ := T.obj _ _ now3 b hb
      exact (held b hb o e).2
/-- the whole comprehension -/
theorem pe_dcT {wi : TI} (calm : X.calm = true) (nd : X.N.Nodup) (room : X.A.units < cLine) (pi : PI X tg iter wi) (ok : BlkOk X.N X.env.scope scope own)
    (pg : ∀ s H C cl fp, PG (X.blk s H scope (compEnvC scope cl C X.env) fp) tg g) (pk : ∀ s H C cl fp, PE (X.blk s H scope (compEnvC scope cl C X.env) fp) kx tk) (pv : ∀ s H C cl fp, PE (X.blk s H scope (compEnvC scope cl C X.env) fp) vx tv)
    (fold : ∀ x, foldedSetIterable iter X.env x = pure x := by intro _; rfl) : PE X (.DictComp kx vx [⟨tg, iter, [], 0⟩] scope pos) (tDcT wi g tk tv (own.map (·.2))) := by
  refine ⟨fun pins s σ H Q I h => ?_⟩
  have clo := closure_ok (scope := scope) (env := X.env) fun y hy e => (ok.free y hy e).elim (fun k => I.ok.has _ (.inl k)) fun k => I.ok.has _ (.inr k)
  rw [arm_eval_DictComp]
  refine wpAny_comprehension_free (use := none) rfl fold clo ok.kind (fun y hy e => (ok.uniq y hy).trans (congrArg some e)) (thn (pi.run pins s σ H _ I h) fun _ _ came => thn came fun itv s2 ⟨it, fp, tn, J, H2, e, I2, T, now, far, q⟩ => ?_)
  subst e
  obtain ⟨W, ⟨m, w0⟩, turn⟩ := q s2.heap.objs.size (I2.hok.fresh (Nat.le_refl _))
  refine wpAny_newObj_type (newEnv_comp ?_)
  have I3 := I2.laid (a := s2.heap.objs.size) (o := .dT []) (t' := s2.toks) (fun b o e => Heap.get?_push_of_some { cls := .type "dict", data := .dict #[] } e) (Nat.le_refl _) (dt_empty s2.heap I2.big)
  have old : ∀ b ∈ fp, b < s2.heap.objs.size := fun b hb => let ⟨_, e, _⟩ := T.obj _ _ now b hb; Heap.lt_size e
  have grows : s2.heap.objs.size < (s2.heap.push ({ cls := .type "dict", data := .dict #[] } : Obj)).objs.size := by rw [Heap.size_push]; exact Nat.lt_succ_self _
  have far3 : ∀ b ∈ fp, FpOk X pins (upd H2 s2.heap.objs.size (.dT [])) b ∧ b < (s2.heap.push ({ cls := .type "dict", data := .dict #[] } : Obj)).objs.size := fun b hb =>
    ⟨⟨by rw [upd_ne (Nat.ne_of_lt (old b hb))]; exact (far b hb).1, (far b hb).2⟩, Nat.lt_trans (old b hb) grows⟩
  have now3 : tn 0 (s2.heap.push { cls := .type "dict", data := .dict #[] }) := T.keep _ _ _ now fun b _ o e => Heap.get?_push_of_some _ e
  generalize eH : upd H2 s2.heap.objs.size (.dT []) = H3 at I3 far3 w0
  generalize eh : s2.heap.push ({ cls := .type "dict", data := .dict #[] } : Obj) = h3 at I3 far3 now3 ⊢
  have B := block_start I3 ok nd far3
  have now4 : tn 0 (pushCells (h3.push { cls := .type "dict", data := .dict #[] }) scope.names) := T.keep _ _ _ now3 fun b _ o e => pushCells_keeps _ _ _ _ (Heap.get?_push_of_some _ e)
  have done := block_loop (iter := iter) (pos := pos) (Q := Q) calm room T (pg _ _ _ _ _) (pk _ _ _ _ _) (pv _ _ _ _ _) turn
    (R := compPost (model X.prog X.w) X.A X.xe none (EP X pins σ Q) (.ref s2.heap.objs.size) h3.objs.size) (fun H5 s5 I5 fin => ?_) ⟨B, now4, fun b hb => (far3 b hb).1.1⟩ w0
  · exact codeAny_compStart_dict done (T.self X.A 0 _ _ _ now4 done)
  · have back : Inv X pins σ H5 s5 := I3.call' (ch := fp) I5.os I5.base I5.hok I5.bare fun b hb => ⟨(far3 b hb).1.2.2.2.1, (far3 b hb).1.2.1, (far3 b hb).1.2.2.2.2.1, (far3 b hb).1.2.2.2.2.2⟩
    obtain ⟨mm, names, _⟩ := I5.loc
    obtain ⟨f0, f1, f2, f3, f4, f5⟩ := I3.fpOk (b := h3.objs.size) (H' := H5) (Nat.le_refl _) I5.free
    exact ⟨mm, names, fun h' sb => ⟨.ref s2.heap.objs.size, H5, back.turned (t' := s5.toks) (fun b o hb e => (sb.2 b hb).trans e) f0 f1 f3 f4 f5, rfl, fin⟩⟩
end
end Dw

namespace Dw
open PySem PySem.Spec PyProof.Rows L2 OgR Evl
abbrev KVs := List (List Key × PyData)
section
variable {C : Ct} {G H : Hp} {σ : L2.St} {s : Dt}
/-- an object that no slot holds, and that is no data, is changed -/
theorem Rel.upd_out (r : Rel C G σ H s) {D : Addr} {u o : HO} (gD : G D = none) (h0D : C.H0 D = none) (hD : H D = some u) (su : soft u = true) (nf : ∀ od w, u ≠ .frz od w) (ns : ∀ (i : Nat) x, s.env[i]? = some (some x) → x.mut = true → σ[i]? ≠ some (some (.ref D))) :
    Rel C G σ (upd H D o) s := by
  have nbD : C.bx ≠ some D := r.fin.nbx h0D
  have hm : ∀ b, b ≠ D → upd H D o b = H b := fun b hb => upd_ne hb
  refine ⟨⟨fun b w hb => ?_, r.fin.g0, r.fin.nw, fun b w n hb => ?_, fun l hl => ?_⟩, r.len, fun j y ej => ?_, r.dis⟩
  · rw [hm b (fun z => by rw [z, gD] at hb; cases hb)]
    exact r.fin.gh b w hb
  · rw [hm b (fun z => by rw [z, h0D] at hb; cases hb)]
    exact r.fin.hh b w n hb
  · refine ⟨(r.fin.bx l hl).1.keep fun w q => ?_, (r.fin.bx l hl).2⟩
    rw [hm l (fun z => nbD (by rw [← z]; exact hl))]
    exact q
  · obtain ⟨v', hv', rv⟩ := r.sl j y ej
    refine ⟨v', hv', ?_⟩
    cases y with
    | d _ => exact rv
    | box => exact rv
    | own ds2 =>
      obtain ⟨p2, xs2, a1, a2, a3, a4, a5⟩ := rv
      exact ⟨p2, xs2, a1, by rw [hm p2 (fun z => ns j _ ej rfl (by rw [hv', a1, z]))]; exact a2, a3, a4, a5⟩
    | dic ds2 =>
      obtain ⟨p2, xs2, a1, a2, a3, a4, a5⟩ := rv
      exact ⟨p2, xs2, a1, by rw [hm p2 (fun z => ns j _ ej rfl (by rw [hv', a1, z]))]; exact a2, a3, a4, a5⟩
    | dit ds2 =>
      obtain ⟨p2, xs2, a1, a2, a3, a4, a5⟩ := rv
      exact ⟨p2, xs2, a1, by rw [hm p2 (fun z => ns j _ ej rfl (by rw [hv', a1, z]))]; exact a2, a3, a4, a5⟩
    | oth φ => exact Oth.step (φ := φ) rv (Ex.refl G) (Kept.upd hD su)
    | dd ds2 =>
      obtain ⟨p2, xs2, a1, a2, a5⟩ := rv
      exact ⟨p2, xs2, a1, a2.upd hD h0D nf, a5⟩
end
/-! ### a new dict -/
abbrev WN := Dt → (KVs → Dt → Prop) → Prop
def IN (C : Ct) (t : TE) (w : WN) : Prop := ∀ G σ H s Q Q', Rel C G σ H s → w s Q →
  (∀ p ks kvs s' G' H', Q kvs s' → Rel C G' σ H' s' → Ex G G' → Gs C σ G H s G' H' s' → H p = none → H' p = some (.dT ks) → G' p = none → PK2 C.K G' ks kvs → (∀ (i : Nat) x, s'.env[i]? = some (some x) → x.mut = true → σ[i]? ≠ some (some (.ref p))) → Q' (.ref p) H') → t σ H Q'
structure DN (X : Cx) (C : Ct) (e : Expr) (t : TE) (w : WN) : Prop where
  pe : PE X e t
  iN : IN C t w
def DcD (ds : List PyData) (g : WG) (wA : WA) (wv : WE) (vs : List Nat) (s1 : Dt) (Q : KVs → Dt → Prop) : Prop := ∃ Inv : Nat → KVs → Int → Prop, Inv 0 [] s1.c ∧
  (∀ (i : Nat) d kvs c, ds[i]? = some d → Inv i kvs c → g d ⟨wipeD s1.env vs, c⟩ fun s2 => wA s2 fun kd s3 => kd.length ≤ 100000 ∧ wv s3 fun y s4 => s4.env = s2.env ∧ ∃ k, keysD kd = some k ∧ kvs.length < 100000 ∧ Inv (i + 1) (putG kvs k y) s4.c) ∧
  ∀ kvs c, Inv ds.length kvs c → Q kvs ⟨s1.env, c⟩
def wDcT (wI : WA) (g : WG) (wA : WA) (wv : WE) (vs : List Nat) : WN := fun s Q => wI s fun ds s1 => DcD ds g wA wv vs s1 Q
section
variable {X : Cx} {C : Ct}
theorem in_dc {wi : TI} {wI : WA} {g : TG} {ks vs : List Nat} {wg : WG} {tA : TA} {wA : WA} {tv : TE} {wv : WE} (hk : ∀ k ∈ ks, k ∈ vs) (hi : II C wi wI) (hg : IG C g ks wg) (hA : IA C tA wA) (he : IE C tv wv) : IN C (tDcT wi g (tTup tA) tv vs) (wDcT wI wg wA wv vs) := fun G σ H s Q Q' r q k =>
  hi G σ H s _ _ r q fun J ds s1 G1 H1 q1 r1 eg eh itd D hD => by
    obtain ⟨Inv, h0, hs, hd⟩ := q1
    have hHD : H D = none := by
      cases z : H D with
      | none => rfl
      | some o => exact absurd hD (eh.dom D (by rw [z]; exact Option.some_ne_none _))
    have h0D : C.H0 D = none := r.fin.h0 hHD
    have nbD : C.bx ≠ some D := r.fin.nbx h0D
    refine ⟨fun i m H' => m = ds.length - i ∧ i ≤ ds.length ∧ ∃ G' acc xs c', Ex G1 G' ∧ Rel C G' σ H' ⟨s1.env, c'⟩ ∧ Gs C σ G1 H1 s1 G' H' ⟨s1.env, c'⟩ ∧ H' D = some (.dT xs) ∧ G' D = none ∧ PK2 C.K G' xs acc ∧ Inv i acc c', ⟨ds.length, by simp, Nat.zero_le _, G1, [], [], s1.c, Ex.refl G1, r1.aside (Ex.new hD), .side (Ex.new hD), upd_same, r1.gnone hD, .nil, h0⟩, ?_⟩
    rintro i m H' ⟨rfl, hi, G', acc, xs, c', e', r', g', hHd, hGd, dacc, inv⟩
    obtain ⟨go, stop⟩ := itd G' H' e' r'.fin.gh
    by_cases hlt : i < ds.length
    · have hd1 : ds[i]? = some ds[i] := List.getElem?_eq_getElem hlt
      obtain ⟨g1, g2⟩ := go i _ hd1
      refine .inr ⟨g1, fun x H3 y => ?_⟩
      obtain ⟨G3, b1, b2, b3, b4, b5⟩ := g2 x H3 y
      have r3 := r'.grow b1 b2 b3 b4
      have gs3 : Gs C σ G' H' ⟨s1.env, c'⟩ G3 H3 ⟨s1.env, c'⟩ := .grow b2 b4
      have e3 := e'.trans b1
      have nslot : ∀ (j : Nat) y, s1.env[j]? = some (some y) → y.mut = true → σ[j]? ≠ some (some (.ref D)) := fun j y ej m => r1.notslot hD j y ej m
      have hG3 : G3 D = none := gs3.nk D hGd (by rw [hHd]; exact Option.some_ne_none _) nslot
      refine hg G3 (L2.wipe σ vs) H3 ⟨wipeD s1.env vs, c'⟩ x _ _ _ (r3.wipe vs) b5 (hs i _ acc c' hd1 inv) fun σ4 s4 q4 r4 l4 f4 => ⟨wipe_of l4 f4 hk, hA G3 σ4 H3 s4 _ _ r4 q4 fun kvs5 kd s5 G5 H5 q5 r5 eg5 gs5 pk5 => ?_⟩
      refine ⟨by rw [dpa_len pk5]; exact sz_of q5.1, fun T hT => ?_⟩
      have rT := r5.aside (Ex.new (o := .tup kvs5) hT)
      refine he G5 σ4 _ s5 _ _ rT q5.2 fun v y s6 G6 H6 q6 r6 eg6 gs6 pv => ?_
      obtain ⟨he6, kk, hk6, hl, q6⟩ := q6
      have gsT : Gs C σ4 G3 H3 s4 G5 (upd H5 T (.tup kvs5)) s5 := gs5.trans (.side (Ex.new hT))
      have gs7 := gsT.trans gs6
      have eg7 := eg5.trans eg6
      have rr := r3.back r4 r6 he6 eg7 gs7
      have hD6 : H6 D = some (.dT xs) := gs7.gr D _ nbD (b2 D _ hHd)
      have gD6 : G6 D = none := gs7.keep r4 r6 he6 hG3 (by rw [b2 D _ hHd]; exact Option.some_ne_none _)
      have nbT : C.bx ≠ some T := rT.fin.nbx (r5.fin.h0 hT)
      have hT6 : H6 T = some (.tup (kk.map kV)) := by
        rw [← keys_v pk5 hk6]
        exact gs6.gr T _ nbT upd_same
      have dacc6 := paired_mapP dacc fun a b q => (⟨q.1, dp_ex (b1.trans eg7) q.2⟩ : a.1 = b.1 ∧ Dp C.K G6 a.2 b.2)
      refine ⟨_, ds.length - (i + 1), DPut.t hD6 hT6 (sz_lt (by rw [len_pair dacc6]; exact hl)), by omega, rfl, hlt, G6, putG acc kk y, putK xs kk v, s6.c, e3.trans eg7, ?_, ?_, upd_same, gD6, put_pair kk pv dacc6, q6⟩
      · exact rr.upd_out gD6 h0D hD6 rfl (fun _ _ z => by cases z) nslot
      · have gg := g'.trans (gs3.trans (s2 := ⟨s1.env, s6.c⟩) ⟨gs7.gr, gs7.dom, fun b h1 h2 h3 => gs7.keep r4 r6 he6 h1 h2, fun i x e m => ⟨x, e, m⟩⟩)
        refine ⟨fun b o n hb => ?_, fun b hb => ?_, gg.nk, gg.ks⟩
        · rw [upd_ne (fun z => by rw [z, hD] at hb; cases hb)]
          exact gg.gr b o n hb
        · by_cases z : b = D
          · rw [z, upd_same]
            exact Option.some_ne_none _
          · rw [upd_ne z]
            exact gg.dom b hb
    · have e : i = ds.length := by omega
      subst e
      exact .inl ⟨stop, k D xs acc ⟨s1.env, c'⟩ G' H' (hd acc c' inv) r' (eg.trans e') (eh.trans g') hHD hHd hGd dacc fun j y ej m => r1.notslot hD j y ej m⟩
variable {vx tg iter : Expr} {es : List Expr} {kk : Nat} {p2 pos : Pos} {scope : Scope} {own : List (Str × Nat)} {wi : TI} {wI : WA} {g : TG} {ks : List Nat} {wg : WG} {tA : TA} {wA : WA} {tv : TE} {wv : WE}
theorem dn_dc (hc : X.calm = true) (hN : X.N.Nodup) (hu : X.A.units < cLine) (hi : DI X C tg iter wi wI) (ok : BlkOk X.N X.env.scope scope own)
    (hg : ∀ (s : Shared) (H : Hp) (A : Addr) (cl : List (Str × Addr)) (fp : List Addr), DG (X.blk s H scope (compEnvC scope cl A X.env) fp) C tg g ks wg)
    (hA : ∀ (s : Shared) (H : Hp) (A : Addr) (cl : List (Str × Addr)) (fp : List Addr), DA (X.blk s H scope (compEnvC scope cl A X.env) fp) C es tA wA)
    (he : ∀ (s : Shared) (H : Hp) (A : Addr) (cl : List (Str × Addr)) (fp : List Addr), DE (X.blk s H scope (compEnvC scope cl A X.env) fp) C vx tv wv) (hk : ∀ k ∈ ks, k ∈ own.map (·.2) := by decide) (hs : ∀ x, foldedSetIterable iter X.env x = Pure.pure x := by intro _; rfl) :
    DN X C (.DictComp (.Tuple es kk p2) vx [⟨tg, iter, [], 0⟩] scope pos) (tDcT wi g (tTup tA) tv (own.map (·.2))) (wDcT wI wg wA wv (own.map (·.2))) :=
  ⟨pe_dcT hc hN hu hi.pi ok (fun s H A cl fp => (hg s H A cl fp).pg) (fun s H A cl fp => pe_tup (hA s H A cl fp).pa) (fun s H A cl fp => (he s H A cl fp).pe) hs, in_dc hk hi.ii (hg {} (fun _ => none) 0 [] []).ig (hA {} (fun _ => none) 0 [] []).ia (he {} (fun _ => none) 0 [] []).ie⟩
end
/-! a def that returns a new dict -/
abbrev FN := List DV → (KVs → Prop) → Prop
def spN (K : PySem.W.Frag) (F : FN) : Sp := fun vs H Q _ => ∃ G xs R, Ex G H ∧ AVs K none G H vs xs ∧ F xs R ∧
  ∀ p ks kvs G' H', R kvs → Ex G G' → Ex H H' → Ex G' H' → Nw G G' H → H p = none → H' p = some (.dT ks) → G' p = none → PK2 K G' ks kvs → Q (.ref p) H'
theorem Def.newD {P : Program} {wd : World} {K : PySem.W.Frag} {mg : Str → Option Value} {base : Heap} {k : Nat} {x : Str} {st : Stmt} {N ps : List Str} {F : FN} (c : Fct K mg x st ps) (S : FnScope N ps (defScope st)) {e : Expr} {pos : Pos} (hb : defBody st = [.Return (some e) pos]) (hl : ∀ xs R, F xs R → xs.length = ps.length)
    (body : ∀ (f : Addr) (cdv : Value) (A : Around) (outer : List Env) (s : Shared) (H G : Hp) (E : XK) (xs : List DV) (R : KVs → Prop), A.guards = some [] → Room k (A.deeper (envOfC x (defScope st) s.heap.objs.size f cdv)) → F xs R →
      ∃ t w, DN (cxOf CX0 P wd K mg base N x (defScope st) f cdv A outer s H E).nox ⟨K, none, H, G⟩ e t w ∧ w ⟨env0 N xs, 0⟩ fun kvs _ => R kvs) : Def P wd K mg base (k + 1) x st ps (spN K F) := by
  obtain ⟨f, fd, Fn, b, m⟩ := c.ex
  refine ⟨f, fd, fnG_of Fn S (fun vs H Q E h => ?_) (fun cdv A outer s H vs Q E hG hr h => ?_), Fn, b, m⟩
  · obtain ⟨G, xs, R, _, p, hF, _⟩ := h
    rw [p.len]
    exact hl xs R hF
  · obtain ⟨G, xs, R, gh, p, hF, kk⟩ := h
    obtain ⟨t, w, D, hw⟩ := body f cdv A outer s H G E xs R hG hr hF
    rw [hb]
    refine ⟨_, pss_one (ps_ret D.pe), D.iN G (L2.start N vs) H _ _ _ (rel_av gh p) hw fun p ks kvs s' G' H' hR r' e g h1 h2 h3 h4 h5 => ?_⟩
    exact kk p ks kvs G' H' hR e (fun b o hb => r'.fin.hh b o (fun z => nomatch z) hb) r'.fin.gh r'.fin.nw h1 h2 h3 h4
/-- name = f(..), f a def that returns a new dict -/
def wSetN (i : Nat) (F : FN) (wA : WXs) : WS := fun DD s => wA s fun xs s1 => F xs fun kvs => DD.nx (s1.set i (.dit kvs))
section
variable {X : Cx} {C : Ct} {e : Expr} {es : List Expr} {pos p cpos py : Pos} {tA : TA} {wA : WXs} {x y : Str} {st : Stmt} {ps : List Str} {k : Nat}
theorem is_setN (i : Nat) {F : FN} (h : IY C tA wA) : IS C (tAsg (tCall (spN C.K F) [] E0 tA) (gName i)) (wSetN i F wA) := fun G σ H s D DD r q o =>
  h G σ H s _ _ r q fun vs xs s1 G1 H1 q1 r1 eg eh p => ⟨G1, xs, _, r1.fin.gh, by rw [List.append_nil]; exact p.none, q1, fun p ks kvs G2 H2 q2 eg2 eh2 gh nw h1 h2 h3 h4 => by
    have r2 := r1.grow eg2 eh2 gh nw
    exact o.nx _ _ _ G2 q2 (r2.put (x := .dit kvs) ⟨p, ks, rfl, h2, r1.fin.h0 h1, h3, h4⟩ fun _ j y p' ej m z => by cases z; exact r1.notslot h1 j y ej m) (eg.trans eg2)⟩
theorem ds_setN (i : Nat) {F : FN} (D : Def X.prog X.w X.K X.mg X.base k x st ps (spN C.K F)) (hN : X.N.Nodup) (hG : X.A.guards = some []) (hr : Room k X.A) (hg : Gl X x) (ha : DYs X C (e :: es) tA wA)
    (hi : X.N[i]? = some y := by rfl) (hx : Loc X.env.scope y := by first | exact .inl rfl | exact .inr rfl) (hs : swapsWith (.Call (.Name x p) (e :: es) [] cpos) (some (.Name y py)) pos.line X.env = Pure.pure false := by rfl)
    (hf : X.fn y = true ∨ X.env.scope.names.lookup y = some .local := by first | exact .inl rfl | exact .inr rfl | assumption)
    (hdb : (x == ("__debug__" : Str)) = false := by decide) (he : starEach (e :: es) X.env = (false, eval e X.env) :: starEach es X.env := by rfl) (hpl : (backTo cpos (starEach es X.env)).any (·.1) = false := by rfl) :
    DS X C (.Assign [.Name y py] (.Call (.Name x p) (e :: es) [] cpos) pos) (tAsg (tCall (spN C.K F) [] E0 tA) (gName i)) (wSetN i F wA) := by
  obtain ⟨f, fd, G, Fn, b, m⟩ := D.ex
  exact ⟨ps_set (i := i) hN hi hx (pe_callG G hG hr hg m Fn.kp b ha.pa hdb he hpl) (hf := hf) (hs := hs), is_setN i ha.iy⟩
/-! d.get((a, b), x) and d.get((a, b)), the dict only looked at -/
def wTGet2 (i : Nat) (wA : WA) (wf : WE) : WE := fun s Q => (∃ kvs0, dicAt s i kvs0) ∧ wA s fun kd s1 => kd.length ≤ 100000 ∧ wf s1 fun fd s2 => ∃ kvs k, dicAt s2 i kvs ∧ keysD kd = some k ∧ Q ((lookG kvs k).getD fd) s2
def wTGet1 (i : Nat) (wA : WA) : WE := fun s Q => (∃ kvs0, dicAt s i kvs0) ∧ wA s fun kd s1 => kd.length ≤ 100000 ∧ ∃ kvs k, dicAt s1 i kvs ∧ keysD kd = some k ∧ Q ((lookG kvs k).getD .none) s1
theorem de_tget2 (i : Nat) {f : Expr} {apos : Pos} {kk : Nat} {p3 : Pos} {tA : TA} {wA : WA} {tx : TE} {wx : WE} (hu : X.A.units + 1 < cLine) (hA : DA X C es tA wA) (hf : DE X C f tx wx) (hv : PE X (.Name x p) (tVar i) := by exact pv _) (m : M2 X (.Name x p) "get" apos (.Tuple es kk p3) f cpos := by exact ⟨rfl, rfl, rfl, rfl⟩) :
    DE X C (.Call (.Attribute (.Name x p) "get" apos) [.Tuple es kk p3, f] [] cpos) (tDGet2 (tVar i) (tTup tA) tx) (wTGet2 i wA wx) := ⟨pe_dget2 hu hv (pe_tup hA.pa) hf.pe m, fun G σ H s Q Q' r q k => by
  obtain ⟨⟨kvs0, e0⟩, q⟩ := q
  obtain ⟨v, hv, p, ks, rfl, a1, a2, a3⟩ := dic_av r e0
  refine ⟨_, hv, p, rfl, .inr ⟨ks, a1⟩, hA.ia G σ H s _ _ r q fun vs1 ds1 s1 G1 H1 q1 r1 eg1 g1 p1 => ⟨by rw [dpa_len p1]; exact sz_of q1.1, fun T hT => ?_⟩⟩
  refine hf.ie G1 σ _ s1 _ _ (r1.aside (Ex.new (o := .tup vs1) hT)) q1.2 fun v2 d2 s2 G2 H2 q2 r2 eg2 g2 p2 => ?_
  obtain ⟨kvs, kk, e2, hk, q2⟩ := q2
  obtain ⟨v', hv', p', ks', hp', b1, b2, b3⟩ := dic_av r2 e2
  rw [hv] at hv'
  cases hv'
  cases hp'
  have nbT : C.bx ≠ some T := r1.fin.nbx (r1.fin.h0 hT)
  have gT : Gs C σ G H s G2 H2 s2 := (g1.trans (.side (Ex.new hT))).trans g2
  have hT2 : H2 T = some (.tup (kk.map kV)) := by
    rw [← keys_v p1 hk]
    exact g2.gr T _ nbT upd_same
  refine ⟨valV ks' kk, .inr ⟨ks', kk, T, b1, rfl, hT2, rfl⟩, ?_⟩
  rcases look_pair kk b3 with ⟨z1, z2⟩ | ⟨v3, d3, z1, z2, z3⟩
  · rw [z2] at q2
    rw [z1]
    exact k _ _ s2 G2 H2 q2 r2 (eg1.trans eg2) gT p2
  · rw [z2] at q2
    rw [z1]
    exact k _ _ s2 G2 H2 q2 r2 (eg1.trans eg2) gT z3⟩
theorem de_tget1 (i : Nat) {apos : Pos} {kk : Nat} {p3 : Pos} {tA : TA} {wA : WA} (hu : X.A.units + 1 < cLine) (hA : DA X C es tA wA) (hv : PE X (.Name x p) (tVar i) := by exact pv _) (m : M1 X (.Name x p) "get" apos (.Tuple es kk p3) cpos := by exact ⟨rfl, rfl, rfl, rfl⟩) :
    DE X C (.Call (.Attribute (.Name x p) "get" apos) [.Tuple es kk p3] [] cpos) (tDGet1 (tVar i) (tTup tA)) (wTGet1 i wA) := ⟨pe_dget1 hu hv (pe_tup hA.pa) m, fun G σ H s Q Q' r q k => by
  obtain ⟨⟨kvs0, e0⟩, q⟩ := q
  obtain ⟨v, hv, p, ks, rfl, a1, a2, a3⟩ := dic_av r e0
  refine ⟨_, hv, p, rfl, .inr ⟨ks, a1⟩, hA.ia G σ H s _ _ r q fun vs1 ds1 s1 G1 H1 q1 r1 eg1 g1 p1 => ⟨by rw [dpa_len p1]; exact sz_of q1.1, fun T hT => ?_⟩⟩
  obtain ⟨_, kvs, kk, e2, hk, q2⟩ := q1
  have r2 := r1.aside (Ex.new (o := .tup vs1) hT)
  obtain ⟨v', hv', p', ks', hp', b1, b2, b3⟩ := dic_av r2 e2
  rw [hv] at hv'
  cases hv'
  cases hp'
  have gT : Gs C σ G H s G1 (upd H1 T (.tup vs1)) s1 := g1.trans (.side (Ex.new hT))
  have hT2 : (upd H1 T (.tup vs1)) T = some (.tup (kk.map kV)) := by
    rw [← keys_v p1 hk]
    exact upd_same
  refine ⟨valV ks' kk, .inr ⟨ks', kk, T, b1, rfl, hT2, rfl⟩, ?_⟩
  rcases look_pair kk b3 with ⟨z1, z2⟩ | ⟨v3, d3, z1, z2, z3⟩
  · rw [z2] at q2
    rw [z1]
    exact k _ _ s1 G1 _ q2 r2 eg1 gT .non
  · rw [z2] at q2
    rw [z1]
    exact k _ _ s1 G1 _ q2 r2 eg1 gT z3⟩
end
end Dw

namespace Dw
open PySem PySem.Spec PyProof.Rows L2 OgR Evl
section
variable {X : Cx} {C : Ct} {a b c e tg : Expr} {es : List Expr} {pos p p2 : Pos} {t ta tb tc te ty : TE} {w wa wb wc we wy : WE} {x : Str}
/-! ### range(a, b), range(a, b, -1), reversed(range(n)) -/
def wRng2 (wa wb : WE) : WA := fun s Q => wa s fun d s1 => wb s1 fun e s2 => ∃ i j : Int, d = .int i ∧ e = .int j ∧ -(2 ^ 62) ≤ i ∧ i < 2 ^ 62 ∧ -(2 ^ 62) ≤ j ∧ j < 2 ^ 62 ∧ Q (iotaD i j) s2
theorem di_rng2 (hg : Gl X "range") (hm : X.mg "range" = none) (h : DE X C a ta wa) (h2 : DE X C b tb wb) (hs : starEach [a, b] X.env = [(false, eval a X.env), (false, eval b X.env)] := by rfl) (hs2 : starEach [b] X.env = [(false, eval b X.env)] := by rfl)
    (hs3 : starEach [a, b] X.env = (false, eval a X.env) :: starEach [b] X.env := by rfl) (hs4 : starEach [b] X.env = (false, eval b X.env) :: starEach [] X.env := by rfl) :
    DI X C tg (.Call (.Name "range" p) [a, b] [] pos) (iRng2 (tCons ta (tCons tb tNil))) (wRng2 wa wb) := ⟨pi_range2 hg hm (pa_cons h.pe (pa_cons h2.pe pa_nil hs4) hs3) hs hs2, fun G σ H s Q R r q k => h.ie G σ H s _ _ r q fun v d s1 G1 H1 q1 r1 eg1 g1 p1 => h2.ie G1 σ H1 s1 _ _ r1 q1 fun v2 d2 s2 G2 H2 q2 r2 eg2 g2 p2 => by
  obtain ⟨i, j, rfl, rfl, h1, h2, h3, h4, q2⟩ := q2
  refine ⟨i, j, by rw [dp_int p1, dp_int p2], ⟨h1, h2, h3, h4⟩, ?_⟩
  exact k _ _ s2 G2 H2 q2 r2 (eg1.trans eg2) (g1.trans g2) (itd_rng (C := C) (G := G2) (a := i) (b := j))⟩
/-- i, i - 1, .., j + 1 -/
def downD (i j : Int) : List PyData := (List.range (i - j).toNat).map fun k => .int (i - (k : Nat))
theorem down_get {i j : Int} {k : Nat} {d : PyData} (h : (downD i j)[k]? = some d) : k < (i - j).toNat ∧ d = .int (i - k) := by
  unfold downD at h
  rw [List.getElem?_map] at h
  obtain ⟨n, hn, rfl⟩ := Option.map_eq_some_iff.mp h
  obtain ⟨h1, h2⟩ := List.getElem?_eq_some_iff.mp hn
  rw [List.length_range] at h1
  rw [List.getElem_range] at h2
  subst h2
  exact ⟨h1, rfl⟩
theorem down_len (i j : Int) : (downD i j).length = (i - j).toNat := by unfold downD; rw [List.length_map, List.length_range]
theorem itd_down {G : Hp} {lo j : Int} : ItD C G (Itc lo (-1) (lo - j).toNat) (downD lo j) := fun G2 H2 e1 e2 => by
  refine ⟨fun i d hd => ?_, ?_⟩
  · obtain ⟨h1, rfl⟩ := down_get hd
    refine ⟨h1, fun x H3 y => ?_⟩
    obtain ⟨rfl, rfl⟩ := y
    refine ⟨G2, Ex.refl G2, Ex.refl _, e2, Nw.refl _ _, ?_⟩
    rw [show lo + (i : Nat) * (-1 : Int) = lo - (i : Nat) by omega]
    exact .int _
  · rw [down_len]
    exact Nat.le_refl _
def wRngD (wa wb : WE) : WA := fun s Q => wa s fun d s1 => wb s1 fun e s2 => ∃ i j : Int, d = .int i ∧ e = .int j ∧ -(2 ^ 62) ≤ i ∧ i < 2 ^ 62 ∧ -(2 ^ 62) ≤ j ∧ j < 2 ^ 62 ∧ Q (downD i j) s2
theorem di_rngD {k0 : Nat} {p3 p4 : Pos} (hg : Gl X "range") (hm : X.mg "range" = none) (h : DE X C a ta wa) (h2 : DE X C b tb wb)
    (hs : starEach [a, b, .UnaryOp .USub (.Constant (.int 1) k0 p3) p4] X.env = (false, eval a X.env) :: starEach [b, .UnaryOp .USub (.Constant (.int 1) k0 p3) p4] X.env := by rfl)
    (hs2 : starEach [b, .UnaryOp .USub (.Constant (.int 1) k0 p3) p4] X.env = (false, eval b X.env) :: starEach [.UnaryOp .USub (.Constant (.int 1) k0 p3) p4] X.env := by rfl)
    (hs3 : starEach [.UnaryOp .USub (.Constant (.int 1) k0 p3) p4] X.env = (false, eval (.UnaryOp .USub (.Constant (.int 1) k0 p3) p4) X.env) :: starEach [] X.env := by rfl)
    (hpl : (backTo pos (starEach [b, .UnaryOp .USub (.Constant (.int 1) k0 p3) p4] X.env)).any (·.1) = false := by rfl) :
    DI X C tg (.Call (.Name "range" p) [a, b, .UnaryOp .USub (.Constant (.int 1) k0 p3) p4] [] pos) (iRng3 (tCons ta (tCons tb (tCons (tUn (rU fun i => .int (-i)) (tC (.int 1))) tNil)))) (wRngD wa wb) :=
  ⟨pi_range3 hg hm (pa_cons h.pe (pa_cons h2.pe (pa_cons (pe_un un_neg pe_int) pa_nil hs3) hs2) hs) hs hpl, fun G σ H s Q R r q k => h.ie G σ H s _ _ r q fun v d s1 G1 H1 q1 r1 eg1 g1 p1 => h2.ie G1 σ H1 s1 _ _ r1 q1 fun v2 d2 s2 G2 H2 q2 r2 eg2 g2 p2 => by
    obtain ⟨i, j, rfl, rfl, h1, h2, h3, h4, q2⟩ := q2
    refine ⟨1, rfl, i, j, -1, (i - j).toNat, by rw [dp_int p1, dp_int p2], RgC.neg h1 h2 h3 h4, ?_⟩
    exact k _ _ s2 G2 H2 q2 r2 (eg1.trans eg2) (g1.trans g2) itd_down⟩
def wRevR (wa : WE) : WA := fun s Q => wa s fun d s1 => ∃ j : Int, d = .int j ∧ -(2 ^ 62) ≤ j ∧ j < 2 ^ 62 ∧ Q (downD (j - 1) (-1)) s1
theorem di_revR (hg : Gl X "reversed") (hm : X.mg "reversed" = none) (hg2 : Gl X "range") (hm2 : X.mg "range" = none) (h : DE X C a ta wa) (hs : starEach [.Call (.Name "range" p2) [a] [] p] X.env = (false, eval (.Call (.Name "range" p2) [a] [] p) X.env) :: starEach [] X.env := by rfl)
    (hs2 : starEach [a] X.env = (false, eval a X.env) :: starEach [] X.env := by rfl) {p5 : Pos} :
    DI X C tg (.Call (.Name "reversed" p5) [.Call (.Name "range" p2) [a] [] p] [] pos) (iRevR (tRg1 ta)) (wRevR wa) :=
  ⟨pi_revR hg hm (prg_1 hg2 hm2 h.pe hs2) hs, fun G σ H s Q R r q k => h.ie G σ H s _ _ r q fun v d s1 G1 H1 q1 r1 eg1 g1 p1 => by
    obtain ⟨j, rfl, h1, h2, q1⟩ := q1
    refine ⟨j, dp_int p1, by decide, by decide, h1, h2, ?_⟩
    have e : (0 : Int) + (((j - 0).toNat : Nat) : Int) - 1 = (if 0 ≤ j then j - 1 else -1) := by split <;> omega
    by_cases h0 : 0 ≤ j
    · have := itd_down (C := C) (G := G1) (lo := j - 1) (j := -1)
      rw [show (j - 1 - -1).toNat = (j - 0).toNat by omega] at this
      rw [show (0 : Int) + (((j - 0).toNat : Nat) : Int) - 1 = j - 1 by omega]
      exact k _ _ s1 G1 H1 q1 r1 eg1 g1 this
    · have e2 : downD (j - 1) (-1) = [] := by unfold downD; rw [show (j - 1 - -1).toNat = 0 by omega]; rfl
      rw [e2] at q1
      refine k _ _ s1 G1 H1 q1 r1 eg1 g1 fun G2 H2 _ _ => ⟨fun i d hd => by simp at hd, ?_⟩
      show (j - 0).toNat ≤ 0
      omega⟩
/-! ### xs[::-1] of a list -/
def gRevL : PyData → Dt → (List PyData → Dt → Prop) → Prop := fun d s Q => ∃ ds, d = .list ds ∧ Q ds.reverse s
theorem do_revL {k : Nat} {p1 p3 : Pos} (hK : X.K = C.K) (ha : DP X C a ta wa) : DO X C (.Subscript a (.Slice none none (some (.UnaryOp .USub (.Constant (.int 1) k p1) p2)) p3) pos) (tRevL C.K ta) (w1O gRevL wa) := ⟨hK ▸ pe_revL ha.pe, fun G σ H s Q Q' r q k => ha.ip G σ H s _ _ r q fun v d s1 G1 H1 q1 r1 eg1 g1 pk => by
  obtain ⟨ds, rfl, q1⟩ := q1
  obtain ⟨p, xs, rfl, h1, h2⟩ := pk.seq r1.fin.gh rfl
  exact ⟨p, xs, rfl, h1, fun u hu => own_new r q1 r1 eg1 g1 (dpa_rev h2) hu k⟩⟩
/-! ### xs[i] += e, xs a list of the def's own -/
def rGetL : V → V → Hp → VK → Prop := fun o i H Q => ∃ (p : Addr) (xs : List V) (n : Nat) (v : V), o = .ref p ∧ i = .int (n : Nat) ∧ H p = some (.lst xs) ∧ xs[n]? = some v ∧ Q v H
theorem get_own : PGet X rGetL := by
  intro pins s σ H o i ov iv Q I ro ri h
  obtain ⟨p, xs, n, v, rfl, rfl, hp, hv, q⟩ := h
  cases ro
  obtain ⟨t, rfl⟩ := ri
  obtain ⟨its, r, pl, hz⟩ := I.list (show SqL X.K H p xs from .inl (.inl hp))
  obtain ⟨u, hu, rv⟩ := r.get hv
  have hn := (List.getElem?_eq_some_iff.mp hv).1
  have hl := r.length
  have h63 := line63
  refine wpAny_getItem_list pl.isList (by omega) ?_ (by rw [Int.toNat_natCast]; simpa using hu) ⟨v, H, I, rv, q⟩
  have : xs.length ≤ sizeLine := hz
  have := sizeLine_eq
  omega
def wAugIx (i : Nat) (wy we : WE) : WS := fun DD s => (∃ ds0, s.env[i]? = some (some (.own ds0))) ∧ wy s fun kd s1 => ∃ (n : Nat) (ds : List PyData) (m : Int), kd = .int n ∧ s1.env[i]? = some (some (.own ds)) ∧ ds[n]? = some (.int m) ∧ we s1 fun d s2 => ∃ (j : Int) (ds2 : List PyData), d = .int j ∧ s2.env[i]? = some (some (.own ds2)) ∧ n < ds2.length ∧ DD.nx (s2.set i (.own (ds2.set n (.int (m + j)))))
theorem ds_augIx (i : Nat) {tpos : Pos} (hy : DE X C b ty wy) (h : DE X C e te we) (hv : PE X (.Name x p) (tVar i) := by exact pv _)
    (ha : ∀ ov iv new, augStore b ov iv new = (do holding [new, ov, iv] (setItem ov iv new); release [new, ov, iv] []; Pure.pure .next) := by intros; rfl) :
    DS X C (.AugAssign (.Subscript (.Name x p) b tpos) .Add e pos) (tAugS (tVar i) ty te rGetL (ipI fun i j => i + j) rSetL) (wAugIx i wy we) := ⟨ps_augS hv hy.pe get_own h.pe ip_add set_list ha, fun G σ H s D DD r q o => by
  obtain ⟨⟨ds0, e0⟩, q⟩ := q
  obtain ⟨v0, hv0, _⟩ := r.sl i _ e0
  refine ⟨v0, hv0, hy.ie G σ H s _ _ r q fun v1 kd s1 G1 H1 q1 r1 eg1 g1 p1 => ?_⟩
  obtain ⟨n, ds, m, rfl, e1, hn, q1⟩ := q1
  obtain ⟨v3, hv3, pp, xs, rfl, a1, a2, a3, a4⟩ := r1.sl i _ e1
  rw [hv0] at hv3
  cases hv3
  obtain ⟨vm, hvm, pm⟩ := dpa_back a4 hn
  refine ⟨pp, xs, n, vm, rfl, dp_int p1, a1, hvm, h.ie G1 σ H1 s1 _ _ r1 q1 fun v2 d s2 G2 H2 q2 r2 eg2 g2 p2 => ?_⟩
  obtain ⟨j, ds2, rfl, e2, hn2, q2⟩ := q2
  obtain ⟨v4, hv4, pp', xs', hp', b1, b2, b3, b4⟩ := r2.sl i _ e2
  rw [hv0] at hv4
  cases hv4
  cases hp'
  have hl : n < xs'.length := by rw [dpa_len b4]; exact hn2
  exact ⟨m, j, dp_int pm, dp_int p2, pp, xs', n, n, rfl, dp_int p1, b1, by unfold ixN; rw [if_pos (by omega), if_pos (by omega), Int.toNat_natCast], o.nx _ _ _ G2 q2 (r2.mutl e2 hv0 (dpa_set (.int _) n b4)) (eg1.trans eg2)⟩⟩
/-! ### min(xs) of a list of ints -/
def gMinL : G1 := fun d s Q => ∃ ns : List Int, d = .list (ns.map .int) ∧ 0 < ns.length ∧ ∀ m, m ∈ ns → (∀ y ∈ ns, m ≤ y) → Q (.int m) s
theorem r1_minL : R1D C (rMin C.K) gMinL := ⟨fun G σ H s x d Q Q' r pk q k => by
  obtain ⟨ns, rfl, h0, q⟩ := q
  obtain ⟨p, xs, rfl, h1, h2⟩ := pk.seq r.fin.gh rfl
  rw [show its (PyData.list (ns.map .int)) = ns.map .int from rfl] at h2
  rw [ints_dpa h2] at h1
  exact ⟨p, ns, rfl, h1, h0, fun m hm hy => k _ _ s G H (q m hm hy) r (Ex.refl G) Gs.refl (.int m)⟩⟩
theorem de_minL (hK : X.K = C.K) (hc : X.calm = true) (hg : Gl X "min") (hm : X.mg "min" = none) (ha : DP X C a ta wa) (hs : starEach [a] X.env = (false, eval a X.env) :: starEach [] X.env := by rfl) :
    DE X C (.Call (.Name "min" p) [a] [] pos) (tCB (rMin C.K) (tCons ta tNil)) (w1 gMinL wa) := de_b1 (hK ▸ cr_min hc) r1_minL hg hm (by decide +kernel) ha (by decide) (by decide) hs
end
end Dw
namespace Dw
open PySem PySem.Spec PyProof.Rows L2 OgR Evl
theorem hu_of1 {k : Nat} {A : Around} (r : Room k A) : A.units < cLine := by have := r.un; omega
end Dw
namespace Dw
open PySem PySem.Spec PyProof.Rows L2 OgR Evl
/-! ### comprehensions over what is encoded -/
theorem lcD_enc {α : Type} {g : WG} {tt : WT} {te : WE} {vs : List Nat} {env : List (Option DV)} {c : Int} {Q : List PyData → Dt → Prop} (l : List α) (enc : α → PyData) (f : α → Option PyData) (hl : l.length ≤ 99999)
    (h : ∀ a ∈ l, ∀ (acc : List PyData) (J : List PyData → Int → Prop), acc.length < 100000 → (∀ y, f a = some y → J (acc ++ [y]) c) → (f a = none → J acc c) →
      g (enc a) ⟨wipeD env vs, c⟩ fun s2 => tt s2 fun b s3 => s3.env = s2.env ∧ if b = true then te s3 fun y s4 => s4.env = s2.env ∧ acc.length < 100000 ∧ J (acc ++ [y]) s4.c else J acc s3.c) (q : Q (l.filterMap f) ⟨env, c⟩) : LcD (l.map enc) g tt te vs ⟨env, c⟩ Q := by
  refine ⟨fun i acc c' => c' = c ∧ acc = (l.take i).filterMap f, ⟨rfl, rfl⟩, fun i d acc c' hd inv => ?_, fun acc c' inv => ?_⟩
  · obtain ⟨rfl, rfl⟩ := inv
    rw [List.getElem?_map] at hd
    obtain ⟨a, ha, rfl⟩ := Option.map_eq_some_iff.mp hd
    have hi := (List.getElem?_eq_some_iff.mp ha).1
    refine h a (List.mem_of_getElem? ha) _ (fun acc' c'' => c'' = c' ∧ acc' = (l.take (i + 1)).filterMap f) ?_ (fun y hy => ⟨rfl, ?_⟩) (fun hy => ⟨rfl, ?_⟩)
    · have := List.length_filterMap_le f (l.take i)
      rw [List.length_take] at this
      omega
    · rw [List.take_add_one, ha, List.filterMap_append]
      simp [hy]
    · rw [List.take_add_one, ha, List.filterMap_append]
      simp [hy]
  · obtain ⟨rfl, rfl⟩ := inv
    rw [List.length_map, List.take_length]
    exact q
theorem lcD_encM {α : Type} {g : WG} {te : WE} {vs : List Nat} {env : List (Option DV)} {c : Int} {Q : List PyData → Dt → Prop} (l : List α) (enc : α → PyData) (f : α → PyData) (hl : l.length ≤ 99999)
    (h : ∀ a ∈ l, ∀ (acc : List PyData) (J : List PyData → Int → Prop), acc.length < 100000 → J (acc ++ [f a]) c → g (enc a) ⟨wipeD env vs, c⟩ fun s2 => te s2 fun y s4 => s4.env = s2.env ∧ acc.length < 100000 ∧ J (acc ++ [y]) s4.c) (q : Q (l.map f) ⟨env, c⟩) : LcD (l.map enc) g (fun s Q => Q true s) te vs ⟨env, c⟩ Q := by
  refine lcD_enc l enc (fun a => some (f a)) hl (fun a ha acc J hacc h1 h0 => ?_) (by rw [List.filterMap_eq_map']; exact q)
  have := h a ha acc J hacc (h1 _ rfl)
  simpa using this
theorem sum_cast : ∀ ns : List Nat, (ns.map fun (n : Nat) => (n : Int)).sum = ((ns.sum : Nat) : Int)
  | [] => rfl
  | a :: l => by
    simp only [List.map_cons, List.sum_cons, sum_cast l]
    omega
theorem gSum_nat {ns : List Nat} {s : Dt} {Q : PyData → Dt → Prop} (h : Q (.int (ns.sum : Nat)) s) : gSum (.list (ns.map fun n => .int (n : Nat))) s Q := by
  refine ⟨ns.map fun (n : Nat) => (n : Int), ?_, ?_⟩
  · rw [List.map_map]
    rfl
  · rw [sum_cast]
    exact h
end Dw
namespace Dw
open PySem PySem.Spec PyProof.Rows L2 OgR Evl
theorem iota_nat (n : Nat) : iotaD 0 (n : Nat) = (List.range n).map fun (i : Nat) => .int (i : Nat) := by
  unfold iotaD
  rw [show ((n : Int) - 0).toNat = n by omega]
  exact List.map_congr_left fun i _ => by rw [Int.zero_add]
theorem iota_nat1 (n : Nat) : iotaD 0 ((n : Int) + 1) = (List.range (n + 1)).map fun (i : Nat) => .int (i : Nat) := by
  rw [show (n : Int) + 1 = ((n + 1 : Nat) : Int) by omega, iota_nat]
end Dw
namespace Dw
open PySem PySem.Spec PyProof.Rows L2 OgR Evl
theorem o_fdivW {X : Cx} {C : Ct} : OpD X C (binaryOp .FloorDiv) (rI CDivW fun i j => .int (i / j)) (gI CDivW fun i j => .int (i / j)) := ⟨op_fdivW, r2_I fun _ _ _ => .int _⟩
theorem cdivW {i : Int} {j : Nat} (h : 0 < j) (hb : j < 2 ^ 8000) : CDivW i (j : Nat) := wide_div (b := 8000) (by omega) (by simpa using hb) (by decide) (by decide)
end Dw
namespace Dw
open PySem PySem.Spec PyProof.Rows L2 OgR Evl
/-! ### sum(t) of a tuple of ints -/
def rSumT (K : PySem.W.Frag) : List V → Hp → VK → Prop := fun vs H Q => ∃ (a : Addr) (ns : List Int), vs = [V.ref a] ∧ SqT K H a (ns.map V.int) ∧ Q (.int ns.sum) H
theorem cr_sumT {X : Cx} (hc : X.calm = true) : CallR X (.builtin "sum") (rSumT X.K) := by
  intro pins s σ H vs us Q I r h
  obtain ⟨a, ns, rfl, hs, q⟩ := h
  obtain ⟨tv, rv, ht, _⟩ := I.tuple hs
  rw [Vals.ref1 r]
  obtain ⟨xs, e⟩ := rv.ints.allInts.items
  have hn : numsOf (intItems xs).toList = ns := by rw [← e]; exact rv.ints.numsOf
  rw [nums_intItems] at hn
  rw [e] at ht
  refine PySem.W.ktm_sumG (I.ok.hd hc) ht fun h' tk t' hk => ⟨.int _, H, I.kept hk, ⟨_, rfl⟩, ?_⟩
  rw [preSum_eq, List.take_of_length_le (by simp), hn]
  exact q
def gSumT : G1 := fun d s Q => ∃ ns : List Int, d = .tuple (ns.map .int) ∧ Q (.int ns.sum) s
theorem r1_sumT {C : Ct} : R1D C (rSumT C.K) gSumT := ⟨fun G σ H s x d Q Q' r pk q k => by
  obtain ⟨ns, rfl, q⟩ := q
  obtain ⟨p, xs, rfl, h1, h2⟩ := pk.seq r.fin.gh rfl
  rw [show its (PyData.tuple (ns.map .int)) = ns.map .int from rfl] at h2
  rw [ints_dpa h2] at h1
  exact ⟨p, ns, rfl, h1, k _ _ s G H q r (Ex.refl G) Gs.refl (.int _)⟩⟩
theorem de_sumT {X : Cx} {C : Ct} {a : Expr} {p pos : Pos} {ta : TE} {wa : WE} (hK : X.K = C.K) (hc : X.calm = true) (hg : Gl X "sum") (hm : X.mg "sum" = none) (ha : DP X C a ta wa) (hs : starEach [a] X.env = (false, eval a X.env) :: starEach [] X.env := by rfl) :
    DE X C (.Call (.Name "sum" p) [a] [] pos) (tCB (rSumT C.K) (tCons ta tNil)) (w1 gSumT wa) := de_b1 (hK ▸ cr_sumT hc) r1_sumT hg hm (by decide +kernel) ha (by decide) (by decide) hs
theorem gSumT_nat {ns : List Nat} {s : Dt} {Q : PyData → Dt → Prop} (h : Q (.int (ns.sum : Nat)) s) : gSumT (.tuple (ns.map fun n => .int (n : Nat))) s Q := by
  refine ⟨ns.map fun (n : Nat) => (n : Int), ?_, ?_⟩
  · rw [List.map_map]
    rfl
  · rw [sum_cast]
    exact h
end Dw

namespace Dw
open PySem PySem.Spec PyProof.Rows L2 OgR Evl
section
variable {C : Ct} {G H : Hp} {σ : L2.St} {s : Dt}
/-- a list of the def's own, taken for data -/
theorem Rel.pub (r : Rel C G σ H s) {i : Nat} {ds : List PyData} (e : s.env[i]? = some (some (.own ds))) :
    ∃ v G1, σ[i]? = some (some v) ∧ Rel C G1 σ H ⟨s.env.set i (some (.d (.list ds))), s.c⟩ ∧ Ex G G1 ∧ Dp C.K G1 v (.list ds) := by
  have h := ie_pub (C := C) (i := i) G σ H s (fun d s' => d = .list ds ∧ s' = ⟨s.env.set i (some (.d (.list ds))), s.c⟩)
    (fun v H' => ∃ G1, Rel C G1 σ H' ⟨s.env.set i (some (.d (.list ds))), s.c⟩ ∧ Ex G G1 ∧ Dp C.K G1 v (.list ds)) r ⟨ds, e, rfl, rfl⟩ fun v d s' G' H' q r' eg _ p => by
      obtain ⟨rfl, rfl⟩ := q
      exact ⟨G', r', eg, p⟩
  obtain ⟨v, hv, G1, h1, h2, h3⟩ := h
  exact ⟨v, G1, hv, h1, h2, h3⟩
theorem dpa_numb {K : PySem.W.Frag} {G G' : Hp} : ∀ {xs : List V} {ds : List PyData}, DpAll K G xs ds → (∀ d ∈ ds, ∃ n, d = .int n) → DpAll K G' xs ds
  | _, _, .nil, _ => .nil
  | _, _, .cons h t, q => by
    obtain ⟨n, rfl⟩ := q _ (List.mem_cons_self ..)
    rw [dp_int h]
    exact .cons (.int n) (dpa_numb t fun d hd => q d (List.mem_cons_of_mem _ hd))
/-- a new list of numbers, made while a list of the def's own is taken for data -/
def wPeekO (i : Nat) (w : WA) : WA := fun s Q => ∃ ds, s.env[i]? = some (some (.own ds)) ∧ w ⟨s.env.set i (some (.d (.list ds))), s.c⟩ fun rs s1 => (∀ r ∈ rs, ∃ n, r = .int n) ∧ Q rs ⟨s.env, s1.c⟩
theorem io_peek {t : TE} {w : WA} (i : Nat) (h : IO C t w) : IO C t (wPeekO i w) := fun G σ H s Q Q' r q k => by
  obtain ⟨ds, e, q⟩ := q
  obtain ⟨v, G1, hv, r1, eg, pd⟩ := r.pub e
  refine h G1 σ H _ _ _ r1 q fun p xs rs s2 G2 H2 q2 r2 eg2 g2 hp h1 h2 h3 h4 => ?_
  have rb : Rel C G σ H2 ⟨s.env, s2.c⟩ := r.step (Ex.refl G) g2.gr ((eg.trans eg2).trans r2.fin.gh) (Nw.refl G H) fun l hl => (r2.fin.bx l hl).1
  exact k p xs rs ⟨s.env, s2.c⟩ G H2 q2.2 rb (Ex.refl G) ⟨g2.gr, g2.dom, fun b hb _ _ => hb, fun j x ej m => ⟨x, ej, m⟩⟩ hp h1 (r.gnone hp) (dpa_numb h3 q2.1) (fun j x ej m => r.notslot hp j x ej m)
/-! x = x if c else y, then z.append(f(box, x)): y may be a list of the def's own -/
def wPick2 (i j l m : Nat) (F : FB) (wc : WT) : WS := fun DD s => wc s fun b s1 => ∃ ds, ((b = true ∧ s1.env[i]? = some (some (.d (.list ds)))) ∨ (b = false ∧ s1.env[j]? = some (some (.own ds)))) ∧ s1.env[l]? = some (some .box) ∧ i < s1.env.length ∧ ∃ fs, s1.env[m]? = some (some (.own fs)) ∧ fs.length < 100000 ∧
  F [.list ds] s1.c fun d c' => ∃ n, d = .int n ∧ DD.nx ⟨(s1.env.set i none).set m (some (.own (fs ++ [.int n]))), c'⟩
theorem is_pick2 {i j l m : Nat} {F : FB} {tc : TT} {wc : WT} (hil : i ≠ l) (him : i ≠ m) (hc : IT C tc wc) :
    IS C (tSeq (tAsg (tIf tc (tVar i) (tVar j)) (gName i)) (tDrop (tBM C.K "list" rAppend (tVar m) (tCons (tCall (spB C.K F) [] E0 (tCons (tVar l) (tCons (tVar i) tNil))) tNil)))) (wPick2 i j l m F wc) := fun G σ H s D DD r q o => by
  refine hc G σ H s _ _ r q fun b s1 G1 H1 q1 r1 eg eh => ?_
  obtain ⟨ds, hb, hl, hi0, fs, hm, hf, q1⟩ := q1
  rw [r1.len] at hi0
  obtain ⟨vl, hvl, bl, hbl, rfl⟩ := r1.sl l _ hl
  obtain ⟨vm, hvm, pm, xm, rfl, m1, m2, m3, m4⟩ := r1.sl m _ hm
  have key : ∀ v G2 c2, Dp C.K G2 v (.list ds) → Fin C G2 H1 c2 → i < σ.length → tDrop (tBM C.K "list" rAppend (tVar m) (tCons (tCall (spB C.K F) [] E0 (tCons (tVar l) (tCons (tVar i) tNil))) tNil)) D (σ.set i (some v)) H1 := fun v G2 c2 pd f2 hi => by
    have sm : (σ.set i (some v))[m]? = some (some (.ref pm)) := by rw [List.getElem?_set_ne him]; exact hvm
    have slb : (σ.set i (some v))[l]? = some (some (.ref bl)) := by rw [List.getElem?_set_ne hil]; exact hvl
    refine ⟨.ref pm, sm, .inl ⟨rfl, _, .inl (.inl m1)⟩, .ref bl, slb, v, List.getElem?_set_self hi, bl, [v], G2, [.list ds], s1.c, _, rfl, (r1.fin.bx bl hbl).1, (f2.bx bl hbl).2.1, f2.gh, .cons pd .nil, q1, fun v2 d c' G3 H3 q2 eg3 eh3 hbx gh nw pd2 => ?_⟩
    obtain ⟨n, rfl, q2⟩ := q2
    have gr : Gr C H1 H3 := fun b o hn hb => eh3 b o (fun z => hn (by rw [z]; exact hbl)) hb
    have g13 : Ex G1 H3 := fun b o hb => by
      refine eh3 b o (fun z => ?_) (r1.fin.gh b o hb)
      rw [z, (r1.fin.bx bl hbl).2.1] at hb
      cases hb
    have rb : Rel C G1 σ H3 ⟨s1.env, c'⟩ := r1.step (Ex.refl G1) gr g13 (Nw.refl G1 H1) fun l' hl' => by
      rw [hbl] at hl'
      cases hl'
      exact hbx
    have rh := rb.hole i (some v)
    have em : (⟨s1.env.set i none, c'⟩ : Dt).env[m]? = some (some (.own fs)) := by
      show (s1.env.set i none)[m]? = _
      rw [List.getElem?_set_ne him]
      exact hm
    have hpm : H3 pm = some (.lst xm) := gr pm _ (r1.fin.nbx m2) m1
    rw [dp_int pd2]
    exact ⟨pm, xm, .int n, rfl, rfl, hpm, sz_lt (by rw [dpa_len m4]; exact hf), o.nx _ _ _ G1 q2 (rh.mutl em sm (dpa_app m4 (.cons (.int n) .nil))) eg⟩
  rcases hb with ⟨rfl, hi⟩ | ⟨rfl, hj⟩
  · obtain ⟨v, hv, pv⟩ := r1.sl i _ hi
    exact iteT ⟨v, hv, key v G1 _ pv r1.fin (List.getElem?_eq_some_iff.mp hv).1⟩
  · obtain ⟨v, G2, hv, r2, eg2, pd⟩ := r1.pub hj
    exact iteF ⟨v, hv, key v G2 _ pd r2.fin hi0⟩
end
section
variable {X : Cx} {C : Ct} {a b e tg : Expr} {es : List Expr} {pos p : Pos} {t ta tb te : TE} {w wa wb we : WE} {tA : TA} {wA : WA} {x : Str} {st st1 st2 : Stmt} {sts : List Stmt} {v : TS} {w1 w2 wv : WS}
theorem dss_pick {i j l m : Nat} {F : FB} {c : Expr} {tc : TT} {wc : WT} (hc : DT X C c tc wc) (h1 : DS X C (.Assign [tg] (.IfExp c a b p) pos) (tAsg (tIf tc (tVar i) (tVar j)) (gName i)) w1)
    (h2 : DS X C st2 (tDrop (tBM C.K "list" rAppend (tVar m) (tCons (tCall (spB C.K F) [] E0 (tCons (tVar l) (tCons (tVar i) tNil))) tNil))) w2) (h3 : DSs X C sts v wv) (hil : i ≠ l := by decide) (him : i ≠ m := by decide) :
    DSs X C (.Assign [tg] (.IfExp c a b p) pos :: st2 :: sts) (tSeq (tAsg (tIf tc (tVar i) (tVar j)) (gName i)) (tSeq (tDrop (tBM C.K "list" rAppend (tVar m) (tCons (tCall (spB C.K F) [] E0 (tCons (tVar l) (tCons (tVar i) tNil))) tNil))) v)) (wSq (wPick2 i j l m F wc) wv) :=
  ⟨pss_cons h1.ps (pss_cons h2.ps h3.ps), fun G σ H s D DD r q o => is_seq (is_pick2 hil him hc.it) h3.is G σ H s D DD r q o⟩
/-- name = [.. for .. in xs], xs a list of the def's own that stays so -/
theorem ds_setLcP {elt iter : Expr} {ifs : List Expr} {scope : Scope} {own : List (Str × Nat)} {wi : TI} {wI : WA} {g : TG} {ks : List Nat} {wg : WG} {tt : TT} {wt : WT} (i j : Nat) {y : Str} {py spos : Pos} (hc : X.calm = true) (hN : X.N.Nodup) (hy : X.N[i]? = some y) (hyl : X.env.scope.names.lookup y = some .local)
    (hsw : swapsWith (.ListComp elt [⟨tg, iter, ifs, 0⟩] scope pos) (some (.Name y py)) spos.line X.env = Pure.pure true) (hi : DI X C tg iter wi wI) (ok : BlkOk X.N X.env.scope scope own)
    (hg : ∀ (s : Shared) (H : Hp) (A : Addr) (cl : List (Str × Addr)) (fp : List Addr), DG (X.blk s H scope (compEnvC scope cl A X.env) fp) C tg g ks wg)
    (ht : (∀ (s : Shared) (H : Hp) (A : Addr) (cl : List (Str × Addr)) (fp : List Addr), PTs (X.blk s H scope (compEnvC scope cl A X.env) fp) ifs tt) ∧ IT C tt wt)
    (he : ∀ (s : Shared) (H : Hp) (A : Addr) (cl : List (Str × Addr)) (fp : List Addr), DE (X.blk s H scope (compEnvC scope cl A X.env) fp) C elt te we) (hk : ∀ k ∈ ks, k ∈ own.map (·.2) := by decide) (hs : ∀ x, foldedSetIterable iter X.env x = Pure.pure x := by intro _; rfl) :
    DS X C (.Assign [.Name y py] (.ListComp elt [⟨tg, iter, ifs, 0⟩] scope pos) spos) (tAsg (tLc wi g tt te (own.map (·.2))) (gName i)) (wAsg (wPubO (wPeekO j (wLc wI wg wt we (own.map (·.2))))) (wName i)) :=
  ⟨(ds_setLc i hc hN hy hyl hsw hi ok hg ht he hk hs).ps, is_asg (ie_own (io_peek j (io_lc hk hi.ii (hg {} (fun _ => none) 0 [] []).ig ht.2 (he {} (fun _ => none) 0 [] []).ie))) (ig_name i)⟩
/-! x.remove(k) of numbers, x.extend([..]) -/
theorem dpa_mapI {K : PySem.W.Frag} {G : Hp} : ∀ {ns : List Int} {xs : List V}, DpAll K G xs (ns.map .int) → xs = ns.map .int
  | [], _, .nil => rfl
  | n :: ns, _, .cons h t => by rw [dp_int h, dpa_mapI t]; rfl
theorem dpa_ofI {K : PySem.W.Frag} {G : Hp} : ∀ (ns : List Int), DpAll K G (ns.map .int) (ns.map .int)
  | [] => .nil
  | n :: ns => .cons (.int n) (dpa_ofI ns)
theorem rem_at {k : Int} : ∀ {ns : List Int}, ns.Nodup → k ∈ ns → ∃ j : Nat, ns[j]? = some k ∧ (∀ m : Nat, m < j → ns[m]? ≠ some k) ∧ ns.eraseIdx j = ns.filter fun y => decide (y ≠ k)
  | [], _, h => by simp at h
  | n :: ns, hn, h => by
    rw [List.nodup_cons] at hn
    by_cases e : n = k
    · subst e
      refine ⟨0, rfl, fun m hm => by omega, ?_⟩
      have : ns.filter (fun z => decide (z ≠ n)) = ns := List.filter_eq_self.mpr fun z hz => decide_eq_true fun e => hn.1 (e ▸ hz)
      rw [List.filter_cons_of_neg (by simp), this]
      rfl
    · obtain ⟨j, h1, h2, h3⟩ := rem_at hn.2 ((List.mem_cons.mp h).resolve_left fun z => e z.symm)
      refine ⟨j + 1, by simpa using h1, fun m hm => ?_, by rw [List.filter_cons_of_pos (by simp [e]), List.eraseIdx_cons_succ, h3]⟩
      cases m with
      | zero => intro z; rw [List.getElem?_cons_zero] at z; exact e (Option.some.inj z)
      | succ m => rw [List.getElem?_cons_succ]; exact h2 m (by omega)
def fRem : List PyData → List PyData → (PyData → List PyData → Prop) → Prop := fun ds as Q => ∃ (ns : List Int) (k : Int), as = [.int k] ∧ ds = ns.map .int ∧ ns.Nodup ∧ k ∈ ns ∧ Q .none ((ns.filter fun y => decide (y ≠ k)).map .int)
theorem ds_remA (i : Nat) {apos cpos : Pos} (hK : X.K = C.K) (h : DE X C e t w) (hv : PE X (.Name x p) (tVar i) := by exact pv _) (hb0 : attributeBase (.Name x p) "remove" X.env (eval (.Name x p) X.env) = eval (.Name x p) X.env := by rfl)
    (hfew : ((backTo cpos (starEach [e] X.env)).all (fun x => !x.1) && (backToKw cpos (keywordEach [] X.env)).all (fun x => x.1.isSome) && decide ([e].length + ([] : List Keyword).length + (if ([] : List Keyword).isEmpty then 0 else 1) < 30)) = true := by rfl)
    (hline : (apos.endLine == cpos.line) = true := by rfl) (hst : starEach [e] X.env = (false, eval e X.env) :: starEach [] X.env := by rfl) (hpl : (backTo cpos (starEach [] X.env)).any (·.1) = false := by rfl)
    (hs : swapsWith (.Call (.Attribute (.Name x p) "remove" apos) [e] [] cpos) none pos.line X.env = Pure.pure false := by rfl) :
    DS X C (.Expr (.Call (.Attribute (.Name x p) "remove" apos) [e] [] cpos) pos) (tDrop (tBM C.K "list" rRemI (tVar i) (tCons t tNil))) (wDrop (wMeth i (wCons w fun s Q => Q [] s) fRem)) :=
  ⟨ps_expr (hK ▸ pe_bm PySem.F.plainAttrs_list PySem.F.slot_list_remove PySem.F.type_list_remove mt_remove hv (pa_cons h.pe pa_nil hst) hb0 hfew hline hst hpl) hs, is_meth (fun G H p xs vs ds as R Q' h1 h2 h3 hf k => by
    obtain ⟨ns, n, rfl, rfl, hn, hm, hf⟩ := hf
    cases h3 with
    | cons p1 p2 =>
      cases p2
      obtain ⟨j, j1, j2, j3⟩ := rem_at hn hm
      rw [dpa_mapI h2] at h1
      rw [← j3] at hf
      exact ⟨p, ns, n, j, rfl, by rw [dp_int p1], h1, j1, j2, k _ _ _ _ hf (dpa_ofI _) .non⟩) (ia_cons h.ie ia_nil)⟩
def wExt (i : Nat) (w : WA) : WS := fun DD s => (∃ ds0, s.env[i]? = some (some (.own ds0))) ∧ w s fun es s1 => ∃ ds, s1.env[i]? = some (some (.own ds)) ∧ ds.length + es.length < 100000 ∧ DD.nx (s1.set i (.own (ds ++ es)))
theorem ds_extA (i : Nat) {apos cpos : Pos} {w : WA} (hK : X.K = C.K) (h : DO X C e t w) (hv : PE X (.Name x p) (tVar i) := by exact pv _) (hb0 : attributeBase (.Name x p) "extend" X.env (eval (.Name x p) X.env) = eval (.Name x p) X.env := by rfl)
    (hfew : ((backTo cpos (starEach [e] X.env)).all (fun x => !x.1) && (backToKw cpos (keywordEach [] X.env)).all (fun x => x.1.isSome) && decide ([e].length + ([] : List Keyword).length + (if ([] : List Keyword).isEmpty then 0 else 1) < 30)) = true := by rfl)
    (hline : (apos.endLine == cpos.line) = true := by rfl) (hst : starEach [e] X.env = (false, eval e X.env) :: starEach [] X.env := by rfl) (hpl : (backTo cpos (starEach [] X.env)).any (·.1) = false := by rfl)
    (hs : swapsWith (.Call (.Attribute (.Name x p) "extend" apos) [e] [] cpos) none pos.line X.env = Pure.pure false := by rfl) :
    DS X C (.Expr (.Call (.Attribute (.Name x p) "extend" apos) [e] [] cpos) pos) (tDrop (tBM C.K "list" rExtend (tVar i) (tCons t tNil))) (wExt i w) :=
  ⟨ps_expr (hK ▸ pe_bm PySem.F.plainAttrs_list PySem.F.slot_list_extend PySem.F.type_list_extend mt_extend hv (pa_cons h.pe pa_nil hst) hb0 hfew hline hst hpl) hs, fun G σ H s D DD r q o => by
    obtain ⟨⟨ds0, e0⟩, q⟩ := q
    obtain ⟨v, hv, p, xs0, rfl, b1, b2, b3, b4⟩ := r.sl i _ e0
    refine ⟨_, hv, .inl ⟨rfl, _, .inl (.inl b1)⟩, h.io G σ H s _ _ r q fun pl xs es s1 G1 H1 q1 r1 eg g hp h1 h2 h3 h4 => ?_⟩
    obtain ⟨ds, e1, hl, q1⟩ := q1
    obtain ⟨v', hv', p', ys, hvp, a1, a2, a3, a4⟩ := r1.sl i _ e1
    rw [hv] at hv'
    cases hv'
    cases hvp
    exact ⟨p, pl, ys, xs, rfl, rfl, a1, h1, Nat.le_of_lt (sz_lt (by rw [dpa_len a4, dpa_len h3]; exact hl)), o.nx σ _ _ G1 q1 (r1.mutl e1 hv (dpa_app a4 h3)) eg⟩⟩
end
end Dw

namespace Dw
open PySem PySem.Spec PyProof.Rows L2 OgR Evl
/-! ### sorted of a list whose items are all alike -/
def leA (a b : PyData) : Bool := !PySem.W.dataLt b a
def srtA (ds : List PyData) : List PyData := ds.mergeSort leA
structure SrtOk (ds : List PyData) : Prop where
  al : PySem.W.AllAlike ds
  so : PySem.W.Sortable ds
  dp : ∀ d ∈ ds, d.depth ≤ 60
def rSrtA (K : PySem.W.Frag) : List V → Hp → VK → Prop := fun vs H Q => ∃ (a : Addr) (xs : List V) (ds : List PyData), vs = [.ref a] ∧ SqB K false H a xs ∧ DpAll K H xs ds ∧ SrtOk ds ∧ ∀ ys p, (∀ G, DpAll K G xs ds → DpAll K G ys (srtA ds)) → H p = none → Q (.ref p) (upd H p (.lst ys))
theorem cr_srtA {X : Cx} (hu : X.A.units + 64 < cLine) : CallR X (.builtin "sorted") (rSrtA X.K) := by
  intro pins s σ H vs us Q I r h
  obtain ⟨a, xs, ds, rfl, hs, hd, ok, q⟩ := h
  obtain ⟨its, rv, pt, hz⟩ := I.list hs
  rw [Vals.ref1 r]
  have er : PySem.W.EachIs (fun u d => ∃ as, Reads s.heap u d as) its ds := (each_of (P := fun x d => Dp X.K H x d) rv hd fun j x d e1 e2 => by
    obtain ⟨d', e3, p⟩ := dpa_get hd e1
    rw [e2] at e3
    cases e3
    exact p).mono fun u d ⟨x, rx, px⟩ => Dp.reads I d x u px rx
  have ee : PySem.W.EachIs (fun u d => ∃ x, RelV x u ∧ ∀ G, DpAll X.K G xs ds → Dp X.K G x d) its ds := each_of rv hd fun j x d e1 e2 G hG => by
    obtain ⟨d', e3, p⟩ := dpa_get hG e1
    rw [e2] at e3
    cases e3
    exact p
  have hl : its.length = ds.length := er.length
  have hL : ds.length ≤ sizeLine := by rw [← hl, ← rv.length]; exact hz
  refine PySem.W.sorted_data (enc := fun d => d) pt.isList ee er (by rw [List.map_id']; exact ok.al) (by rw [List.map_id']; exact ok.so) hL (fun d hd => by have := ok.dp d hd; show _ + d.depth < _; omega) (fun out ho es => ?_)
  have es : PySem.W.EachIs (fun u d => ∃ x, RelV x u ∧ ∀ G, DpAll X.K G xs ds → Dp X.K G x d) out (srtA ds) := es
  obtain ⟨ys, y1, y2⟩ := each_back es
  obtain ⟨n, hn⟩ := sortedAll_at s.heap its out.toArray
  refine ⟨.ref (s.heap.objs.size + 1), upd H (s.heap.objs.size + 1) (.lst ys), I.laid (t' := s.toks) (fun _ _ => sortedAll_old) (Nat.le_succ _) ⟨?_, _, n, y1, hn⟩, rfl, q ys _ (fun G hG => pair_dpa (fun x d p => p G hG) y2) (I.hok.fresh (Nat.le_succ _))⟩
  rw [y1.length, ho]
  exact hL
section
variable {X : Cx} {C : Ct} {a b e : Expr} {pos p : Pos} {t ta tb : TE} {w wa wb : WE}
def gSrtA : PyData → Dt → (List PyData → Dt → Prop) → Prop := fun d s Q => ∃ ds, d = .list ds ∧ SrtOk ds ∧ Q (srtA ds) s
theorem r1_srtA : R1O C (rSrtA C.K) gSrtA := ⟨fun G σ H s x d Q Q' r pk q k => by
  obtain ⟨ds, rfl, ok, q⟩ := q
  obtain ⟨p, xs, rfl, h1, h2⟩ := pk.seq r.fin.gh rfl
  exact ⟨p, xs, ds, rfl, h1, dpa_ex r.fin.gh h2, ok, fun ys l hy hl => k ys _ l q (hy G h2) hl⟩⟩
theorem do_srtA (hK : X.K = C.K) (hu : X.A.units + 64 < cLine) (hg : Gl X "sorted") (hm : X.mg "sorted" = none) (ha : DP X C a ta wa) (hs : starEach [a] X.env = (false, eval a X.env) :: starEach [] X.env := by rfl) :
    DO X C (.Call (.Name "sorted" p) [a] [] pos) (tCB (rSrtA C.K) (tCons ta tNil)) (w1O gSrtA wa) := do_b1 (hK ▸ cr_srtA hu) r1_srtA hg hm (by decide +kernel) ha (by decide) (by decide) hs
end
/-! what sorting gives, told by a list that rises -/
theorem lt_irr (a : PyData) : PySem.W.dataLt a a = false := lex_irrefl ..
theorem lt_asy {a b : PyData} (h : PySem.W.dataLt a b = true) : PySem.W.dataLt b a = false := by
  cases e : PySem.W.dataLt b a with
  | false => rfl
  | true =>
    have := lex_trans _ _ _ h e
    rw [lex_irrefl] at this
    cases this
theorem leA_total : PySem.W.TotalLe leA := PySem.W.sortLe_total (listOrd itemOrd) false PySem.W.keyToks
theorem pw_mem {α : Type} {R : α → α → Prop} : ∀ {l : List α}, l.Pairwise R → ∀ a ∈ l, ∀ b ∈ l, a = b ∨ R a b ∨ R b a
  | [], _, a, ha, _, _ => by simp at ha
  | c :: l, h, a, ha, b, hb => by
    rw [List.pairwise_cons] at h
    rcases List.mem_cons.mp ha with rfl | ha
    · rcases List.mem_cons.mp hb with rfl | hb
      · exact .inl rfl
      · exact .inr (.inl (h.1 b hb))
    · rcases List.mem_cons.mp hb with e | hb
      · exact .inr (.inr (by rw [e]; exact h.1 a ha))
      · exact pw_mem h.2 a ha b hb
theorem srtA_eq {l ds : List PyData} (hp : ds.Perm l) (hl : l.Pairwise fun a b => PySem.W.dataLt a b = true) : srtA ds = l := by
  have h1 : (srtA ds).Pairwise fun a b => leA a b = true := PySem.W.sort_pairwise leA_total ds
  have h2 : (srtA ds).Perm l := (List.mergeSort_perm ds leA).trans hp
  refine List.Perm.eq_of_pairwise (fun a b ha hb h3 h4 => ?_) h1 (hl.imp fun {a b} h => ?_) h2
  · rcases pw_mem hl a (h2.mem_iff.mp ha) b hb with h | h | h
    · exact h
    · unfold leA at h4
      rw [h] at h4
      cases h4
    · unfold leA at h3
      rw [h] at h3
      cases h3
  · show (!PySem.W.dataLt b a) = true
    rw [lt_asy h]
    rfl
end Dw

namespace Dw
open PySem PySem.Spec PyProof.Rows L2 OgR Evl
/-! ### len(set(x)), x a tuple of ints -/
def gLenSet : G1 := fun d s Q => ∃ ns : List Int, d = .tuple (ns.map .int) ∧ ns.length ≤ 1000 ∧ ∀ c : Nat, c ≤ ns.length → (c = ns.length ↔ ns.Nodup) → Q (.int (c : Nat)) s
theorem de_lenSet {X : Cx} {C : Ct} {a : Expr} {ta : TE} {wa : WE} {p p2 q pos : Pos} (hK : X.K = C.K) (hc : X.calm = true) (hg : Gl X "len") (hm : X.mg "len" = none) (hg2 : Gl X "set") (hm2 : X.mg "set" = none) (ha : DP X C a ta wa)
    (hs : starEach [a] X.env = (false, eval a X.env) :: starEach [] X.env := by rfl) : DE X C (.Call (.Name "len" p) [.Call (.Name "set" p2) [a] [] q] [] pos) (tLenSetN X.K ta) (w1 gLenSet wa) :=
  ⟨pe_lenSetN hc hg hm hg2 hm2 ha.pe hs, fun G σ H s Q Q' rr h k => ha.ip G σ H s _ _ rr h fun v d s1 G1 H1 h1 r1 eg eh pk => by
    obtain ⟨ns, rfl, hl, h2⟩ := h1
    obtain ⟨p, xs, rfl, e1, e2⟩ := pk.seq r1.fin.gh rfl
    rw [show its (PyData.tuple (ns.map .int)) = ns.map .int from rfl] at e2
    rw [ints_dpa e2] at e1
    exact ⟨p, ns, rfl, hK ▸ e1, hl, fun c c1 c2 => k _ _ s1 G1 H1 (h2 c c1 c2) r1 eg eh (.int _)⟩⟩
/-! ### not x, x anything -/
def wNotT (w : WE) : WE := fun s Q => w s fun d s1 => ∃ k, truD d = some k ∧ Q (.bool (!k)) s1
theorem de_notT {X : Cx} {C : Ct} {a : Expr} {t : TE} {w : WE} {pos : Pos} (hK : X.K = C.K) (h : DP X C a t w) (he : ∀ whole, isTrue a X.env whole = (do let v ← whole; standAt a.pos; holding [v] (truthy v)) := by intro _; rfl) : DE X C (.UnaryOp .Not a pos) (tNotT X.K t) (wNotT w) :=
  ⟨pe_notT h.pe, fun G σ H s Q Q' r q k => hK ▸ (dt_tru hK h he).it G σ H s (fun b s1 => Q (.bool (!b)) s1) (fun b H1 => Q' (.bl (!b)) H1) r q fun b s1 G1 H1 q1 r1 eg eh => k _ _ s1 G1 H1 q1 r1 eg eh (.bl _)⟩
end Dw

namespace Dw
open PySem PySem.Spec PyProof.Rows L2 OgR Evl
/-- a piece of data compared with itself -/
theorem neS {w k : Nat} {d : PyData} (h : Bd w k d) {A B : Prop} (b : B) (hk : k ≤ 60 := by decide) : Shp d ∧ Shp d ∧ if d.eqv d = false then A else B :=
  ⟨h.shp (by omega), h.shp (by omega), (if_neg (by rw [h.rf]; decide)).mpr b⟩
theorem eqS {w k : Nat} {d : PyData} (h : Bd w k d) {A B : Prop} (a : A) (hk : k ≤ 60 := by decide) : Shp d ∧ Shp d ∧ if d.eqv d = true then A else B :=
  ⟨h.shp (by omega), h.shp (by omega), (if_pos h.rf).mpr a⟩
theorem valS {w k : Nat} {d : PyData} (h : Bd w k d) {A : PyData → Prop} (a : A (.bool true)) (hk : k ≤ 60 := by decide) : Shp d ∧ Shp d ∧ A (.bool (d.eqv d)) :=
  ⟨h.shp (by omega), h.shp (by omega), by rw [h.rf]; exact a⟩
end Dw

namespace OgM
/-! ### runs of plots as segments: (s, n) is s, s + 1, .., s + n -/
abbrev Seg := Int × Nat
def Ok : Int → List Seg → Prop
  | _, [] => True
  | lo, x :: r => lo < x.1 ∧ Ok (x.1 + x.2 + 1) r
def Mem (p : Int) (g : List Seg) : Prop := ∃ x ∈ g, x.1 ≤ p ∧ p ≤ x.1 + x.2
theorem mem_cons {p : Int} {x : Seg} {g : List Seg} : Mem p (x :: g) ↔ (x.1 ≤ p ∧ p ≤ x.1 + x.2) ∨ Mem p g := by
  simp [Mem]
theorem mem_nil {p : Int} : ¬ Mem p [] := by simp [Mem]
theorem ok_lt : ∀ {g : List Seg} {lo p : Int}, Ok lo g → Mem p g → lo < p
  | [], _, _, _, h => absurd h mem_nil
  | x :: r, lo, p, h, m => by
    rcases mem_cons.mp m with m | m
    · have := h.1; omega
    · have := ok_lt h.2 m; have := h.1; omega
theorem ok_mono : ∀ {g : List Seg} {lo lo' : Int}, lo' ≤ lo → Ok lo g → Ok lo' g
  | [], _, _, _, _ => trivial
  | x :: r, lo, lo', h, k => ⟨by have := k.1; omega, k.2⟩
/-- one more plot -/
def add (p : Int) : List Seg → List Seg
  | [] => [(p, 0)]
  | (s, n) :: r =>
    if p < s - 1 then (p, 0) :: (s, n) :: r
    else if p = s - 1 then (p, n + 1) :: r
    else if p = s + n + 1 then
      match r with
      | [] => [(s, n + 1)]
      | (s', n') :: r' => if s' = p + 1 then (s, n + n' + 2) :: r' else (s, n + 1) :: (s', n') :: r'
    else (s, n) :: add p r
theorem ok_add : ∀ {g : List Seg} {lo p : Int}, Ok lo g → ¬ Mem p g → lo < p → Ok lo (add p g)
  | [], lo, p, _, _, h => ⟨h, trivial⟩
  | (s, n) :: r, lo, p, k, nm, h => by
    have k1 : lo < s := k.1
    have k2 : Ok (s + n + 1) r := k.2
    have nm1 : ¬ (s ≤ p ∧ p ≤ s + n) := fun e => nm (mem_cons.mpr (.inl e))
    have nm2 : ¬ Mem p r := fun e => nm (mem_cons.mpr (.inr e))
    unfold add
    split
    · exact ⟨h, by show p + ((0 : Nat) : Int) + 1 < s; omega, k2⟩
    · split
      · refine ⟨h, ?_⟩
        refine ok_mono ?_ k2
        show p + ((n + 1 : Nat) : Int) + 1 ≤ _
        omega
      · split
        · cases r with
          | nil => exact ⟨k1, trivial⟩
          | cons y r' =>
            obtain ⟨s', n'⟩ := y
            have k3 : s + n + 1 < s' := k2.1
            have k4 : Ok (s' + n' + 1) r' := k2.2
            show Ok lo (if s' = p + 1 then (s, n + n' + 2) :: r' else (s, n + 1) :: (s', n') :: r')
            split
            · refine ⟨k1, ok_mono ?_ k4⟩
              show s + ((n + n' + 2 : Nat) : Int) + 1 ≤ _
              omega
            · refine ⟨k1, ?_, k4⟩
              show s + ((n + 1 : Nat) : Int) + 1 < s'
              omega
        · exact ⟨k1, ok_add k2 nm2 (by show s + (n : Int) + 1 < p; omega)⟩
theorem mem_add : ∀ {g : List Seg} {lo p q : Int}, Ok lo g → (Mem q (add p g) ↔ q = p ∨ Mem q g)
  | [], lo, p, q, _ => by
    show Mem q [(p, 0)] ↔ _
    rw [mem_cons]
    simp only [mem_nil, or_false]
    constructor
    · intro h; have : p ≤ q ∧ q ≤ p + ((0 : Nat) : Int) := h; omega
    · intro h; exact ⟨by show p ≤ q; omega, by show q ≤ p + ((0 : Nat) : Int); omega⟩
  | (s, n) :: r, lo, p, q, k => by
    have k2 : Ok (s + n + 1) r := k.2
    unfold add
    split
    · rw [mem_cons]
      constructor
      · rintro (h | h)
        · have : p ≤ q ∧ q ≤ p + ((0 : Nat) : Int) := h
          exact .inl (by omega)
        · exact .inr h
      · rintro (h | h)
        · exact .inl ⟨by show p ≤ q; omega, by show q ≤ p + ((0 : Nat) : Int); omega⟩
        · exact .inr h
    · split
      · rename_i h1 h2
        rw [mem_cons, mem_cons]
        constructor
        · rintro (h | h)
          · have : p ≤ q ∧ q ≤ p + ((n + 1 : Nat) : Int) := h
            by_cases e : q = p
            · exact .inl e
            · exact .inr (.inl ⟨by show s ≤ q; omega, by show q ≤ s + (n : Int); omega⟩)
          · exact .inr (.inr h)
        · rintro (h | h | h)
          · exact .inl ⟨by show p ≤ q; omega, by show q ≤ p + ((n + 1 : Nat) : Int); omega⟩
          · have : s ≤ q ∧ q ≤ s + (n : Int) := h
            exact .inl ⟨by show p ≤ q; omega, by show q ≤ p + ((n + 1 : Nat) : Int); omega⟩
          · exact .inr h
      · split
        · rename_i h1 h2 h3
          cases r with
          | nil =>
            show Mem q [(s, n + 1)] ↔ _
            rw [mem_cons, mem_cons]
            constructor
            · rintro (h | h)
              · have : s ≤ q ∧ q ≤ s + ((n + 1 : Nat) : Int) := h
                by_cases e : q = p
                · exact .inl e
                · exact .inr (.inl ⟨by show s ≤ q; omega, by show q ≤ s + (n : Int); omega⟩)
              · exact .inr (.inr h)
            · rintro (h | h | h)
              · exact .inl ⟨by show s ≤ q; omega, by show q ≤ s + ((n + 1 : Nat) : Int); omega⟩
              · have : s ≤ q ∧ q ≤ s + (n : Int) := h
                exact .inl ⟨by show s ≤ q; omega, by show q ≤ s + ((n + 1 : Nat) : Int); omega⟩
              · exact .inr h
          | cons y r' =>
            obtain ⟨s', n'⟩ := y
            show Mem q (if s' = p + 1 then (s, n + n' + 2) :: r' else (s, n + 1) :: (s', n') :: r') ↔ _
            split
            · rename_i h4
              rw [mem_cons, mem_cons, mem_cons]
              constructor
              · rintro (h | h)
                · have : s ≤ q ∧ q ≤ s + ((n + n' + 2 : Nat) : Int) := h
                  by_cases e : q = p
                  · exact .inl e
                  · by_cases e2 : q < p
                    · exact .inr (.inl ⟨by show s ≤ q; omega, by show q ≤ s + (n : Int); omega⟩)
                    · exact .inr (.inr (.inl ⟨by show s' ≤ q; omega, by show q ≤ s' + (n' : Int); omega⟩))
                · exact .inr (.inr (.inr h))
              · rintro (h | h | h | h)
                · exact .inl ⟨by show s ≤ q; omega, by show q ≤ s + ((n + n' + 2 : Nat) : Int); omega⟩
                · have : s ≤ q ∧ q ≤ s + (n : Int) := h
                  exact .inl ⟨by show s ≤ q; omega, by show q ≤ s + ((n + n' + 2 : Nat) : Int); omega⟩
                · have : s' ≤ q ∧ q ≤ s' + (n' : Int) := h
                  exact .inl ⟨by show s ≤ q; omega, by show q ≤ s + ((n + n' + 2 : Nat) : Int); omega⟩
                · exact .inr h
            · rw [mem_cons (x := (s, n + 1)), mem_cons (x := (s, n))]
              constructor
              · rintro (h | h)
                · have : s ≤ q ∧ q ≤ s + ((n + 1 : Nat) : Int) := h
                  by_cases e : q = p
                  · exact .inl e
                  · exact .inr (.inl ⟨by show s ≤ q; omega, by show q ≤ s + (n : Int); omega⟩)
                · exact .inr (.inr h)
              · rintro (h | h | h)
                · exact .inl ⟨by show s ≤ q; omega, by show q ≤ s + ((n + 1 : Nat) : Int); omega⟩
                · have : s ≤ q ∧ q ≤ s + (n : Int) := h
                  exact .inl ⟨by show s ≤ q; omega, by show q ≤ s + ((n + 1 : Nat) : Int); omega⟩
                · exact .inr h
        · rw [mem_cons, mem_cons, mem_add k2]
          constructor
          · rintro (h | h | h)
            · exact .inr (.inl h)
            · exact .inl h
            · exact .inr (.inr h)
          · rintro (h | h | h)
            · exact .inr (.inl h)
            · exact .inl h
            · exact .inr (.inr h)
/-- segments are told by their members -/
theorem ok_ext : ∀ {g g' : List Seg} {lo lo' : Int}, Ok lo g → Ok lo' g' → (∀ q, Mem q g ↔ Mem q g') → g = g'
  | [], [], _, _, _, _, _ => rfl
  | [], (s, n) :: r, _, _, _, _, h => absurd ((h s).mpr (mem_cons.mpr (.inl ⟨Int.le_refl _, by show s ≤ s + (n : Int); omega⟩))) mem_nil
  | (s, n) :: r, [], _, _, _, _, h => absurd ((h s).mp (mem_cons.mpr (.inl ⟨Int.le_refl _, by show s ≤ s + (n : Int); omega⟩))) mem_nil
  | (s, n) :: r, (s', n') :: r', lo, lo', k, k', h => by
    have k2 : Ok (s + n + 1) r := k.2
    have k2' : Ok (s' + n' + 1) r' := k'.2
    have in1 : ∀ q, s ≤ q → q ≤ s + n → Mem q ((s', n') :: r') := fun q a b => (h q).mp (mem_cons.mpr (.inl ⟨a, b⟩))
    have in2 : ∀ q, s' ≤ q → q ≤ s' + n' → Mem q ((s, n) :: r) := fun q a b => (h q).mpr (mem_cons.mpr (.inl ⟨a, b⟩))
    have lo1 : ∀ {q}, Mem q ((s', n') :: r') → s' ≤ q := fun {q} m => by
      rcases mem_cons.mp m with m | m
      · exact m.1
      · have := ok_lt k2' m; omega
    have lo2 : ∀ {q}, Mem q ((s, n) :: r) → s ≤ q := fun {q} m => by
      rcases mem_cons.mp m with m | m
      · exact m.1
      · have := ok_lt k2 m; omega
    have es : s = s' := by
      have a := lo1 (in1 s (Int.le_refl _) (by omega))
      have b := lo2 (in2 s' (Int.le_refl _) (by omega))
      omega
    subst es
    have en : n = n' := by
      by_cases e1 : n < n'
      · have m := in2 (s + n + 1) (by omega) (by omega)
        rcases mem_cons.mp m with m | m
        · have := m.2; simp only at this; omega
        · have := ok_lt k2 m; omega
      · by_cases e2 : n' < n
        · have m := in1 (s + n' + 1) (by omega) (by omega)
          rcases mem_cons.mp m with m | m
          · have := m.2; simp only at this; omega
          · have := ok_lt k2' m; omega
        · omega
    subst en
    have er : r = r' := ok_ext k2 k2' fun q => by
      constructor
      · intro m
        have lt := ok_lt k2 m
        rcases mem_cons.mp ((h q).mp (mem_cons.mpr (.inr m))) with a | a
        · have := a.2; simp only at this; omega
        · exact a
      · intro m
        have lt := ok_lt k2' m
        rcases mem_cons.mp ((h q).mpr (mem_cons.mpr (.inr m))) with a | a
        · have := a.2; simp only at this; omega
        · exact a
    rw [er]
/-- the segments of a list of plots -/
def segs : List Int → List Seg := List.foldl (fun g p => add p g) []
theorem segs_snoc (l : List Int) (p : Int) : segs (l ++ [p]) = add p (segs l) := by
  unfold segs
  rw [List.foldl_append]
  rfl
theorem lower : ∀ l : List Int, ∃ lo : Int, ∀ p ∈ l, lo < p
  | [] => ⟨0, fun p h => absurd h (by simp)⟩
  | x :: r => by
    obtain ⟨lo, h⟩ := lower r
    refine ⟨min lo (x - 1), fun p hp => ?_⟩
    rcases List.mem_cons.mp hp with e | hp
    · subst e; omega
    · have := h p hp; omega
theorem snoc_ind {α : Type} {P : List α → Prop} (h0 : P []) (h1 : ∀ l x, P l → P (l ++ [x])) (l : List α) : P l := by
  have h : ∀ l : List α, P l.reverse := fun l => by
    induction l with
    | nil => exact h0
    | cons x r ih =>
      rw [List.reverse_cons]
      exact h1 _ _ ih
  have := h l.reverse
  rwa [List.reverse_reverse] at this
theorem segs_ok : ∀ {l : List Int} {lo : Int}, l.Nodup → (∀ p ∈ l, lo < p) → Ok lo (segs l) ∧ ∀ q, Mem q (segs l) ↔ q ∈ l := by
  intro l
  induction l using snoc_ind with
  | h0 => exact fun _ _ => ⟨trivial, fun q => by simp [segs, Mem]⟩
  | h1 l p ih => 
    intro lo hn hl
    have hn' : l.Nodup ∧ p ∉ l := by
      rw [List.nodup_append] at hn
      exact ⟨hn.1, fun h => hn.2.2 p h p (by simp) rfl⟩
    obtain ⟨a, b⟩ := ih hn'.1 fun q hq => hl q (by simp [hq])
    rw [segs_snoc]
    refine ⟨ok_add a (fun m => hn'.2 ((b p).mp m)) (hl p (by simp)), fun q => ?_⟩
    rw [mem_add a, b q]
    simp [or_comm]
theorem segs_eq {l l' : List Int} (h : l.Nodup) (h' : l'.Nodup) (e : ∀ q, q ∈ l ↔ q ∈ l') : segs l = segs l' := by
  obtain ⟨lo, hl⟩ := lower l
  obtain ⟨lo', hl'⟩ := lower l'
  obtain ⟨a, b⟩ := segs_ok h hl
  obtain ⟨a', b'⟩ := segs_ok h' hl'
  exact ok_ext a a' fun q => by rw [b q, b' q, e q]
end OgM

namespace OgM
inductive Wd where
  | new | beside | between
  deriving DecidableEq
def Wd.step : Wd → Int
  | .new => 1
  | .beside => 0
  | .between => -1
abbrev Ch := Wd × Nat
def shift : Ch → Ch
  | (.new, k) => (.new, k + 1)
  | (.beside, k) => (.beside, k + 2)
  | (.between, k) => (.between, k + 1)
def pick (p : Int) : List Seg → Ch
  | [] => (.new, 0)
  | (s, n) :: r =>
    if p < s - 1 then (.new, 0)
    else if p = s - 1 then (.beside, 0)
    else if p = s + n + 1 then
      match r with
      | [] => (.beside, 1)
      | (s', _) :: _ => if s' = p + 1 then (.between, 0) else (.beside, 1)
    else shift (pick p r)
theorem shift_word (c : Ch) : (shift c).1 = c.1 := by
  obtain ⟨w, k⟩ := c
  cases w <;> rfl
/-- the four places of a new plot beside the first segment -/
theorem places {P : Prop} {s : Int} {n : Nat} {p : Int} {r : List Seg} (nm : ¬ (s ≤ p ∧ p ≤ s + n)) (h1 : p < s - 1 → P) (h2 : p = s - 1 → P) (h3 : p = s + n + 1 → P) (h4 : s + n + 1 < p → P) : P := by
  by_cases e1 : p < s - 1
  · exact h1 e1
  · by_cases e2 : p = s - 1
    · exact h2 e2
    · by_cases e3 : p = s + n + 1
      · exact h3 e3
      · exact h4 (by omega)
theorem pick_1 {p s : Int} {n : Nat} {r : List Seg} (h : p < s - 1) : pick p ((s, n) :: r) = (.new, 0) ∧ add p ((s, n) :: r) = (p, 0) :: (s, n) :: r := by
  unfold pick add
  rw [if_pos h, if_pos h]
  exact ⟨rfl, rfl⟩
theorem pick_2 {p s : Int} {n : Nat} {r : List Seg} (h : p = s - 1) : pick p ((s, n) :: r) = (.beside, 0) ∧ add p ((s, n) :: r) = (p, n + 1) :: r := by
  unfold pick add
  rw [if_neg (by omega), if_pos h, if_neg (by omega), if_pos h]
  exact ⟨rfl, rfl⟩
theorem pick_30 {p s : Int} {n : Nat} (h : p = s + n + 1) : pick p [(s, n)] = (.beside, 1) ∧ add p [(s, n)] = [(s, n + 1)] := by
  unfold pick add
  rw [if_neg (by omega), if_neg (by omega), if_pos h, if_neg (by omega), if_neg (by omega), if_pos h]
  exact ⟨rfl, rfl⟩
theorem pick_31 {p s s' : Int} {n n' : Nat} {r : List Seg} (h : p = s + n + 1) (h' : s' = p + 1) : pick p ((s, n) :: (s', n') :: r) = (.between, 0) ∧ add p ((s, n) :: (s', n') :: r) = (s, n + n' + 2) :: r := by
  unfold pick add
  rw [if_neg (by omega), if_neg (by omega), if_pos h, if_neg (by omega), if_neg (by omega), if_pos h]
  show (if s' = p + 1 then (Wd.between, 0) else (Wd.beside, 1)) = _ ∧ (if s' = p + 1 then (s, n + n' + 2) :: r else (s, n + 1) :: (s', n') :: r) = _
  rw [if_pos h', if_pos h']
  exact ⟨rfl, rfl⟩
theorem pick_32 {p s s' : Int} {n n' : Nat} {r : List Seg} (h : p = s + n + 1) (h' : s' ≠ p + 1) : pick p ((s, n) :: (s', n') :: r) = (.beside, 1) ∧ add p ((s, n) :: (s', n') :: r) = (s, n + 1) :: (s', n') :: r := by
  unfold pick add
  rw [if_neg (by omega), if_neg (by omega), if_pos h, if_neg (by omega), if_neg (by omega), if_pos h]
  show (if s' = p + 1 then (Wd.between, 0) else (Wd.beside, 1)) = _ ∧ (if s' = p + 1 then (s, n + n' + 2) :: r else (s, n + 1) :: (s', n') :: r) = _
  rw [if_neg h', if_neg h']
  exact ⟨rfl, rfl⟩
theorem pick_4 {p s : Int} {n : Nat} {r : List Seg} (h : s + n + 1 < p) : pick p ((s, n) :: r) = shift (pick p r) ∧ add p ((s, n) :: r) = (s, n) :: add p r := by
  constructor
  · conv => lhs; unfold pick
    rw [if_neg (by omega), if_neg (by omega), if_neg (by omega)]
  · conv => lhs; unfold add
    rw [if_neg (by omega), if_neg (by omega), if_neg (by omega)]
/-- a way through: the six cases at the first segment -/
theorem way {C : List Seg → Prop} {p : Int} (h0 : C []) (h1 : ∀ (s : Int) (n : Nat) (r : List Seg), p < s - 1 → Ok (s + n + 1) r → C ((s, n) :: r)) (h2 : ∀ (s : Int) (n : Nat) (r : List Seg), p = s - 1 → Ok (s + n + 1) r → C ((s, n) :: r))
    (h30 : ∀ (s : Int) (n : Nat), p = s + n + 1 → C [(s, n)]) (h31 : ∀ (s : Int) (n : Nat) (s' : Int) (n' : Nat) (r : List Seg), p = s + n + 1 → s' = p + 1 → Ok (s' + n' + 1) r → C ((s, n) :: (s', n') :: r))
    (h32 : ∀ (s : Int) (n : Nat) (s' : Int) (n' : Nat) (r : List Seg), p = s + n + 1 → p + 1 < s' → Ok (s' + n' + 1) r → C ((s, n) :: (s', n') :: r))
    (h4 : ∀ (s : Int) (n : Nat) (r : List Seg), s + n + 1 < p → Ok (s + n + 1) r → ¬ Mem p r → C r → C ((s, n) :: r)) : ∀ {g : List Seg} {lo : Int}, Ok lo g → ¬ Mem p g → C g
  | [], _, _, _ => h0
  | (s, n) :: r, lo, k, nm => by
    have k2 : Ok (s + n + 1) r := k.2
    have nm1 : ¬ (s ≤ p ∧ p ≤ s + n) := fun e => nm (mem_cons.mpr (.inl e))
    have nm2 : ¬ Mem p r := fun e => nm (mem_cons.mpr (.inr e))
    refine places (r := r) nm1 (fun e => h1 s n r e k2) (fun e => h2 s n r e k2) (fun e => ?_) (fun e => h4 s n r e k2 nm2 (way h0 h1 h2 h30 h31 h32 h4 k2 nm2))
    cases r with
    | nil => exact h30 s n e
    | cons y r' =>
      obtain ⟨s', n'⟩ := y
      have k3 : s + n + 1 < s' := k2.1
      by_cases e' : s' = p + 1
      · exact h31 s n s' n' r' e e' k2.2
      · exact h32 s n s' n' r' e (by omega) k2.2
def left (p : Int) (g : List Seg) : Nat := (g.filter fun x => decide (x.1 + x.2 < p)).length
theorem left_0 : ∀ {g : List Seg} {lo p : Int}, Ok lo g → p ≤ lo + 1 → left p g = 0
  | [], _, _, _, _ => rfl
  | (s, n) :: r, lo, p, k, h => by
    have k1 : lo < s := k.1
    have k2 : Ok (s + n + 1) r := k.2
    unfold left
    rw [List.filter_cons, if_neg (by simp; omega)]
    exact left_0 k2 (by omega)
theorem left_yes {p s : Int} {n : Nat} {r : List Seg} (h : s + n < p) : left p ((s, n) :: r) = left p r + 1 := by
  unfold left
  rw [List.filter_cons, if_pos (by simp; omega)]
  rfl
theorem left_no {p s : Int} {n : Nat} {r : List Seg} (h : ¬ s + n < p) : left p ((s, n) :: r) = left p r := by
  unfold left
  rw [List.filter_cons, if_neg (by simp; omega)]
theorem nmem {g : List Seg} {lo p : Int} (k : Ok lo g) (h : p ≤ lo) : ¬ Mem p g := fun m => by
  have := ok_lt k m
  omega
/-- what a choice says -/
structure Says (p : Int) (g : List Seg) (c : Ch) : Prop where
  new : c.1 = .new ↔ ¬ Mem (p - 1) g ∧ ¬ Mem (p + 1) g
  btw : c.1 = .between ↔ Mem (p - 1) g ∧ Mem (p + 1) g
  n1 : c.1 = .new → c.2 = left p g ∧ c.2 ≤ g.length
  n2 : c.1 = .between → c.2 + 1 = left p g ∧ c.2 + 1 < g.length
  n3 : c.1 = .beside → Mem (p - 1) g → c.2 + 1 = 2 * left p g ∧ c.2 < 2 * g.length
  n4 : c.1 = .beside → ¬ Mem (p - 1) g → c.2 = 2 * left p g ∧ c.2 < 2 * g.length
  len : ((add p g).length : Int) = g.length + c.1.step
theorem says {g : List Seg} {lo p : Int} (k : Ok lo g) (nm : ¬ Mem p g) : Says p g (pick p g) := by
  refine way (C := fun g => Says p g (pick p g)) ?_ ?_ ?_ ?_ ?_ ?_ ?_ k nm
  · refine ⟨?_, ?_, ?_, ?_, ?_, ?_, rfl⟩
    · simp [pick, mem_nil]
    · simp [pick, mem_nil]
    · simp [pick, left]
    · simp [pick]
    · simp [pick]
    · simp [pick]
  · intro s n r h kr
    rw [(pick_1 h).1]
    have a1 : ¬ Mem (p - 1) ((s, n) :: r) := fun m => by
      rcases mem_cons.mp m with m | m
      · have := m.1; simp only at this; omega
      · have := ok_lt kr m; omega
    have a2 : ¬ Mem (p + 1) ((s, n) :: r) := fun m => by
      rcases mem_cons.mp m with m | m
      · have := m.1; simp only at this; omega
      · have := ok_lt kr m; omega
    refine ⟨by simp [a1, a2], by simp [a1], fun _ => ⟨?_, Nat.zero_le _⟩, by simp, by simp, by simp, ?_⟩
    · rw [left_no (by omega), left_0 kr (by omega)]
    · rw [(pick_1 h).2]
      simp [Wd.step]
  · intro s n r h kr
    rw [(pick_2 h).1]
    have a1 : ¬ Mem (p - 1) ((s, n) :: r) := fun m => by
      rcases mem_cons.mp m with m | m
      · have := m.1; simp only at this; omega
      · have := ok_lt kr m; omega
    have a2 : Mem (p + 1) ((s, n) :: r) := mem_cons.mpr (.inl ⟨by show s ≤ p + 1; omega, by show p + 1 ≤ s + (n : Int); omega⟩)
    refine ⟨by simp [a2], by simp [a1], by simp, by simp, fun _ m => absurd m a1, fun _ _ => ⟨?_, by simp⟩, ?_⟩
    · rw [left_no (by omega), left_0 kr (by omega)]
    · rw [(pick_2 h).2]
      simp [Wd.step]
  · intro s n h
    rw [(pick_30 h).1]
    have a1 : Mem (p - 1) [(s, n)] := mem_cons.mpr (.inl ⟨by show s ≤ p - 1; omega, by show p - 1 ≤ s + (n : Int); omega⟩)
    have a2 : ¬ Mem (p + 1) [(s, n)] := fun m => by
      rcases mem_cons.mp m with m | m
      · have := m.2; simp only at this; omega
      · exact mem_nil m
    refine ⟨by simp [a1], by simp [a2], by simp, by simp, fun _ _ => ⟨?_, by simp⟩, fun _ m => absurd a1 m, ?_⟩
    · rw [left_yes (by omega)]
      rfl
    · rw [(pick_30 h).2]
      simp [Wd.step]
  · intro s n s' n' r h h' kr
    rw [(pick_31 h h').1]
    have a1 : Mem (p - 1) ((s, n) :: (s', n') :: r) := mem_cons.mpr (.inl ⟨by show s ≤ p - 1; omega, by show p - 1 ≤ s + (n : Int); omega⟩)
    have a2 : Mem (p + 1) ((s, n) :: (s', n') :: r) := mem_cons.mpr (.inr (mem_cons.mpr (.inl ⟨by show s' ≤ p + 1; omega, by show p + 1 ≤ s' + (n' : Int); omega⟩)))
    refine ⟨by simp [a1], by simp [a1, a2], by simp, fun _ => ⟨?_, by simp⟩, by simp, by simp, ?_⟩
    · rw [left_yes (by omega), left_no (by omega), left_0 kr (by omega)]
    · rw [(pick_31 h h').2]
      simp [Wd.step]
      omega
  · intro s n s' n' r h h' kr
    rw [(pick_32 h (by omega)).1]
    have a1 : Mem (p - 1) ((s, n) :: (s', n') :: r) := mem_cons.mpr (.inl ⟨by show s ≤ p - 1; omega, by show p - 1 ≤ s + (n : Int); omega⟩)
    have a2 : ¬ Mem (p + 1) ((s, n) :: (s', n') :: r) := fun m => by
      rcases mem_cons.mp m with m | m
      · have := m.2; simp only at this; omega
      · rcases mem_cons.mp m with m | m
        · have := m.1; simp only at this; omega
        · have := ok_lt kr m; omega
    refine ⟨by simp [a1], by simp [a2], by simp, by simp, fun _ _ => ⟨?_, by simp; omega⟩, fun _ m => absurd a1 m, ?_⟩
    · rw [left_yes (by omega), left_no (by omega), left_0 kr (by omega)]
    · rw [(pick_32 h (by omega)).2]
      simp [Wd.step]
  · intro s n r h kr nmr ih
    rw [(pick_4 h).1]
    have b1 : Mem (p - 1) ((s, n) :: r) ↔ Mem (p - 1) r := by
      rw [mem_cons]
      exact ⟨fun m => m.elim (fun m => by have := m.2; simp only at this; omega) id, .inr⟩
    have b2 : Mem (p + 1) ((s, n) :: r) ↔ Mem (p + 1) r := by
      rw [mem_cons]
      exact ⟨fun m => m.elim (fun m => by have := m.2; simp only at this; omega) id, .inr⟩
    have bl : left p ((s, n) :: r) = left p r + 1 := left_yes (by omega)
    have ad := (pick_4 (r := r) h).2
    have hl := ih.len
    generalize hc : pick p r = c at ih
    obtain ⟨w, m⟩ := c
    have e1 := ih.new
    have e2 := ih.btw
    have e3 := ih.n1
    have e4 := ih.n2
    have e5 := ih.n3
    have e6 := ih.n4
    have e7 := ih.len
    have hlen : ((add p ((s, n) :: r)).length : Int) = ((s, n) :: r).length + w.step := by
      rw [ad, List.length_cons, List.length_cons]
      have : ((add p r).length : Int) = r.length + w.step := e7
      omega
    have hw : (shift (w, m)).1 = w := shift_word _
    refine ⟨?_, ?_, ?_, ?_, ?_, ?_, ?_⟩
    · rw [hw, b1, b2]; exact e1
    · rw [hw, b1, b2]; exact e2
    · intro e
      rw [hw] at e
      subst e
      obtain ⟨f1, f2⟩ := e3 rfl
      rw [bl, List.length_cons]
      exact ⟨by show m + 1 = _; simp only at f1; omega, by show m + 1 ≤ _; simp only at f2; omega⟩
    · intro e
      rw [hw] at e
      subst e
      obtain ⟨f1, f2⟩ := e4 rfl
      rw [bl, List.length_cons]
      exact ⟨by show m + 1 + 1 = _; simp only at f1; omega, by show m + 1 + 1 < _; simp only at f2; omega⟩
    · intro e z
      rw [hw] at e
      subst e
      obtain ⟨f1, f2⟩ := e5 rfl (b1.mp z)
      rw [bl, List.length_cons]
      exact ⟨by show m + 2 + 1 = _; simp only at f1; omega, by show m + 2 < _; simp only at f2; omega⟩
    · intro e z
      rw [hw] at e
      subst e
      obtain ⟨f1, f2⟩ := e6 rfl (fun q => z (b1.mpr q))
      rw [bl, List.length_cons]
      exact ⟨by show m + 2 = _; simp only at f1; omega, by show m + 2 < _; simp only at f2; omega⟩
    · rw [hw]; exact hlen
end OgM

namespace OgM
/-! ### runs, from a rising list -/
def runStep (g : List Seg) (p : Int) : List Seg :=
  match g.getLast? with
  | none => [(p, 0)]
  | some (s, n) => if s + n = p - 1 then g.dropLast ++ [(s, n + 1)] else g ++ [(p, 0)]
theorem add_last : ∀ {g : List Seg} {lo p : Int}, Ok lo g → (∀ q, Mem q g → q < p) → add p g = runStep g p
  | [], _, _, _, _ => rfl
  | [(s, n)], lo, p, k, h => by
    have e : s + n < p := h _ (mem_cons.mpr (.inl ⟨by show s ≤ s + (n : Int); omega, Int.le_refl _⟩))
    show add p [(s, n)] = if s + n = p - 1 then [] ++ [(s, n + 1)] else [(s, n)] ++ [(p, 0)]
    by_cases e2 : s + n = p - 1
    · rw [if_pos e2, (pick_30 (by omega)).2]
      rfl
    · rw [if_neg e2, (pick_4 (by omega)).2]
      rfl
  | (s, n) :: y :: r, lo, p, k, h => by
    have k2 : Ok (s + n + 1) (y :: r) := k.2
    have e : y.1 + y.2 < p := h _ (mem_cons.mpr (.inr (mem_cons.mpr (.inl ⟨by show y.1 ≤ y.1 + (y.2 : Int); omega, Int.le_refl _⟩))))
    have k3 : s + n + 1 < y.1 := k2.1
    rw [(pick_4 (by omega)).2, add_last k2 fun q m => h q (mem_cons.mpr (.inr m))]
    unfold runStep
    rw [List.getLast?_cons_cons]
    have ed : ((s, n) :: y :: r).dropLast = (s, n) :: (y :: r).dropLast := rfl
    rw [ed]
    split
    · rename_i e0
      exact absurd (List.getLast?_eq_none_iff.mp e0) (by simp)
    · split <;> rfl
theorem segs_rise {l : List Int} {p : Int} (h : l.Pairwise (· < ·)) (hp : ∀ q ∈ l, q < p) : segs (l ++ [p]) = runStep (segs l) p := by
  have nd : l.Nodup := h.imp fun {a b} (x : a < b) => Int.ne_of_lt x
  obtain ⟨lo, hl⟩ := lower l
  obtain ⟨a, b⟩ := segs_ok nd hl
  rw [segs_snoc]
  exact add_last a fun q m => hp q ((b q).mp m)
/-! ### the plots of a segment -/
def sgi (x : Seg) : List Int := (List.range (x.2 + 1)).map fun (i : Nat) => x.1 + (i : Int)
theorem sgi_snoc (s : Int) (n : Nat) : sgi (s, n) ++ [s + n + 1] = sgi (s, n + 1) := by
  unfold sgi
  show _ = (List.range (n + 1 + 1)).map _
  rw [List.range_succ (n := n + 1), List.map_append]
  simp
  omega
theorem sgi_cons (s : Int) (n : Nat) : s :: sgi (s + 1, n) = sgi (s, n + 1) := by
  unfold sgi
  show _ = (List.range (n + 1 + 1)).map _
  rw [List.range_succ_eq_map (n := n + 1), List.map_cons, List.map_map]
  congr 1
  · simp
  · refine List.map_congr_left fun a _ => ?_
    show s + 1 + (a : Int) = s + ((a + 1 : Nat) : Int)
    omega
theorem sgi_join (s : Int) (n n' : Nat) : sgi (s, n) ++ [s + n + 1] ++ sgi (s + n + 2, n') = sgi (s, n + n' + 2) := by
  induction n' with
  | zero =>
    rw [sgi_snoc]
    have : sgi (s + n + 2, 0) = [s + ((n + 1 : Nat) : Int) + 1] := by
      unfold sgi
      simp
      omega
    rw [this, sgi_snoc]
  | succ k ih =>
    rw [← sgi_snoc, ← List.append_assoc, ih]
    have : s + n + 2 + k + 1 = s + ((n + k + 2 : Nat) : Int) + 1 := by omega
    rw [this, sgi_snoc]
    rfl
theorem sgi_len (x : Seg) : (sgi x).length = x.2 + 1 := by simp [sgi]
theorem sgi_last (x : Seg) : (sgi x).getLast? = some (x.1 + x.2) := by
  unfold sgi
  rw [List.range_succ, List.map_append]
  simp
theorem sgi_head (x : Seg) : (sgi x).head? = some x.1 := by
  unfold sgi
  rw [List.range_succ_eq_map, List.map_cons]
  simp
theorem sgi_get {x : Seg} {i : Nat} (h : i ≤ x.2) : (sgi x)[i]? = some (x.1 + i) := by
  unfold sgi
  rw [List.getElem?_map, List.getElem?_range (by omega)]
  rfl
/-! ### the houses' times in their groups -/
def applyC (t : Nat) (c : Ch) (st : List (List Nat)) : List (List Nat) :=
  match c.1 with
  | .new => st.take c.2 ++ [[t]] ++ st.drop c.2
  | .between => st.take c.2 ++ [(st.getD c.2 []) ++ [t] ++ (st.getD (c.2 + 1) [])] ++ st.drop (c.2 + 2)
  | .beside => if c.2 % 2 = 0 then st.set (c.2 / 2) (t :: st.getD (c.2 / 2) []) else st.set (c.2 / 2) (st.getD (c.2 / 2) [] ++ [t])
theorem applyC_shift (t : Nat) (c : Ch) (a : List Nat) (st : List (List Nat)) : applyC t (shift c) (a :: st) = a :: applyC t c st := by
  obtain ⟨w, k⟩ := c
  cases w with
  | new => simp [applyC, shift]
  | between =>
    show (a :: st).take (k + 1) ++ [((a :: st).getD (k + 1) []) ++ [t] ++ ((a :: st).getD (k + 1 + 1) [])] ++ (a :: st).drop (k + 1 + 2) = _
    simp [applyC]
  | beside =>
    show (if (k + 2) % 2 = 0 then (a :: st).set ((k + 2) / 2) (t :: (a :: st).getD ((k + 2) / 2) []) else (a :: st).set ((k + 2) / 2) ((a :: st).getD ((k + 2) / 2) [] ++ [t])) = a :: (if k % 2 = 0 then st.set (k / 2) (t :: st.getD (k / 2) []) else st.set (k / 2) (st.getD (k / 2) [] ++ [t]))
    have e1 : (k + 2) / 2 = k / 2 + 1 := by omega
    have e2 : (k + 2) % 2 = k % 2 := by omega
    rw [e1, e2]
    split <;> simp
/-- st are the times of the segments g, told by f -/
def Told (f : Nat → Int) (st : List (List Nat)) (g : List Seg) : Prop := st.map (·.map f) = g.map sgi
theorem told_cons {f : Nat → Int} {st : List (List Nat)} {x : Seg} {g : List Seg} (h : Told f st (x :: g)) : ∃ a st', st = a :: st' ∧ a.map f = sgi x ∧ Told f st' g := by
  cases st with
  | nil => exact absurd h (by simp [Told])
  | cons a st' =>
    have q : a.map f :: st'.map (·.map f) = sgi x :: g.map sgi := h
    injection q with q1 q2
    exact ⟨a, st', rfl, q1, q2⟩
theorem told_add {f : Nat → Int} {t : Nat} {p : Int} (ft : f t = p) {g : List Seg} {lo : Int} (k : Ok lo g) (nm : ¬ Mem p g) :
    ∀ st, Told f st g → Told f (applyC t (pick p g) st) (add p g) ∧ ∀ x, x ∈ (applyC t (pick p g) st).flatten ↔ x = t ∨ x ∈ st.flatten := by
  refine way (C := fun g => ∀ st, Told f st g → Told f (applyC t (pick p g) st) (add p g) ∧ ∀ x, x ∈ (applyC t (pick p g) st).flatten ↔ x = t ∨ x ∈ st.flatten) ?_ ?_ ?_ ?_ ?_ ?_ ?_ k nm
  · intro st h
    have e : st = [] := by simpa [Told] using h
    subst e
    refine ⟨?_, fun x => by simp [applyC, pick]⟩
    simp [Told, applyC, pick, add, sgi, ft]
  · intro s n r h kr st ht
    rw [(pick_1 h).1, (pick_1 h).2]
    refine ⟨?_, fun x => by simp [applyC]⟩
    show ([[t]] ++ st).map (·.map f) = _
    rw [List.map_append, ht]
    simp [sgi, ft]
  · intro s n r h kr st ht
    rw [(pick_2 h).1, (pick_2 h).2]
    obtain ⟨a, st', rfl, ha, ht'⟩ := told_cons ht
    refine ⟨?_, fun x => by simp [applyC, or_assoc]⟩
    show (t :: a).map f :: st'.map (·.map f) = sgi (p, n + 1) :: r.map sgi
    rw [ht', List.map_cons, ha, ft, ← sgi_cons]
    have : p + 1 = s := by omega
    rw [this]
  · intro s n h st ht
    rw [(pick_30 h).1, (pick_30 h).2]
    obtain ⟨a, st', rfl, ha, ht'⟩ := told_cons ht
    refine ⟨?_, fun x => by simp [applyC, or_assoc, or_left_comm]⟩
    show (a ++ [t]).map f :: st'.map (·.map f) = sgi (s, n + 1) :: [].map sgi
    rw [ht', List.map_append, ha, ← sgi_snoc]
    simp [ft, h]
  · intro s n s' n' r h h' kr st ht
    rw [(pick_31 h h').1, (pick_31 h h').2]
    obtain ⟨a, st', rfl, ha, ht'⟩ := told_cons ht
    obtain ⟨b, st'', rfl, hb, ht''⟩ := told_cons ht'
    refine ⟨?_, fun x => by simp [applyC, or_assoc, or_left_comm]⟩
    show (a ++ [t] ++ b).map f :: st''.map (·.map f) = sgi (s, n + n' + 2) :: r.map sgi
    rw [ht'', List.map_append, List.map_append, ha, hb, ← sgi_join]
    have : s' = s + n + 2 := by omega
    simp [ft, h, this]
  · intro s n s' n' r h h' kr st ht
    rw [(pick_32 h (by omega)).1, (pick_32 h (by omega)).2]
    obtain ⟨a, st', rfl, ha, ht'⟩ := told_cons ht
    refine ⟨?_, fun x => by simp [applyC, or_assoc, or_left_comm]⟩
    show (a ++ [t]).map f :: st'.map (·.map f) = sgi (s, n + 1) :: ((s', n') :: r).map sgi
    rw [ht', List.map_append, ha, ← sgi_snoc]
    simp [ft, h]
  · intro s n r h kr nmr ih st ht
    rw [(pick_4 h).1, (pick_4 h).2]
    obtain ⟨a, st', rfl, ha, ht'⟩ := told_cons ht
    obtain ⟨i1, i2⟩ := ih st' ht'
    rw [applyC_shift]
    refine ⟨?_, fun x => ?_⟩
    · show a.map f :: (applyC t (pick p r) st').map (·.map f) = sgi (s, n) :: (add p r).map sgi
      rw [ha, i1]
    · rw [List.flatten_cons, List.flatten_cons, List.mem_append, List.mem_append, i2 x, or_left_comm]
end OgM

namespace OgM
/-! ### the empty plots between the segments -/
def holesI : Int → List Seg → List Int
  | _, [] => []
  | b, x :: r => (x.1 - b) :: holesI (x.1 + x.2 + 1) r
def endB : Int → List Seg → Int
  | b, [] => b
  | _, x :: r => endB (x.1 + x.2 + 1) r
def holes (count : Int) (g : List Seg) : List Int := holesI 0 g ++ [count - endB 0 g]
theorem holesI_snoc : ∀ (b : Int) (g : List Seg) (x : Seg), holesI b (g ++ [x]) = holesI b g ++ [x.1 - endB b g]
  | b, [], x => rfl
  | b, y :: r, x => by
    show (y.1 - b) :: holesI _ (r ++ [x]) = (y.1 - b) :: (holesI _ r ++ [x.1 - endB _ r])
    rw [holesI_snoc]
theorem endB_snoc : ∀ (b : Int) (g : List Seg) (x : Seg), endB b (g ++ [x]) = x.1 + x.2 + 1
  | b, [], x => rfl
  | b, y :: r, x => by
    show endB _ (r ++ [x]) = _
    rw [endB_snoc]
theorem holesI_len : ∀ (b : Int) (g : List Seg), (holesI b g).length = g.length
  | _, [] => rfl
  | _, x :: r => by
    show (holesI _ r).length + 1 = r.length + 1
    rw [holesI_len]
theorem holesI_pos : ∀ {g : List Seg} {b : Int}, Ok b g → ∀ x ∈ holesI b g, 1 ≤ x
  | [], _, _, x, h => absurd h (by simp [holesI])
  | y :: r, b, k, x, h => by
    have k1 := k.1
    rcases List.mem_cons.mp h with e | h
    · omega
    · exact holesI_pos k.2 x h
theorem holesI_top {g : List Seg} (k : Ok (-1) g) : ∀ (i : Nat) x, (holesI 0 g)[i]? = some x → 0 ≤ x ∧ (1 ≤ i → 1 ≤ x) := by
  intro i x h
  cases g with
  | nil => simp [holesI] at h
  | cons y r =>
    have k1 := k.1
    cases i with
    | zero =>
      have e : y.1 - 0 = x := Option.some.inj h
      exact ⟨by omega, fun q => absurd q (by omega)⟩
    | succ j =>
      have h' : (holesI (y.1 + y.2 + 1) r)[j]? = some x := h
      have q := holesI_pos k.2 x (List.mem_of_getElem? h')
      exact ⟨by omega, fun _ => q⟩
theorem endB_le : ∀ {g : List Seg} {b c : Int}, b ≤ c → (∀ q, Mem q g → q < c) → endB b g ≤ c
  | [], b, c, h, _ => h
  | x :: r, b, c, h, k => by
    have q : x.1 + x.2 < c := k _ (mem_cons.mpr (.inl ⟨by omega, Int.le_refl _⟩))
    exact endB_le (b := x.1 + x.2 + 1) (by omega) fun q m => k q (mem_cons.mpr (.inr m))
/-! ### the same, off a rising list -/
def diffs : List Int → List Int
  | x :: y :: r => (y - x) :: diffs (y :: r)
  | _ => []
theorem diffs_len : ∀ l : List Int, (diffs l).length = l.length - 1
  | [] => rfl
  | [_] => rfl
  | x :: y :: r => by
    show (diffs (y :: r)).length + 1 = _
    rw [diffs_len (y :: r)]
    simp
theorem diffs_get : ∀ (l : List Int) (i : Nat) (x y : Int), l[i]? = some x → l[i + 1]? = some y → (diffs l)[i]? = some (y - x)
  | [], i, x, y, h, _ => by simp at h
  | [a], i, x, y, h, h2 => by simp at h2
  | a :: b :: r, 0, x, y, h, h2 => by
    have e1 : a = x := Option.some.inj h
    have e2 : b = y := Option.some.inj h2
    subst e1 e2
    rfl
  | a :: b :: r, i + 1, x, y, h, h2 => diffs_get (b :: r) i x y h h2
theorem diffs_snoc : ∀ (l : List Int) (z p : Int), l.getLast? = some z → diffs (l ++ [p]) = diffs l ++ [p - z]
  | [], z, p, h => by simp at h
  | [a], z, p, h => by
    have e : a = z := Option.some.inj h
    subst e
    rfl
  | a :: b :: r, z, p, h => by
    rw [List.getLast?_cons_cons] at h
    show (b - a) :: diffs (b :: r ++ [p]) = _
    rw [diffs_snoc (b :: r) z p h]
    rfl
def inner (l : List Int) : List Int := ((diffs l).filter fun d => decide (1 < d)).map fun d => d - 1
theorem getLast_snoc {α : Type} (l : List α) (x : α) : (l ++ [x]).getLast? = some x := by simp
theorem rise_holes : ∀ {l : List Int}, l.Pairwise (· < ·) → ∀ a z, l.head? = some a → l.getLast? = some z →
    holesI 0 (segs l) = a :: inner l ∧ endB 0 (segs l) = z + 1 ∧ ∃ (g : List Seg) (s : Int) (n : Nat), segs l = g ++ [(s, n)] ∧ s + (n : Int) = z := by
  intro l
  induction l using snoc_ind with
  | h0 => exact fun _ a z h => absurd h (by simp)
  | h1 l p ih =>
    intro hp a z ha hz
    rw [getLast_snoc] at hz
    have ez : p = z := Option.some.inj hz
    subst ez
    rw [List.pairwise_append] at hp
    obtain ⟨h1, _, h3⟩ := hp
    have h3' : ∀ q ∈ l, q < p := fun q hq => h3 q hq p (by simp)
    rw [segs_rise h1 h3']
    cases l with
    | nil =>
      have e : p = a := Option.some.inj ha
      subst e
      exact ⟨by simp [segs, runStep, holesI, inner, diffs], by simp [segs, runStep, endB], [], p, 0, by simp [segs, runStep], by simp⟩
    | cons y r =>
      have ea : y = a := Option.some.inj ha
      subst ea
      obtain ⟨z0, hz0⟩ : ∃ z0, (y :: r).getLast? = some z0 := ⟨_, List.getLast?_eq_getLast (List.cons_ne_nil y r)⟩
      obtain ⟨i1, i2, g, s, n, i3, i4⟩ := ih h1 y z0 rfl hz0
      have lt : z0 < p := h3' z0 (List.mem_of_getLast? hz0)
      have ed : diffs (y :: r ++ [p]) = diffs (y :: r) ++ [p - z0] := diffs_snoc _ _ _ hz0
      have hin : ∀ t, t = p - z0 → inner (y :: r ++ [p]) = inner (y :: r) ++ (if 1 < t then [t - 1] else []) := fun t et => by
        unfold inner
        rw [ed, List.filter_append, List.map_append, ← et]
        split <;> simp_all
      unfold runStep
      rw [i3, getLast_snoc]
      show holesI 0 (if s + n = p - 1 then (g ++ [(s, n)]).dropLast ++ [(s, n + 1)] else g ++ [(s, n)] ++ [(p, 0)]) = _ ∧ endB 0 (if s + n = p - 1 then (g ++ [(s, n)]).dropLast ++ [(s, n + 1)] else g ++ [(s, n)] ++ [(p, 0)]) = _ ∧
        ∃ (g' : List Seg) (s' : Int) (n' : Nat), (if s + n = p - 1 then (g ++ [(s, n)]).dropLast ++ [(s, n + 1)] else g ++ [(s, n)] ++ [(p, 0)]) = g' ++ [(s', n')] ∧ s' + (n' : Int) = p
      rw [List.dropLast_concat]
      rw [i3] at i1 i2
      by_cases e : s + n = p - 1
      · rw [if_pos e, hin 1 (by omega), holesI_snoc, endB_snoc]
        rw [holesI_snoc] at i1
        refine ⟨?_, by show s + ((n + 1 : Nat) : Int) + 1 = _; omega, g, s, n + 1, rfl, by omega⟩
        rw [if_neg (by omega), List.append_nil]
        exact i1
      · rw [if_neg e, hin (p - z0) rfl, holesI_snoc, i1, i2, endB_snoc]
        refine ⟨?_, by show p + ((0 : Nat) : Int) + 1 = _; omega, _, p, 0, rfl, by simp⟩
        rw [if_pos (by omega)]
        show y :: inner (y :: r) ++ [p - (z0 + 1)] = y :: (inner (y :: r) ++ [p - z0 - 1])
        rw [show p - (z0 + 1) = p - z0 - 1 by omega]
        rfl
theorem rise_of {l k : List Int} (hn : l.Nodup) (hp : k.Perm l) (hs : k.Pairwise (· ≤ ·)) : k.Pairwise (· < ·) := by
  have nk : k.Nodup := hp.nodup_iff.mpr hn
  exact (hs.and nk).imp fun {a b} h => by have := h.1; have := h.2; omega
theorem add_len : ∀ (p : Int) (g : List Seg), (add p g).length ≤ g.length + 1
  | p, [] => by simp [add]
  | p, (s, n) :: r => by
    unfold add
    split
    · simp
    · split
      · simp
      · split
        · cases r with
          | nil => simp
          | cons y r' =>
            obtain ⟨s', n'⟩ := y
            show (if s' = p + 1 then (s, n + n' + 2) :: r' else (s, n + 1) :: (s', n') :: r').length ≤ _
            split <;> simp <;> omega
        · have := add_len p r
          simp
          omega
theorem segs_len (l : List Int) : (segs l).length ≤ l.length := by
  induction l using snoc_ind with
  | h0 => simp [segs]
  | h1 l p ih =>
    rw [segs_snoc, List.length_append]
    have := add_len p (segs l)
    simp
    omega
def size : List Seg → Nat
  | [] => 0
  | x :: r => x.2 + 1 + size r
theorem size_add : ∀ (p : Int) (g : List Seg), size (add p g) = size g + 1
  | p, [] => rfl
  | p, (s, n) :: r => by
    unfold add
    split
    · show 0 + 1 + (n + 1 + size r) = n + 1 + size r + 1
      omega
    · split
      · show n + 1 + 1 + size r = n + 1 + size r + 1
        omega
      · split
        · cases r with
          | nil => rfl
          | cons y r' =>
            obtain ⟨s', n'⟩ := y
            show size (if s' = p + 1 then (s, n + n' + 2) :: r' else (s, n + 1) :: (s', n') :: r') = n + 1 + (n' + 1 + size r') + 1
            split
            · show n + n' + 2 + 1 + size r' = _
              omega
            · show n + 1 + 1 + (n' + 1 + size r') = _
              omega
        · show n + 1 + size (add p r) = n + 1 + size r + 1
          rw [size_add p r]
          omega
theorem segs_size (l : List Int) : size (segs l) = l.length := by
  induction l using snoc_ind with
  | h0 => rfl
  | h1 l p ih =>
    rw [segs_snoc, size_add, ih]
    simp
theorem size_mem : ∀ {g : List Seg} {x : Seg}, x ∈ g → x.2 + 1 ≤ size g
  | y :: r, x, h => by
    rcases List.mem_cons.mp h with e | h
    · subst e
      show x.2 + 1 ≤ x.2 + 1 + size r
      omega
    · have := size_mem h
      show x.2 + 1 ≤ y.2 + 1 + size r
      omega
/-! ### a row's choices -/
def picks (row : List Int) : List Ch := (List.range row.length).map fun i => pick (row.getD i 0) (segs (row.take i))
theorem picks_len (row : List Int) : (picks row).length = row.length := by simp [picks]
structure Row (n : Int) (row : List Int) : Prop where
  nd : row.Nodup
  lo : ∀ p ∈ row, 0 ≤ p
  hi : ∀ p ∈ row, p < n
theorem Row.take {n : Int} {row : List Int} (h : Row n row) (i : Nat) : Row n (row.take i) :=
  ⟨h.nd.sublist (List.take_sublist _ _), fun p q => h.lo p (List.mem_of_mem_take q), fun p q => h.hi p (List.mem_of_mem_take q)⟩
theorem Row.ok {n : Int} {row : List Int} (h : Row n row) : Ok (-1) (segs row) ∧ ∀ q, Mem q (segs row) ↔ q ∈ row :=
  segs_ok h.nd fun p hp => by have := h.lo p hp; omega
theorem Row.fresh {n : Int} {row : List Int} (h : Row n row) {i : Nat} {p : Int} (e : row[i]? = some p) : p ∉ row.take i := by
  intro m
  obtain ⟨j, hj⟩ := List.getElem?_of_mem m
  rw [List.getElem?_take] at hj
  split at hj
  · rename_i lt
    obtain ⟨a, ea⟩ := List.getElem?_eq_some_iff.mp e
    obtain ⟨b, eb⟩ := List.getElem?_eq_some_iff.mp hj
    have := (List.getElem_inj h.nd).mp (eb.trans ea.symm)
    omega
  · cases hj
theorem take_snoc {row : List Int} {i : Nat} {p : Int} (e : row[i]? = some p) : row.take (i + 1) = row.take i ++ [p] := by
  rw [List.take_add_one, e]
  rfl
theorem Row.says {n : Int} {row : List Int} (h : Row n row) {i : Nat} {p : Int} (e : row[i]? = some p) : Says p (segs (row.take i)) (pick p (segs (row.take i))) :=
  OgM.says (h.take i).ok.1 fun m => h.fresh e (((h.take i).ok.2 p).mp m)
theorem Row.segs {n : Int} {row : List Int} (h : Row n row) {i : Nat} {p : Int} (e : row[i]? = some p) : segs (row.take (i + 1)) = add p (segs (row.take i)) := by
  rw [take_snoc e, segs_snoc]
theorem picks_get {row : List Int} {i : Nat} {p : Int} (e : row[i]? = some p) : (picks row)[i]? = some (pick p (segs (row.take i))) := by
  have hi := (List.getElem?_eq_some_iff.mp e).1
  unfold picks
  rw [List.getElem?_map, List.getElem?_range hi]
  show some (pick (row.getD i 0) _) = some _
  rw [List.getD_eq_getElem?_getD, e]
  rfl
/-- the ends of the segments, counted on the list -/
theorem ends_up : ∀ {g : List Seg} {lo : Int}, Ok lo g → (g.map fun x => x.1 + (x.2 : Int)).Nodup ∧ (∀ q, q ∈ (g.map fun x => x.1 + (x.2 : Int)) ↔ Mem q g ∧ ¬ Mem (q + 1) g) ∧ ∀ q ∈ (g.map fun x => x.1 + (x.2 : Int)), lo < q
  | [], _, _ => ⟨List.nodup_nil, fun q => by simp [mem_nil], by simp⟩
  | (s, n) :: r, lo, k => by
    have k1 : lo < s := k.1
    have k2 : Ok (s + n + 1) r := k.2
    obtain ⟨i1, i2, i3⟩ := ends_up k2
    refine ⟨?_, fun q => ?_, fun q hq => ?_⟩
    · rw [List.map_cons, List.nodup_cons]
      refine ⟨fun m => ?_, i1⟩
      have := i3 _ m
      simp only at this
      omega
    · rw [List.map_cons, List.mem_cons, i2 q, mem_cons, mem_cons]
      simp only
      constructor
      · rintro (e | ⟨e1, e2⟩)
        · refine ⟨.inl (by omega), ?_⟩
          rintro (f | f)
          · omega
          · have := ok_lt k2 f
            omega
        · refine ⟨.inr e1, ?_⟩
          rintro (f | f)
          · have := ok_lt k2 e1
            omega
          · exact e2 f
      · rintro ⟨e1 | e1, e2⟩
        · refine .inl ?_
          by_cases z : q = s + n
          · exact z
          · exact absurd (.inl (by omega)) e2
        · exact .inr ⟨e1, fun f => e2 (.inr f)⟩
    · rw [List.map_cons, List.mem_cons] at hq
      rcases hq with e | hq
      · simp only at e; omega
      · have := i3 q hq; omega
theorem left_count {l : List Int} (hn : l.Nodup) (p : Int) : (l.filter fun q => decide (q < p) && !decide (q + 1 ∈ l)).length = left p (segs l) := by
  obtain ⟨lo, hl⟩ := lower l
  obtain ⟨k, km⟩ := segs_ok hn hl
  obtain ⟨i1, i2, _⟩ := ends_up k
  have e1 : left p (segs l) = (((segs l).map fun x => x.1 + (x.2 : Int)).filter fun q => decide (q < p)).length := by
    unfold left
    rw [List.filter_map, List.length_map]
    rfl
  rw [e1]
  refine ((List.perm_ext_iff_of_nodup (hn.filter _) (i1.filter _)).mpr fun q => ?_).length_eq
  rw [List.mem_filter, List.mem_filter, i2 q, km q, km (q + 1)]
  simp
  exact ⟨fun ⟨a, b, c⟩ => ⟨⟨a, c⟩, b⟩, fun ⟨⟨a, c⟩, b⟩ => ⟨a, b, c⟩⟩
end OgM

namespace OgM
def nearB (p : Int) (x : Seg) : Bool := decide (p - 1 = x.1 + x.2) || decide (p + 1 = x.1)
def near (p : Int) (g : List Seg) : List Nat := (List.range g.length).filter fun i => nearB p (g.getD i (0, 0))
theorem near_cons (p : Int) (x : Seg) (g : List Seg) : near p (x :: g) = (if nearB p x then [0] else []) ++ (near p g).map (· + 1) := by
  unfold near
  rw [List.length_cons, List.range_succ_eq_map, List.filter_cons]
  have e : (List.map Nat.succ (List.range g.length)).filter (fun i => nearB p ((x :: g).getD i (0, 0))) = ((List.range g.length).filter fun i => nearB p (g.getD i (0, 0))).map (· + 1) := by
    rw [List.filter_map]
    rfl
  rw [e]
  show (if nearB p x = true then _ else _) = _
  split <;> simp_all
theorem near_nil : ∀ {g : List Seg} {lo p : Int}, Ok lo g → p + 1 ≤ lo → near p g = []
  | [], _, _, _, _ => rfl
  | (s, n) :: r, lo, p, k, h => by
    have k1 : lo < s := k.1
    have k2 : Ok (s + n + 1) r := k.2
    rw [near_cons, near_nil k2 (by omega)]
    have : nearB p (s, n) = false := by
      simp only [nearB, Bool.or_eq_false_iff, decide_eq_false_iff_not]
      omega
    rw [this]
    rfl
/-- near the new plot -/
structure Near (p : Int) (g : List Seg) (c : Ch) : Prop where
  n1 : c.1 = .new → near p g = [] 
  n2 : c.1 = .between → near p g = [c.2, c.2 + 1]
  n3 : c.1 = .beside → ∃ x : Seg, near p g = [c.2 / 2] ∧ g[c.2 / 2]? = some x ∧ c.2 = 2 * (c.2 / 2) + (if x.1 + x.2 < p then 1 else 0)
theorem nears {g : List Seg} {lo p : Int} (k : Ok lo g) (nm : ¬ Mem p g) : Near p g (pick p g) := by
  refine way (C := fun g => Near p g (pick p g)) ?_ ?_ ?_ ?_ ?_ ?_ ?_ k nm
  · exact ⟨fun _ => rfl, fun h => by simp [pick] at h, fun h => by simp [pick] at h⟩
  · intro s n r h kr
    rw [(pick_1 h).1]
    refine ⟨fun _ => ?_, fun h => by simp at h, fun h => by simp at h⟩
    rw [near_cons, near_nil kr (by omega)]
    have : nearB p (s, n) = false := by
      simp only [nearB, Bool.or_eq_false_iff, decide_eq_false_iff_not]
      omega
    rw [this]
    rfl
  · intro s n r h kr
    rw [(pick_2 h).1]
    refine ⟨fun h => by simp at h, fun h => by simp at h, fun _ => ⟨(s, n), ?_, rfl, ?_⟩⟩
    · rw [near_cons, near_nil kr (by omega)]
      have : nearB p (s, n) = true := by
        simp only [nearB, Bool.or_eq_true, decide_eq_true_eq]
        omega
      rw [this]
      rfl
    · show 0 = 2 * (0 / 2) + if s + (n : Int) < p then 1 else 0
      rw [if_neg (by omega)]
  · intro s n h
    rw [(pick_30 h).1]
    refine ⟨fun h => by simp at h, fun h => by simp at h, fun _ => ⟨(s, n), ?_, rfl, ?_⟩⟩
    · rw [near_cons]
      have : nearB p (s, n) = true := by
        simp only [nearB, Bool.or_eq_true, decide_eq_true_eq]
        omega
      rw [this]
      rfl
    · show 1 = 2 * (1 / 2) + if s + (n : Int) < p then 1 else 0
      rw [if_pos (by omega)]
  · intro s n s' n' r h h' kr
    rw [(pick_31 h h').1]
    refine ⟨fun h => by simp at h, fun _ => ?_, fun h => by simp at h⟩
    rw [near_cons, near_cons, near_nil kr (by omega)]
    have t1 : nearB p (s, n) = true := by
      simp only [nearB, Bool.or_eq_true, decide_eq_true_eq]
      omega
    have t2 : nearB p (s', n') = true := by
      simp only [nearB, Bool.or_eq_true, decide_eq_true_eq]
      omega
    rw [t1, t2]
    rfl
  · intro s n s' n' r h h' kr
    rw [(pick_32 h (by omega)).1]
    refine ⟨fun h => by simp at h, fun h => by simp at h, fun _ => ⟨(s, n), ?_, rfl, ?_⟩⟩
    · rw [near_cons, near_cons, near_nil kr (by omega)]
      have t1 : nearB p (s, n) = true := by
        simp only [nearB, Bool.or_eq_true, decide_eq_true_eq]
        omega
      have t2 : nearB p (s', n') = false := by
        simp only [nearB, Bool.or_eq_false_iff, decide_eq_false_iff_not]
        omega
      rw [t1, t2]
      rfl
    · show 1 = 2 * (1 / 2) + if s + (n : Int) < p then 1 else 0
      rw [if_pos (by omega)]
  · intro s n r h kr nmr ih
    rw [(pick_4 h).1]
    have t1 : nearB p (s, n) = false := by
      simp only [nearB, Bool.or_eq_false_iff, decide_eq_false_iff_not]
      omega
    have nc : near p ((s, n) :: r) = (near p r).map (· + 1) := by
      rw [near_cons, t1]
      rfl
    generalize pick p r = c at ih
    obtain ⟨w, m⟩ := c
    cases w with
    | new =>
      refine ⟨fun _ => ?_, fun h => by simp [shift] at h, fun h => by simp [shift] at h⟩
      rw [nc, ih.n1 rfl]
      rfl
    | between =>
      refine ⟨fun h => by simp [shift] at h, fun _ => ?_, fun h => by simp [shift] at h⟩
      rw [nc, ih.n2 rfl]
      rfl
    | beside =>
      refine ⟨fun h => by simp [shift] at h, fun h => by simp [shift] at h, fun _ => ?_⟩
      obtain ⟨x, e1, e2, e3⟩ := ih.n3 rfl
      simp only at e1 e2 e3
      have e4 : (m + 2) / 2 = m / 2 + 1 := by omega
      refine ⟨x, ?_, ?_, ?_⟩
      · rw [nc, e1]
        show [m / 2 + 1] = [(m + 2) / 2]
        rw [e4]
      · show ((s, n) :: r)[(m + 2) / 2]? = some x
        rw [e4]
        exact e2
      · show m + 2 = 2 * ((m + 2) / 2) + _
        rw [e4]
        omega
theorem range_filter_len {α : Type} (P : α → Bool) (d : α) : ∀ g : List α, ((List.range g.length).filter fun i => P (g.getD i d)).length = (g.filter P).length
  | [] => rfl
  | x :: r => by
    rw [List.length_cons, List.range_succ_eq_map, List.filter_cons, List.filter_cons, List.filter_map]
    have ih := range_filter_len P d r
    have e : ((List.range r.length).filter ((fun i => P ((x :: r).getD i d)) ∘ Nat.succ)).length = (r.filter P).length := ih
    show (if P x = true then _ else _ : List Nat).length = (if P x = true then _ else _ : List α).length
    split
    · rw [List.length_cons, List.length_cons, List.length_map, e]
    · rw [List.length_map, e]
theorem range_filter_map {α : Type} (P : α → Bool) (d : α) : ∀ g : List α, ((List.range g.length).filter fun i => P (g.getD i d)).map (fun i => g.getD i d) = g.filter P
  | [] => rfl
  | x :: r => by
    rw [List.length_cons, List.range_succ_eq_map, List.filter_cons, List.filter_cons, List.filter_map]
    have ih := range_filter_map P d r
    have e : (((List.range r.length).filter ((fun i => P ((x :: r).getD i d)) ∘ Nat.succ)).map Nat.succ).map (fun i => (x :: r).getD i d) = r.filter P := by
      rw [List.map_map]
      exact ih
    show (if P x = true then _ else _ : List Nat).map _ = (if P x = true then _ else _ : List α)
    split
    · rw [List.map_cons, e]
      rfl
    · exact e
theorem filter_ne_len {l : List Int} (h : l.Nodup) {z : Int} (m : z ∈ l) : (l.filter (· != z)).length + 1 = l.length := by
  rw [← h.erase_eq_filter, List.length_erase_of_mem m]
  have := List.length_pos_of_mem m
  omega
def Wd.ix : Wd → Nat
  | .new => 0
  | .beside => 1
  | .between => 2
def b1 (c : Bool) : Nat := if c then 1 else 0
theorem nb_pick {l : List Int} (hn : l.Nodup) {p : Int} (hp : p ∉ l) : b1 (decide (p - 1 ∈ l)) + b1 (decide (p + 1 ∈ l)) = (pick p (segs l)).1.ix := by
  obtain ⟨lo, hl⟩ := lower l
  obtain ⟨k, km⟩ := segs_ok hn hl
  have S := says k (p := p) fun m => hp ((km p).mp m)
  have e1 := S.new
  have e2 := S.btw
  rw [km, km] at e1 e2
  by_cases a : p - 1 ∈ l <;> by_cases b : p + 1 ∈ l
  · rw [e2.mpr ⟨a, b⟩, decide_eq_true a, decide_eq_true b]
    rfl
  · have : (pick p (segs l)).1 = .beside := by
      cases h : (pick p (segs l)).1 with
      | new => exact absurd a (e1.mp h).1
      | beside => rfl
      | between => exact absurd (e2.mp h).2 b
    rw [this, decide_eq_true a, decide_eq_false b]
    rfl
  · have : (pick p (segs l)).1 = .beside := by
      cases h : (pick p (segs l)).1 with
      | new => exact absurd b (e1.mp h).2
      | beside => rfl
      | between => exact absurd (e2.mp h).1 a
    rw [this, decide_eq_false a, decide_eq_true b]
    rfl
  · rw [e1.mpr ⟨a, b⟩, decide_eq_false a, decide_eq_false b]
    rfl
end OgM

namespace OgM
def Valid (c : Ch) (n : Nat) : Prop :=
  match c.1 with
  | .new => c.2 ≤ n
  | .beside => c.2 < 2 * n
  | .between => c.2 + 1 < n
def stAt (cs : List Ch) : Nat → List (List Nat)
  | 0 => []
  | i + 1 => applyC i (cs.getD i (.new, 0)) (stAt cs i)
def VCh (cs : List Ch) : Prop := ∀ i c, cs[i]? = some c → Valid c (stAt cs i).length
theorem flat_cut (st : List (List Nat)) (k : Nat) : (st.take k).flatten.length + (st.drop k).flatten.length = st.flatten.length := by
  rw [← List.length_append, ← List.flatten_append, List.take_append_drop]
theorem getD_at {α : Type} {l : List α} {j : Nat} {x d : α} (h : l[j]? = some x) : l.getD j d = x := by
  rw [List.getD_eq_getElem?_getD, h]
  rfl
theorem drop_at {α : Type} {l : List α} {j : Nat} {x : α} (h : l[j]? = some x) : l.drop j = x :: l.drop (j + 1) := by
  obtain ⟨a, e⟩ := List.getElem?_eq_some_iff.mp h
  rw [← e]
  exact List.drop_eq_getElem_cons a
theorem apply_size {c : Ch} {st : List (List Nat)} (t : Nat) (h : Valid c st.length) : (applyC t c st).flatten.length = st.flatten.length + 1 ∧ ((applyC t c st).length : Int) = st.length + c.1.step := by
  obtain ⟨w, k⟩ := c
  cases w with
  | new =>
    have h' : k ≤ st.length := h
    have e := flat_cut st k
    constructor
    · show (st.take k ++ [[t]] ++ st.drop k).flatten.length = _
      simp only [List.flatten_append, List.length_append, List.flatten_cons, List.flatten_nil, List.length_cons, List.length_nil]
      omega
    · show ((st.take k ++ [[t]] ++ st.drop k).length : Int) = st.length + 1
      simp only [List.length_append, List.length_take, List.length_drop, List.length_cons, List.length_nil]
      omega
  | between =>
    have h' : k + 1 < st.length := h
    have e := flat_cut st k
    have a1 : st[k]? = some (st[k]'(by omega)) := List.getElem?_eq_getElem _
    have a2 : st[k + 1]? = some (st[k + 1]'h') := List.getElem?_eq_getElem _
    rw [drop_at a1, drop_at a2, show k + 1 + 1 = k + 2 from rfl] at e
    simp only [List.flatten_cons, List.length_append] at e
    constructor
    · show (st.take k ++ [(st.getD k []) ++ [t] ++ (st.getD (k + 1) [])] ++ st.drop (k + 2)).flatten.length = _
      rw [getD_at a1, getD_at a2]
      simp only [List.flatten_append, List.length_append, List.flatten_cons, List.flatten_nil, List.length_cons, List.length_nil]
      omega
    · show ((st.take k ++ [(st.getD k []) ++ [t] ++ (st.getD (k + 1) [])] ++ st.drop (k + 2)).length : Int) = st.length + -1
      simp only [List.length_append, List.length_take, List.length_drop, List.length_cons, List.length_nil]
      omega
  | beside =>
    have h' : k < 2 * st.length := h
    have hj : k / 2 < st.length := by omega
    have e := flat_cut st (k / 2)
    have a1 : st[k / 2]? = some (st[k / 2]'hj) := List.getElem?_eq_getElem _
    rw [drop_at a1] at e
    simp only [List.flatten_cons, List.length_append] at e
    show (if k % 2 = 0 then st.set (k / 2) (t :: st.getD (k / 2) []) else st.set (k / 2) (st.getD (k / 2) [] ++ [t])).flatten.length = _ ∧ ((if k % 2 = 0 then st.set (k / 2) (t :: st.getD (k / 2) []) else st.set (k / 2) (st.getD (k / 2) [] ++ [t])).length : Int) = st.length + 0
    rw [getD_at a1]
    split
    · rw [List.length_set, List.set_eq_take_append_cons_drop, if_pos hj]
      simp only [List.flatten_append, List.length_append, List.flatten_cons, List.length_cons]
      omega
    · rw [List.length_set, List.set_eq_take_append_cons_drop, if_pos hj]
      simp only [List.flatten_append, List.length_append, List.flatten_cons, List.length_cons, List.length_nil]
      omega
theorem st_size {cs : List Ch} (v : VCh cs) : ∀ i, i ≤ cs.length → (stAt cs i).flatten.length = i ∧ (stAt cs i).length ≤ i
  | 0, _ => ⟨rfl, Nat.le_refl _⟩
  | i + 1, h => by
    obtain ⟨h1, h2⟩ := st_size v i (by omega)
    have e : cs[i]? = some (cs[i]'h) := List.getElem?_eq_getElem _
    have q := apply_size i (v i _ e)
    show (applyC i (cs.getD i (.new, 0)) (stAt cs i)).flatten.length = i + 1 ∧ (applyC i (cs.getD i (.new, 0)) (stAt cs i)).length ≤ i + 1
    rw [getD_at e]
    refine ⟨by omega, ?_⟩
    have : (cs[i]'h).1.step ≤ 1 := by cases (cs[i]'h).1 <;> decide
    omega
theorem inner_len {st : List (List Nat)} {j : Nat} {ts : List Nat} (h : st[j]? = some ts) : ts.length ≤ st.flatten.length := by
  have e := flat_cut st j
  rw [drop_at h] at e
  simp only [List.flatten_cons, List.length_append] at e
  omega
/-- a row's choices are valid, and their groups are its segments -/
theorem picks_told {n : Int} {row : List Int} (h : Row n row) : ∀ i, i ≤ row.length → Told (fun t => row.getD t 0) (stAt (picks row) i) (OgM.segs (row.take i)) ∧ ∀ x, x ∈ (stAt (picks row) i).flatten ↔ x < i
  | 0, _ => ⟨by simp [Told, stAt, OgM.segs], fun x => by simp [stAt]⟩
  | i + 1, hi => by
    obtain ⟨h1, h2⟩ := picks_told h i (by omega)
    have e : row[i]? = some (row[i]'hi) := List.getElem?_eq_getElem _
    have q := told_add (f := fun t => row.getD t 0) (t := i) (p := row[i]'hi) (getD_at e) (h.take i).ok.1 (fun m => h.fresh e (((h.take i).ok.2 _).mp m)) _ h1
    show Told _ (applyC i ((picks row).getD i (.new, 0)) (stAt (picks row) i)) _ ∧ ∀ x, x ∈ (applyC i ((picks row).getD i (.new, 0)) (stAt (picks row) i)).flatten ↔ x < i + 1
    rw [getD_at (picks_get e), h.segs e]
    refine ⟨q.1, fun x => ?_⟩
    rw [q.2 x, h2 x]
    omega
theorem picks_valid {n : Int} {row : List Int} (h : Row n row) : VCh (picks row) := by
  intro i c e
  have hi := (List.getElem?_eq_some_iff.mp e).1
  rw [picks_len] at hi
  have er : row[i]? = some (row[i]'hi) := List.getElem?_eq_getElem _
  rw [picks_get er] at e
  have ec := Option.some.inj e
  obtain ⟨h1, _⟩ := picks_told h i (by omega)
  have hl : (stAt (picks row) i).length = (OgM.segs (row.take i)).length := by
    have := congrArg List.length h1
    simpa using this
  rw [hl]
  have S := h.says er
  rw [ec] at S
  obtain ⟨w, k⟩ := c
  cases w with
  | new => exact (S.n1 rfl).2
  | between => exact (S.n2 rfl).2
  | beside =>
    by_cases m : Mem (row[i]'hi - 1) (OgM.segs (row.take i))
    · exact (S.n3 rfl m).2
    · exact (S.n4 rfl m).2
theorem apply_mem {c : Ch} {st : List (List Nat)} (t : Nat) (h : Valid c st.length) (x : Nat) : x ∈ (applyC t c st).flatten ↔ x = t ∨ x ∈ st.flatten := by
  have cut : ∀ k, x ∈ st.flatten ↔ x ∈ (st.take k).flatten ∨ x ∈ (st.drop k).flatten := fun k => by
    rw [← List.mem_append, ← List.flatten_append, List.take_append_drop]
  obtain ⟨w, k⟩ := c
  cases w with
  | new =>
    show x ∈ (st.take k ++ [[t]] ++ st.drop k).flatten ↔ _
    rw [cut k]
    simp only [List.flatten_append, List.mem_append, List.flatten_cons, List.flatten_nil, List.mem_singleton, List.append_nil]
    constructor
    · rintro ((a | a) | a)
      · exact .inr (.inl a)
      · exact .inl a
      · exact .inr (.inr a)
    · rintro (a | a | a)
      · exact .inl (.inr a)
      · exact .inl (.inl a)
      · exact .inr a
  | between =>
    have h' : k + 1 < st.length := h
    have a1 : st[k]? = some (st[k]'(by omega)) := List.getElem?_eq_getElem _
    have a2 : st[k + 1]? = some (st[k + 1]'h') := List.getElem?_eq_getElem _
    show x ∈ (st.take k ++ [(st.getD k []) ++ [t] ++ (st.getD (k + 1) [])] ++ st.drop (k + 2)).flatten ↔ _
    rw [cut k, drop_at a1, drop_at a2, show k + 1 + 1 = k + 2 from rfl, getD_at a1, getD_at a2]
    simp only [List.flatten_append, List.mem_append, List.flatten_cons, List.flatten_nil, List.mem_singleton, List.append_nil]
    constructor
    · rintro ((a | ((a | a) | a)) | a)
      · exact .inr (.inl a)
      · exact .inr (.inr (.inl a))
      · exact .inl a
      · exact .inr (.inr (.inr (.inl a)))
      · exact .inr (.inr (.inr (.inr a)))
    · rintro (a | a | a | a | a)
      · exact .inl (.inr (.inl (.inr a)))
      · exact .inl (.inl a)
      · exact .inl (.inr (.inl (.inl a)))
      · exact .inl (.inr (.inr a))
      · exact .inr a
  | beside =>
    have h' : k < 2 * st.length := h
    have hj : k / 2 < st.length := by omega
    have a1 : st[k / 2]? = some (st[k / 2]'hj) := List.getElem?_eq_getElem _
    show x ∈ (if k % 2 = 0 then st.set (k / 2) (t :: st.getD (k / 2) []) else st.set (k / 2) (st.getD (k / 2) [] ++ [t])).flatten ↔ _
    rw [cut (k / 2), drop_at a1, getD_at a1]
    split
    · rw [List.set_eq_take_append_cons_drop, if_pos hj]
      simp only [List.flatten_append, List.mem_append, List.flatten_cons, List.mem_cons]
      constructor
      · rintro (a | (a | a) | a)
        · exact .inr (.inl a)
        · exact .inl a
        · exact .inr (.inr (.inl a))
        · exact .inr (.inr (.inr a))
      · rintro (a | a | a | a)
        · exact .inr (.inl (.inl a))
        · exact .inl a
        · exact .inr (.inl (.inr a))
        · exact .inr (.inr a)
    · rw [List.set_eq_take_append_cons_drop, if_pos hj]
      simp only [List.flatten_append, List.mem_append, List.flatten_cons, List.mem_singleton]
      constructor
      · rintro (a | (a | a) | a)
        · exact .inr (.inl a)
        · exact .inr (.inr (.inl a))
        · exact .inl a
        · exact .inr (.inr (.inr a))
      · rintro (a | a | a | a)
        · exact .inr (.inl (.inr a))
        · exact .inl a
        · exact .inr (.inl (.inl a))
        · exact .inr (.inr a)
theorem st_mem {cs : List Ch} (v : VCh cs) : ∀ i, i ≤ cs.length → ∀ x, x ∈ (stAt cs i).flatten ↔ x < i
  | 0, _, x => by simp [stAt]
  | i + 1, h, x => by
    have e : cs[i]? = some (cs[i]'h) := List.getElem?_eq_getElem _
    show x ∈ (applyC i (cs.getD i (.new, 0)) (stAt cs i)).flatten ↔ _
    rw [getD_at e, apply_mem i (v i _ e), st_mem v i (by omega) x]
    omega
theorem told_get {f : Nat → Int} {st : List (List Nat)} {g : List Seg} (h : Told f st g) {j : Nat} {ts : List Nat} (e : st[j]? = some ts) : ∃ x, g[j]? = some x ∧ ts.map f = sgi x := by
  have q : (st.map (·.map f))[j]? = (g.map sgi)[j]? := by rw [h]
  rw [List.getElem?_map, List.getElem?_map, e] at q
  cases hx : g[j]? with
  | none =>
    rw [hx] at q
    cases q
  | some x =>
    rw [hx] at q
    exact ⟨x, rfl, Option.some.inj q⟩
theorem holesI_get : ∀ (b : Int) (g : List Seg) (j : Nat) (x y : Seg), g[j]? = some x → g[j + 1]? = some y → (holesI b g)[j + 1]? = some (y.1 - (x.1 + x.2 + 1))
  | b, [], j, x, y, h, _ => by simp at h
  | b, [a], j, x, y, h, h2 => by simp at h2
  | b, a :: c :: r, 0, x, y, h, h2 => by
    have e1 : a = x := Option.some.inj h
    have e2 : c = y := Option.some.inj h2
    subst e1 e2
    rfl
  | b, a :: c :: r, j + 1, x, y, h, h2 => holesI_get (a.1 + a.2 + 1) (c :: r) j x y h h2
theorem holes_len (c : Int) (g : List Seg) : (holes c g).length = g.length + 1 := by
  unfold holes
  rw [List.length_append, holesI_len]
  rfl
theorem holes_get {c : Int} {g : List Seg} {j : Nat} {x y : Seg} (h : g[j]? = some x) (h2 : g[j + 1]? = some y) : (holes c g)[j + 1]? = some (y.1 - (x.1 + x.2 + 1)) := by
  unfold holes
  have hj := (List.getElem?_eq_some_iff.mp h2).1
  rw [List.getElem?_append_left (by rw [holesI_len]; exact hj)]
  exact holesI_get 0 g j x y h h2
theorem steps_sum {cs : List Ch} (v : VCh cs) : ∀ i, i ≤ cs.length → (((cs.take i).map fun c => c.1.step).sum : Int) = (stAt cs i).length
  | 0, _ => rfl
  | i + 1, h => by
    have e : cs[i]? = some (cs[i]'h) := List.getElem?_eq_getElem _
    have q := (apply_size i (v i _ e)).2
    have ih := steps_sum v i (by omega)
    show _ = ((applyC i (cs.getD i (.new, 0)) (stAt cs i)).length : Int)
    rw [getD_at e, List.take_add_one, e, List.map_append, List.sum_append]
    show _ + ((cs[i]'h).1.step + 0) = _
    omega
end OgM

namespace OgM
/-! ### choices, then a row, then its choices -/
theorem sgi_inj {x y : Seg} (h : sgi x = sgi y) : x = y := by
  have h1 : (sgi x).length = (sgi y).length := by rw [h]
  have h2 : (sgi x).head? = (sgi y).head? := by rw [h]
  rw [sgi_len, sgi_len] at h1
  rw [sgi_head, sgi_head] at h2
  obtain ⟨a, b⟩ := x
  obtain ⟨c, d⟩ := y
  have e1 : a = c := Option.some.inj h2
  have e2 : b = d := by simpa using h1
  rw [e1, e2]
theorem told_cons' {f : Nat → Int} {a : List Nat} {st : List (List Nat)} {g : List Seg} (h : Told f (a :: st) g) : ∃ x g', g = x :: g' ∧ a.map f = sgi x ∧ Told f st g' := by
  cases g with
  | nil => exact absurd h (by simp [Told])
  | cons x g' =>
    have q : a.map f :: st.map (·.map f) = sgi x :: g'.map sgi := h
    injection q with q1 q2
    exact ⟨x, g', rfl, q1, q2⟩
theorem sgi_ne (x : Seg) : sgi x ≠ [] := fun h => by
  have := sgi_len x
  rw [h] at this
  simp at this
/-- parts of a segment -/
theorem sgi_pre {l : List Int} {p : Int} {x : Seg} (h : p :: l = sgi x) (hl : l ≠ []) : ∃ n, x = (p, n + 1) ∧ l = sgi (p + 1, n) := by
  obtain ⟨s, m⟩ := x
  cases m with
  | zero =>
    have : (p :: l).length = 1 := by rw [h, sgi_len]
    simp at this
    exact absurd this hl
  | succ n =>
    rw [← sgi_cons] at h
    injection h with h1 h2
    exact ⟨n, by rw [h1], by rw [h1]; exact h2⟩
theorem sgi_suf {l : List Int} {p : Int} {x : Seg} (h : l ++ [p] = sgi x) (hl : l ≠ []) : ∃ s n, x = (s, n + 1) ∧ l = sgi (s, n) ∧ p = s + n + 1 := by
  obtain ⟨s, m⟩ := x
  cases m with
  | zero =>
    have : (l ++ [p]).length = 1 := by rw [h, sgi_len]
    simp at this
    exact absurd this hl
  | succ n =>
    rw [← sgi_snoc] at h
    have h1 := List.append_inj' h rfl
    exact ⟨s, n, rfl, h1.1, by simpa using h1.2⟩
theorem sgi_mid {l r : List Int} {p : Int} {x : Seg} (h : l ++ [p] ++ r = sgi x) (hl : l ≠ []) (hr : r ≠ []) : ∃ s n n', x = (s, n + n' + 2) ∧ l = sgi (s, n) ∧ p = s + n + 1 ∧ r = sgi (s + n + 2, n') := by
  obtain ⟨s, m⟩ := x
  have len : l.length + 1 + r.length = m + 1 := by
    have := congrArg List.length h
    rw [sgi_len, List.length_append, List.length_append, List.length_singleton] at this
    exact this
  obtain ⟨n, hn⟩ : ∃ n, l.length = n + 1 := ⟨l.length - 1, by have := List.length_pos_iff.mpr hl; omega⟩
  obtain ⟨n', hn'⟩ : ∃ n, r.length = n + 1 := ⟨r.length - 1, by have := List.length_pos_iff.mpr hr; omega⟩
  have e : m = n + n' + 2 := by omega
  subst e
  rw [← sgi_join] at h
  have h1 := List.append_inj' h (by rw [sgi_len]; exact hn')
  have h2 := List.append_inj' h1.1 rfl
  exact ⟨s, n, n', rfl, h2.1, by simpa using h2.2, h1.2⟩
/-- all groups have houses -/
def Full (st : List (List Nat)) : Prop := ∀ a ∈ st, a ≠ []
theorem valid_shift {c : Ch} {n : Nat} (h : Valid c (n + 1)) : (∃ c', c = shift c' ∧ Valid c' n) ∨ (c = (.new, 0) ∨ c = (.beside, 0) ∨ c = (.beside, 1) ∨ c = (.between, 0)) := by
  obtain ⟨w, k⟩ := c
  cases w with
  | new =>
    cases k with
    | zero => exact .inr (.inl rfl)
    | succ k => exact .inl ⟨(.new, k), rfl, by have h : k + 1 ≤ n + 1 := h; show k ≤ n; omega⟩
  | between =>
    cases k with
    | zero => exact .inr (.inr (.inr (.inr rfl)))
    | succ k => exact .inl ⟨(.between, k), rfl, by have h : k + 1 + 1 < n + 1 := h; show k + 1 < n; omega⟩
  | beside =>
    match k, h with
    | 0, _ => exact .inr (.inr (.inl rfl))
    | 1, _ => exact .inr (.inr (.inr (.inl rfl)))
    | k + 2, h => exact .inl ⟨(.beside, k), rfl, by have h : k + 2 < 2 * (n + 1) := h; show k < 2 * n; omega⟩
theorem un_apply {f : Nat → Int} {t : Nat} : ∀ {st : List (List Nat)} {c : Ch} {g' : List Seg} {lo : Int}, Valid c st.length → Full st → Told f (applyC t c st) g' → Ok lo g' →
    ∃ g, Told f st g ∧ Ok lo g ∧ ¬ Mem (f t) g ∧ add (f t) g = g' ∧ pick (f t) g = c ∧ lo < f t
  | [], c, g', lo, hv, hF, ht, ok => by
    obtain ⟨w, k⟩ := c
    cases w with
    | beside => exact absurd (show k < 2 * 0 from hv) (by omega)
    | between => exact absurd (show k + 1 < 0 from hv) (by omega)
    | new =>
      have hk : k = 0 := by have h : k ≤ 0 := hv; omega
      subst hk
      have e : applyC t (.new, 0) [] = [[t]] := rfl
      rw [e] at ht
      obtain ⟨x, r, rfl, h1, h2⟩ := told_cons' ht
      have hr : r = [] := by simpa [Told] using h2
      subst hr
      have hx : x = (f t, 0) := sgi_inj (by rw [← h1]; simp [sgi])
      subst hx
      exact ⟨[], rfl, trivial, mem_nil, rfl, rfl, ok.1⟩
  | a :: st, c, g', lo, hv, hF, ht, ok => by
    have ha : a ≠ [] := hF a List.mem_cons_self
    have hF' : Full st := fun b hb => hF b (List.mem_cons_of_mem _ hb)
    rcases valid_shift (n := st.length) hv with ⟨c', rfl, hv'⟩ | rfl | rfl | rfl | rfl
    · rw [applyC_shift] at ht
      obtain ⟨⟨s, n⟩, r, rfl, h1, h2⟩ := told_cons' ht
      obtain ⟨g, t1, t2, t3, t4, t5, t6⟩ := un_apply hv' hF' h2 ok.2
      have h4 : s + n + 1 < f t := t6
      refine ⟨(s, n) :: g, ?_, ⟨ok.1, t2⟩, fun m => ?_, ?_, ?_, ?_⟩
      · show a.map f :: st.map (·.map f) = sgi (s, n) :: g.map sgi
        rw [h1, t1]
      · rcases mem_cons.mp m with m | m
        · have m : s ≤ f t ∧ f t ≤ s + n := m
          omega
        · exact t3 m
      · rw [(pick_4 h4).2, t4]
      · rw [(pick_4 h4).1, t5]
      · have := ok.1
        show lo < f t
        have q : lo < s := this
        omega
    · -- new, at the left
      have e : applyC t (.new, 0) (a :: st) = [t] :: a :: st := rfl
      rw [e] at ht
      obtain ⟨x, r, rfl, h1, h2⟩ := told_cons' ht
      have hx : x = (f t, 0) := sgi_inj (by rw [← h1]; simp [sgi])
      subst hx
      obtain ⟨⟨s, n⟩, r2, rfl, h3, h4⟩ := told_cons' h2
      have o1 : lo < f t := ok.1
      have o2 : f t + (0 : Nat) + 1 < s := ok.2.1
      have hp : f t < s - 1 := by omega
      refine ⟨(s, n) :: r2, h2, ⟨by show lo < s; omega, ok.2.2⟩, nmem (lo := f t) ⟨by show f t < s; omega, ok.2.2⟩ (Int.le_refl _), (pick_1 hp).2, (pick_1 hp).1, o1⟩
    · have e : applyC t (.beside, 0) (a :: st) = (t :: a) :: st := rfl
      rw [e] at ht
      obtain ⟨x, r, rfl, h1, h2⟩ := told_cons' ht
      obtain ⟨n, rfl, h3⟩ := sgi_pre (l := a.map f) (by rw [← h1]; rfl) (by simpa using ha)
      have o1 : lo < f t := ok.1
      have o2 : Ok (f t + ((n + 1 : Nat) : Int) + 1) r := ok.2
      have hp : f t = (f t + 1) - 1 := by omega
      have o3 : Ok (f t + 1 + (n : Int) + 1) r := by
        have : f t + 1 + (n : Int) + 1 = f t + ((n + 1 : Nat) : Int) + 1 := by omega
        rw [this]; exact o2
      refine ⟨(f t + 1, n) :: r, ?_, ⟨by show lo < f t + 1; omega, o3⟩, nmem (lo := f t) ⟨by show f t < f t + 1; omega, o3⟩ (Int.le_refl _), (pick_2 hp).2, (pick_2 hp).1, o1⟩
      show a.map f :: st.map (·.map f) = sgi (f t + 1, n) :: r.map sgi
      rw [h3, h2]
    · have e : applyC t (.beside, 1) (a :: st) = (a ++ [t]) :: st := rfl
      rw [e] at ht
      obtain ⟨x, r, rfl, h1, h2⟩ := told_cons' ht
      obtain ⟨s, n, rfl, h3, h4⟩ := sgi_suf (l := a.map f) (p := f t) (by rw [← h1]; simp) (by simpa using ha)
      have o1 : lo < s := ok.1
      have o2 : Ok (s + ((n + 1 : Nat) : Int) + 1) r := ok.2
      have o3 : Ok (s + (n : Int) + 1) r := ok_mono (by omega) o2
      have tld : Told f (a :: st) ((s, n) :: r) := by
        show a.map f :: st.map (·.map f) = sgi (s, n) :: r.map sgi
        rw [h3, h2]
      have nm : ¬ Mem (f t) ((s, n) :: r) := fun m => by
        rcases mem_cons.mp m with m | m
        · have m : s ≤ f t ∧ f t ≤ s + n := m
          omega
        · have := ok_lt o2 m
          omega
      cases r with
      | nil => exact ⟨_, tld, ⟨o1, o3⟩, nm, (pick_30 h4).2, (pick_30 h4).1, by omega⟩
      | cons y r =>
        obtain ⟨s', n'⟩ := y
        have o4 : s + ((n + 1 : Nat) : Int) + 1 < s' := o2.1
        have hne : s' ≠ f t + 1 := by omega
        exact ⟨_, tld, ⟨o1, o3⟩, nm, (pick_32 h4 hne).2, (pick_32 h4 hne).1, by omega⟩
    · cases st with
      | nil => exact absurd (show 0 + 1 < 1 from hv) (by omega)
      | cons b st =>
        have hb : b ≠ [] := hF' b List.mem_cons_self
        have e : applyC t (.between, 0) (a :: b :: st) = (a ++ [t] ++ b) :: st := rfl
        rw [e] at ht
        obtain ⟨x, r, rfl, h1, h2⟩ := told_cons' ht
        obtain ⟨s, n, n', rfl, h3, h4, h5⟩ := sgi_mid (l := a.map f) (p := f t) (r := b.map f) (by rw [← h1]; simp) (by simpa using ha) (by simpa using hb)
        have o1 : lo < s := ok.1
        have o2 : Ok (s + ((n + n' + 2 : Nat) : Int) + 1) r := ok.2
        have o3 : Ok (s + n + 2 + (n' : Int) + 1) r := by
          have : s + n + 2 + (n' : Int) + 1 = s + ((n + n' + 2 : Nat) : Int) + 1 := by omega
          rw [this]; exact o2
        have hp : s + (n : Int) + 2 = f t + 1 := by omega
        refine ⟨(s, n) :: (s + n + 2, n') :: r, ?_, ⟨o1, by show s + (n : Int) + 1 < s + n + 2; omega, o3⟩, fun m => ?_, (pick_31 h4 hp).2, (pick_31 h4 hp).1, by omega⟩
        · show a.map f :: b.map f :: st.map (·.map f) = sgi (s, n) :: sgi (s + n + 2, n') :: r.map sgi
          rw [h3, h5, h2]
        · rcases mem_cons.mp m with m | m
          · have m : s ≤ f t ∧ f t ≤ s + n := m
            omega
          · rcases mem_cons.mp m with m | m
            · have m : s + n + 2 ≤ f t ∧ f t ≤ s + n + 2 + n' := m
              omega
            · have := ok_lt o2 m
              omega
end OgM

namespace OgM
theorem apply_facts {t : Nat} : ∀ {st : List (List Nat)} {c : Ch}, Valid c st.length → Full st → Full (applyC t c st) ∧ (applyC t c st).flatten.Perm (t :: st.flatten)
  | [], c, hv, hF => by
    obtain ⟨w, k⟩ := c
    cases w with
    | beside => exact absurd (show k < 2 * 0 from hv) (by omega)
    | between => exact absurd (show k + 1 < 0 from hv) (by omega)
    | new =>
      have hk : k = 0 := by have h : k ≤ 0 := hv; omega
      subst hk
      exact ⟨fun a ha => by rw [List.mem_singleton.mp (show a ∈ [[t]] from ha)]; simp, List.Perm.refl _⟩
  | a :: st, c, hv, hF => by
    have ha : a ≠ [] := hF a List.mem_cons_self
    have hF' : Full st := fun b hb => hF b (List.mem_cons_of_mem _ hb)
    rcases valid_shift (n := st.length) hv with ⟨c', rfl, hv'⟩ | rfl | rfl | rfl | rfl
    · rw [applyC_shift]
      obtain ⟨h1, h2⟩ := apply_facts (t := t) hv' hF'
      refine ⟨fun b hb => ?_, ?_⟩
      · rcases List.mem_cons.mp hb with rfl | hb
        · exact ha
        · exact h1 b hb
      · show (a ++ (applyC t c' st).flatten).Perm (t :: (a ++ st.flatten))
        exact (List.Perm.append_left a h2).trans List.perm_middle
    · have e : applyC t (.new, 0) (a :: st) = [t] :: a :: st := rfl
      rw [e]
      refine ⟨fun b hb => ?_, List.Perm.refl _⟩
      rcases List.mem_cons.mp hb with rfl | hb
      · simp
      · exact hF b hb
    · have e : applyC t (.beside, 0) (a :: st) = (t :: a) :: st := rfl
      rw [e]
      refine ⟨fun b hb => ?_, List.Perm.refl _⟩
      rcases List.mem_cons.mp hb with rfl | hb
      · simp
      · exact hF' b hb
    · have e : applyC t (.beside, 1) (a :: st) = (a ++ [t]) :: st := rfl
      rw [e]
      refine ⟨fun b hb => ?_, ?_⟩
      · rcases List.mem_cons.mp hb with rfl | hb
        · simp
        · exact hF' b hb
      · show ((a ++ [t]) ++ st.flatten).Perm (t :: (a ++ st.flatten))
        rw [List.append_assoc]
        exact List.perm_middle
    · cases st with
      | nil => exact absurd (show 0 + 1 < 1 from hv) (by omega)
      | cons b st =>
        have e : applyC t (.between, 0) (a :: b :: st) = (a ++ [t] ++ b) :: st := rfl
        rw [e]
        refine ⟨fun x hx => ?_, ?_⟩
        · rcases List.mem_cons.mp hx with rfl | hx
          · simp
          · exact hF' x (List.mem_cons_of_mem _ hx)
        · show ((a ++ [t] ++ b) ++ st.flatten).Perm (t :: (a ++ (b ++ st.flatten)))
          rw [List.append_assoc, List.append_assoc]
          exact List.perm_middle
theorem st_facts {cs : List Ch} (v : VCh cs) : ∀ i, i ≤ cs.length → Full (stAt cs i) ∧ (stAt cs i).flatten.Nodup
  | 0, _ => ⟨fun a ha => absurd ha (by simp [stAt]), List.nodup_nil⟩
  | i + 1, h => by
    obtain ⟨h1, h2⟩ := st_facts v i (by omega)
    have e : cs[i]? = some (cs[i]'h) := List.getElem?_eq_getElem _
    have q := apply_facts (t := i) (v i _ e) h1
    show Full (applyC i (cs.getD i (.new, 0)) (stAt cs i)) ∧ (applyC i (cs.getD i (.new, 0)) (stAt cs i)).flatten.Nodup
    rw [getD_at e]
    refine ⟨q.1, q.2.nodup_iff.mpr (List.nodup_cons.mpr ⟨fun m => ?_, h2⟩)⟩
    have := (st_mem v i (by omega) i).mp m
    omega
/-! ### a row out of its groups -/
theorem told_uniq {f : Nat → Int} {st : List (List Nat)} : ∀ {g g' : List Seg}, Told f st g → Told f st g' → g = g' := by
  intro g g' h h'
  have e : g.map sgi = g'.map sgi := h.symm.trans h'
  clear h h'
  induction g generalizing g' with
  | nil => cases g' with
    | nil => rfl
    | cons _ _ => simp at e
  | cons x g ih => cases g' with
    | nil => simp at e
    | cons y g' =>
      rw [List.map_cons, List.map_cons] at e
      injection e with e1 e2
      rw [sgi_inj e1, ih e2]
section
variable {cs : List Ch} {f : Nat → Int} {g : List Seg} {lo : Int}
theorem down (v : VCh cs) (ht : Told f (stAt cs cs.length) g) (ok : Ok lo g) : ∀ k, k ≤ cs.length → ∃ g', Told f (stAt cs (cs.length - k)) g' ∧ Ok lo g'
  | 0, _ => ⟨g, ht, ok⟩
  | k + 1, hk => by
    obtain ⟨g', h1, h2⟩ := down v ht ok k (by omega)
    have hi : cs.length - (k + 1) < cs.length := by omega
    have e : cs[cs.length - (k + 1)]? = some (cs[cs.length - (k + 1)]'hi) := List.getElem?_eq_getElem _
    have e2 : cs.length - k = cs.length - (k + 1) + 1 := by omega
    rw [e2] at h1
    have h1 : Told f (applyC (cs.length - (k + 1)) (cs.getD (cs.length - (k + 1)) (.new, 0)) (stAt cs (cs.length - (k + 1)))) g' := h1
    rw [getD_at e] at h1
    obtain ⟨g0, t1, t2, _⟩ := un_apply (v _ _ e) (st_facts v _ (by omega)).1 h1 h2
    exact ⟨g0, t1, t2⟩
theorem turn (v : VCh cs) (ht : Told f (stAt cs cs.length) g) (ok : Ok lo g) {i : Nat} (hi : i < cs.length) : ∃ g0 g1, Told f (stAt cs i) g0 ∧ Told f (stAt cs (i + 1)) g1 ∧ Ok lo g0 ∧ ¬ Mem (f i) g0 ∧ add (f i) g0 = g1 ∧ pick (f i) g0 = cs[i]'hi ∧ lo < f i := by
  obtain ⟨g1, h1, h2⟩ := down v ht ok (cs.length - (i + 1)) (by omega)
  have e2 : cs.length - (cs.length - (i + 1)) = i + 1 := by omega
  rw [e2] at h1
  have e : cs[i]? = some (cs[i]'hi) := List.getElem?_eq_getElem _
  have h1' : Told f (applyC i (cs.getD i (.new, 0)) (stAt cs i)) g1 := h1
  rw [getD_at e] at h1'
  obtain ⟨g0, t1, t2, t3, t4, t5, t6⟩ := un_apply (v _ _ e) (st_facts v _ (by omega)).1 h1' h2
  exact ⟨g0, g1, t1, h1, t2, t3, t4, t5, t6⟩
def rowF (f : Nat → Int) (n : Nat) : List Int := (List.range n).map f
theorem rowF_len (f : Nat → Int) (n : Nat) : (rowF f n).length = n := by simp [rowF]
theorem rowF_take (f : Nat → Int) {n i : Nat} (h : i ≤ n) : (rowF f n).take i = rowF f i := by
  unfold rowF
  rw [← List.map_take, List.take_range, Nat.min_eq_left h]
theorem rowF_snoc (f : Nat → Int) (i : Nat) : rowF f (i + 1) = rowF f i ++ [f i] := by
  unfold rowF
  rw [List.range_succ, List.map_append]
  rfl
theorem rowF_get (f : Nat → Int) {n i : Nat} (h : i < n) : (rowF f n)[i]? = some (f i) := by
  unfold rowF
  rw [List.getElem?_map, List.getElem?_range h]
  rfl
theorem segs_told (v : VCh cs) (ht : Told f (stAt cs cs.length) g) (ok : Ok lo g) : ∀ i, i ≤ cs.length → Told f (stAt cs i) (segs (rowF f i))
  | 0, _ => rfl
  | i + 1, hi => by
    obtain ⟨g0, g1, t1, t2, t3, t4, t5, t6, _⟩ := turn v ht ok (i := i) hi
    rw [rowF_snoc, segs_snoc, told_uniq (segs_told v ht ok i (by omega)) t1, t5]
    exact t2
theorem segs_of (v : VCh cs) (ht : Told f (stAt cs cs.length) g) (ok : Ok lo g) : segs (rowF f cs.length) = g := told_uniq (segs_told v ht ok _ (Nat.le_refl _)) ht
theorem nodup_of (v : VCh cs) (ht : Told f (stAt cs cs.length) g) (ok : Ok lo g) : ∀ i, i ≤ cs.length → (rowF f i).Nodup
  | 0, _ => List.nodup_nil
  | i + 1, hi => by
    have ih := nodup_of v ht ok i (by omega)
    obtain ⟨g0, g1, t1, t2, t3, t4, t5, t6, _⟩ := turn v ht ok (i := i) hi
    rw [told_uniq t1 (segs_told v ht ok i (by omega))] at t4
    obtain ⟨lo', hlo⟩ := lower (rowF f i)
    rw [rowF_snoc, List.nodup_append]
    refine ⟨ih, by simp, fun a ha b hb e => t4 ?_⟩
    rw [List.mem_singleton] at hb
    subst hb
    rw [← e]
    exact ((segs_ok ih hlo).2 a).mpr ha
theorem picks_of (v : VCh cs) (ht : Told f (stAt cs cs.length) g) (ok : Ok lo g) : picks (rowF f cs.length) = cs := by
  refine List.ext_getElem? fun i => ?_
  by_cases hi : i < cs.length
  · rw [picks_get (rowF_get f hi), rowF_take f (by omega), List.getElem?_eq_getElem hi]
    obtain ⟨g0, g1, t1, t2, t3, t4, t5, t6, _⟩ := turn v ht ok (i := i) hi
    rw [told_uniq t1 (segs_told v ht ok i (by omega))] at t6
    rw [t6]
  · rw [List.getElem?_eq_none (by rw [picks_len, rowF_len]; omega), List.getElem?_eq_none (by omega)]
theorem mem_of (v : VCh cs) (ht : Told f (stAt cs cs.length) g) (ok : Ok lo g) (q : Int) : q ∈ rowF f cs.length ↔ Mem q g := by
  obtain ⟨lo', hlo⟩ := lower (rowF f cs.length)
  rw [← (segs_ok (nodup_of v ht ok _ (Nat.le_refl _)) hlo).2 q, segs_of v ht ok]
end
/-! ### groups laid out with given gaps -/
def lay : Int → List Int → List (List Nat) → List Seg
  | b, h :: hs, a :: st => (b + h, a.length - 1) :: lay (b + h + a.length) hs st
  | _, _, _ => []
theorem lay_len : ∀ (b : Int) {hs : List Int} {st : List (List Nat)}, st.length ≤ hs.length → (lay b hs st).length = st.length
  | _, [], [], _ => rfl
  | _, [], _ :: _, h => by simp at h
  | _, _ :: _, [], _ => rfl
  | b, x :: hs, a :: st, h => by
    show (lay _ hs st).length + 1 = st.length + 1
    rw [lay_len _ (by simpa using h)]
theorem lay_ok : ∀ (b : Int) {hs : List Int} {st : List (List Nat)}, Full st → (∀ x ∈ hs.take st.length, 1 ≤ x) → Ok b (lay b hs st)
  | _, [], [], _, _ => trivial
  | _, [], _ :: _, _, _ => trivial
  | _, _ :: _, [], _, _ => trivial
  | b, x :: hs, a :: st, hF, h => by
    have h1 := h x (by simp)
    have ha : 0 < a.length := List.length_pos_iff.mpr (hF a List.mem_cons_self)
    refine ⟨by show b < b + x; omega, ?_⟩
    have e : b + x + ((a.length - 1 : Nat) : Int) + 1 = b + x + (a.length : Int) := by omega
    show Ok (b + x + ((a.length - 1 : Nat) : Int) + 1) (lay (b + x + (a.length : Int)) hs st)
    rw [e]
    exact lay_ok _ (fun c hc => hF c (List.mem_cons_of_mem _ hc)) fun y hy => h y (by simp [hy])
theorem lay_holes : ∀ (b : Int) {hs : List Int} {st : List (List Nat)}, Full st → st.length ≤ hs.length → holesI b (lay b hs st) = hs.take st.length ∧ endB b (lay b hs st) = b + (hs.take st.length).sum + (st.flatten.length : Int)
  | b, [], [], _, _ => ⟨rfl, by show b = b + 0 + 0; omega⟩
  | _, [], _ :: _, _, h => by simp at h
  | b, _ :: _, [], _, _ => ⟨rfl, by show b = b + 0 + 0; omega⟩
  | b, x :: hs, a :: st, hF, h => by
    have ha : 0 < a.length := List.length_pos_iff.mpr (hF a List.mem_cons_self)
    have e : b + x + ((a.length - 1 : Nat) : Int) + 1 = b + x + (a.length : Int) := by omega
    obtain ⟨i1, i2⟩ := lay_holes (b + x + (a.length : Int)) (hs := hs) (st := st) (fun c hc => hF c (List.mem_cons_of_mem _ hc)) (by simpa using h)
    refine ⟨?_, ?_⟩
    · show (b + x - b) :: holesI (b + x + ((a.length - 1 : Nat) : Int) + 1) (lay (b + x + (a.length : Int)) hs st) = x :: hs.take st.length
      rw [e, i1]
      congr 1
      omega
    · show endB (b + x + ((a.length - 1 : Nat) : Int) + 1) (lay (b + x + (a.length : Int)) hs st) = b + (x + (hs.take st.length).sum) + ((a ++ st.flatten).length : Int)
      rw [e, i2, List.length_append]
      omega
theorem lay_sizes : ∀ (b : Int) {hs : List Int} {st : List (List Nat)}, Full st → st.length ≤ hs.length → ((lay b hs st).map sgi).map List.length = st.map List.length
  | _, [], [], _, _ => rfl
  | _, [], _ :: _, _, h => by simp at h
  | _, _ :: _, [], _, _ => rfl
  | b, x :: hs, a :: st, hF, h => by
    have ha : 0 < a.length := List.length_pos_iff.mpr (hF a List.mem_cons_self)
    show (sgi (b + x, a.length - 1)).length :: ((lay _ hs st).map sgi).map List.length = a.length :: st.map List.length
    rw [sgi_len, lay_sizes _ (fun c hc => hF c (List.mem_cons_of_mem _ hc)) (by simpa using h)]
    congr 1
    show a.length - 1 + 1 = a.length
    omega
theorem fn_of : ∀ (l : List Nat) (ys : List Int), l.Nodup → l.length = ys.length → ∃ f : Nat → Int, l.map f = ys
  | [], [], _, _ => ⟨fun _ => 0, rfl⟩
  | [], _ :: _, _, h => by simp at h
  | _ :: _, [], _, h => by simp at h
  | t :: l, y :: ys, hn, h => by
    rw [List.nodup_cons] at hn
    obtain ⟨f, hf⟩ := fn_of l ys hn.2 (by simpa using h)
    refine ⟨fun u => if u = t then y else f u, ?_⟩
    rw [List.map_cons, if_pos rfl]
    congr 1
    rw [← hf]
    refine List.map_congr_left fun u hu => if_neg (show ¬ (u = t) from fun e => hn.1 (e ▸ hu))
theorem unflat {α : Type} : ∀ {xs ys : List (List α)}, xs.flatten = ys.flatten → xs.map List.length = ys.map List.length → xs = ys
  | [], [], _, _ => rfl
  | [], _ :: _, _, h => by simp at h
  | _ :: _, [], _, h => by simp at h
  | x :: xs, y :: ys, e, h => by
    rw [List.map_cons, List.map_cons] at h
    injection h with h1 h2
    rw [List.flatten_cons, List.flatten_cons] at e
    have q := List.append_inj e h1
    rw [q.1, unflat q.2 h2]
theorem lay_told (b : Int) {hs : List Int} {st : List (List Nat)} (hF : Full st) (hl : st.length ≤ hs.length) (hn : st.flatten.Nodup) : ∃ f, Told f st (lay b hs st) := by
  have hz := lay_sizes b hF hl
  have e : st.flatten.length = ((lay b hs st).map sgi).flatten.length := by rw [List.length_flatten, List.length_flatten, hz]
  obtain ⟨f, hf⟩ := fn_of st.flatten _ hn e
  refine ⟨f, unflat ?_ ?_⟩
  · rw [← hf, List.map_flatten]
  · rw [hz, List.map_map]
    exact List.map_congr_left fun a _ => List.length_map ..
theorem holes_sum : ∀ (b : Int) (g : List Seg), (holesI b g).sum + (size g : Int) = endB b g - b
  | b, [] => by show (0 : Int) + 0 = b - b; omega
  | b, x :: r => by
    have ih := holes_sum (x.1 + x.2 + 1) r
    show (x.1 - b) + (holesI (x.1 + x.2 + 1) r).sum + ((x.2 + 1 + size r : Nat) : Int) = endB (x.1 + x.2 + 1) r - b
    omega
/-- other choices with as many groups: the row that has them, and the same gaps -/
theorem row_back {n : Int} {row : List Int} (h : Row n row) {cs : List Ch} (v : VCh cs) (hl : cs.length = row.length) (hs : (stAt cs cs.length).length = (segs row).length) :
    ∃ g f, Told f (stAt cs cs.length) g ∧ holes n g = holes n (segs row) ∧ Row n (rowF f cs.length) ∧ picks (rowF f cs.length) = cs ∧ segs (rowF f cs.length) = g := by
  obtain ⟨hF, hN⟩ := st_facts v cs.length (Nat.le_refl _)
  have hsz := (st_size v cs.length (Nat.le_refl _)).1
  obtain ⟨ok, mem⟩ := h.ok
  have hll : (holesI 0 (segs row)).length = (stAt cs cs.length).length := by rw [holesI_len, hs]
  obtain ⟨f, hf⟩ := lay_told 0 hF (Nat.le_of_eq hll.symm) hN
  obtain ⟨e1, e2⟩ := lay_holes 0 (hs := holesI 0 (segs row)) (st := stAt cs cs.length) hF (Nat.le_of_eq hll.symm)
  have et : (holesI 0 (segs row)).take (stAt cs cs.length).length = holesI 0 (segs row) := List.take_of_length_le (Nat.le_of_eq hll)
  rw [et] at e1 e2
  have sm := holes_sum 0 (segs row)
  rw [segs_size] at sm
  have ends : endB 0 (lay 0 (holesI 0 (segs row)) (stAt cs cs.length)) = endB 0 (segs row) := by
    rw [e2, hsz, hl]
    omega
  have hok : Ok (-1) (lay 0 (holesI 0 (segs row)) (stAt cs cs.length)) := by
    have top := holesI_top ok
    revert top hll hF hN e1 e2 et ends
    generalize holesI 0 (segs row) = hs0
    generalize stAt cs cs.length = st
    intro hF hN hll _ _ _ _ top
    cases hs0 with
    | nil => exact trivial
    | cons x hs0 =>
      cases st with
      | nil => exact trivial
      | cons a st =>
        have ha : 0 < a.length := List.length_pos_iff.mpr (hF a List.mem_cons_self)
        have h0 := (top 0 x rfl).1
        refine ⟨by show (-1 : Int) < 0 + x; omega, ?_⟩
        have e : (0 : Int) + x + ((a.length - 1 : Nat) : Int) + 1 = 0 + x + (a.length : Int) := by omega
        show Ok ((0 : Int) + x + ((a.length - 1 : Nat) : Int) + 1) (lay (0 + x + (a.length : Int)) hs0 st)
        rw [e]
        refine lay_ok _ (fun c hc => hF c (List.mem_cons_of_mem _ hc)) fun y hy => ?_
        obtain ⟨j, hj⟩ := List.getElem?_of_mem (List.mem_of_mem_take hy)
        exact (top (j + 1) y (by simpa using hj)).2 (by omega)
  have upper : ∀ q, Mem q (lay 0 (holesI 0 (segs row)) (stAt cs cs.length)) → q < n := fun q hq => by
    have : ∀ (g : List Seg) (b lo : Int), Ok lo g → Mem q g → q < endB b g := by
      intro g
      induction g with
      | nil => intro b lo _ m; exact absurd m mem_nil
      | cons x r ih =>
        intro b lo k m
        show q < endB (x.1 + x.2 + 1) r
        rcases mem_cons.mp m with m | m
        · have hh : ∀ (r : List Seg) (c : Int), Ok c r → c ≤ endB c r := by
            intro r
            induction r with
            | nil => intro c _; exact Int.le_refl _
            | cons y r ih2 =>
              intro c kk
              have := ih2 _ kk.2
              have := kk.1
              show c ≤ endB (y.1 + y.2 + 1) r
              omega
          have := hh r _ k.2
          omega
        · exact ih _ _ k.2 m
    have h1 := this _ 0 _ hok hq
    rw [ends] at h1
    have h2 := endB_le (g := segs row) (b := 0) (c := n) ?_ fun p hp => h.hi p ((mem p).mp hp)
    · omega
    · cases hr : row with
      | nil =>
        rw [hr] at hl
        have e0 : cs = [] := List.length_eq_zero_iff.mp (by simpa using hl)
        subst e0
        exact absurd hq (by show ¬ Mem q (lay 0 _ []); cases holesI 0 (segs row) <;> exact mem_nil)
      | cons p r =>
        have a1 := h.lo p (by rw [hr]; simp)
        have a2 := h.hi p (by rw [hr]; simp)
        omega
  refine ⟨_, f, hf, ?_, ⟨nodup_of v hf hok _ (Nat.le_refl _), fun p hp => ?_, fun p hp => upper p ((mem_of v hf hok p).mp hp)⟩, picks_of v hf hok, segs_of v hf hok⟩
  · unfold holes
    rw [e1, ends]
  · have := ok_lt hok ((mem_of v hf hok p).mp hp)
    omega
/-- one number changed -/
theorem vch_set {cs : List Ch} (v : VCh cs) {i : Nat} {w : Wd} {k k' : Nat} (e : cs[i]? = some (w, k)) (hv : Valid (w, k') (stAt cs i).length) :
    VCh (cs.set i (w, k')) ∧ (stAt (cs.set i (w, k')) cs.length).length = (stAt cs cs.length).length := by
  have hi := (List.getElem?_eq_some_iff.mp e).1
  have key : ∀ j, j ≤ cs.length → (stAt (cs.set i (w, k')) j).length = (stAt cs j).length ∧ ∀ j', j' < j → ∀ c, (cs.set i (w, k'))[j']? = some c → Valid c (stAt (cs.set i (w, k')) j').length := by
    intro j
    induction j with
    | zero => exact fun _ => ⟨rfl, fun j' h => absurd h (by omega)⟩
    | succ j ih =>
      intro hj
      obtain ⟨i1, i2⟩ := ih (by omega)
      have ej : cs[j]? = some (cs[j]'hj) := List.getElem?_eq_getElem _
      have hval : ∀ c, (cs.set i (w, k'))[j]? = some c → Valid c (stAt (cs.set i (w, k')) j).length ∧ c.1 = (cs[j]'hj).1 := fun c hc => by
        rw [i1]
        by_cases z : i = j
        · subst z
          rw [List.getElem?_set_self hi] at hc
          cases hc
          rw [ej] at e
          refine ⟨hv, ?_⟩
          rw [Option.some.inj e]
        · rw [List.getElem?_set_ne z, ej] at hc
          cases hc
          exact ⟨v j _ ej, rfl⟩
      refine ⟨?_, fun j' h c hc => ?_⟩
      · have hj2 : j < (cs.set i (w, k')).length := by rw [List.length_set]; exact hj
        have ec : (cs.set i (w, k'))[j]? = some ((cs.set i (w, k'))[j]'hj2) := List.getElem?_eq_getElem _
        obtain ⟨v1, v2⟩ := hval _ ec
        have a1 := (apply_size j v1).2
        have a2 := (apply_size j (v j _ ej)).2
        show (applyC j ((cs.set i (w, k')).getD j (.new, 0)) (stAt (cs.set i (w, k')) j)).length = (applyC j (cs.getD j (.new, 0)) (stAt cs j)).length
        rw [getD_at ec, getD_at ej]
        rw [v2] at a1
        omega
      · by_cases z : j' = j
        · subst z
          exact (hval c hc).1
        · exact i2 j' (by omega) c hc
  refine ⟨fun j c hc => ?_, (key cs.length (Nat.le_refl _)).1⟩
  have hj := (List.getElem?_eq_some_iff.mp hc).1
  rw [List.length_set] at hj
  exact (key cs.length (Nat.le_refl _)).2 j hj c hc
end OgM

namespace OgM
/-! ### a row is told by its choices and its holes -/
theorem told_sizes {f : Nat → Int} {st : List (List Nat)} {g : List Seg} (h : Told f st g) : st.map List.length = g.map fun x => x.2 + 1 := by
  have e := congrArg (List.map List.length) h
  rw [List.map_map, List.map_map] at e
  have e1 : st.map (List.length ∘ fun l => l.map f) = st.map List.length := List.map_congr_left fun a _ => by simp
  have e2 : g.map (List.length ∘ sgi) = g.map fun x => x.2 + 1 := List.map_congr_left fun a _ => by simp [sgi_len]
  rw [e1, e2] at e
  exact e
theorem g_uniq : ∀ {g1 g2 : List Seg} {b : Int}, (g1.map fun x => x.2 + 1) = (g2.map fun x => x.2 + 1) → holesI b g1 = holesI b g2 → g1 = g2
  | [], [], _, _, _ => rfl
  | [], _ :: _, _, h, _ => by simp at h
  | _ :: _, [], _, h, _ => by simp at h
  | (s, n) :: g1, (s', n') :: g2, b, h, e => by
    simp only [List.map_cons, List.cons.injEq] at h
    have e : (s - b) :: holesI (s + n + 1) g1 = (s' - b) :: holesI (s' + n' + 1) g2 := e
    simp only [List.cons.injEq] at e
    have hn : n = n' := by omega
    have hs : s = s' := by omega
    subst hn
    subst hs
    rw [g_uniq h.2 e.2]
theorem map_mem_eq {α β : Type} {f1 f2 : α → β} : ∀ {l : List α}, l.map f1 = l.map f2 → ∀ x ∈ l, f1 x = f2 x
  | [], _, _, hx => by simp at hx
  | a :: l, h, x, hx => by
    simp only [List.map_cons, List.cons.injEq] at h
    rcases List.mem_cons.mp hx with rfl | hx
    · exact h.1
    · exact map_mem_eq h.2 x hx
theorem holesI_of {n : Int} {g1 g2 : List Seg} (h : holes n g1 = holes n g2) : holesI 0 g1 = holesI 0 g2 := by
  unfold holes at h
  exact (List.append_inj' h rfl).1
theorem row_uniq {n : Int} {r1 r2 : List Int} (h1 : Row n r1) (h2 : Row n r2) (hp : picks r1 = picks r2) (hh : holes n (segs r1) = holes n (segs r2)) : r1 = r2 := by
  have hl : r1.length = r2.length := by rw [← picks_len r1, ← picks_len r2, hp]
  obtain ⟨t1, m1⟩ := picks_told h1 r1.length (Nat.le_refl _)
  obtain ⟨t2, m2⟩ := picks_told h2 r2.length (Nat.le_refl _)
  rw [List.take_length] at t1 t2
  rw [← hp, ← hl] at t2
  have hg : segs r1 = segs r2 := g_uniq (by rw [← told_sizes t1, ← told_sizes t2]) (holesI_of hh)
  have e : (stAt (picks r1) r1.length).map (·.map fun t => r1.getD t 0) = (stAt (picks r1) r1.length).map (·.map fun t => r2.getD t 0) := by
    have a : _ = _ := t1
    have b : _ = _ := t2
    rw [hg] at a
    exact a.trans b.symm
  have ev : ∀ t, t < r1.length → r1.getD t 0 = r2.getD t 0 := fun t ht => by
    obtain ⟨l, hl1, hl2⟩ := List.mem_flatten.mp ((m1 t).mpr ht)
    exact map_mem_eq (map_mem_eq e l hl1) t hl2
  refine List.ext_getElem? fun t => ?_
  by_cases ht : t < r1.length
  · have := ev t ht
    rw [List.getD_eq_getElem?_getD, List.getD_eq_getElem?_getD, List.getElem?_eq_getElem ht, List.getElem?_eq_getElem (by omega)] at this
    rw [List.getElem?_eq_getElem ht, List.getElem?_eq_getElem (by omega)]
    exact congrArg some this
  · rw [List.getElem?_eq_none (by omega), List.getElem?_eq_none (by omega)]
/-- how many groups there are, by the choices -/
theorem segs_steps {n : Int} {row : List Int} (h : Row n row) {i : Nat} (hi : i ≤ row.length) : ((segs (row.take i)).length : Int) = (((picks row).take i).map fun c => c.1.step).sum := by
  obtain ⟨t, _⟩ := picks_told h i hi
  have e := congrArg List.length (show _ = _ from t)
  rw [List.length_map, List.length_map] at e
  rw [steps_sum (picks_valid h) i (by rw [picks_len]; exact hi), e]
/-- the number of groups before -/
theorem st_segs {n : Int} {row : List Int} (h : Row n row) {i : Nat} (hi : i ≤ row.length) : (stAt (picks row) i).length = (segs (row.take i)).length := by
  obtain ⟨t, _⟩ := picks_told h i hi
  have e := congrArg List.length (show _ = _ from t)
  rw [List.length_map, List.length_map] at e
  exact e
/-- one choice put in the place of another -/
theorem row_set {n : Int} {row : List Int} (h : Row n row) {i : Nat} {w : Wd} {k k' : Nat} (e : (picks row)[i]? = some (w, k)) (hv : Valid (w, k') (segs (row.take i)).length) :
    ∃ g f, Told f (stAt ((picks row).set i (w, k')) row.length) g ∧ VCh ((picks row).set i (w, k')) ∧ holes n g = holes n (segs row) ∧ Row n (rowF f row.length) ∧ picks (rowF f row.length) = (picks row).set i (w, k') ∧ segs (rowF f row.length) = g := by
  have hi : i < row.length := by
    have := (List.getElem?_eq_some_iff.mp e).1
    rw [picks_len] at this
    exact this
  obtain ⟨v, hs⟩ := vch_set (picks_valid h) e (by rw [st_segs h (by omega)]; exact hv)
  have hl : ((picks row).set i (w, k')).length = row.length := by rw [List.length_set, picks_len]
  rw [picks_len] at hs
  have hs2 := st_segs h (Nat.le_refl row.length)
  rw [List.take_length] at hs2
  obtain ⟨g, f, a, b, c, d, e'⟩ := row_back h v hl (by rw [hl, hs, hs2])
  rw [hl] at a c d e'
  exact ⟨g, f, a, v, b, c, d, e'⟩
theorem set_steps {cs : List Ch} {i : Nat} {w : Wd} {k k' : Nat} (e : cs[i]? = some (w, k)) : (cs.set i (w, k')).map (fun c => c.1) = cs.map fun c => c.1 := by
  refine List.ext_getElem? fun j => ?_
  rw [List.getElem?_map, List.getElem?_map]
  by_cases hj : j = i
  · subst hj
    rw [List.getElem?_set_self (List.getElem?_eq_some_iff.mp e).1, e]
    rfl
  · rw [List.getElem?_set_ne (Ne.symm hj)]
theorem picks_words {n m : Int} {r1 r2 : List Int} (h1 : Row n r1) (h2 : Row m r2) (hw : (picks r1).map (·.1) = (picks r2).map (·.1)) (i : Nat) (hi : i ≤ r1.length) : (segs (r1.take i)).length = (segs (r2.take i)).length := by
  have hl : r1.length = r2.length := by
    have := congrArg List.length hw
    rw [List.length_map, List.length_map, picks_len, picks_len] at this
    exact this
  have a := segs_steps h1 hi
  have b := segs_steps h2 (by omega : i ≤ r2.length)
  have c : ((picks r1).take i).map (fun c => c.1.step) = ((picks r2).take i).map (fun c => c.1.step) := by
    have := congrArg (List.map Wd.step) (congrArg (List.take i) hw)
    rw [← List.map_take, ← List.map_take, List.map_map, List.map_map] at this
    exact this
  rw [c] at a
  omega
end OgM

namespace OgM
/-! ### ways to cho -/
def cho : Nat → Nat → Nat
  | _, 0 => 1
  | 0, _ + 1 => 0
  | n + 1, k + 1 => cho n k + cho n (k + 1)
theorem choose_0 (n : Nat) : cho n 0 = 1 := by cases n <;> rfl
theorem choose_gt : ∀ {n k : Nat}, n < k → cho n k = 0
  | _, 0, h => by omega
  | 0, _ + 1, _ => rfl
  | n + 1, k + 1, h => by
    show cho n k + cho n (k + 1) = 0
    rw [choose_gt (by omega), choose_gt (by omega)]
theorem choose_succ : ∀ n k : Nat, (n + 1) * cho n k = cho (n + 1) (k + 1) * (k + 1)
  | 0, 0 => rfl
  | 0, k + 1 => by
    show 1 * 0 = (cho 0 (k + 1) + cho 0 (k + 2)) * (k + 2)
    rw [show cho 0 (k + 1) = 0 from rfl, show cho 0 (k + 2) = 0 from rfl]
    omega
  | n + 1, 0 => by
    have h : (n + 1) * cho n 0 = cho (n + 1) 1 * (0 + 1) := choose_succ n 0
    rw [choose_0] at h ⊢
    show _ = (cho (n + 1) 0 + cho (n + 1) 1) * 1
    rw [choose_0]
    omega
  | n + 1, k + 1 => by
    have h1 : (n + 1) * cho n k = (cho n k + cho n (k + 1)) * (k + 1) := choose_succ n k
    have h2 : (n + 1) * cho n (k + 1) = cho (n + 1) (k + 2) * (k + 2) := choose_succ n (k + 1)
    show (n + 2) * (cho n k + cho n (k + 1)) = ((cho n k + cho n (k + 1)) + cho (n + 1) (k + 2)) * (k + 2)
    generalize cho n k = a at *
    generalize cho n (k + 1) = b at *
    generalize cho (n + 1) (k + 2) = p at *
    have e1 : (a + b + p) * (k + 2) = (a + b) * (k + 1) + (a + b) + p * (k + 2) := by rw [Nat.add_mul, show k + 2 = k + 1 + 1 from rfl, Nat.mul_add (a + b) (k + 1) 1]; omega
    have e2 : (n + 2) * (a + b) = (n + 1) * a + (n + 1) * b + (a + b) := by rw [show n + 2 = n + 1 + 1 from rfl, Nat.add_mul (n + 1) 1, Nat.mul_add (n + 1)]; omega
    rw [e1, e2, ← h1, ← h2]
    omega
theorem choose_step (n k : Nat) : cho n k * (n - k) = cho n (k + 1) * (k + 1) := by
  by_cases h : n < k
  · rw [choose_gt h, choose_gt (by omega)]
    omega
  · have h1 : (n + 1) * cho n k = (cho n k + cho n (k + 1)) * (k + 1) := choose_succ n k
    rw [Nat.add_mul (cho n k)] at h1
    have e2 : cho n k * (n - k) + cho n k * (k + 1) = (n + 1) * cho n k := by
      rw [← Nat.mul_add, show n - k + (k + 1) = n + 1 by omega, Nat.mul_comm]
    omega
theorem choose_int (n j : Nat) : (cho n j : Int) * ((n : Int) - (j : Int)) / ((j : Int) + 1) = (cho n (j + 1) : Int) := by
  by_cases h : n < j
  · rw [choose_gt h, choose_gt (by omega)]
    simp
  · have e := choose_step n j
    have e2 : (cho n j : Int) * ((n : Int) - (j : Int)) = (cho n (j + 1) : Int) * ((j : Int) + 1) := by
      rw [show (n : Int) - (j : Int) = ((n - j : Nat) : Int) by omega, show (j : Int) + 1 = ((j + 1 : Nat) : Int) by omega, ← Int.natCast_mul, ← Int.natCast_mul, e]
    rw [e2]
    exact Int.mul_ediv_cancel _ (by omega)
/-! ### notes -/
inductive NV where
  | g (n : Nat)
  | h (w : Wd)
deriving DecidableEq
structure Nt where
  t : Nat
  v : NV
deriving DecidableEq
def NV.g? : NV → Option Nat
  | .g n => some n
  | .h _ => none
def NV.h? : NV → Option Wd
  | .g _ => none
  | .h w => some w
/-- the number of groups noted for a time; of several the last -/
def gAt : List Nt → Nat → Option Nat
  | [], _ => none
  | n :: ns, t => (gAt ns t).or (if n.t = t then n.v.g? else none)
def hAt : List Nt → Nat → Option Wd
  | [], _ => none
  | n :: ns, t => (hAt ns t).or (if n.t = t then n.v.h? else none)
def waysN (w : Wd) (m : Nat) : Nat := match w with
  | .new => m + 1
  | .beside => 2 * m
  | .between => m - 1
theorem valid_ways {w : Wd} {k m : Nat} : Valid (w, k) m ↔ k < waysN w m := by
  cases w
  · show k ≤ m ↔ k < m + 1
    omega
  · exact Iff.rfl
  · show k + 1 < m ↔ k < m - 1
    omega
/-- the number of groups after such a house -/
def nextM (m : Nat) : Wd → Nat
  | .new => m + 1
  | .beside => m
  | .between => m - 1
theorem nextM_step {m : Nat} {w : Wd} (h : waysN w m ≠ 0) : (nextM m w : Int) = m + w.step := by
  cases w
  · rfl
  · show (m : Int) = m + 0
    omega
  · have h : m - 1 ≠ 0 := h
    show ((m - 1 : Nat) : Int) = m + -1
    omega
def wOk (ns : List Nt) (t m : Nat) (w : Wd) : Bool := decide (waysN w m ≠ 0) && ((hAt ns t).getD w == w && (gAt ns t).getD (nextM m w) == nextM m w)
def asc : List Wd := [.beside, .between, .new]
def wordsAt (ns : List Nt) (t m : Nat) : List Wd := asc.filter (wOk ns t m)
/-- how many ways lead on from m groups with k houses to come; e empty plots at last -/
def FW (φ : List Nat → Nat) (ns : List Nt) (e T : Nat) : Nat → Nat → Nat
  | 0, m => cho (e + 1) m
  | k + 1, m => φ ((wordsAt ns (T - (k + 1)) m).map fun w => waysN w m * FW φ ns e T k (nextM m w))
/-- the words, the numbers of choices, the ways on -/
def blocksAt (ns : List Nt) (f : Nat → Nat) (t m : Nat) : List (Wd × Nat × Nat) := (wordsAt ns t m).map fun w => (w, waysN w m, f (nextM m w))
end OgM

namespace OgM
/-! ### lists made of blocks -/
theorem flat_get {α β : Type} (f : α → List β) : ∀ (l : List α) (a : α) (r : List α) (j : Nat), l = a :: r → (l.flatMap f)[j]? = if j < (f a).length then (f a)[j]? else (r.flatMap f)[j - (f a).length]?
  | _, a, r, j, rfl => by
    rw [List.flatMap_cons]
    by_cases h : j < (f a).length
    · rw [if_pos h, List.getElem?_append_left h]
    · rw [if_neg h, List.getElem?_append_right (by omega)]
theorem sum_map_const {α : Type} (b : Nat) : ∀ l : List α, (l.map fun _ => b).sum = l.length * b
  | [] => by simp
  | _ :: l => by
    rw [List.map_cons, List.sum_cons, sum_map_const b l, List.length_cons, Nat.add_mul]
    omega
theorem flat_len {α β : Type} (f : α → List β) (l : List α) : (l.flatMap f).length = (l.map fun a => (f a).length).sum := by
  rw [List.length_flatMap]
theorem map_get_same {α : Type} {l l' : List α} (h : l.length = l'.length) (e : ∀ i, i < l.length → l[i]? = l'[i]?) : l = l' := by
  refine List.ext_getElem? fun i => ?_
  by_cases hi : i < l.length
  · exact e i hi
  · rw [List.getElem?_eq_none (by omega), List.getElem?_eq_none (by omega)]
/-- n blocks of b items each -/
theorem flat_range_get {β : Type} (f : Nat → List β) (b : Nat) (hb : 0 < b) : ∀ (n s j : Nat), (∀ c, c < n → (f (s + c)).length = b) → j < n * b → ((List.range' s n).flatMap f)[j]? = (f (s + j / b))[j % b]?
  | 0, s, j, _, hj => by omega
  | n + 1, s, j, h, hj => by
    have h0 : (f s).length = b := h 0 (by omega)
    rw [flat_get f (List.range' s (n + 1)) s (List.range' (s + 1) n) j rfl, h0]
    by_cases hjb : j < b
    · rw [if_pos hjb, Nat.div_eq_of_lt hjb, Nat.mod_eq_of_lt hjb, Nat.add_zero]
    · rw [if_neg hjb, flat_range_get f b hb n (s + 1) (j - b) (fun c hc => by rw [show s + 1 + c = s + (c + 1) by omega]; exact h (c + 1) (by omega)) (by rw [Nat.add_mul] at hj; omega)]
      have e1 : j / b = (j - b) / b + 1 := by rw [Nat.div_eq_sub_div hb (by omega)]
      have e2 : j % b = (j - b) % b := by rw [Nat.mod_eq_sub_mod (by omega)]
      rw [e1, e2, show s + 1 + (j - b) / b = s + ((j - b) / b + 1) by omega]
/-! ### gaps in their order -/
def allGaps : Nat → Nat → Nat → List (List Nat)
  | 0, _, e => [[e]]
  | m + 1, l, e => (List.range' l (e + 1 - l)).flatMap fun g => (allGaps m 1 (e - g)).map (g :: ·)
theorem choose_sum (m : Nat) : ∀ n : Nat, cho (n + 1) (m + 1) = cho n m + cho n (m + 1) := fun _ => rfl
/-- the sum of the ways behind each first gap -/
theorem gaps_sum (m e : Nat) : ∀ (k l : Nat), l + k = e + 1 → ((List.range' l k).map fun g => cho (e - g) m).sum = cho (e + 1 - l) (m + 1)
  | 0, l, h => by
    rw [show e + 1 - l = 0 by omega]
    rfl
  | k + 1, l, h => by
    rw [List.range'_succ, List.map_cons, List.sum_cons, gaps_sum m e k (l + 1) (by omega), show e + 1 - l = (e - l) + 1 by omega, show e + 1 - (l + 1) = e - l by omega, choose_sum]
theorem gaps_len : ∀ (m l e : Nat), l ≤ 1 → l ≤ e + 1 → (m = 0 → l ≤ 1) → (allGaps m l e).length = if m = 0 then 1 else cho (e + 1 - l) m
  | 0, l, e, _, _, _ => rfl
  | m + 1, l, e, hl, hle, _ => by
    rw [if_neg (by omega)]
    show ((List.range' l (e + 1 - l)).flatMap _).length = _
    rw [flat_len, ← gaps_sum m e (e + 1 - l) l (by omega)]
    congr 1
    refine List.map_congr_left fun g hg => ?_
    have hg := List.mem_range'_1.mp hg
    rw [List.length_map, gaps_len m 1 (e - g) (by omega) (by omega) (by omega)]
    by_cases h0 : m = 0
    · rw [if_pos h0, h0, choose_0]
    · rw [if_neg h0, show e - g + 1 - 1 = e - g by omega]
theorem gaps_len' (m l e : Nat) (hl : l ≤ 1) (hle : l ≤ e + 1) : (allGaps m l e).length = cho (e + 1 - l) m := by
  rw [gaps_len m l e hl hle (fun _ => hl)]
  by_cases h0 : m = 0
  · rw [if_pos h0, h0, choose_0]
  · rw [if_neg h0]
theorem choose_mono {m : Nat} : ∀ {n n' : Nat}, n ≤ n' → cho n m ≤ cho n' m := by
  intro n n' h
  induction h with
  | refl => exact Nat.le_refl _
  | step _ ih =>
    refine Nat.le_trans ih ?_
    cases m with
    | zero => rw [choose_0, choose_0]; exact Nat.le_refl _
    | succ m => rw [choose_sum]; omega
/-- by the first gap -/
theorem gaps_get {m l e g k : Nat} (hl : l ≤ 1) (h1 : l ≤ g) (h2 : g ≤ e) (h3 : cho (e + 1 - l) (m + 1) - cho (e + 1 - g) (m + 1) ≤ k) (h4 : k < cho (e + 1 - l) (m + 1) - cho (e - g) (m + 1)) :
    (allGaps (m + 1) l e)[k]? = ((allGaps m 1 (e - g))[k - (cho (e + 1 - l) (m + 1) - cho (e + 1 - g) (m + 1))]?).map (g :: ·) := by
  have go : ∀ (d l k : Nat), l + d = g → cho (e + 1 - l) (m + 1) - cho (e + 1 - g) (m + 1) ≤ k → k < cho (e + 1 - l) (m + 1) - cho (e - g) (m + 1) →
      ((List.range' l (e + 1 - l)).flatMap fun g => (allGaps m 1 (e - g)).map (g :: ·))[k]? = ((allGaps m 1 (e - g))[k - (cho (e + 1 - l) (m + 1) - cho (e + 1 - g) (m + 1))]?).map (g :: ·) := by
    intro d
    induction d with
    | zero =>
      intro l k hd h3 h4
      have : l = g := by omega
      subst this
      rw [flat_get _ (List.range' l (e + 1 - l)) l (List.range' (l + 1) (e - l)) k (by rw [show e + 1 - l = e - l + 1 by omega]; rfl)]
      have e1 : ((allGaps m 1 (e - l)).map (l :: ·)).length = cho (e - l) m := by
        rw [List.length_map, gaps_len' m 1 (e - l) (by omega) (by omega), show e - l + 1 - 1 = e - l by omega]
      have e2 : cho (e + 1 - l) (m + 1) = cho (e - l) m + cho (e - l) (m + 1) := by rw [show e + 1 - l = e - l + 1 by omega, choose_sum]
      rw [e1, if_pos (by omega), Nat.sub_self, Nat.sub_zero, List.getElem?_map]
    | succ d ih =>
      intro l k hd h3 h4
      rw [flat_get _ (List.range' l (e + 1 - l)) l (List.range' (l + 1) (e - l)) k (by rw [show e + 1 - l = e - l + 1 by omega]; rfl)]
      have e1 : ((allGaps m 1 (e - l)).map (l :: ·)).length = cho (e - l) m := by
        rw [List.length_map, gaps_len' m 1 (e - l) (by omega) (by omega), show e - l + 1 - 1 = e - l by omega]
      have e2 : cho (e + 1 - l) (m + 1) = cho (e - l) m + cho (e - l) (m + 1) := by rw [show e + 1 - l = e - l + 1 by omega, choose_sum]
      have e3 : cho (e + 1 - g) (m + 1) ≤ cho (e - l) (m + 1) := choose_mono (by omega)
      have e4 : cho (e - g) (m + 1) ≤ cho (e - l) (m + 1) := choose_mono (by omega)
      rw [e1, if_neg (by omega)]
      have := ih (l + 1) (k - cho (e - l) m) (by omega) (by rw [show e + 1 - (l + 1) = e - l by omega]; omega) (by rw [show e + 1 - (l + 1) = e - l by omega]; omega)
      rw [show e + 1 - (l + 1) = e - l by omega] at this
      rw [this]
      congr 2
      omega
  exact go (g - l) l k (by omega) h3 h4
end OgM

namespace OgM
/-! ### all choices and gaps in their order -/
abbrev Wy := List Ch × List Nat
def consW (c : Ch) (x : Wy) : Wy := (c :: x.1, x.2)
def wBlk (m : Nat) (A : Nat → List Wy) (w : Wd) : List Wy := (List.range' 0 (waysN w m)).flatMap fun c => (A (nextM m w)).map (consW (w, c))
def allWays (ns : List Nt) (e T : Nat) : Nat → Nat → List Wy
  | 0, m => (allGaps m 0 e).map fun g => ([], g)
  | k + 1, m => (wordsAt ns (T - (k + 1)) m).flatMap (wBlk m (allWays ns e T k))
theorem wBlk_len (m : Nat) (A : Nat → List Wy) (w : Wd) : (wBlk m A w).length = waysN w m * (A (nextM m w)).length := by
  unfold wBlk
  rw [flat_len]
  have e : (List.range' 0 (waysN w m)).map (fun c => ((A (nextM m w)).map (consW (w, c))).length) = (List.range' 0 (waysN w m)).map fun _ => (A (nextM m w)).length := List.map_congr_left fun c _ => by rw [List.length_map]
  rw [e, sum_map_const, List.length_range']
theorem wBlk_get {m : Nat} {A : Nat → List Wy} {w : Wd} {j : Nat} (h : j < waysN w m * (A (nextM m w)).length) :
    (wBlk m A w)[j]? = ((A (nextM m w))[j % (A (nextM m w)).length]?).map (consW (w, j / (A (nextM m w)).length)) := by
  have hb : 0 < (A (nextM m w)).length := by
    rcases Nat.eq_zero_or_pos (A (nextM m w)).length with h0 | h0
    · rw [h0, Nat.mul_zero] at h; omega
    · exact h0
  unfold wBlk
  rw [flat_range_get (fun c => (A (nextM m w)).map (consW (w, c))) (A (nextM m w)).length hb (waysN w m) 0 j (fun c _ => by rw [List.length_map]) h, List.getElem?_map, Nat.zero_add]
theorem ways_len (ns : List Nt) (e T : Nat) : ∀ k m : Nat, (allWays ns e T k m).length = FW List.sum ns e T k m
  | 0, m => by
    show ((allGaps m 0 e).map _).length = cho (e + 1) m
    rw [List.length_map, gaps_len' m 0 e (by omega) (by omega), Nat.sub_zero]
  | k + 1, m => by
    show ((wordsAt ns (T - (k + 1)) m).flatMap _).length = List.sum _
    rw [flat_len]
    congr 1
    refine List.map_congr_left fun w _ => ?_
    rw [wBlk_len, ways_len ns e T k]
/-! the choice in whose ways a number lies -/
def chAt : List (Wd × Nat × Nat) → Nat → Option (Ch × Nat)
  | [], _ => none
  | (w, c, b) :: bs, j => if j < c * b then some ((w, j / b), j % b) else chAt bs (j - c * b)
def wBef : List (Wd × Nat × Nat) → Ch → Option Nat
  | [], _ => none
  | (w, c, b) :: bs, ch => if w = ch.1 then some (ch.2 * b) else (wBef bs ch).map (c * b + ·)
theorem chAt_get (m : Nat) (A : Nat → List Wy) : ∀ (ws : List Wd) (j : Nat), j < ((ws.map fun w => waysN w m * (A (nextM m w)).length).sum) →
    ∃ w c r, chAt (ws.map fun w => (w, waysN w m, (A (nextM m w)).length)) j = some ((w, c), r) ∧ w ∈ ws ∧ c < waysN w m ∧ r < (A (nextM m w)).length ∧ (ws.flatMap (wBlk m A))[j]? = ((A (nextM m w))[r]?).map (consW (w, c))
  | [], j, h => by simp at h
  | w :: ws, j, h => by
    rw [flat_get _ (w :: ws) w ws j rfl, wBlk_len]
    show ∃ w' c r, (if j < waysN w m * (A (nextM m w)).length then _ else _) = _ ∧ _
    by_cases hj : j < waysN w m * (A (nextM m w)).length
    · rw [if_pos hj, if_pos hj, wBlk_get hj]
      have hb : 0 < (A (nextM m w)).length := by
        rcases Nat.eq_zero_or_pos (A (nextM m w)).length with h0 | h0
        · rw [h0, Nat.mul_zero] at hj; omega
        · exact h0
      exact ⟨w, _, _, rfl, List.mem_cons_self, Nat.div_lt_of_lt_mul (by rw [Nat.mul_comm]; exact hj), Nat.mod_lt _ hb, rfl⟩
    · rw [if_neg hj, if_neg hj]
      rw [List.map_cons, List.sum_cons] at h
      obtain ⟨w', c, r, h1, h2, h3, h4, h5⟩ := chAt_get m A ws (j - waysN w m * (A (nextM m w)).length) (by omega)
      exact ⟨w', c, r, h1, List.mem_cons_of_mem _ h2, h3, h4, h5⟩
theorem wBef_get (m : Nat) (A : Nat → List Wy) : ∀ (ws : List Wd) (w : Wd) (c r : Nat), ws.Nodup → w ∈ ws → c < waysN w m → r < (A (nextM m w)).length →
    ∃ b, wBef (ws.map fun w => (w, waysN w m, (A (nextM m w)).length)) (w, c) = some b ∧ (ws.flatMap (wBlk m A))[b + r]? = ((A (nextM m w))[r]?).map (consW (w, c)) ∧ b + r < ((ws.map fun w => waysN w m * (A (nextM m w)).length).sum)
  | [], w, c, r, _, h, _, _ => by simp at h
  | v :: ws, w, c, r, hn, h, hc, hr => by
    rw [List.map_cons, List.map_cons, List.sum_cons]
    have hmul : ∀ b, c * b + r < waysN w m * b ↔ c * b + r < waysN w m * b := fun _ => Iff.rfl
    by_cases hv : v = w
    · subst hv
      have hlt : c * (A (nextM m v)).length + r < waysN v m * (A (nextM m v)).length := by
        have : (c + 1) * (A (nextM m v)).length ≤ waysN v m * (A (nextM m v)).length := Nat.mul_le_mul_right _ hc
        rw [Nat.add_mul] at this
        omega
      refine ⟨c * (A (nextM m v)).length, ?_, ?_, by omega⟩
      · show (if v = v then _ else _) = _
        rw [if_pos rfl]
      · rw [flat_get _ (v :: ws) v ws _ rfl, wBlk_len, if_pos hlt, wBlk_get hlt]
        have hb : 0 < (A (nextM m v)).length := by omega
        rw [show c * (A (nextM m v)).length + r = r + (A (nextM m v)).length * c by rw [Nat.mul_comm]; omega, Nat.add_mul_mod_self_left, Nat.mod_eq_of_lt hr, Nat.add_mul_div_left _ _ hb, Nat.div_eq_of_lt hr, Nat.zero_add]
    · have hw : w ∈ ws := by
        rcases List.mem_cons.mp h with h | h
        · exact absurd h.symm hv
        · exact h
      obtain ⟨b, h1, h2, h3⟩ := wBef_get m A ws w c r (List.nodup_cons.mp hn).2 hw hc hr
      refine ⟨waysN v m * (A (nextM m v)).length + b, ?_, ?_, by omega⟩
      · show (if v = w then _ else _) = _
        rw [if_neg hv, h1]
        rfl
      · rw [flat_get _ (v :: ws) v ws _ rfl, wBlk_len, if_neg (by omega), show waysN v m * (A (nextM m v)).length + b + r - waysN v m * (A (nextM m v)).length = b + r by omega]
        exact h2
theorem words_nodup (ns : List Nt) (t m : Nat) : (wordsAt ns t m).Nodup := (show asc.Nodup by decide).sublist List.filter_sublist
theorem blocks_ways (ns : List Nt) (e T k m t : Nat) : blocksAt ns (FW List.sum ns e T k) t m = (wordsAt ns t m).map fun w => (w, waysN w m, (allWays ns e T k (nextM m w)).length) := by
  unfold blocksAt
  exact List.map_congr_left fun w _ => by rw [ways_len]
theorem ways_at {ns : List Nt} {e T k m j : Nat} (h : j < FW List.sum ns e T (k + 1) m) :
    ∃ w c r, chAt (blocksAt ns (FW List.sum ns e T k) (T - (k + 1)) m) j = some ((w, c), r) ∧ w ∈ wordsAt ns (T - (k + 1)) m ∧ c < waysN w m ∧ r < FW List.sum ns e T k (nextM m w) ∧ (allWays ns e T (k + 1) m)[j]? = ((allWays ns e T k (nextM m w))[r]?).map (consW (w, c)) := by
  rw [← ways_len] at h
  have hl : (allWays ns e T (k + 1) m).length = ((wordsAt ns (T - (k + 1)) m).map fun w => waysN w m * (allWays ns e T k (nextM m w)).length).sum := by
    show ((wordsAt ns (T - (k + 1)) m).flatMap _).length = _
    rw [flat_len]
    congr 1
    exact List.map_congr_left fun w _ => wBlk_len _ _ _
  rw [hl] at h
  obtain ⟨w, c, r, h1, h2, h3, h4, h5⟩ := chAt_get m (allWays ns e T k) _ j h
  rw [blocks_ways]
  exact ⟨w, c, r, h1, h2, h3, by rw [← ways_len]; exact h4, h5⟩
theorem ways_bef {ns : List Nt} {e T k m : Nat} {w : Wd} {c r : Nat} (hw : w ∈ wordsAt ns (T - (k + 1)) m) (hc : c < waysN w m) (hr : r < FW List.sum ns e T k (nextM m w)) :
    ∃ b, wBef (blocksAt ns (FW List.sum ns e T k) (T - (k + 1)) m) (w, c) = some b ∧ (allWays ns e T (k + 1) m)[b + r]? = ((allWays ns e T k (nextM m w))[r]?).map (consW (w, c)) ∧ b + r < FW List.sum ns e T (k + 1) m := by
  rw [← ways_len] at hr
  obtain ⟨b, h1, h2, h3⟩ := wBef_get m (allWays ns e T k) _ w c r (words_nodup ns _ m) hw hc hr
  refine ⟨b, by rw [blocks_ways]; exact h1, h2, ?_⟩
  rw [← ways_len]
  show _ < ((wordsAt ns (T - (k + 1)) m).flatMap _).length
  rw [flat_len]
  have e2 : (wordsAt ns (T - (k + 1)) m).map (fun w => (wBlk m (allWays ns e T k) w).length) = (wordsAt ns (T - (k + 1)) m).map fun w => waysN w m * (allWays ns e T k (nextM m w)).length := List.map_congr_left fun w _ => wBlk_len _ _ _
  rw [e2]
  exact h3
end OgM

namespace OgM
theorem ex_gap {m l e k : Nat} (hk : k < cho (e + 1 - l) (m + 1)) : ∃ g, l ≤ g ∧ g ≤ e ∧ cho (e + 1 - l) (m + 1) - cho (e + 1 - g) (m + 1) ≤ k ∧ k < cho (e + 1 - l) (m + 1) - cho (e - g) (m + 1) := by
  have hle : l ≤ e := by
    rcases Nat.lt_or_ge e l with h | h
    · rw [show e + 1 - l = 0 by omega] at hk
      rw [show cho 0 (m + 1) = 0 from rfl] at hk
      omega
    · exact h
  have go : ∀ d, l + d ≤ e → k < cho (e + 1 - l) (m + 1) - cho (e - (l + d)) (m + 1) → ∃ g, l ≤ g ∧ g ≤ e ∧ cho (e + 1 - l) (m + 1) - cho (e + 1 - g) (m + 1) ≤ k ∧ k < cho (e + 1 - l) (m + 1) - cho (e - g) (m + 1) := by
    intro d
    induction d with
    | zero => exact fun h1 h2 => ⟨l, Nat.le_refl _, hle, by omega, h2⟩
    | succ d ih =>
      intro h1 h2
      by_cases h3 : k < cho (e + 1 - l) (m + 1) - cho (e - (l + d)) (m + 1)
      · exact ih (by omega) h3
      · exact ⟨l + (d + 1), by omega, h1, by rw [show e + 1 - (l + (d + 1)) = e - (l + d) by omega]; omega, h2⟩
  refine go (e - l) (by omega) ?_
  rw [show e - (l + (e - l)) = 0 by omega, show cho 0 (m + 1) = 0 from rfl]
  omega
theorem gap_rest {m l e g k : Nat} (hl : l ≤ g) (hg : g ≤ e) (h1 : cho (e + 1 - l) (m + 1) - cho (e + 1 - g) (m + 1) ≤ k) (h2 : k < cho (e + 1 - l) (m + 1) - cho (e - g) (m + 1)) : k - (cho (e + 1 - l) (m + 1) - cho (e + 1 - g) (m + 1)) < cho (e - g + 1 - 1) m := by
  have e1 : cho (e + 1 - g) (m + 1) = cho (e - g) m + cho (e - g) (m + 1) := by rw [show e + 1 - g = e - g + 1 by omega, choose_sum]
  have e2 : cho (e + 1 - g) (m + 1) ≤ cho (e + 1 - l) (m + 1) := choose_mono (by omega)
  rw [show e - g + 1 - 1 = e - g by omega]
  omega
theorem gaps_cons {m l e k : Nat} {gs : List Nat} (hl : l ≤ 1) (h : (allGaps (m + 1) l e)[k]? = some gs) :
    ∃ g tail, gs = g :: tail ∧ l ≤ g ∧ g ≤ e ∧ cho (e + 1 - l) (m + 1) - cho (e + 1 - g) (m + 1) ≤ k ∧ k < cho (e + 1 - l) (m + 1) - cho (e - g) (m + 1) ∧ (allGaps m 1 (e - g))[k - (cho (e + 1 - l) (m + 1) - cho (e + 1 - g) (m + 1))]? = some tail := by
  have hk := (List.getElem?_eq_some_iff.mp h).1
  rw [gaps_len' (m + 1) l e hl (by omega)] at hk
  obtain ⟨g, h1, h2, h3, h4⟩ := ex_gap hk
  rw [gaps_get hl h1 h2 h3 h4] at h
  obtain ⟨tail, h5, h6⟩ := Option.map_eq_some_iff.mp h
  exact ⟨g, tail, h6.symm, h1, h2, h3, h4, h5⟩
/-- what gaps are -/
theorem gaps_facts : ∀ {m l e : Nat} {gs : List Nat}, l ≤ 1 → gs ∈ allGaps m l e → gs.length = m + 1 ∧ gs.sum = e ∧ (∀ g, m ≠ 0 → gs.head? = some g → l ≤ g) ∧ ∀ i, 1 ≤ i → i < m → ∀ g, gs[i]? = some g → 1 ≤ g
  | 0, l, e, gs, hl, h => by
    have h : gs ∈ [[e]] := h
    rw [List.mem_singleton.mp h]
    exact ⟨rfl, by simp, fun _ h => absurd rfl h, fun i h1 h2 => absurd h2 (by omega)⟩
  | m + 1, l, e, gs, hl, h => by
    have h : gs ∈ (List.range' l (e + 1 - l)).flatMap fun g => (allGaps m 1 (e - g)).map (g :: ·) := h
    obtain ⟨g, hg, h⟩ := List.mem_flatMap.mp h
    obtain ⟨tl, ht, rfl⟩ := List.mem_map.mp h
    have hg := List.mem_range'_1.mp hg
    obtain ⟨a1, a2, a3, a4⟩ := gaps_facts (Nat.le_refl 1) ht
    refine ⟨by rw [List.length_cons, a1], by rw [List.sum_cons, a2]; omega, fun x _ hx => ?_, fun i h1 h2 x hx => ?_⟩
    · cases hx
      exact hg.1
    · obtain ⟨j, rfl⟩ : ∃ j, i = j + 1 := ⟨i - 1, by omega⟩
      rw [List.getElem?_cons_succ] at hx
      cases j with
      | zero =>
        refine a3 x (by omega) ?_
        rw [List.head?_eq_getElem?]
        exact hx
      | succ j => exact a4 (j + 1) (by omega) (by omega) x hx
theorem gaps_mem : ∀ {m l e : Nat} {gs : List Nat}, gs.length = m + 1 → gs.sum = e → (∀ g, m ≠ 0 → gs.head? = some g → l ≤ g) → (∀ i, 1 ≤ i → i < m → ∀ g, gs[i]? = some g → 1 ≤ g) → gs ∈ allGaps m l e
  | 0, l, e, gs, h1, h2, _, _ => by
    match gs, h1 with
    | [g], _ =>
      show [g] ∈ [[e]]
      simp at h2
      rw [h2]
      exact List.mem_singleton.mpr rfl
  | m + 1, l, e, gs, h1, h2, h3, h4 => by
    match gs, h1 with
    | g :: tl, h1 =>
      show _ ∈ (List.range' l (e + 1 - l)).flatMap fun g => (allGaps m 1 (e - g)).map (g :: ·)
      rw [List.sum_cons] at h2
      have hg : l ≤ g := h3 g (by omega) rfl
      refine List.mem_flatMap.mpr ⟨g, List.mem_range'_1.mpr ⟨hg, by omega⟩, List.mem_map.mpr ⟨tl, gaps_mem (by simpa using h1) (by omega) (fun x hm hx => ?_) (fun i hi1 hi2 x hx => ?_), rfl⟩⟩
      · exact h4 1 (by omega) (by omega) x (by rw [List.getElem?_cons_succ, ← List.head?_eq_getElem?]; exact hx)
      · exact h4 (i + 1) (by omega) (by omega) x (by rw [List.getElem?_cons_succ]; exact hx)
end OgM

namespace OgM
/-! ### a row out of choices and gaps -/
theorem mem_below {q : Int} : ∀ {g : List Seg} {b lo : Int}, Ok lo g → Mem q g → q < endB b g := by
  have up : ∀ (r : List Seg) (c : Int), Ok c r → c ≤ endB c r := by
    intro r
    induction r with
    | nil => intro c _; exact Int.le_refl _
    | cons y r ih2 =>
      intro c kk
      have := ih2 _ kk.2
      have := kk.1
      show c ≤ endB (y.1 + y.2 + 1) r
      omega
  intro g
  induction g with
  | nil => intro b lo _ m; exact absurd m mem_nil
  | cons x r ih =>
    intro b lo k m
    show q < endB (x.1 + x.2 + 1) r
    rcases mem_cons.mp m with m | m
    · have := up r _ k.2
      omega
    · exact ih k.2 m
theorem lay_ok0 {hs : List Int} {st : List (List Nat)} (hF : Full st) (top : ∀ (i : Nat) x, hs[i]? = some x → 0 ≤ x ∧ (1 ≤ i → 1 ≤ x)) : Ok (-1) (lay 0 hs st) := by
  cases hs with
  | nil => exact trivial
  | cons x hs =>
    cases st with
    | nil => exact trivial
    | cons a st =>
      have ha : 0 < a.length := List.length_pos_iff.mpr (hF a List.mem_cons_self)
      have h0 := (top 0 x rfl).1
      refine ⟨by show (-1 : Int) < 0 + x; omega, ?_⟩
      have e : (0 : Int) + x + ((a.length - 1 : Nat) : Int) + 1 = 0 + x + (a.length : Int) := by omega
      show Ok ((0 : Int) + x + ((a.length - 1 : Nat) : Int) + 1) (lay (0 + x + (a.length : Int)) hs st)
      rw [e]
      refine lay_ok _ (fun c hc => hF c (List.mem_cons_of_mem _ hc)) fun y hy => ?_
      obtain ⟨j, hj⟩ := List.getElem?_of_mem (List.mem_of_mem_take hy)
      exact (top (j + 1) y (by simpa using hj)).2 (by omega)
theorem row_make {n : Int} {cs : List Ch} (v : VCh cs) {hs : List Int} (hl : hs.length = (stAt cs cs.length).length) (top : ∀ (i : Nat) x, hs[i]? = some x → 0 ≤ x ∧ (1 ≤ i → 1 ≤ x)) (hn : hs.sum + (cs.length : Int) ≤ n) :
    ∃ g f, Told f (stAt cs cs.length) g ∧ holes n g = hs ++ [n - (hs.sum + (cs.length : Int))] ∧ Row n (rowF f cs.length) ∧ picks (rowF f cs.length) = cs ∧ segs (rowF f cs.length) = g := by
  obtain ⟨hF, hN⟩ := st_facts v cs.length (Nat.le_refl _)
  have hsz := (st_size v cs.length (Nat.le_refl _)).1
  obtain ⟨f, hf⟩ := lay_told 0 hF (Nat.le_of_eq hl.symm) hN
  obtain ⟨e1, e2⟩ := lay_holes 0 (hs := hs) (st := stAt cs cs.length) hF (Nat.le_of_eq hl.symm)
  rw [List.take_of_length_le (Nat.le_of_eq hl)] at e1 e2
  rw [hsz] at e2
  have hok := lay_ok0 hF top
  refine ⟨_, f, hf, ?_, ⟨nodup_of v hf hok _ (Nat.le_refl _), fun p hp => ?_, fun p hp => ?_⟩, picks_of v hf hok, segs_of v hf hok⟩
  · unfold holes
    rw [e1, e2]
    congr 2
    omega
  · have := ok_lt hok ((mem_of v hf hok p).mp hp)
    omega
  · have := mem_below (b := 0) hok ((mem_of v hf hok p).mp hp)
    omega
/-! ### the ways are the choices and gaps of rows -/
def mFold (m : Nat) (cs : List Ch) : Nat := cs.foldl (fun m c => nextM m c.1) m
def OKW (ns : List Nt) (e T : Nat) : Nat → Nat → Wy → Prop
  | 0, m, x => x.1 = [] ∧ x.2 ∈ allGaps m 0 e
  | k + 1, m, x => ∃ w c cs, x.1 = (w, c) :: cs ∧ w ∈ wordsAt ns (T - (k + 1)) m ∧ c < waysN w m ∧ OKW ns e T k (nextM m w) (cs, x.2)
theorem mem_ways {ns : List Nt} {e T : Nat} : ∀ {k m : Nat} {x : Wy}, x ∈ allWays ns e T k m ↔ OKW ns e T k m x
  | 0, m, x => by
    show x ∈ (allGaps m 0 e).map _ ↔ _
    rw [List.mem_map]
    refine ⟨?_, fun h => ⟨x.2, h.2, ?_⟩⟩
    · rintro ⟨g, hg, rfl⟩
      exact ⟨rfl, hg⟩
    · obtain ⟨a, b⟩ := x
      have h1 : a = [] := h.1
      rw [h1]
  | k + 1, m, x => by
    show x ∈ (wordsAt ns (T - (k + 1)) m).flatMap _ ↔ _
    rw [List.mem_flatMap]
    refine ⟨?_, ?_⟩
    · rintro ⟨w, hw, hx⟩
      unfold wBlk at hx
      obtain ⟨c, hc, hx⟩ := List.mem_flatMap.mp hx
      obtain ⟨y, hy, rfl⟩ := List.mem_map.mp hx
      have hc := List.mem_range'_1.mp hc
      exact ⟨w, c, y.1, rfl, hw, by omega, mem_ways.mp hy⟩
    · rintro ⟨w, c, cs, h1, h2, h3, h4⟩
      refine ⟨w, h2, ?_⟩
      unfold wBlk
      refine List.mem_flatMap.mpr ⟨c, List.mem_range'_1.mpr ⟨Nat.zero_le _, by omega⟩, List.mem_map.mpr ⟨(cs, x.2), mem_ways.mpr h4, ?_⟩⟩
      obtain ⟨a, b⟩ := x
      have h1 : a = (w, c) :: cs := h1
      rw [h1]
      rfl
/-- each choice is one for the groups that it finds -/
def VM (m : Nat) (cs : List Ch) : Prop := ∀ (i : Nat) c, cs[i]? = some c → Valid c (mFold m (cs.take i))
theorem VM.tail {m : Nat} {c : Ch} {cs : List Ch} (h : VM m (c :: cs)) : Valid c m ∧ VM (nextM m c.1) cs := ⟨h 0 c rfl, fun i d hd => h (i + 1) d (by rw [List.getElem?_cons_succ]; exact hd)⟩
theorem VM.cons {m : Nat} {c : Ch} {cs : List Ch} (h1 : Valid c m) (h2 : VM (nextM m c.1) cs) : VM m (c :: cs) := fun i d hd => by
  cases i with
  | zero => cases hd; exact h1
  | succ i => rw [List.getElem?_cons_succ] at hd; exact h2 i d hd
theorem vm_st {cs : List Ch} (h : VM 0 cs) : VCh cs ∧ ∀ i, i ≤ cs.length → (stAt cs i).length = mFold 0 (cs.take i) := by
  have key : ∀ i, i ≤ cs.length → (stAt cs i).length = mFold 0 (cs.take i) := by
    intro i
    induction i with
    | zero => exact fun _ => rfl
    | succ i ih =>
      intro hi
      have ih := ih (by omega)
      have hc : cs[i]? = some cs[i] := List.getElem?_eq_getElem (by omega)
      have hv := h i _ hc
      rw [← ih] at hv
      have e1 : stAt cs (i + 1) = applyC i cs[i] (stAt cs i) := by
        show applyC i (cs.getD i (.new, 0)) (stAt cs i) = _
        rw [List.getD_eq_getElem?_getD, hc]
        rfl
      have e2 := (apply_size i hv).2
      rw [e1]
      have e3 : mFold 0 (cs.take (i + 1)) = nextM (mFold 0 (cs.take i)) cs[i].1 := by
        unfold mFold
        rw [List.take_add_one, hc, List.foldl_append]
        rfl
      rw [e3, ← ih]
      have hw : waysN cs[i].1 (stAt cs i).length ≠ 0 := by
        have : cs[i].2 < waysN cs[i].1 (stAt cs i).length := valid_ways.mp hv
        omega
      have := nextM_step hw
      omega
  refine ⟨fun i c hc => ?_, key⟩
  rw [key i (by have := (List.getElem?_eq_some_iff.mp hc).1; omega)]
  exact h i c hc
theorem okw_facts {ns : List Nt} {e T : Nat} : ∀ {k m : Nat} {x : Wy}, OKW ns e T k m x → x.1.length = k ∧ VM m x.1 ∧ x.2 ∈ allGaps (mFold m x.1) 0 e
  | 0, m, x, h => by
    obtain ⟨a, b⟩ := x
    obtain ⟨h1, h2⟩ := h
    have h1 : a = [] := h1
    subst h1
    exact ⟨rfl, fun i c hc => by simp at hc, h2⟩
  | k + 1, m, x, h => by
    obtain ⟨w, c, cs, h1, h2, h3, h4⟩ := h
    obtain ⟨i1, i2, i3⟩ := okw_facts h4
    rw [h1]
    exact ⟨by rw [List.length_cons, i1], .cons (valid_ways.mpr h3) i2, i3⟩
theorem sumc : ∀ l : List Nat, (l.map fun (x : Nat) => (x : Int)).sum = (l.sum : Nat)
  | [] => rfl
  | a :: l => by
    simp only [List.map_cons, List.sum_cons, sumc l]
    omega
/-- the row of a way -/
theorem way_row {ns : List Nt} {e T : Nat} {cs : List Ch} {gs : List Nat} (h : OKW ns e T T 0 (cs, gs)) :
    cs.length = T ∧ VCh cs ∧ ∃ g f, Told f (stAt cs cs.length) g ∧ holes ((e + T : Nat) : Int) g = gs.map (fun (x : Nat) => (x : Int)) ∧ Row ((e + T : Nat) : Int) (rowF f cs.length) ∧ picks (rowF f cs.length) = cs ∧ segs (rowF f cs.length) = g := by
  obtain ⟨h1, h2, h3⟩ := okw_facts h
  have h1 : cs.length = T := h1
  have h2 : VM 0 cs := h2
  have h3 : gs ∈ allGaps (mFold 0 cs) 0 e := h3
  clear h
  obtain ⟨v, hst⟩ := vm_st h2
  have hlen := hst cs.length (Nat.le_refl _)
  rw [List.take_length] at hlen
  obtain ⟨f1, f2, f3, f4⟩ := gaps_facts (by omega) h3
  have f1 : gs.length = mFold 0 cs + 1 := f1
  have f2 : gs.sum = e := f2
  obtain ⟨ini, last, rfl⟩ : ∃ ini last, gs = ini ++ [last] := by
    cases hg : gs.reverse with
    | nil =>
      have : gs = [] := List.reverse_eq_nil_iff.mp hg
      rw [this] at f1
      simp at f1
    | cons a l => exact ⟨l.reverse, a, by rw [← List.reverse_reverse gs, hg, List.reverse_cons]⟩
  rw [List.length_append] at f1
  have f1 : ini.length + 1 = mFold 0 cs + 1 := f1
  rw [List.sum_append] at f2
  have f2 : ini.sum + (last + 0) = e := by simpa using f2
  have hsum : (ini.map fun (x : Nat) => (x : Int)).sum = (ini.sum : Nat) := sumc ini
  have top : ∀ (i : Nat) x, (ini.map fun (x : Nat) => (x : Int))[i]? = some x → 0 ≤ x ∧ (1 ≤ i → 1 ≤ x) := fun i x hx => by
    rw [List.getElem?_map] at hx
    obtain ⟨y, hy, rfl⟩ := Option.map_eq_some_iff.mp hx
    refine ⟨by omega, fun hi => ?_⟩
    have hi2 := (List.getElem?_eq_some_iff.mp hy).1
    have := f4 i hi (by show i < mFold 0 cs; omega) y (by rw [List.getElem?_append_left hi2]; exact hy)
    omega
  obtain ⟨g, f, a1, a2, a3, a4, a5⟩ := row_make (n := ((e + T : Nat) : Int)) v (hs := ini.map fun (x : Nat) => (x : Int)) (by rw [List.length_map]; omega) top (by rw [hsum]; omega)
  refine ⟨h1, v, g, f, a1, ?_, a3, a4, a5⟩
  rw [a2, List.map_append, hsum]
  have e9 : ((e + T : Nat) : Int) - (((ini.sum : Nat) : Int) + (cs.length : Int)) = (last : Nat) := by omega
  rw [e9]
  rfl
end OgM

namespace OgM
theorem choose_le : ∀ n m : Nat, cho n m ≤ 2 ^ n
  | 0, 0 => Nat.le_refl _
  | 0, _ + 1 => Nat.zero_le _
  | n + 1, 0 => Nat.one_le_two_pow
  | n + 1, m + 1 => by
    have h1 := choose_le n m
    have h2 := choose_le n (m + 1)
    rw [choose_sum, Nat.pow_succ]
    omega
theorem nextM_le (m : Nat) (w : Wd) : nextM m w ≤ m + 1 := by
  cases w
  · exact Nat.le_refl _
  · exact Nat.le_succ m
  · show m - 1 ≤ m + 1; omega
theorem ways_le (w : Wd) (m : Nat) : waysN w m ≤ 2 * m + 1 := by
  cases w
  · show m + 1 ≤ _; omega
  · show 2 * m ≤ _; omega
  · show m - 1 ≤ _; omega
theorem sum_le {α : Type} (f : α → Nat) (B : Nat) : ∀ l : List α, (∀ a ∈ l, f a ≤ B) → (l.map f).sum ≤ l.length * B
  | [], _ => by simp
  | a :: l, h => by
    rw [List.map_cons, List.sum_cons, List.length_cons, Nat.add_mul]
    have := h a List.mem_cons_self
    have := sum_le f B l fun x hx => h x (List.mem_cons_of_mem _ hx)
    omega
theorem words_len (ns : List Nt) (t m : Nat) : (wordsAt ns t m).length ≤ 3 := List.length_filter_le _ _
theorem FW_le (ns : List Nt) (e T : Nat) : ∀ k m : Nat, m + k ≤ 100 → FW List.sum ns e T k m ≤ 1024 ^ k * 2 ^ (e + 1)
  | 0, m, _ => by
    show cho (e + 1) m ≤ _
    rw [Nat.pow_zero, Nat.one_mul]
    exact choose_le _ _
  | k + 1, m, h => by
    show ((wordsAt ns (T - (k + 1)) m).map fun w => waysN w m * FW List.sum ns e T k (nextM m w)).sum ≤ _
    have h1 := sum_le (fun w => waysN w m * FW List.sum ns e T k (nextM m w)) (201 * (1024 ^ k * 2 ^ (e + 1))) (wordsAt ns (T - (k + 1)) m) fun w _ => by
      have a := FW_le ns e T k (nextM m w) (by have := nextM_le m w; omega)
      have b := ways_le w m
      exact Nat.mul_le_mul (by omega) a
    have h2 := words_len ns (T - (k + 1)) m
    have h3 : (wordsAt ns (T - (k + 1)) m).length * (201 * (1024 ^ k * 2 ^ (e + 1))) ≤ 3 * (201 * (1024 ^ k * 2 ^ (e + 1))) := Nat.mul_le_mul_right _ h2
    have h4 : 1024 ^ (k + 1) * 2 ^ (e + 1) = 1024 * (1024 ^ k * 2 ^ (e + 1)) := by rw [Nat.pow_succ, Nat.mul_comm (1024 ^ k) 1024, Nat.mul_assoc]
    rw [h4]
    omega
theorem FW_lt {ns : List Nt} {e T k m : Nat} (h : m + k ≤ 100) (he : e ≤ 1000) : FW List.sum ns e T k m < 2 ^ 8000 := by
  have h1 := FW_le ns e T k m h
  have h2 : 1024 ^ k * 2 ^ (e + 1) ≤ 1024 ^ 100 * 2 ^ 1001 := Nat.mul_le_mul (Nat.pow_le_pow_right (by decide) (by omega)) (Nat.pow_le_pow_right (by decide) (by omega))
  have h3 : (1024 : Nat) ^ 100 * 2 ^ 1001 < 2 ^ 8000 := by decide +kernel
  omega
/-! ### the other way: rows that agree with the notes -/
structure Agr (ns : List Nt) (row : List Int) : Prop where
  g : ∀ t x, t < row.length → gAt ns t = some x → x = (segs (row.take (t + 1))).length
  h : ∀ t w, t < row.length → hAt ns t = some w → ∃ c, (picks row)[t]? = some (w, c)
theorem picks_next {n : Int} {row : List Int} (h : Row n row) {i : Nat} {w : Wd} {c : Nat} (hc : (picks row)[i]? = some (w, c)) : (segs (row.take (i + 1))).length = nextM (segs (row.take i)).length w ∧ c < waysN w (segs (row.take i)).length := by
  have hi : i < row.length := by
    have := (List.getElem?_eq_some_iff.mp hc).1
    rw [picks_len] at this
    exact this
  have hv := picks_valid h i _ hc
  rw [st_segs h (by omega)] at hv
  have hlt := valid_ways.mp hv
  refine ⟨?_, hlt⟩
  have a := segs_steps h (show i + 1 ≤ row.length by omega)
  have b := segs_steps h (show i ≤ row.length by omega)
  rw [List.take_add_one (l := picks row), hc, List.map_append, List.sum_append] at a
  have c' : ((some (w, c) : Option Ch).toList.map fun c => c.1.step).sum = w.step := by simp
  rw [c'] at a
  have := nextM_step (w := w) (m := (segs (row.take i)).length) (by omega)
  omega
theorem row_way {ns : List Nt} {e T : Nat} {row : List Int} (h : Row ((e + T : Nat) : Int) row) (hl : row.length = T) (ha : Agr ns row) {gs : List Nat} (hg : holes ((e + T : Nat) : Int) (segs row) = gs.map fun (x : Nat) => (x : Int)) : OKW ns e T T 0 (picks row, gs) := by
  have go : ∀ k, k ≤ T → OKW ns e T k (segs (row.take (T - k))).length ((picks row).drop (T - k), gs) := by
    intro k
    induction k with
    | zero =>
      intro _
      rw [Nat.sub_zero]
      refine ⟨List.drop_eq_nil_of_le (by rw [picks_len]; omega), ?_⟩
      rw [← hl, List.take_length]
      obtain ⟨ok, mem⟩ := h.ok
      have hlen : gs.length = (segs row).length + 1 := by
        have := congrArg List.length hg
        rw [holes_len, List.length_map] at this
        exact this.symm
      have hget : ∀ (i : Nat) x, gs[i]? = some x → (holes ((e + T : Nat) : Int) (segs row))[i]? = some (x : Int) := fun i x hx => by rw [hg, List.getElem?_map, hx]; rfl
      refine gaps_mem hlen ?_ (fun g _ _ => Nat.zero_le _) fun i h1 h2 x hx => ?_
      · have s1 := holes_sum 0 (segs row)
        rw [segs_size] at s1
        have s2 := congrArg List.sum hg
        unfold holes at s2
        rw [List.sum_append, sumc] at s2
        simp only [List.sum_cons, List.sum_nil] at s2
        show gs.sum = e
        omega
      · have hx2 := hget i x hx
        unfold holes at hx2
        rw [List.getElem?_append_left (by rw [holesI_len]; exact h2)] at hx2
        have := (holesI_top ok i _ hx2).2 h1
        omega
    | succ k ih =>
      intro hk
      have hi : T - (k + 1) < row.length := by omega
      obtain ⟨w, c, hwc⟩ : ∃ w c, (picks row)[T - (k + 1)]? = some (w, c) := ⟨_, _, List.getElem?_eq_getElem (by rw [picks_len]; exact hi)⟩
      obtain ⟨n1, n2⟩ := picks_next h hwc
      refine ⟨w, c, (picks row).drop (T - k), ?_, ?_, n2, ?_⟩
      · rw [drop_at hwc, show T - (k + 1) + 1 = T - k by omega]
      · unfold wordsAt
        refine List.mem_filter.mpr ⟨by cases w <;> decide, ?_⟩
        unfold wOk
        have w0 : waysN w (segs (row.take (T - (k + 1)))).length ≠ 0 := by omega
        rw [decide_eq_true w0, Bool.true_and, Bool.and_eq_true, beq_iff_eq, beq_iff_eq]
        refine ⟨?_, ?_⟩
        · cases hh : hAt ns (T - (k + 1)) with
          | none => rfl
          | some v =>
            obtain ⟨c', h'⟩ := ha.h _ v hi hh
            rw [hwc] at h'
            cases h'
            rfl
        · cases hh : gAt ns (T - (k + 1)) with
          | none => rfl
          | some v =>
            have := ha.g _ v hi hh
            rw [n1] at this
            exact this
      · rw [← n1, show T - (k + 1) + 1 = T - k by omega]
        exact ih (by omega)
  have := go T (Nat.le_refl _)
  rw [Nat.sub_self] at this
  exact this
theorem way_agr {ns : List Nt} {e T : Nat} {row : List Int} (h : Row ((e + T : Nat) : Int) row) {gs : List Nat} (ho : OKW ns e T T 0 (picks row, gs)) : Agr ns row := by
  have hl : row.length = T := by
    have := (okw_facts ho).1
    have this : (picks row).length = T := this
    rw [picks_len] at this
    exact this
  have go : ∀ k, k ≤ T → OKW ns e T (T - k) (segs (row.take k)).length ((picks row).drop k, gs) := by
    intro k
    induction k with
    | zero => intro _; exact ho
    | succ k ih =>
      intro hk
      have i1 := ih (by omega)
      obtain ⟨j, hj⟩ : ∃ j, T - k = j + 1 := ⟨T - k - 1, by omega⟩
      rw [hj] at i1
      obtain ⟨w, c, cs, h1, h2, h3, h4⟩ := i1
      have hi : k < (picks row).length := by rw [picks_len]; omega
      have hwc : (picks row)[k]? = some (w, c) := by
        have := congrArg List.head? (show (picks row).drop k = (w, c) :: cs from h1)
        rw [List.head?_drop] at this
        exact this
      have h5 : cs = (picks row).drop (k + 1) := by
        have := congrArg List.tail (show (picks row).drop k = (w, c) :: cs from h1)
        rw [List.tail_drop] at this
        exact this.symm
      rw [show T - (k + 1) = j by omega, ← h5, (picks_next h hwc).1]
      exact h4
  have step : ∀ k, k < T → ∃ w c, (picks row)[k]? = some (w, c) ∧ w ∈ wordsAt ns k (segs (row.take k)).length := fun k hk => by
    have i1 := go k (by omega)
    obtain ⟨j, hj⟩ : ∃ j, T - k = j + 1 := ⟨T - k - 1, by omega⟩
    rw [hj] at i1
    obtain ⟨w, c, cs, h1, h2, h3, h4⟩ := i1
    have hwc : (picks row)[k]? = some (w, c) := by
      have := congrArg List.head? (show (picks row).drop k = (w, c) :: cs from h1)
      rw [List.head?_drop] at this
      exact this
    rw [show T - (j + 1) = k by omega] at h2
    exact ⟨w, c, hwc, h2⟩
  refine ⟨fun t x ht hx => ?_, fun t v ht hx => ?_⟩
  · obtain ⟨w, c, hwc, hw⟩ := step t (by omega)
    have hw := (List.mem_filter.mp hw).2
    unfold wOk at hw
    simp only [Bool.and_eq_true, beq_iff_eq, hx, Option.getD_some] at hw
    rw [(picks_next h hwc).1]
    exact hw.2.2
  · obtain ⟨w, c, hwc, hw⟩ := step t (by omega)
    have hw := (List.mem_filter.mp hw).2
    unfold wOk at hw
    simp only [Bool.and_eq_true, beq_iff_eq, hx, Option.getD_some] at hw
    rw [hw.2.1]
    exact ⟨c, hwc⟩
end OgM

namespace OgM
theorem chAt_bef : ∀ {bs : List (Wd × Nat × Nat)} {j : Nat} {ch : Ch} {r : Nat}, (bs.map (·.1)).Nodup → chAt bs j = some (ch, r) → ch.1 ∈ bs.map (·.1) ∧ ∃ b, wBef bs ch = some b ∧ b + r = j
  | [], _, _, _, _, h => by simp [chAt] at h
  | (w, c, b) :: bs, j, ch, r, hn, h => by
    rw [List.map_cons, List.nodup_cons] at hn
    have h : (if j < c * b then some ((w, j / b), j % b) else chAt bs (j - c * b)) = some (ch, r) := h
    by_cases hj : j < c * b
    · rw [if_pos hj] at h
      have h1 : (w, j / b) = ch := congrArg Prod.fst (Option.some.inj h)
      have h2 : j % b = r := congrArg Prod.snd (Option.some.inj h)
      subst h1
      refine ⟨List.mem_cons_self, j / b * b, ?_, ?_⟩
      · show (if w = w then some (j / b * b) else _) = _
        rw [if_pos rfl]
      · rw [← h2, Nat.mul_comm]
        exact Nat.div_add_mod j b
    · rw [if_neg hj] at h
      obtain ⟨h1, b', h2, h3⟩ := chAt_bef hn.2 h
      have hne : w ≠ ch.1 := fun z => hn.1 (by rw [z]; exact h1)
      refine ⟨List.mem_cons_of_mem _ h1, c * b + b', ?_, by omega⟩
      show (if w = ch.1 then _ else (wBef bs ch).map (c * b + ·)) = _
      rw [if_neg hne, h2]
      rfl
theorem wBef_mem : ∀ {bs : List (Wd × Nat × Nat)} {ch : Ch} {b : Nat}, wBef bs ch = some b → ch.1 ∈ bs.map (·.1)
  | [], _, _, h => by simp [wBef] at h
  | (w, c, b') :: bs, ch, b, h => by
    have h : (if w = ch.1 then some (ch.2 * b') else (wBef bs ch).map (c * b' + ·)) = some b := h
    by_cases hq : w = ch.1
    · rw [← hq]
      exact List.mem_cons_self
    · rw [if_neg hq] at h
      obtain ⟨z, h9, _⟩ := Option.map_eq_some_iff.mp h
      exact List.mem_cons_of_mem _ (wBef_mem h9)
def befSum (ns : List Nt) (e T : Nat) : Nat → Nat → List Ch → Option Nat
  | 0, _, _ => some 0
  | _ + 1, _, [] => none
  | k + 1, m, c :: cs => (wBef (blocksAt ns (FW List.sum ns e T k) (T - (k + 1)) m) c).bind fun b => (befSum ns e T k (nextM m c.1) cs).map (b + ·)
theorem blocks_words (ns : List Nt) (f : Nat → Nat) (t m : Nat) : (blocksAt ns f t m).map (·.1) = wordsAt ns t m := by
  unfold blocksAt
  rw [List.map_map]
  exact List.map_id _
theorem way_index {ns : List Nt} {e T : Nat} : ∀ {k m j : Nat} {cs : List Ch} {gs : List Nat}, (allWays ns e T k m)[j]? = some (cs, gs) → ∃ s kg, befSum ns e T k m cs = some s ∧ (allGaps (mFold m cs) 0 e)[kg]? = some gs ∧ j = s + kg
  | 0, m, j, cs, gs, h => by
    have h : ((allGaps m 0 e).map fun g => (([] : List Ch), g))[j]? = some (cs, gs) := h
    rw [List.getElem?_map] at h
    obtain ⟨g, h1, h2⟩ := Option.map_eq_some_iff.mp h
    have h3 : [] = cs := congrArg Prod.fst h2
    have h4 : g = gs := congrArg Prod.snd h2
    subst h3 h4
    exact ⟨0, j, rfl, h1, by omega⟩
  | k + 1, m, j, cs, gs, h => by
    have hj := (List.getElem?_eq_some_iff.mp h).1
    rw [ways_len] at hj
    obtain ⟨w, c, r, a1, a2, a3, a4, a5⟩ := ways_at hj
    rw [h] at a5
    obtain ⟨⟨ct, gt⟩, b1, b2⟩ := Option.map_eq_some_iff.mp a5.symm
    have b3 : (w, c) :: ct = cs := congrArg Prod.fst b2
    have b4 : gt = gs := congrArg Prod.snd b2
    subst b3 b4
    obtain ⟨s, kg, i1, i2, i3⟩ := way_index b1
    obtain ⟨_, b, c1, c2⟩ := chAt_bef (by rw [blocks_words]; exact words_nodup ns _ m) a1
    refine ⟨b + s, kg, ?_, i2, by omega⟩
    show (wBef _ (w, c)).bind _ = _
    rw [c1]
    show (befSum ns e T k (nextM m w) ct).map (b + ·) = _
    rw [i1]
    rfl
end OgM

namespace OgM
/-! ### the ways rise -/
def gLt : List Nat → List Nat → Prop
  | x :: xs, y :: ys => x < y ∨ (x = y ∧ gLt xs ys)
  | _, _ => False
def wdr : Wd → Nat
  | .beside => 0
  | .between => 1
  | .new => 2
def cLt : List Ch → List Ch → Prop
  | c :: cs, d :: ds => wdr c.1 < wdr d.1 ∨ (c.1 = d.1 ∧ (c.2 < d.2 ∨ (c.2 = d.2 ∧ cLt cs ds)))
  | _, _ => False
def yLt (a b : Wy) : Prop := cLt a.1 b.1 ∨ (a.1 = b.1 ∧ gLt a.2 b.2)
theorem range_lt (l k : Nat) : (List.range' l k).Pairwise (· < ·) := List.pairwise_lt_range'
theorem gaps_rise : ∀ (m l e : Nat), (allGaps m l e).Pairwise gLt
  | 0, _, e => List.pairwise_singleton ..
  | m + 1, l, e => by
    show ((List.range' l (e + 1 - l)).flatMap fun g => (allGaps m 1 (e - g)).map (g :: ·)).Pairwise gLt
    rw [List.pairwise_flatMap]
    refine ⟨fun g _ => ?_, (range_lt _ _).imp fun {a b} h x hx y hy => ?_⟩
    · rw [List.pairwise_map]
      exact (gaps_rise m 1 (e - g)).imp fun h => .inr ⟨rfl, h⟩
    · obtain ⟨x', _, rfl⟩ := List.mem_map.mp hx
      obtain ⟨y', _, rfl⟩ := List.mem_map.mp hy
      exact .inl h
theorem words_rise (ns : List Nt) (t m : Nat) : (wordsAt ns t m).Pairwise fun a b => wdr a < wdr b := (show asc.Pairwise (fun a b => wdr a < wdr b) by decide).sublist List.filter_sublist
theorem wBlk_rise {m : Nat} {A : Nat → List Wy} (w : Wd) (h : (A (nextM m w)).Pairwise yLt) : (wBlk m A w).Pairwise yLt := by
  unfold wBlk
  rw [List.pairwise_flatMap]
  refine ⟨fun c _ => ?_, (range_lt _ _).imp fun {a b} hab x hx y hy => ?_⟩
  · rw [List.pairwise_map]
    refine h.imp fun {x y} hxy => ?_
    rcases hxy with hxy | ⟨h1, h2⟩
    · exact .inl (.inr ⟨rfl, .inr ⟨rfl, hxy⟩⟩)
    · exact .inr ⟨by show _ :: _ = _ :: _; rw [h1], h2⟩
  · obtain ⟨x', _, rfl⟩ := List.mem_map.mp hx
    obtain ⟨y', _, rfl⟩ := List.mem_map.mp hy
    exact .inl (.inr ⟨rfl, .inl hab⟩)
theorem wBlk_head {m : Nat} {A : Nat → List Wy} {w : Wd} {x : Wy} (h : x ∈ wBlk m A w) : ∃ c y, x = consW (w, c) y := by
  unfold wBlk at h
  obtain ⟨c, _, h⟩ := List.mem_flatMap.mp h
  obtain ⟨y, _, rfl⟩ := List.mem_map.mp h
  exact ⟨c, y, rfl⟩
theorem ways_rise (ns : List Nt) (e T : Nat) : ∀ k m : Nat, (allWays ns e T k m).Pairwise yLt
  | 0, m => by
    show ((allGaps m 0 e).map fun g => (([], g) : Wy)).Pairwise yLt
    rw [List.pairwise_map]
    exact (gaps_rise m 0 e).imp fun h => .inr ⟨rfl, h⟩
  | k + 1, m => by
    show ((wordsAt ns (T - (k + 1)) m).flatMap (wBlk m (allWays ns e T k))).Pairwise yLt
    rw [List.pairwise_flatMap]
    refine ⟨fun w _ => wBlk_rise w (ways_rise ns e T k _), (words_rise ns _ m).imp fun {a b} h x hx y hy => ?_⟩
    obtain ⟨c, x', rfl⟩ := wBlk_head hx
    obtain ⟨d, y', rfl⟩ := wBlk_head hy
    exact .inl (.inl h)
theorem gLt_irr : ∀ {a : List Nat}, ¬ gLt a a
  | [], h => h
  | x :: xs, h => by
    rcases h with h | ⟨_, h⟩
    · omega
    · exact gLt_irr h
theorem cLt_irr : ∀ {a : List Ch}, ¬ cLt a a
  | [], h => h
  | x :: xs, h => by
    rcases h with h | ⟨_, h | ⟨_, h⟩⟩
    · omega
    · omega
    · exact cLt_irr h
end OgM

namespace OgM
/-! ### all rows -/
def nums (p : Nat) : List Int := (List.range p).map fun (x : Nat) => (x : Int)
def rowsOf (p : Nat) : Nat → List (List Int)
  | 0 => [[]]
  | k + 1 => (rowsOf p k).flatMap fun r => ((nums p).filter fun x => decide (x ∉ r)).map fun x => r ++ [x]
theorem nums_mem {p : Nat} {x : Int} : x ∈ nums p ↔ 0 ≤ x ∧ x < p := by
  unfold nums
  rw [List.mem_map]
  constructor
  · rintro ⟨y, hy, rfl⟩
    rw [List.mem_range] at hy
    omega
  · intro h
    exact ⟨x.toNat, by rw [List.mem_range]; omega, by omega⟩
theorem nums_nodup (p : Nat) : (nums p).Nodup := by
  unfold nums
  refine List.pairwise_map.mpr (List.nodup_range.imp fun {a b} h e => h (by omega))
theorem nums_len (p : Nat) : (nums p).length = p := by simp [nums]
theorem mem_rowsOf {p : Nat} : ∀ {k : Nat} {row : List Int}, row ∈ rowsOf p k ↔ row.length = k ∧ row.Nodup ∧ ∀ x ∈ row, 0 ≤ x ∧ x < (p : Int)
  | 0, row => by
    show row ∈ [[]] ↔ _
    rw [List.mem_singleton]
    constructor
    · rintro rfl
      exact ⟨rfl, List.nodup_nil, fun x hx => by simp at hx⟩
    · exact fun h => List.length_eq_zero_iff.mp h.1
  | k + 1, row => by
    show row ∈ (rowsOf p k).flatMap _ ↔ _
    rw [List.mem_flatMap]
    constructor
    · rintro ⟨r, hr, h⟩
      obtain ⟨x, hx, rfl⟩ := List.mem_map.mp h
      obtain ⟨h1, h2⟩ := List.mem_filter.mp hx
      obtain ⟨a, b, c⟩ := mem_rowsOf.mp hr
      have h2 : x ∉ r := of_decide_eq_true h2
      refine ⟨by rw [List.length_append, a]; rfl, ?_, fun y hy => ?_⟩
      · rw [List.nodup_append]
        exact ⟨b, by simp, fun u hu v hv e => by rw [List.mem_singleton] at hv; subst hv; subst e; exact h2 hu⟩
      · rcases List.mem_append.mp hy with hy | hy
        · exact c y hy
        · rw [List.mem_singleton.mp hy]
          exact nums_mem.mp h1
    · rintro ⟨a, b, c⟩
      have hne : row ≠ [] := fun z => by rw [z] at a; cases a
      have e := List.dropLast_concat_getLast hne
      generalize row.getLast hne = x at e
      generalize hr : row.dropLast = r at e
      subst e
      rw [List.nodup_append] at b
      rw [List.length_append, List.length_singleton] at a
      refine ⟨r, mem_rowsOf.mpr ⟨by omega, b.1, fun y hy => c y (List.mem_append_left _ hy)⟩, List.mem_map.mpr ⟨x, List.mem_filter.mpr ⟨nums_mem.mpr (c x (by simp)), decide_eq_true fun h => b.2.2 x h x (by simp) rfl⟩, rfl⟩⟩
theorem rowsOf_nodup (p : Nat) : ∀ k : Nat, (rowsOf p k).Nodup
  | 0 => by show [[]].Nodup; simp
  | k + 1 => by
    show ((rowsOf p k).flatMap _).Pairwise _
    rw [List.pairwise_flatMap]
    refine ⟨fun r _ => ?_, (rowsOf_nodup p k).imp fun {a b} h x hx y hy e => ?_⟩
    · rw [List.pairwise_map]
      refine ((nums_nodup p).filter _).imp fun {a b} h e => h ?_
      have := List.append_cancel_left e
      simpa using this
    · obtain ⟨x', _, rfl⟩ := List.mem_map.mp hx
      obtain ⟨y', _, rfl⟩ := List.mem_map.mp hy
      exact h (List.append_inj_left' e rfl)
theorem rowsOf_len (p : Nat) : ∀ k : Nat, (rowsOf p k).length ≤ p ^ k
  | 0 => Nat.le_refl _
  | k + 1 => by
    show ((rowsOf p k).flatMap _).length ≤ _
    rw [flat_len]
    have h := sum_le (fun r : List Int => (((nums p).filter fun x => decide (x ∉ r)).map fun x => r ++ [x]).length) p (rowsOf p k) fun r _ => by
      show (List.map _ _).length ≤ p
      rw [List.length_map]
      have := List.length_filter_le (fun x => decide (x ∉ r)) (nums p)
      rw [nums_len] at this
      exact this
    exact Nat.le_trans h (Nat.mul_le_mul_right p (rowsOf_len p k))
end OgM

namespace OgM
/-! ### binomials by falling products -/
def fac : Nat → Nat
  | 0 => 1
  | n + 1 => (n + 1) * fac n
theorem fac_pos : ∀ n, 0 < fac n
  | 0 => Nat.one_pos
  | n + 1 => Nat.mul_pos (Nat.succ_pos n) (fac_pos n)
/-- n (n - 1) .. of k factors -/
def fal (n : Nat) : Nat → Nat
  | 0 => 1
  | k + 1 => fal n k * (n - k)
theorem fal_cho (n : Nat) : ∀ k, fal n k = cho n k * fac k
  | 0 => by rw [choose_0]; rfl
  | k + 1 => by
    show fal n k * (n - k) = cho n (k + 1) * ((k + 1) * fac k)
    rw [fal_cho n k, ← Nat.mul_assoc, ← choose_step, Nat.mul_assoc, Nat.mul_comm (fac k), ← Nat.mul_assoc]
/-- (j + 1) .. (j + d) -/
def upp : Nat → Nat → Nat
  | _, 0 => 1
  | j, d + 1 => (j + 1) * upp (j + 1) d
theorem fac_upp : ∀ (d j : Nat), fac (j + d) = fac j * upp j d
  | 0, j => by show fac j = fac j * 1; omega
  | d + 1, j => by
    show fac (j + (d + 1)) = fac j * ((j + 1) * upp (j + 1) d)
    rw [show j + (d + 1) = j + 1 + d by omega, fac_upp d (j + 1)]
    show (j + 1) * fac j * _ = _
    rw [Nat.mul_comm (j + 1) (fac j), Nat.mul_assoc]
theorem fac_upp0 (d : Nat) : fac d = upp 0 d := by
  have := fac_upp d 0
  rw [Nat.zero_add] at this
  rw [this]
  show 1 * _ = _
  omega
theorem cho_self : ∀ n, cho n n = 1
  | 0 => rfl
  | n + 1 => by
    show cho n n + cho n (n + 1) = 1
    rw [cho_self n, choose_gt (Nat.lt_succ_self n)]
theorem cho_sym : ∀ a b : Nat, cho (a + b) a = cho (a + b) b
  | 0, b => by rw [choose_0, Nat.zero_add, cho_self]
  | a + 1, 0 => by rw [choose_0, Nat.add_zero, cho_self]
  | a + 1, b + 1 => by
    have h1 := cho_sym a (b + 1)
    have h2 := cho_sym (a + 1) b
    have e : a + 1 + b = a + (b + 1) := by omega
    rw [e] at h2
    rw [show a + 1 + (b + 1) = a + (b + 1) + 1 by omega]
    show cho (a + (b + 1)) a + cho (a + (b + 1)) (a + 1) = cho (a + (b + 1)) b + cho (a + (b + 1)) (b + 1)
    omega
termination_by a b => a + b
/-! ### all words noted -/
def hNotes : Nat → List Wd → List Nt
  | _, [] => []
  | s, w :: ws => ⟨s, .h w⟩ :: hNotes (s + 1) ws
theorem hNotes_idx : ∀ (ws : List Wd) (s : Nat), hNotes s ws = ws.mapIdx fun i w => ⟨s + i, .h w⟩
  | [], _ => rfl
  | w :: ws, s => by
    rw [List.mapIdx_cons]
    show ⟨s, .h w⟩ :: hNotes (s + 1) ws = _
    rw [hNotes_idx ws (s + 1), Nat.add_zero]
    congr 1
    apply congrFun
    apply congrArg
    funext i w
    rw [show s + 1 + i = s + (i + 1) by omega]
theorem hNotes_len : ∀ (ws : List Wd) (s : Nat), (hNotes s ws).length = ws.length
  | [], _ => rfl
  | w :: ws, s => by show (hNotes (s + 1) ws).length + 1 = ws.length + 1; rw [hNotes_len ws]
theorem hNotes_g : ∀ (ws : List Wd) (s t : Nat), gAt (hNotes s ws) t = none
  | [], _, _ => rfl
  | w :: ws, s, t => by
    show (gAt (hNotes (s + 1) ws) t).or (if s = t then none else none) = none
    rw [hNotes_g ws]
    split <;> rfl
theorem hNotes_h : ∀ (ws : List Wd) (s t : Nat), hAt (hNotes s ws) t = if s ≤ t then ws[t - s]? else none
  | [], s, t => by
    show none = _
    split <;> simp
  | w :: ws, s, t => by
    show (hAt (hNotes (s + 1) ws) t).or (if s = t then some w else none) = _
    rw [hNotes_h ws (s + 1) t]
    by_cases h1 : s + 1 ≤ t
    · rw [if_pos h1, if_neg (show ¬ s = t by omega), if_pos (show s ≤ t by omega), show t - s = (t - (s + 1)) + 1 by omega, List.getElem?_cons_succ]
      cases ws[t - (s + 1)]? <;> rfl
    · rw [if_neg h1]
      by_cases h2 : s = t
      · rw [if_pos h2, if_pos (show s ≤ t by omega), show t - s = 0 by omega]
        rfl
      · rw [if_neg h2, if_neg (show ¬ s ≤ t by omega)]
        rfl
theorem hNotes_mem {ws : List Wd} {s : Nat} {x : Nt} (h : x ∈ hNotes s ws) : ∃ i w, ws[i]? = some w ∧ x = ⟨s + i, .h w⟩ := by
  rw [hNotes_idx] at h
  obtain ⟨i, hi, rfl⟩ := List.mem_mapIdx.mp h
  exact ⟨i, _, List.getElem?_eq_getElem hi, rfl⟩
def wds (row : List Int) : List Wd := (picks row).map (·.1)
/-- how many choices the house of a time has -/
def pw (row : List Int) (i : Nat) : Nat := waysN ((picks row)[i]?.getD (.new, 0)).1 (segs (row.take i)).length
def prodW (row : List Int) : Nat → Nat
  | 0 => 1
  | i + 1 => prodW row i * pw row i
theorem words_one {n : Int} {row : List Int} (h : Row n row) {i : Nat} {w : Wd} {c : Nat} (e : (picks row)[i]? = some (w, c)) : wordsAt (hNotes 0 (wds row)) i (segs (row.take i)).length = [w] := by
  have hv := (picks_next h e).2
  have hh : hAt (hNotes 0 (wds row)) i = some w := by
    rw [hNotes_h, if_pos (Nat.zero_le _), Nat.sub_zero]
    unfold wds
    rw [List.getElem?_map, e]
    rfl
  have hok : ∀ v, wOk (hNotes 0 (wds row)) i (segs (row.take i)).length v = (decide (waysN v (segs (row.take i)).length ≠ 0) && (w == v)) := fun v => by
    unfold wOk
    rw [hh, hNotes_g]
    simp
  unfold wordsAt asc
  have hw : waysN w (segs (row.take i)).length ≠ 0 := by omega
  simp only [List.filter_cons, List.filter_nil, hok]
  cases w <;> simp [hw]
theorem FW_words {n : Int} {row : List Int} (h : Row n row) (e : Nat) : ∀ (k i : Nat), i + k = row.length →
    prodW row i * FW List.sum (hNotes 0 (wds row)) e row.length k (segs (row.take i)).length = prodW row row.length * cho (e + 1) (segs row).length
  | 0, i, hi => by
    have hi : i = row.length := hi
    rw [hi, List.take_length]
    rfl
  | k + 1, i, hi => by
    have hil : i < (picks row).length := by rw [picks_len]; omega
    have hc : (picks row)[i]? = some (picks row)[i] := List.getElem?_eq_getElem hil
    generalize (picks row)[i] = c at hc
    obtain ⟨w, c⟩ := c
    have ih := FW_words h e k (i + 1) (by omega)
    rw [← ih]
    show prodW row i * (((wordsAt (hNotes 0 (wds row)) (row.length - (k + 1)) (segs (row.take i)).length).map fun w => waysN w (segs (row.take i)).length * FW List.sum (hNotes 0 (wds row)) e row.length k (nextM (segs (row.take i)).length w)).sum) = prodW row i * pw row i * _
    rw [show row.length - (k + 1) = i by omega, words_one h hc]
    simp only [List.map_cons, List.map_nil, List.sum_cons, List.sum_nil, Nat.add_zero]
    rw [(picks_next h hc).1, Nat.mul_assoc]
    have : pw row i = waysN w (segs (row.take i)).length := by unfold pw; rw [hc]; rfl
    rw [this]
theorem count_words {n : Int} {row : List Int} (h : Row n row) (e : Nat) : FW List.sum (hNotes 0 (wds row)) e row.length row.length 0 = prodW row row.length * cho (e + 1) (segs row).length := by
  have := FW_words h e row.length 0 (by omega)
  rw [List.take_zero] at this
  have e0 : prodW row 0 = 1 := rfl
  rw [e0, Nat.one_mul] at this
  exact this
end OgM


namespace Og61
open PySem PySem.Spec PyProof.Rows L2 OgR Evl Dw
def topS (i : Nat) : Stmt := PySem.Challenge.pw_onlygroups_k61_whole_choices_replaced.main.body.getD i (.Pass ⟨0, 0, 0, 0⟩)
abbrev s_is_number : Stmt := topS 1
theorem sc_is_number : FnScope ["thing"] ["thing"] (defScope s_is_number) := ⟨rfl, rfl, rfl, by decide +kernel, rfl, by decide +kernel, by decide +kernel⟩
abbrev s_is_number_below : Stmt := topS 2
theorem sc_is_number_below : FnScope ["thing", "limit"] ["thing", "limit"] (defScope s_is_number_below) := ⟨rfl, rfl, rfl, by decide +kernel, rfl, by decide +kernel, by decide +kernel⟩
abbrev s_is_row : Stmt := topS 8
theorem sc_is_row : FnScope ["plots", "thing", "plot"] ["plots", "thing"] (defScope s_is_row) := ⟨rfl, rfl, rfl, by decide +kernel, rfl, by decide +kernel, by decide +kernel⟩
abbrev s_neighbours : Stmt := topS 9
theorem sc_neighbours : FnScope ["row", "found", "built", "plot"] ["row"] (defScope s_neighbours) := ⟨rfl, rfl, rfl, by decide +kernel, rfl, by decide +kernel, by decide +kernel⟩
abbrev s_groups : Stmt := topS 10
theorem sc_groups : FnScope ["row", "after", "many", "beside"] ["row"] (defScope s_groups) := ⟨rfl, rfl, rfl, by decide +kernel, rfl, by decide +kernel, by decide +kernel⟩
abbrev s_houses : Stmt := topS 11
theorem sc_houses : FnScope ["row", "beside"] ["row"] (defScope s_houses) := ⟨rfl, rfl, rfl, by decide +kernel, rfl, by decide +kernel, by decide +kernel⟩
abbrev s_many_choices : Stmt := topS 14
theorem sc_many_choices : FnScope ["word", "many"] ["word", "many"] (defScope s_many_choices) := ⟨rfl, rfl, rfl, by decide +kernel, rfl, by decide +kernel, by decide +kernel⟩
abbrev s_is_choice : Stmt := topS 15
theorem sc_is_choice : FnScope ["many", "thing", "word", "number"] ["many", "thing"] (defScope s_is_choice) := ⟨rfl, rfl, rfl, by decide +kernel, rfl, by decide +kernel, by decide +kernel⟩
abbrev s_is_choices : Stmt := topS 16
theorem sc_is_choices : FnScope ["thing", "many", "part"] ["thing"] (defScope s_is_choices) := ⟨rfl, rfl, rfl, by decide +kernel, rfl, by decide +kernel, by decide +kernel⟩
abbrev s_groups_after : Stmt := topS 17
theorem sc_groups_after : FnScope ["words", "word"] ["words"] (defScope s_groups_after) := ⟨rfl, rfl, rfl, by decide +kernel, rfl, by decide +kernel, by decide +kernel⟩
abbrev s_groups_left_of : Stmt := topS 18
theorem sc_groups_left_of : FnScope ["built", "plot", "last"] ["built", "plot"] (defScope s_groups_left_of) := ⟨rfl, rfl, rfl, by decide +kernel, rfl, by decide +kernel, by decide +kernel⟩
abbrev s_number_of_choice : Stmt := topS 19
theorem sc_number_of_choice : FnScope ["built", "plot", "word", "left"] ["built", "plot", "word"] (defScope s_number_of_choice) := ⟨rfl, rfl, rfl, by decide +kernel, rfl, by decide +kernel, by decide +kernel⟩
abbrev s_choices_of : Stmt := topS 20
theorem sc_choices_of : FnScope ["row", "found", "built", "plot", "word"] ["row"] (defScope s_choices_of) := ⟨rfl, rfl, rfl, by decide +kernel, rfl, by decide +kernel, by decide +kernel⟩
abbrev s_gaps_of : Stmt := topS 21
theorem sc_gaps_of : FnScope ["plots", "row", "built", "steps", "inner", "left", "right", "step"] ["plots", "row"] (defScope s_gaps_of) := ⟨rfl, rfl, rfl, by decide +kernel, rfl, by decide +kernel, by decide +kernel⟩
abbrev s_times_in_groups : Stmt := topS 22
theorem sc_times_in_groups : FnScope ["choices", "standing", "time", "word", "number"] ["choices"] (defScope s_times_in_groups) := ⟨rfl, rfl, rfl, by decide +kernel, rfl, by decide +kernel, by decide +kernel⟩
abbrev s_row_of : Stmt := topS 23
theorem sc_row_of : FnScope ["choices", "gaps", "row", "plot", "times", "gap", "time"] ["choices", "gaps"] (defScope s_row_of) := ⟨rfl, rfl, rfl, by decide +kernel, rfl, by decide +kernel, by decide +kernel⟩
abbrev s_changed : Stmt := topS 24
theorem sc_changed : FnScope ["plots", "row", "time", "number", "words", "choices"] ["plots", "row", "time", "number"] (defScope s_changed) := ⟨rfl, rfl, rfl, by decide +kernel, rfl, by decide +kernel, by decide +kernel⟩
abbrev s_true_value : Stmt := topS 26
theorem sc_true_value : FnScope ["row", "time", "sort"] ["row", "time", "sort"] (defScope s_true_value) := ⟨rfl, rfl, rfl, by decide +kernel, rfl, by decide +kernel, by decide +kernel⟩
abbrev s_untrue_times : Stmt := topS 27
theorem sc_untrue_times : FnScope ["notes", "row", "time", "sort", "value"] ["notes", "row"] (defScope s_untrue_times) := ⟨rfl, rfl, rfl, by decide +kernel, rfl, by decide +kernel, by decide +kernel⟩
abbrev s_is_order : Stmt := topS 28
theorem sc_is_order : FnScope ["journal", "thing", "plots", "times", "notes"] ["journal", "thing"] (defScope s_is_order) := ⟨rfl, rfl, rfl, by decide +kernel, rfl, by decide +kernel, by decide +kernel⟩
abbrev s_ways_to_choose : Stmt := topS 31
theorem sc_ways_to_choose : FnScope ["many", "things", "ways", "chosen"] ["many", "things"] (defScope s_ways_to_choose) := ⟨rfl, rfl, rfl, by decide +kernel, rfl, by decide +kernel, by decide +kernel⟩
abbrev s_noted_values : Stmt := topS 32
theorem sc_noted_values : FnScope ["notes", "time", "sort", "value"] ["notes"] (defScope s_noted_values) := ⟨rfl, rfl, rfl, by decide +kernel, rfl, by decide +kernel, by decide +kernel⟩
abbrev s_is_word_then : Stmt := topS 33
theorem sc_is_word_then : FnScope ["noted", "time", "many", "word", "after"] ["noted", "time", "many", "word"] (defScope s_is_word_then) := ⟨rfl, rfl, rfl, by decide +kernel, rfl, by decide +kernel, by decide +kernel⟩
abbrev s_words_then : Stmt := topS 34
theorem sc_words_then : FnScope ["noted", "time", "many", "word"] ["noted", "time", "many"] (defScope s_words_then) := ⟨rfl, rfl, rfl, by decide +kernel, rfl, by decide +kernel, by decide +kernel⟩
abbrev s_blocks_then : Stmt := topS 35
theorem sc_blocks_then : FnScope ["noted", "ways", "time", "many", "words", "word"] ["noted", "ways", "time", "many"] (defScope s_blocks_then) := ⟨rfl, rfl, rfl, by decide +kernel, rfl, by decide +kernel, by decide +kernel⟩
abbrev s_folded_ways : Stmt := topS 36
theorem sc_folded_ways : FnScope ["journal", "fold", "plots", "times", "notes", "noted", "ways", "found", "time", "rows", "many", "blocks", "word", "choices", "block"] ["journal", "fold"] (defScope s_folded_ways) := ⟨rfl, rfl, rfl, by decide +kernel, rfl, by decide +kernel, by decide +kernel⟩
abbrev s_in_all : Stmt := topS 37
theorem sc_in_all : FnScope ["parts"] ["parts"] (defScope s_in_all) := ⟨rfl, rfl, rfl, by decide +kernel, rfl, by decide +kernel, by decide +kernel⟩
abbrev s_all_ways : Stmt := topS 38
theorem sc_all_ways : FnScope ["journal"] ["journal"] (defScope s_all_ways) := ⟨rfl, rfl, rfl, by decide +kernel, rfl, by decide +kernel, by decide +kernel⟩
abbrev s_count_orders : Stmt := topS 39
theorem sc_count_orders : FnScope ["journal"] ["journal"] (defScope s_count_orders) := ⟨rfl, rfl, rfl, by decide +kernel, rfl, by decide +kernel, by decide +kernel⟩
abbrev s_l_cell_at : Stmt := topS 41
theorem sc_l_cell_at : FnScope ["_law_script", "_law_k"] ["_law_script", "_law_k"] (defScope s_l_cell_at) := ⟨rfl, rfl, rfl, by decide +kernel, rfl, by decide +kernel, by decide +kernel⟩
abbrev s_l_box : Stmt := topS 42
theorem sc_l_box : FnScope ["_law_script", "_law_k", "_law_core"] ["_law_script", "_law_k"] (defScope s_l_box) := ⟨rfl, rfl, rfl, by decide +kernel, rfl, by decide +kernel, by decide +kernel⟩
abbrev s_l_take : Stmt := topS 43
theorem sc_l_take : FnScope ["_law_box_here", "_law_below", "_law_found", "_law_once", "_law_twice"] ["_law_box_here", "_law_below"] (defScope s_l_take) := ⟨rfl, rfl, rfl, by decide +kernel, rfl, by decide +kernel, by decide +kernel⟩
abbrev s_l_of : Stmt := topS 44
theorem sc_l_of : FnScope ["_law_box_here", "_law_some"] ["_law_box_here", "_law_some"] (defScope s_l_of) := ⟨rfl, rfl, rfl, by decide +kernel, rfl, by decide +kernel, by decide +kernel⟩
abbrev s_l_runs : Stmt := topS 45
theorem sc_l_runs : FnScope ["_law_there", "_law_found", "_law_plot", "_law_some"] ["_law_there"] (defScope s_l_runs) := ⟨rfl, rfl, rfl, by decide +kernel, rfl, by decide +kernel, by decide +kernel⟩
abbrev s_l_seen : Stmt := topS 46
theorem sc_l_seen : FnScope ["_law_queue_here", "_law_counts", "_law_words", "_law_before", "_law_spot"] ["_law_queue_here"] (defScope s_l_seen) := ⟨rfl, rfl, rfl, by decide +kernel, rfl, by decide +kernel, by decide +kernel⟩
abbrev s_l_queue : Stmt := topS 47
theorem sc_l_queue : FnScope ["_law_box_here", "_law_count", "_law_size", "_law_left", "_law_found", "_law_near", "_law_spot", "_law_some", "_law_plot"] ["_law_box_here", "_law_count", "_law_size"] (defScope s_l_queue) := ⟨rfl, rfl, rfl, by decide +kernel, rfl, by decide +kernel, by decide +kernel⟩
abbrev s_l_notes : Stmt := topS 48
theorem sc_l_notes : FnScope ["_law_box_here", "_law_queue_here", "_law_found", "_law_dense", "_law_counts", "_law_words", "_law_spot"] ["_law_box_here", "_law_queue_here"] (defScope s_l_notes) := ⟨rfl, rfl, rfl, by decide +kernel, rfl, by decide +kernel, by decide +kernel⟩
abbrev s_l_story : Stmt := topS 49
theorem sc_l_story : FnScope ["_law_box_here", "_law_most", "_law_count", "_law_size", "_law_queue_here"] ["_law_box_here", "_law_most"] (defScope s_l_story) := ⟨rfl, rfl, rfl, by decide +kernel, rfl, by decide +kernel, by decide +kernel⟩
abbrev s_l_ways : Stmt := topS 50
theorem sc_l_ways : FnScope ["_law_word", "_law_groups_now"] ["_law_word", "_law_groups_now"] (defScope s_l_ways) := ⟨rfl, rfl, rfl, by decide +kernel, rfl, by decide +kernel, by decide +kernel⟩
abbrev s_l_right : Stmt := topS 51
theorem sc_l_right : FnScope ["_law_box_here", "_law_queue_here", "_law_book", "_law_count", "_law_size", "_law_words", "_law_counts", "_law_here", "_law_picks", "_law_total", "_law_before", "_law_spot", "_law_word", "_law_top", "_law_at", "_law_turn", "_law_full"] ["_law_box_here"] (defScope s_l_right) := ⟨rfl, rfl, rfl, by decide +kernel, rfl, by decide +kernel, by decide +kernel⟩
abbrev s_law : Stmt := topS 52
theorem sc_law : FnScope ["_law_script", "_law_k", "_law_box_here", "_law_turn"] ["_law_script"] (defScope s_law) := ⟨rfl, rfl, rfl, by decide +kernel, rfl, by decide +kernel, by decide +kernel⟩
structure Top (wd : World) (K : PySem.W.Frag) (mg : Str → Option Value) : Prop where
  d_is_number : Fct K mg "is_number" s_is_number ["thing"]
  d_is_number_below : Fct K mg "is_number_below" s_is_number_below ["thing", "limit"]
  d_is_row : Fct K mg "is_row" s_is_row ["plots", "thing"]
  d_neighbours : Fct K mg "neighbours" s_neighbours ["row"]
  d_groups : Fct K mg "groups" s_groups ["row"]
  d_houses : Fct K mg "houses" s_houses ["row"]
  d_many_choices : Fct K mg "many_choices" s_many_choices ["word", "many"]
  d_is_choice : Fct K mg "is_choice" s_is_choice ["many", "thing"]
  d_is_choices : Fct K mg "is_choices" s_is_choices ["thing"]
  d_groups_after : Fct K mg "groups_after" s_groups_after ["words"]
  d_groups_left_of : Fct K mg "groups_left_of" s_groups_left_of ["built", "plot"]
  d_number_of_choice : Fct K mg "number_of_choice" s_number_of_choice ["built", "plot", "word"]
  d_choices_of : Fct K mg "choices_of" s_choices_of ["row"]
  d_gaps_of : Fct K mg "gaps_of" s_gaps_of ["plots", "row"]
  d_times_in_groups : Fct K mg "times_in_groups" s_times_in_groups ["choices"]
  d_row_of : Fct K mg "row_of" s_row_of ["choices", "gaps"]
  d_changed : Fct K mg "changed" s_changed ["plots", "row", "time", "number"]
  d_true_value : Fct K mg "true_value" s_true_value ["row", "time", "sort"]
  d_untrue_times : Fct K mg "untrue_times" s_untrue_times ["notes", "row"]
  d_is_order : Fct K mg "is_order" s_is_order ["journal", "thing"]
  d_ways_to_choose : Fct K mg "ways_to_choose" s_ways_to_choose ["many", "things"]
  d_noted_values : Fct K mg "noted_values" s_noted_values ["notes"]
  d_is_word_then : Fct K mg "is_word_then" s_is_word_then ["noted", "time", "many", "word"]
  d_words_then : Fct K mg "words_then" s_words_then ["noted", "time", "many"]
  d_blocks_then : Fct K mg "blocks_then" s_blocks_then ["noted", "ways", "time", "many"]
  d_folded_ways : Fct K mg "folded_ways" s_folded_ways ["journal", "fold"]
  d_in_all : Fct K mg "in_all" s_in_all ["parts"]
  d_all_ways : Fct K mg "all_ways" s_all_ways ["journal"]
  d_count_orders : Fct K mg "count_orders" s_count_orders ["journal"]
  d_l_cell_at : Fct K mg "_law_cell_at" s_l_cell_at ["_law_script", "_law_k"]
  d_l_box : Fct K mg "_law_box" s_l_box ["_law_script", "_law_k"]
  d_l_take : Fct K mg "_law_take" s_l_take ["_law_box_here", "_law_below"]
  d_l_of : Fct K mg "_law_of" s_l_of ["_law_box_here", "_law_some"]
  d_l_runs : Fct K mg "_law_runs" s_l_runs ["_law_there"]
  d_l_seen : Fct K mg "_law_seen" s_l_seen ["_law_queue_here"]
  d_l_queue : Fct K mg "_law_queue" s_l_queue ["_law_box_here", "_law_count", "_law_size"]
  d_l_notes : Fct K mg "_law_notes" s_l_notes ["_law_box_here", "_law_queue_here"]
  d_l_story : Fct K mg "_law_story" s_l_story ["_law_box_here", "_law_most"]
  d_l_ways : Fct K mg "_law_ways" s_l_ways ["_law_word", "_law_groups_now"]
  d_l_right : Fct K mg "_law_right" s_l_right ["_law_box_here"]
  c_WORDS : GC K mg "WORDS" (.tuple [.str "new", .str "beside", .str "between"])
  c_STEPS : GD wd K mg "STEPS" [("new", .int (1)), ("beside", .int (0)), ("between", .int (-1))]
  c_ASCENDING_WORDS : GC K mg "ASCENDING_WORDS" (.tuple [.str "beside", .str "between", .str "new"])
  b_abs : mg "abs" = none
  b_all : mg "all" = none
  b_bool : mg "bool" = none
  b_enumerate : mg "enumerate" = none
  b_int : mg "int" = none
  b_isinstance : mg "isinstance" = none
  b_len : mg "len" = none
  b_list : mg "list" = none
  b_max : mg "max" = none
  b_range : mg "range" = none
  b_reversed : mg "reversed" = none
  b_set : mg "set" = none
  b_sorted : mg "sorted" = none
  b_sum : mg "sum" = none
  b_tuple : mg "tuple" = none
  b_zip : mg "zip" = none
end Og61

namespace Og61
open PySem PySem.Spec PyProof.Rows L2 OgR Evl Dw
local macro_rules | `(tactic| walk_at "d") => `(tactic| first
  | refine ⟨_, rfl, ?_⟩ | refine ⟨_, _, rfl, rfl, ?_⟩ | refine iteT ?_ | refine iteF ?_ | refine ⟨_, _, rfl, rfl, rfl, ?_⟩)
section
variable {P : Program} {wd : World} {K : PySem.W.Frag} {mg : Str → Option Value} {base : Heap}
/-! ### _law_take -/
def spTake : Sp := fun vs H Q _ => ∃ (l : Addr) (c n : Int), vs = [.ref l, .int n] ∧ Dw.BoxAt H l c ∧ 1 ≤ n ∧ n ≤ 10000000 ∧ c < 1000000 ∧
  ∀ r xs c', 0 ≤ r → r < n → Dw.BoxAt (upd H l (.lst xs)) l c' → c' ≤ c + 1 → Q (.int r) (upd H l (.lst xs))
theorem raw_take {f : Addr} {fd : FuncData} {k : Nat} (F : Fun K "_law_take" "_law_take" s_l_take f fd) : FnG P wd K mg base (k + 1) f fd ["_law_box_here", "_law_below"] spTake := by
  refine fnG_of F sc_l_take (fun vs H Q E h => ?_) (fun cdv A outer s H vs Q E hG hr h => ?_)
  · obtain ⟨l, c, n, rfl, _⟩ := h
    rfl
  · obtain ⟨l, c, n, rfl, ⟨a, b, hl, ha, hb, hb2, hc, hc2⟩, hn, hn2, hc3, q⟩ := h
    have hL : SqL K H l [.int a, .int b, .int c] := .inl (.inl hl)
    have X0 : ∀ {X : Cx} {j : Int} {p p1 p2 : Pos} {k : Nat} (hv : PE X (.Name "_law_box_here" p1) (tVar 0)), PE X (.Subscript (.Name "_law_box_here" p1) (.Constant (.int j) k p2) p) (tOp (rIxL X.K) (tVar 0) (fun _ H Q => Q (.int j) H)) := fun hv => pe_ix ix_list hv pe_int (fun _ _ => rfl)
    refine ⟨_, pss_cons (ps_if (pt_cmpR op_gt (X0 (pv 0)) pe_int (nomark _))
        (pss_cons (ps_set (i := 2) sc_l_take.nd rfl (.inl rfl) (pe_op op_mod (X0 (pv 0)) (pv 1)))
          (pss_cons (ps_asg (pe_op op_fdiv (X0 (pv 0)) (pv 1)) (pg_sub (pv 0) pe_int set_list))
          (pss_one (ps_ret (pv 2))))) pss_nil)
      (pss_cons (ps_if (pt_cmpR op_gt (pv 1) (pe_op op_pow pe_int pe_int) (nomark _)) (pss_one ps_never) pss_nil)
      (pss_cons (ps_asg (pe_op op_add (X0 (pv 0)) pe_int) (pg_sub (pv 0) pe_int set_list))
      (pss_cons (ps_set (i := 3) sc_l_take.nd rfl (.inl rfl) (pe_op op_mod (pe_op op_mul (pe_op op_add (X0 (pv 0)) (pe_op op_mul pe_int (X0 (pv 0)))) (pe_op op_add pe_int (X0 (pv 0)))) pe_int))
      (pss_cons (ps_set (i := 4) sc_l_take.nd rfl (.inl rfl) (pe_op op_mod (pe_op op_mul (pe_op op_add (pe_op op_add (pv 3) (X0 (pv 0))) (pe_op op_fdiv (X0 (pv 0)) pe_int)) (pe_op op_add (pe_op op_mod (pv 3) pe_int) pe_int)) pe_int))
      (pss_one (ps_ret (pe_op op_mod (pe_op op_fdiv (pe_op op_mod (pe_op op_add (pe_op op_mul (pv 4) pe_int) (pv 3)) pe_int) pe_int) (pv 1)))))))), ?_⟩
    refine ⟨_, rfl, l, _, 0, _, rfl, rfl, hL, rfl, _, _, rfl, rfl, _, rfl, ite2 (fun e => ?_) (fun e => ?_)⟩
    · have h1 := of_decide_eq_true e
      refine ⟨_, rfl, l, _, 0, _, rfl, rfl, hL, rfl, _, rfl, _, _, rfl, rfl, by omega, ?_⟩
      refine ⟨_, rfl, l, _, 0, _, rfl, rfl, hL, rfl, _, rfl, _, _, rfl, rfl, ⟨by omega, by omega⟩, _, rfl, l, _, 0, 0, rfl, rfl, hl, rfl, ?_⟩
      refine ⟨_, rfl, ?_⟩
      refine q _ _ c (Int.emod_nonneg _ (by omega)) (Int.emod_lt_of_pos _ (by omega)) ⟨_, _, upd_same, Int.ediv_nonneg ha (by omega), hb, hb2, hc, hc2⟩ (by omega)
    · refine ⟨_, rfl, _, _, rfl, rfl, ⟨by decide, by decide, by decide⟩, _, _, rfl, rfl, _, rfl, ite2 (fun e2 => ?_) (fun e2 => ?_)⟩
      · have h2 := of_decide_eq_true e2
        exact absurd h2 (by show ¬ ((10 : Int) ^ 7 < n); omega)
      · refine ⟨_, rfl, l, _, 2, _, rfl, rfl, hL, rfl, _, _, rfl, rfl, _, rfl, l, _, 2, 2, rfl, rfl, hl, rfl, ?_⟩
        have hl2 : upd H l (.lst [.int a, .int b, .int (c + 1)]) l = some (.lst [.int a, .int b, .int (c + 1)]) := upd_same
        have hL2 : SqL K (upd H l (.lst [.int a, .int b, .int (c + 1)])) l [.int a, .int b, .int (c + 1)] := .inl (.inl hl2)
        show tSeq _ _ _ _ (upd H l (.lst [.int a, .int b, .int (c + 1)]))
        refine ⟨_, rfl, l, _, 1, _, rfl, rfl, hL2, rfl, _, rfl, l, _, 2, _, rfl, rfl, hL2, rfl, _, _, rfl, rfl, .inl ⟨by decide, by decide⟩, _, _, rfl, rfl, _, rfl, l, _, 2, _, rfl, rfl, hL2, rfl, _, _, rfl, rfl, _, _, rfl, rfl, .inl ⟨by omega, by omega⟩, _, _, rfl, rfl, by omega, ?_⟩
        refine ⟨_, rfl, _, rfl, l, _, 2, _, rfl, rfl, hL2, rfl, _, _, rfl, rfl, _, rfl, l, _, 1, _, rfl, rfl, hL2, rfl, _, _, rfl, rfl, ⟨by decide, by decide⟩, _, _, rfl, rfl, _, rfl, _, _, rfl, rfl, by omega, _, _, rfl, rfl, _, _, rfl, rfl, .inr ⟨?_, ?_⟩, _, _, rfl, rfl, by omega, ?_⟩
        · have := Int.emod_nonneg ((b + 48271 * (c + 1)) * (39373 + (c + 1)) % 2147483647) (show (40009 : Int) ≠ 0 by decide); omega
        · have := Int.emod_lt_of_pos ((b + 48271 * (c + 1)) * (39373 + (c + 1)) % 2147483647) (show (0 : Int) < 40009 by decide); omega
        · refine ⟨_, rfl, _, _, rfl, rfl, .inr ⟨by decide, by decide⟩, _, rfl, _, _, rfl, rfl, _, _, rfl, rfl, by omega, _, _, rfl, rfl, ⟨by decide, by decide⟩, _, rfl, _, _, rfl, rfl, by omega, ?_⟩
          exact q _ _ (c + 1) (Int.emod_nonneg _ (by omega)) (Int.emod_lt_of_pos _ (by omega)) ⟨_, _, upd_same, ha, hb, hb2, by omega, by omega⟩ (by omega)
def f_take : FB := fun ds c R => ∃ n : Int, ds = [.int n] ∧ 1 ≤ n ∧ n ≤ 10000000 ∧ c < 1000000 ∧ ∀ r c', 0 ≤ r → r < n → c' ≤ c + 1 → R (.int r) c'
theorem ok_l_take (T : Top wd K mg) : Def P wd K mg base 1 "_law_take" s_l_take ["_law_box_here", "_law_below"] (spB K f_take) := by
  obtain ⟨f, fd, F, b, m⟩ := T.d_l_take.ex
  refine Def.imp (sp := spTake) ⟨f, fd, raw_take F, F, b, m⟩ fun vs H Q E h => ?_
  obtain ⟨l, vs', G, ds, c, R, rfl, hB, hGl, gh, p, ⟨n, rfl, h1, h2, h3, hR⟩, kk⟩ := h
  cases p with
  | cons p1 p2 =>
    cases p2
    refine ⟨l, c, n, by rw [dp_int p1], hB, h1, h2, h3, fun r xs c' r0 r1 hB' hc' => kk (.int r) (.int r) c' G _ (hR r c' r0 r1 hc') (Ex.refl G) (fun b o hb h => by rw [upd_ne hb]; exact h) hB' (fun b o h => ?_) (Nw.refl G H) (.int r)⟩
    rw [upd_ne (fun z => by rw [z, hGl] at h; cases h)]
    exact gh b o h
/-! ### _law_of -/
def f_of : FB := fun ds c R => ∃ x, ds = [x] ∧ seqd x = true ∧ 1 ≤ (its x).length ∧ (its x).length ≤ 1000 ∧ c < 1000000 ∧ ∀ d c', d ∈ its x → c' ≤ c + 1 → R d c'
theorem ok_l_of (T : Top wd K mg) : Def P wd K mg base 2 "_law_of" s_l_of ["_law_box_here", "_law_some"] (spB K f_of) := by
  have g_l_take := ok_l_take (P := P) (base := base) T
  refine Def.draws T.d_l_of sc_l_of (fun ds c R h => by obtain ⟨x, rfl, _⟩ := h; rfl) (fun f cdv A outer s H G l E ds c R hG hr h => ?_)
  obtain ⟨x, rfl, hs, h1, h2, hc, q⟩ := h
  refine ⟨_, _, (dss_one (ds_ret (de_ix rfl (dp_v 1) (DE.p (de_cB 0 g_l_take hG (hr.mono (by omega)) (by rfl) (da_cons (de_len rfl (by rfl) T.b_len (dp_v 1)) da_nil)))))), ?_⟩
  have hl : lenD x = some (its x).length := by cases x <;> first | rfl | cases hs
  refine ⟨_, x, rfl, rfl, rfl, _, x, rfl, rfl, (its x).length, hl, _, rfl, by omega, by omega, hc, fun r c' r0 r1 hc' => ?_⟩
  have hr2 : r.toNat < (its x).length := by omega
  refine ⟨r, _, hs, rfl, ?_, q _ c' (List.getElem_mem hr2) hc'⟩
  unfold atI ixN
  rw [if_pos r0, if_pos r1]
  exact List.getElem?_eq_getElem hr2
end
end Og61

namespace Og61
open PySem PySem.Spec PyProof.Rows L2 OgR Evl Dw
local macro_rules | `(tactic| walk_at "d") => `(tactic| first
  | refine ⟨_, rfl, ?_⟩ | refine ⟨_, _, rfl, rfl, ?_⟩ | refine iteT ?_ | refine iteF ?_ | refine ⟨_, _, rfl, rfl, rfl, ?_⟩ | refine ⟨rfl, ?_⟩)
def OnB (w : Nat) (C : PyData → Prop) (d : PyData) : Prop := FlB d ∨ ∃ es, (d = .list es ∨ d = .tuple es) ∧ es.length ≤ w ∧ ∀ x ∈ es, C x
theorem eqvAll_refl : ∀ {l : List PyData}, (∀ x ∈ l, PyData.eqv x x = true) → PyData.eqvAll l l = true
  | [], _ => by simp only [PyData.eqvAll]
  | x :: l, h => by simp only [PyData.eqvAll, h x List.mem_cons_self, eqvAll_refl fun y hy => h y (List.mem_cons_of_mem _ hy), Bool.and_self]
theorem flat_refl {d : PyData} (h : FlB d) : PyData.eqv d d = true := by
  cases d with
  | none => simp only [PyData.eqv]
  | bool b => rw [eqv_bool]; simp
  | int i => rw [eqv_int]; simp
  | str z => rw [eqv_str]; simp
  | list _ => exact h.elim
  | tuple _ => exact h.elim
  | dict _ => exact h.elim
theorem FlB.shp {d : PyData} (h : FlB d) : Shp d := Bd.shp (w := 0) (k := 0) h (by decide)
theorem zip_self {es : List PyData} {x : PyData} (h : x ∈ zipD es es) : ∃ d ∈ es, x = .tuple [d, d] := by
  unfold zipD at h
  induction es with
  | nil => simp at h
  | cons e es ih =>
    rw [List.zipWith_cons_cons] at h
    rcases List.mem_cons.mp h with rfl | h
    · exact ⟨e, List.mem_cons_self, rfl⟩
    · obtain ⟨d, hd, r⟩ := ih h
      exact ⟨d, List.mem_cons_of_mem _ hd, r⟩
theorem zip_len (es : List PyData) : (zipD es es).length = es.length := by unfold zipD; rw [List.length_zipWith]; omega
theorem all_true {l : List PyData} : ((l.map fun _ => true).all id) = true := by rw [List.all_map]; simp
section
variable {P : Program} {wd : World} {K : PySem.W.Frag} {mg : Str → Option Value} {base : Heap}
def f_same (C : PyData → Prop) : FP := fun ds R => ∃ d, ds = [d, d] ∧ C d ∧ R (.bool true)
/-! ### _law_lists -/
def softK : Nat → PyData → PyData
  | 0, d => d
  | k + 1, d => if seqd d = true then .list ((its d).map (softK k)) else d
def f_lists (C : PyData → Prop) (g : PyData → PyData) : FP := fun ds R => ∃ d, ds = [d] ∧ C d ∧ R (g d)
end
end Og61

namespace Og61
open PySem PySem.Spec PyProof.Rows L2 OgR Evl Dw OgM
local macro_rules | `(tactic| walk_at "d") => `(tactic| first
  | refine ⟨_, rfl, ?_⟩ | refine ⟨_, _, rfl, rfl, ?_⟩ | refine iteT ?_ | refine iteF ?_ | refine ⟨_, _, rfl, rfl, rfl, ?_⟩ | refine ⟨rfl, ?_⟩)
theorem sortI_perm (ns : List Int) : (sortI ns).Perm ns := List.mergeSort_perm ns _
theorem sortI_le (ns : List Int) : (sortI ns).Pairwise (· ≤ ·) := by
  have := List.pairwise_mergeSort (le := fun a b : Int => decide (a ≤ b)) (fun a b c h1 h2 => by simp at *; omega) (fun a b => by simp; omega) ns
  exact this.imp fun h => by simpa using h
def runD (x : Seg) : PyData := .list ((sgi x).map .int)
def runsD (g : List Seg) : List PyData := g.map runD
theorem at_last {α : Type} (l : List α) (x : α) : atI (l ++ [x]) (-1) = some x := by
  unfold atI ixN
  rw [if_neg (by decide), if_pos (by rw [List.length_append]; simp; omega), List.length_append]
  show (l ++ [x])[((-1 : Int) + ((l.length + 1 : Nat) : Int)).toNat]? = some x
  rw [show ((-1 : Int) + ((l.length + 1 : Nat) : Int)).toNat = l.length by omega, List.getElem?_concat_length]
theorem run_last (x : Seg) : atI ((sgi x).map PyData.int) (-1) = some (.int (x.1 + x.2)) := by
  obtain ⟨l0, hl0⟩ := List.getLast?_eq_some_iff.mp (sgi_last x)
  rw [hl0, List.map_append]
  exact at_last _ _
theorem run_head (x : Seg) : atI ((sgi x).map PyData.int) 0 = some (.int x.1) := by
  obtain ⟨l0, hl0⟩ := List.head?_eq_some_iff.mp (sgi_head x)
  rw [hl0]
  unfold atI ixN
  rw [if_pos (by decide), if_pos (by simp)]
  rfl
theorem eqv_nilR (g : List Seg) : PyData.eqv (.list (runsD g)) (.list []) = g.isEmpty := by
  cases g <;> simp [runsD, PyData.eqv, PyData.eqvAll]
theorem can_ints (l : List Int) : PyData.canLayAll0 (l.map PyData.int) = true := canAll fun d h => by
  obtain ⟨i, _, rfl⟩ := List.mem_map.mp h
  simp only [PyData.canLay0]
theorem dep_ints (l : List Int) : PyData.depthAll (l.map PyData.int) ≤ 0 := depAll fun d h => by
  obtain ⟨i, _, rfl⟩ := List.mem_map.mp h
  simp only [PyData.depth]
  exact Nat.le_refl _
theorem shp_intsT (l : List Int) : Shp (.tuple (l.map .int)) := Bool.and_eq_true_iff.mpr ⟨by simp only [PyData.canLay0]; exact can_ints l, decide_eq_true (by simp only [PyData.depth]; have := dep_ints l; omega)⟩
theorem shp_ints (l : List Int) : Shp (.list (l.map .int)) := Bool.and_eq_true_iff.mpr ⟨by simp only [PyData.canLay0]; exact can_ints l, decide_eq_true (by simp only [PyData.depth]; have := dep_ints l; omega)⟩
theorem shp_runs (g : List Seg) : Shp (.list (runsD g)) := by
  refine Bool.and_eq_true_iff.mpr ⟨?_, decide_eq_true ?_⟩
  · simp only [PyData.canLay0]
    refine canAll fun d h => ?_
    obtain ⟨x, _, rfl⟩ := List.mem_map.mp h
    simp only [runD, PyData.canLay0]
    exact can_ints _
  · simp only [PyData.depth]
    have : PyData.depthAll (runsD g) ≤ 1 := depAll fun d h => by
      obtain ⟨x, _, rfl⟩ := List.mem_map.mp h
      simp only [runD, PyData.depth]
      have := dep_ints (sgi x)
      omega
    omega
section
variable {P : Program} {wd : World} {K : PySem.W.Frag} {mg : Str → Option Value} {base : Heap}
def f_runs : FP := fun ds R => ∃ b ns, ds = [b] ∧ seqd b = true ∧ its b = ns.map .int ∧ ns.Nodup ∧ ns.length ≤ 1000 ∧ R (.list (runsD (segs ns)))
theorem ok_l_runs (T : Top wd K mg) : Def P wd K mg base 1 "_law_runs" s_l_runs ["_law_there"] (spP K f_runs) := by
  refine Def.pure T.d_l_runs sc_l_runs (fun ds R h => by obtain ⟨_, _, rfl, _⟩ := h; rfl) (fun f cdv A outer s H G E ds R hG hr h => ?_)
  obtain ⟨b, ns, rfl, hs, he, hnd, hl, q⟩ := h
  refine ⟨_, _, (dss_cons (ds_own 1 sc_l_runs.nd (do_lst da_nil))
      (dss_cons (ds_for PassesOwn.never (by rfl) (di_seq rfl (DO.d (do_sorted rfl (by rfl) T.b_sorted (dp_v 0)))) (dg_name 2 sc_l_runs.nd)
        (dss_one (ds_if (DW.q (dw_and (dt_cmp (o_ne rfl hr.units) (dp_v 1) (DE.p (DO.d (do_lst da_nil)))) (dw_and1 (dt_cmp (o_eq rfl hr.units) (DE.p (de_ix rfl (DE.p (de_ix rfl (dp_v 1) (DE.p (de_neg de_int)))) (DE.p (de_neg de_int)))) (DE.p (de_bin o_sub (dp_v 2) (DE.p de_int))))))) (dss_cons (ds_popTo 3 1 rfl sc_l_runs.nd (pe_bm0 PySem.F.plainAttrs_list PySem.F.slot_list_pop PySem.F.type_list_pop mt_pop (pv 1)))
          (dss_one (ds_app 1 rfl (DO.d (do_catP rfl (dp_v 3) (DE.p (DO.d (do_lst (da_cons (de_v 2) da_nil))))))))) (dss_one (ds_app 1 rfl (DO.d (do_lst (da_cons (de_v 2) da_nil))))))))
      (dss_one (ds_ret (de_pub 1))))), ?_⟩
  have hperm := sortI_perm ns
  have rise := rise_of hnd hperm (sortI_le ns)
  have hseg : segs (sortI ns) = segs ns := segs_eq (hperm.nodup_iff.mpr hnd) hnd fun q => hperm.mem_iff
  have hlk : (sortI ns).length ≤ 1000 := by rw [hperm.length_eq]; exact hl
  generalize hk : sortI ns = ks at *
  refine ⟨Nat.zero_le _, _, b, rfl, rfl, ns, hs, he, rfl, for_by (fun i s2 => ∃ y2 y3, s2 = ⟨[some (.d b), some (.own (runsD (segs (ks.take i)))), y2, y3], 0⟩) ⟨none, none, rfl⟩ (fun i d s2 J hi inv hJ => ?_) (fun s2 inv => ?_)⟩
  · obtain ⟨y2, y3, rfl⟩ := inv
    have hi : ((sortI ns).map PyData.int)[i]? = some d := hi
    rw [hk, List.getElem?_map] at hi
    obtain ⟨z, hz, rfl⟩ := Option.map_eq_some_iff.mp hi
    have hstep : segs (ks.take (i + 1)) = runStep (segs (ks.take i)) z := by
      rw [take_snoc hz]
      refine segs_rise (rise.sublist (List.take_sublist _ _)) fun q hq => ?_
      have hh := rise.sublist (List.take_sublist (i + 1) ks)
      rw [take_snoc hz, List.pairwise_append] at hh
      exact hh.2.2 q hq z (by simp)
    rw [hstep] at hJ
    have hlq : (segs (ks.take i)).length ≤ 1000 := by
      have q1 := segs_len (ks.take i)
      rw [List.length_take] at q1
      omega
    have hsz : ∀ x ∈ segs (ks.take i), x.2 + 1 ≤ 1000 := fun x hx => by
      have h7 := size_mem hx
      rw [segs_size, List.length_take] at h7
      omega
    generalize segs (ks.take i) = g at hlq hsz hJ
    repeat walk_at "d"
    refine ⟨Nat.zero_le _, shp_runs _, rfl, _, rfl, ?_⟩
    rw [eqv_nilR]
    rcases List.eq_nil_or_concat g with rfl | ⟨g', x, hg⟩
    · refine iteF (iteF ?_)
      refine ⟨⟨_, rfl⟩, .int z, rfl, (show 1 ≤ 100000 by decide), _, rfl, .list [.int z], rfl, (show 0 < 100000 by decide), ?_⟩
      refine hJ _ ⟨some (.d (.int z)), y3, ?_⟩
      have e2 : runsD (runStep [] z) = [.list [.int z]] := by
        unfold runsD runD runStep
        simp [sgi]
      rw [e2]
      rfl
    · rw [List.concat_eq_append] at hg
      subst hg
      obtain ⟨s0, n0⟩ := x
      have hne : (g' ++ [(s0, n0)]).isEmpty = false := by simp
      rw [hne]
      refine iteT ?_
      have e1 : runsD (g' ++ [(s0, n0)]) = runsD g' ++ [runD (s0, n0)] := by unfold runsD; rw [List.map_append]; rfl
      rw [e1]
      have hlg : (runsD g').length < 1000 := by
        unfold runsD
        rw [List.length_map]
        rw [List.length_append] at hlq
        simp at hlq
        omega
      refine ⟨_, _, rfl, rfl, 1, rfl, -1, _, rfl, rfl, at_last _ _, 1, rfl, -1, _, rfl, rfl, run_last _, _, _, rfl, rfl, _, _, rfl, rfl, shp_int _, shp_int _, _, rfl, ?_⟩
      rw [eqv_int]
      refine ite2 (fun hc => ?_) (fun hc => ?_)
      · have hc' : s0 + (n0 : Int) = z - 1 := of_decide_eq_true hc
        refine ⟨⟨_, rfl⟩, _, rfl, runsD g', runD (s0, n0), rfl, rfl, ?_⟩
        have hn := hsz (s0, n0) (by simp)
        refine ⟨⟨_, rfl⟩, _, _, rfl, rfl, .int z, rfl, (show 1 ≤ 100000 by decide), (sgi (s0, n0)).map .int, [.int z], rfl, rfl, ?_, _, rfl, _, rfl, by omega, ?_⟩
        · rw [List.length_map, sgi_len]
          show n0 + 1 + 1 ≤ 100000
          have : n0 + 1 ≤ 1000 := hn
          omega
        · refine hJ _ ⟨some (.d (.int z)), some (.d (runD (s0, n0))), ?_⟩
          have e3 : runStep (g' ++ [(s0, n0)]) z = g' ++ [(s0, n0 + 1)] := by
            unfold runStep
            rw [getLast_snoc]
            show (if s0 + (n0 : Int) = z - 1 then _ else _) = _
            rw [if_pos hc', List.dropLast_concat]
          have e9 := sgi_snoc s0 n0
          rw [show s0 + (n0 : Int) + 1 = z by omega] at e9
          have e2 : runsD (g' ++ [(s0, n0 + 1)]) = runsD g' ++ [.list ((sgi (s0, n0)).map .int ++ [.int z])] := by
            have e4 : runD (s0, n0 + 1) = .list ((sgi (s0, n0)).map .int ++ [.int z]) := by
              unfold runD
              rw [← e9, List.map_append]
              rfl
            unfold runsD
            rw [List.map_append, ← e4]
            rfl
          rw [e3, e2]
          rfl
      · have hc' : ¬ s0 + (n0 : Int) = z - 1 := fun h => hc (decide_eq_true h)
        refine ⟨⟨_, rfl⟩, .int z, rfl, (show 1 ≤ 100000 by decide), _, rfl, .list [.int z], rfl, ?_, ?_⟩
        · rw [List.length_append]
          simp
          omega
        · refine hJ _ ⟨some (.d (.int z)), y3, ?_⟩
          have e3 : runStep (g' ++ [(s0, n0)]) z = g' ++ [(s0, n0)] ++ [(z, 0)] := by
            unfold runStep
            rw [getLast_snoc]
            show (if s0 + (n0 : Int) = z - 1 then _ else _) = _
            rw [if_neg hc']
          have e2 : runsD (g' ++ [(s0, n0)] ++ [(z, 0)]) = runsD g' ++ [runD (s0, n0)] ++ [.list [.int z]] := by
            unfold runsD runD
            rw [List.map_append, List.map_append]
            simp [sgi]
          rw [e3, e2]
          rfl
  · obtain ⟨y2, y3, rfl⟩ := inv
    have hlen : (its (PyData.list ((sortI ns).map .int))).length = ks.length := by
      show ((sortI ns).map PyData.int).length = _
      rw [hk, List.length_map]
    refine ⟨_, rfl, ?_⟩
    have e3 : ks.take (its (PyData.list ((sortI ns).map .int))).length = ks := by rw [hlen, List.take_length]
    show R (.list (runsD (segs (ks.take _))))
    rw [e3, hseg]
    exact q
end
end Og61

namespace Og61
open PySem PySem.Spec PyProof.Rows L2 OgR Evl Dw OgM
local macro_rules | `(tactic| walk_at "d") => `(tactic| first
  | refine ⟨_, rfl, ?_⟩ | refine ⟨_, _, rfl, rfl, ?_⟩ | refine iteT ?_ | refine iteF ?_ | refine ⟨_, _, rfl, rfl, rfl, ?_⟩ | refine ⟨rfl, ?_⟩)
theorem eqv_nilL (ds : List PyData) : PyData.eqv (.list ds) (.list []) = ds.isEmpty := by
  cases ds <;> simp [PyData.eqv, PyData.eqvAll]
theorem len_erase : ∀ {l : List Int} {x : Int}, l.Nodup → x ∈ l → (l.filter fun y => decide (y ≠ x)).length + 1 = l.length
  | [], x, _, h => by simp at h
  | y :: l, x, hn, h => by
    rw [List.nodup_cons] at hn
    by_cases e : y = x
    · subst e
      rw [List.filter_cons_of_neg (by simp)]
      have : l.filter (fun z => decide (z ≠ y)) = l := List.filter_eq_self.mpr fun z hz => decide_eq_true fun e => hn.1 (e ▸ hz)
      rw [this]
      rfl
    · rw [List.filter_cons_of_pos (by simp [e])]
      rcases List.mem_cons.mp h with h | h
      · exact absurd h.symm e
      · have := len_erase hn.2 h
        simp only [List.length_cons]
        omega
structure QInv (n i : Nat) (left row : List Int) : Prop where
  nl : left.Nodup
  nr : row.Nodup
  len : left.length + row.length = n
  rl : row.length = i
  dis : ∀ x ∈ left, x ∉ row
  bl : ∀ x ∈ left, 0 ≤ x ∧ x < n
  br : ∀ x ∈ row, 0 ≤ x ∧ x < n
theorem QInv.step {n i : Nat} {left row : List Int} (h : QInv n i left row) {x : Int} (hx : x ∈ left) : QInv n (i + 1) (left.filter fun y => decide (y ≠ x)) (row ++ [x]) := by
  have hl := len_erase h.nl hx
  refine ⟨h.nl.filter _, ?_, ?_, by rw [List.length_append, h.rl]; rfl, fun y hy => ?_, fun y hy => h.bl y ((List.mem_filter.mp hy).1), fun y hy => ?_⟩
  · rw [List.nodup_append]
    refine ⟨h.nr, by simp, fun a ha b hb e => ?_⟩
    rw [List.mem_singleton] at hb
    subst hb
    subst e
    exact h.dis a hx ha
  · have := h.len
    rw [List.length_append, List.length_singleton]
    omega
  · obtain ⟨h1, h2⟩ := List.mem_filter.mp hy
    have : y ≠ x := of_decide_eq_true h2
    rw [List.mem_append, List.mem_singleton, not_or]
    exact ⟨h.dis y h1, this⟩
  · rcases List.mem_append.mp hy with h1 | h1
    · exact h.br y h1
    · rw [List.mem_singleton.mp h1]
      exact h.bl x hx
theorem iota_ints (n : Nat) : iotaD 0 (n : Int) = ((List.range n).map fun (i : Nat) => (i : Int)).map PyData.int := by
  unfold iotaD
  rw [List.map_map, Int.sub_zero, Int.toNat_natCast]
  refine List.map_congr_left fun i _ => ?_
  show PyData.int (0 + (i : Int)) = PyData.int (i : Int)
  rw [Int.zero_add]
theorem QInv.start (n : Nat) : QInv n 0 ((List.range n).map fun (i : Nat) => (i : Int)) [] := by
  refine ⟨?_, List.nodup_nil, by simp, rfl, fun x _ => by simp, fun x hx => ?_, fun x hx => by simp at hx⟩
  · refine List.pairwise_map.mpr (List.nodup_range.imp fun {a b} h e => h ?_)
    exact Int.ofNat.inj e
  · obtain ⟨i, hi, rfl⟩ := List.mem_map.mp hx
    rw [List.mem_range] at hi
    omega
def inR (row : List Int) (y : Int) : Bool := (row.map PyData.int).any fun z => PyData.eqv z (.int y)
def nearF (row : List Int) : PyData → Option PyData
  | .int x => if (inR row (x - 1) || inR row (x + 1)) = true then some (.int x) else none
  | _ => none
def notF (x : Int) : PyData → Option PyData
  | .int y => if y ≠ x then some (.int y) else none
  | _ => none
theorem notF_map (x : Int) : ∀ left : List Int, (left.map PyData.int).filterMap (notF x) = (left.filter fun y => decide (y ≠ x)).map .int
  | [] => rfl
  | y :: l => by
    rw [List.map_cons, List.filterMap_cons, List.filter_cons, notF_map x l]
    by_cases e : y = x
    · simp [e, notF]
    · simp [e, notF]
def rowT (row : List Int) : PyData := .tuple (row.map .int)
section
variable {P : Program} {wd : World} {K : PySem.W.Frag} {mg : Str → Option Value} {base : Heap}
def f_queue : FB := fun ds c R => ∃ n m : Nat, ds = [.int n, .int m] ∧ n ≤ 100 ∧ m ≤ n ∧ c ≤ 900000 ∧ ∀ (row : List Int) c', row.Nodup → row.length = m → (∀ x ∈ row, 0 ≤ x ∧ x < n) → c' ≤ c + 1 + 2 * m → R (rowT row) c'
theorem ok_l_queue (T : Top wd K mg) : Def P wd K mg base 3 "_law_queue" s_l_queue ["_law_box_here", "_law_count", "_law_size"] (spB K f_queue) := by
  have g_l_take := ok_l_take (P := P) (base := base) T
  have g_l_of := ok_l_of (P := P) (base := base) T
  refine Def.draws T.d_l_queue sc_l_queue (fun ds c R h => by obtain ⟨_, _, rfl, _⟩ := h; rfl) (fun f cdv A outer s H G l E ds c R hG hr h => ?_)
  obtain ⟨n, m, rfl, hn, hm, hc, q⟩ := h
  refine ⟨_, _, (dss_cons (ds_parT [3, 4, 5] rfl (pg_tup rfl (pgs_cons (pg_name (i := 3) sc_l_queue.nd rfl (.inl rfl)) (pgs_cons (pg_name (i := 4) sc_l_queue.nd rfl (.inr rfl)) (pgs_cons (pg_name (i := 5) sc_l_queue.nd rfl (.inl rfl)) pgs_nil)))) rfl (dx_cons (DE.dx (DO.d (do_listRg (by rfl) (by rfl) T.b_list (by rfl) T.b_range (de_v 1)))) (dx_cons (DO.dx (do_lst da_nil)) (dx_cons (DE.dx (de_cB 0 g_l_take hG (hr.mono (by omega)) (by rfl) (da_cons de_int da_nil))) dx_nil))))
      (dss_cons (ds_for PassesOwn.never (by rfl) (di_rng1 (by rfl) T.b_range (de_v 2)) (dg_name 6 sc_l_queue.nd)
        (dss_cons (ds_setLc 7 (own := [("_law_plot", 8)]) (by rfl) sc_l_queue.nd rfl rfl (sw_true rfl rfl rfl (by decide +kernel)) (di_seq rfl (de_v 3)) (blkOk_by (own := [("_law_plot", 8)]) (N := ["_law_box_here", "_law_count", "_law_size", "_law_left", "_law_found", "_law_near", "_law_spot", "_law_some", "_law_plot"]) (sc := defScope s_l_queue) (by decide +kernel)) (fun _ _ _ _ _ => (dg_name 8 sc_l_queue.nd (hf := Or.inr rfl))) (ts_one fun _ _ _ _ _ => (DW.q (dw_or (dt_cmp (o_in rfl (u65 hr)) (DE.p (de_bin o_sub (dp_v 8) (DE.p de_int))) (dp_v 4)) (dw_or1 (dt_cmp (o_in rfl (u65 hr)) (DE.p (de_bin o_add (dp_v 8) (DE.p de_int))) (dp_v 4)))))) (fun _ _ _ _ _ => (de_v 8)))
        (dss_cut (ds_set 7 sc_l_queue.nd (de_if (DW.q (dw_and (dt_cmp (o_eq rfl hr.units) (dp_v 5) (DE.p de_int)) (dw_and (dt_cmp (o_ne rfl hr.units) (dp_v 7) (DE.p (DO.d (do_lst da_nil)))) (dw_and1 (dt_cmp o_gt (DE.p (de_cB 0 g_l_take hG (hr.mono (by omega)) (by rfl) (da_cons de_int da_nil))) (DE.p de_int)))))) (de_v 7) (de_v 3)))
        (dss_cons (ds_app 4 rfl (de_cB 0 g_l_of hG (hr.mono (by omega)) (by rfl) (da_cons (de_v 7) da_nil)))
        (dss_one (ds_setLc 3 (own := [("_law_plot", 8)]) (by rfl) sc_l_queue.nd rfl rfl (sw_true rfl rfl rfl (by decide +kernel)) (di_seq rfl (de_v 3)) (blkOk_by (own := [("_law_plot", 8)]) (N := ["_law_box_here", "_law_count", "_law_size", "_law_left", "_law_found", "_law_near", "_law_spot", "_law_some", "_law_plot"]) (sc := defScope s_l_queue) (by decide +kernel)) (fun _ _ _ _ _ => (dg_name 8 sc_l_queue.nd (hf := Or.inr rfl))) (ts_one fun _ _ _ _ _ => (dt_cmp (o_ne rfl hr.units) (dp_v 8) (DE.p (de_ix rfl (dp_v 4) (DE.p (de_neg de_int)))))) (fun _ _ _ _ _ => (de_v 8))))))))
      (dss_one (ds_ret (de_tupleOf rfl (by rfl) T.b_tuple (dp_v 4)))))), ?_⟩
  refine ⟨_, rfl, n, rfl, by omega, by omega, Nat.zero_le _, rfl, 3, rfl, by decide, by decide, (show c < 1000000 by omega), fun near c1 _ _ hc1 => ⟨rfl, ?_⟩⟩
  refine ⟨.int m, rfl, m, rfl, by omega, by omega, for_by (fun i s2 => ∃ left row y6 y7 y8 c2, s2 = ⟨[some .box, some (.d (.int n)), some (.d (.int m)), some (.d (.list (left.map .int))), some (.own (row.map .int)), some (.d (.int near)), y6, y7, y8], c2⟩ ∧ QInv n i left row ∧ c2 ≤ c + 1 + 2 * i) ?_ (fun i d s2 J hi inv hJ => ?_) (fun s2 inv => ?_)⟩
  · have hc1' : c1 ≤ c + 1 := hc1
    refine ⟨_, [], none, none, none, c1, ?_, QInv.start n, by omega⟩
    rw [← iota_ints]
    rfl
  · obtain ⟨left, row, y6, y7, y8, c2, rfl, Qi, hc2⟩ := inv
    obtain ⟨him, rfl⟩ := iota_get hi
    rw [Int.sub_zero, Int.toNat_natCast] at him
    have hll : 1 ≤ left.length := by have := Qi.len; have := Qi.rl; omega
    have hll2 : left.length ≤ 100 := by have := Qi.len; omega
    refine ⟨_, rfl, rfl, lc_by (ds := left.map PyData.int) (nearF row) (show (left.map PyData.int).length ≤ 99999 by rw [List.length_map]; omega) (fun d hd acc J' hacc h1 h0 => ?_) ?_⟩
    · obtain ⟨x, hx, rfl⟩ := List.mem_map.mp hd
      refine ⟨_, _, rfl, rfl, x, 1, rfl, rfl, _, _, rfl, rfl, rfl, shp_int _, shp_ints _, _, rfl, ?_⟩
      show if (false ^^ inR row (x - 1)) = true then _ else _
      rw [Bool.false_xor]
      cases hb : inR row (x - 1) with
      | true =>
        refine iteT ⟨rfl, iteT ⟨_, rfl, rfl, hacc, h1 (.int x) ?_⟩⟩
        show (if (inR row (x - 1) || inR row (x + 1)) = true then some (PyData.int x) else none) = _
        rw [hb]
        rfl
      | false =>
        refine iteF ⟨_, _, rfl, rfl, x, 1, rfl, rfl, _, _, rfl, rfl, rfl, shp_int _, shp_ints _, _, rfl, ?_⟩
        show _ ∧ if (false ^^ inR row (x + 1)) = true then _ else _
        rw [Bool.false_xor]
        cases hb2 : inR row (x + 1) with
        | true =>
          refine ⟨rfl, iteT ⟨_, rfl, rfl, hacc, h1 (.int x) ?_⟩⟩
          show (if (inR row (x - 1) || inR row (x + 1)) = true then some (PyData.int x) else none) = _
          rw [hb, hb2]
          rfl
        | false =>
          refine ⟨rfl, iteF (h0 ?_)⟩
          show (if (inR row (x - 1) || inR row (x + 1)) = true then some (PyData.int x) else none) = _
          rw [hb, hb2]
          rfl
    · -- the houses that may come next
      have hsome : ∀ d ∈ (left.map PyData.int).filterMap (nearF row), ∃ x ∈ left, d = .int x := fun d hd => by
        obtain ⟨e, he, h⟩ := List.mem_filterMap.mp hd
        obtain ⟨x, hx, rfl⟩ := List.mem_map.mp he
        refine ⟨x, hx, ?_⟩
        have h : (if (inR row (x - 1) || inR row (x + 1)) = true then some (PyData.int x) else none) = some d := h
        split at h
        · cases h; rfl
        · cases h
      have hlen := List.length_filterMap_le (nearF row) (left.map PyData.int)
      have hshp : Shp (.list ((left.map PyData.int).filterMap (nearF row))) := by
        refine Bool.and_eq_true_iff.mpr ⟨?_, decide_eq_true ?_⟩
        · simp only [PyData.canLay0]
          refine canAll fun d hd => ?_
          obtain ⟨x, _, rfl⟩ := hsome d hd
          simp only [PyData.canLay0]
        · simp only [PyData.depth]
          have := depAll (n := 0) fun d hd => by
            obtain ⟨x, _, rfl⟩ := hsome d hd
            simp only [PyData.depth]
            exact Nat.le_refl _
          omega
      generalize (left.map PyData.int).filterMap (nearF row) = some1 at hsome hlen hshp ⊢
      rw [List.length_map] at hlen
      have hleft : ∀ d ∈ left.map PyData.int, ∃ x ∈ left, d = .int x := fun d hd => by
        obtain ⟨x, hx, rfl⟩ := List.mem_map.mp hd
        exact ⟨x, hx, rfl⟩
      have hleft1 : 1 ≤ (left.map PyData.int).length := by rw [List.length_map]; exact hll
      have hleft2 : (left.map PyData.int).length ≤ 1000 := by rw [List.length_map]; omega
      have hc3 : c2 < 999990 := by omega
      refine ⟨fun s2 => ∃ ds c3 y8', s2 = ⟨[some .box, some (.d (.int n)), some (.d (.int m)), some (.d (.list (left.map .int))), some (.own (row.map .int)), some (.d (.int near)), some (.d (.int (0 + i))), some (.d (.list ds)), y8'], c3⟩ ∧ (∀ d ∈ ds, ∃ x ∈ left, d = .int x) ∧ 1 ≤ ds.length ∧ ds.length ≤ 1000 ∧ c3 ≤ c2 + 1, ?_, fun s2 hP => ?_⟩
      · refine ⟨_, _, rfl, rfl, shp_int _, shp_int _, _, rfl, ite2 (fun e1 => ?_) (fun e1 => iteF ?_)⟩
        · refine ⟨_, _, rfl, rfl, Nat.zero_le _, hshp, rfl, _, rfl, ?_⟩
          rw [eqv_nilL]
          cases hemp : some1.isEmpty with
          | true =>
            refine iteF (iteF ?_)
            exact ⟨_, rfl, left.map .int, c2, _, rfl, hleft, hleft1, hleft2, by omega⟩
          | false =>
            have hs1 : 1 ≤ some1.length := by
              cases some1 with
              | nil => cases hemp
              | cons _ _ => simp
            refine iteT ⟨rfl, 4, rfl, by decide, by decide, (show c2 < 1000000 by omega), fun r c3 r0 r1 hc3' => ⟨r, 0, rfl, rfl, _, rfl, ite2 (fun e2 => ?_) (fun e2 => ?_)⟩⟩
            · exact ⟨_, rfl, some1, c3, _, rfl, hsome, hs1, by omega, hc3'⟩
            · exact ⟨_, rfl, left.map .int, c3, _, rfl, hleft, hleft1, hleft2, hc3'⟩
        · exact ⟨_, rfl, left.map .int, c2, _, rfl, hleft, hleft1, hleft2, by omega⟩
      · obtain ⟨ds, c3, y8', rfl, h1, h2, h3, h4⟩ := hP
        refine ⟨⟨_, rfl⟩, rfl, _, rfl, _, rfl, rfl, h2, h3, (show c3 < 1000000 by omega), fun d c4 hd hc4 => ?_⟩
        obtain ⟨x, hx, rfl⟩ := h1 d hd
        refine ⟨_, rfl, .int x, rfl, ?_, ?_⟩
        · have := Qi.len
          rw [List.length_map]
          omega
        refine ⟨_, rfl, rfl, lc_by (ds := left.map PyData.int) (notF x) (show (left.map PyData.int).length ≤ 99999 by omega) (fun d hd acc J' hacc h1 h0 => ?_) ?_⟩
        · obtain ⟨y, hy, rfl⟩ := List.mem_map.mp hd
          refine ⟨_, _, rfl, rfl, _, _, rfl, rfl, 1, rfl, -1, .int x, rfl, rfl, at_last _ _, shp_int _, shp_int _, _, rfl, ?_⟩
          rw [eqv_int]
          by_cases e : y = x
          · rw [decide_eq_true e]
            exact ⟨rfl, iteF (h0 (if_neg (fun z => z e)))⟩
          · rw [decide_eq_false e]
            exact ⟨rfl, iteT ⟨_, rfl, rfl, hacc, h1 (.int y) (if_pos e)⟩⟩
        · refine hJ _ ⟨left.filter (fun y => decide (y ≠ x)), row ++ [x], some (.d (.int (0 + i))), some (.d (.list ds)), y8', c4, ?_, Qi.step hx, ?_⟩
          · rw [notF_map]
            have e2 : (row ++ [x]).map PyData.int = row.map .int ++ [.int x] := by rw [List.map_append]; rfl
            rw [e2]
            rfl
          · have : c4 ≤ c3 + 1 := hc4
            have : ((i + 1 : Nat) : Int) = (i : Int) + 1 := by omega
            omega
  · obtain ⟨left, row, y6, y7, y8, c2, rfl, Qi, hc2⟩ := inv
    have hlen : (iotaD 0 (m : Int)).length = m := by rw [iota_len, Int.sub_zero, Int.toNat_natCast]
    rw [hlen] at Qi hc2
    exact ⟨_, _, rfl, rfl, rfl, q row c2 Qi.nr Qi.rl Qi.br hc2⟩
end
end Og61

namespace Og61
open PySem PySem.Spec PyProof.Rows L2 OgR Evl Dw OgM
def wstr : Wd → Str
  | .new => "new"
  | .beside => "beside"
  | .between => "between"
theorem sok_w (w : Wd) : PyData.strOk (wstr w) = true := by cases w <;> exact sok _
theorem shp_w (w : Wd) : Shp (.str (wstr w)) = True := eq_true (shp_z (sok_w w))
theorem wstr_inj {w v : Wd} : (wstr w = wstr v) = (w = v) := by
  refine propext ⟨fun h => ?_, fun h => by rw [h]⟩
  cases w <;> cases v <;> first | rfl | exact absurd h (by decide +kernel)
def chT (c : Ch) : PyData := .tuple [.str (wstr c.1), .int (c.2 : Nat)]
def picksT (row : List Int) : PyData := .tuple ((picks row).map chT)
theorem step_mem (w : Wd) : (wstr w, PyData.int w.step) ∈ ([("new", .int 1), ("beside", .int 0), ("between", .int (-1))] : List (Str × PyData)) := by
  cases w
  · exact .head _
  · exact .tail _ (.head _)
  · exact .tail _ (.tail _ (.head _))
/-! ### notes and books as data -/
def sortS : NV → Str
  | .g _ => "groups"
  | .h _ => "house"
def valD : NV → PyData
  | .g n => .int (n : Nat)
  | .h w => .str (wstr w)
def ntD (n : Nt) : PyData := .tuple [.int (n.t : Nat), .str (sortS n.v), valD n.v]
def ntL (n : Nt) : PyData := .list [.int (n.t : Nat), .str (sortS n.v), valD n.v]
def IsNts (d : PyData) (ns : List Nt) : Prop := d = .tuple (ns.map ntD) ∨ d = .list (ns.map ntL)
def IsBook (d : PyData) (p t : Nat) (ns : List Nt) : Prop := ∃ e, IsNts e ns ∧ (d = .tuple [.int (p : Nat), .int (t : Nat), e] ∨ d = .list [.int (p : Nat), .int (t : Nat), e])
theorem IsBook.sq {d : PyData} {p t : Nat} {ns : List Nt} (h : IsBook d p t ns) : ∃ e, IsNts e ns ∧ seqd d = true ∧ its d = [.int (p : Nat), .int (t : Nat), e] := by
  obtain ⟨e, he, rfl | rfl⟩ := h <;> exact ⟨e, he, rfl, rfl⟩
def keyN (n : Nt) : List Key := [.inl (n.t : Int), .inr (sortS n.v)]
def kvsOf (ns : List Nt) : KVs := ns.foldl (fun kvs n => putG kvs (keyN n) (valD n.v)) []
theorem lookG_put {κ : Type} [DecidableEq κ] (tbl : List (κ × PyData)) (k k' : κ) (d : PyData) : lookG (putG tbl k d) k' = if k = k' then some d else lookG tbl k' := by
  unfold lookG putG
  split
  · rename_i h
    induction tbl with
    | nil => simp at h
    | cons a l ih =>
      simp only [List.map_cons, List.find?_cons]
      by_cases ha : a.1 = k
      · rw [if_pos ha]
        by_cases hk : k = k'
        · simp [ha, hk]
        · have : ¬ a.1 = k' := fun z => hk (ha ▸ z)
          simp only [this, hk, decide_false, if_false]
          by_cases h2 : (l.any fun kd => decide (kd.1 = k)) = true
          · have := ih h2
            rw [if_neg hk] at this
            exact this
          · have e : l.map (fun kv => if kv.1 = k then (kv.1, d) else kv) = l := by
              conv => rhs; rw [← List.map_id l]
              refine List.map_congr_left fun x hx => ?_
              by_cases hx2 : x.1 = k
              · exact absurd (List.any_eq_true.mpr ⟨x, hx, decide_eq_true hx2⟩) h2
              · rw [if_neg hx2]; rfl
            rw [e]
      · rw [if_neg ha]
        have h2 : (l.any fun kd => decide (kd.1 = k)) = true := by
          rw [List.any_cons] at h
          simpa [ha] using h
        by_cases hk : a.1 = k'
        · have : ¬ k = k' := fun z => ha (hk.trans z.symm)
          simp [hk, this]
        · simp only [hk, decide_false]
          exact ih h2
  · rename_i h
    rw [List.find?_append]
    by_cases hk : k = k'
    · subst hk
      have : tbl.find? (fun kd => decide (kd.1 = k)) = none := by
        rw [List.find?_eq_none]
        intro x hx z
        exact h (List.any_eq_true.mpr ⟨x, hx, z⟩)
      rw [this]
      simp
    · rw [if_neg hk]
      cases q : tbl.find? (fun kd => decide (kd.1 = k')) with
      | some x => simp
      | none => simp [hk]
theorem kvs_look (ns : List Nt) : ∀ tbl : KVs, ∀ t : Nat, lookG (ns.foldl (fun kvs n => putG kvs (keyN n) (valD n.v)) tbl) [.inl (t : Int), .inr "groups"] = ((gAt ns t).map fun n => PyData.int (n : Nat)).or (lookG tbl [.inl (t : Int), .inr "groups"])
    ∧ lookG (ns.foldl (fun kvs n => putG kvs (keyN n) (valD n.v)) tbl) [.inl (t : Int), .inr "house"] = ((hAt ns t).map fun w => PyData.str (wstr w)).or (lookG tbl [.inl (t : Int), .inr "house"]) := by
  induction ns with
  | nil => intro tbl t; exact ⟨by simp [gAt], by simp [hAt]⟩
  | cons n ns ih =>
    intro tbl t
    have gh : ¬ (Str.ofString "house" = Str.ofString "groups") := by decide +kernel
    obtain ⟨a, b⟩ := ih (putG tbl (keyN n) (valD n.v)) t
    rw [List.foldl_cons, a, b, lookG_put, lookG_put]
    have g1 : gAt (n :: ns) t = (gAt ns t).or (if n.t = t then n.v.g? else none) := rfl
    have h1 : hAt (n :: ns) t = (hAt ns t).or (if n.t = t then n.v.h? else none) := rfl
    rw [g1, h1]
    obtain ⟨nt, nv⟩ := n
    have e1 : ∀ z : Str, ((keyN ⟨nt, nv⟩) = [.inl (t : Int), .inr z]) ↔ (nt = t ∧ sortS nv = z) := fun z => by
      unfold keyN
      simp only [List.cons.injEq, Sum.inl.injEq, Sum.inr.injEq, and_true]
      exact ⟨fun h => ⟨by have := h.1; omega, h.2⟩, fun h => ⟨by have := h.1; omega, h.2⟩⟩
    cases nv with
    | g x =>
      refine ⟨?_, ?_⟩
      · by_cases h : nt = t
        · rw [if_pos ((e1 "groups").mpr ⟨h, rfl⟩), if_pos h]
          cases gAt ns t <;> rfl
        · rw [if_neg fun z => h ((e1 "groups").mp z).1, if_neg h]
          cases gAt ns t <;> rfl
      · rw [if_neg fun z => gh ((e1 "house").mp z).2.symm]
        by_cases h : nt = t
        · rw [if_pos h]
          cases hAt ns t <;> rfl
        · rw [if_neg h]
          cases hAt ns t <;> rfl
    | h x =>
      refine ⟨?_, ?_⟩
      · rw [if_neg fun z => gh ((e1 "groups").mp z).2]
        by_cases h : nt = t
        · rw [if_pos h]
          cases gAt ns t <;> rfl
        · rw [if_neg h]
          cases gAt ns t <;> rfl
      · by_cases h : nt = t
        · rw [if_pos ((e1 "house").mpr ⟨h, rfl⟩), if_pos h]
          cases hAt ns t <;> rfl
        · rw [if_neg fun z => h ((e1 "house").mp z).1, if_neg h]
          cases hAt ns t <;> rfl
theorem look_g (ns : List Nt) (t : Nat) : lookG (kvsOf ns) [.inl (t : Int), .inr "groups"] = (gAt ns t).map fun n => PyData.int (n : Nat) := by
  have := (kvs_look ns [] t).1
  rw [show lookG ([] : KVs) [.inl (t : Int), .inr "groups"] = none from rfl, Option.or_none] at this
  exact this
theorem look_h (ns : List Nt) (t : Nat) : lookG (kvsOf ns) [.inl (t : Int), .inr "house"] = (hAt ns t).map fun w => PyData.str (wstr w) := by
  have := (kvs_look ns [] t).2
  rw [show lookG ([] : KVs) [.inl (t : Int), .inr "house"] = none from rfl, Option.or_none] at this
  exact this
end Og61

namespace Og61
open PySem PySem.Spec PyProof.Rows L2 OgR Evl Dw OgM
local macro_rules | `(tactic| walk_at "d") => `(tactic| first
  | refine ⟨_, rfl, ?_⟩ | refine ⟨_, _, rfl, rfl, ?_⟩ | refine iteT ?_ | refine iteF ?_ | refine ⟨_, _, rfl, rfl, rfl, ?_⟩ | refine ⟨rfl, ?_⟩)
def cntsD (row : List Int) (i : Nat) : List PyData := (List.range i).map fun j => .int ((segs (row.take (j + 1))).length : Nat)
def wrdsD (row : List Int) (i : Nat) : List PyData := (List.range i).map fun j => .str (wstr (pick (row.getD j 0) (segs (row.take j))).1)
section
variable {P : Program} {wd : World} {K : PySem.W.Frag} {mg : Str → Option Value} {base : Heap}
def f_seen : FP := fun ds R => ∃ row, ds = [rowT row] ∧ row.Nodup ∧ row.length ≤ 900 ∧ R (.tuple [.list (cntsD row row.length), .list (wrdsD row row.length)])
theorem ok_l_seen (T : Top wd K mg) : Def P wd K mg base 2 "_law_seen" s_l_seen ["_law_queue_here"] (spP K f_seen) := by
  have g_l_runs := ok_l_runs (P := P) (base := base) T
  refine Def.pure T.d_l_seen sc_l_seen (fun ds R h => by obtain ⟨_, rfl, _⟩ := h; rfl) (fun f cdv A outer s H G E ds R hG hr h => ?_)
  obtain ⟨row, rfl, hnd, hl, q⟩ := h
  refine ⟨_, _, (dss_cons (ds_par3 1 2 3 (by rfl) sc_l_seen.nd (dx_cons (DO.dx (do_lst da_nil)) (dx_cons (DO.dx (do_lst da_nil)) (dx_cons (DE.dx de_int) dx_nil))))
      (dss_cons (ds_for PassesOwn.never (by rfl) (di_rng1 (by rfl) T.b_range (de_len rfl (by rfl) T.b_len (dp_v 0))) (dg_name 4 sc_l_seen.nd)
        (dss_cons (ds_app 1 rfl (de_len rfl (by rfl) T.b_len (DE.p (de_c g_l_runs hG (hr.mono (by omega)) (by rfl) (da_cons (de_slT rfl (dp_v 0) do_none (do_some (de_bin o_add (dp_v 4) (DE.p de_int)))) da_nil)))))
        (dss_cons (ds_app 2 rfl (de_dix [(.inl (1), .str "new"), (.inl (0), .str "beside"), (.inl (-1), .str "between")] (hu_of hr) (pe_disp (pps_cons pe_int pe_str (pps_cons pe_int pe_str (pps_cons (pe_un un_neg pe_int) pe_str pps_nil))) (by rfl) (by rfl) (fun z => by cases z) (by decide)) (fun _ _ _ q => ⟨_, rfl, q⟩) (de_bin o_sub (DE.p (de_ix rfl (dp_v 1) (DE.p (de_neg de_int)))) (dp_v 3))))
        (dss_one (ds_set 3 sc_l_seen.nd (de_ix rfl (dp_v 1) (DE.p (de_neg de_int))))))))
      (dss_one (ds_ret (de_tup (da_cons (de_pub 1) (da_cons (de_pub 2) da_nil))))))), ?_⟩
  refine ⟨Nat.zero_le _, Nat.zero_le _, rfl, ?_⟩
  have hlen : (its (rowT row)).length = row.length := by show (row.map PyData.int).length = _; rw [List.length_map]
  refine ⟨_, _, rfl, rfl, row.length, by show some (row.map PyData.int).length = _; rw [List.length_map], _, rfl, by omega, by omega, for_by (fun i s2 => ∃ y4, s2 = ⟨[some (.d (rowT row)), some (.own (cntsD row i)), some (.own (wrdsD row i)), some (.d (.int ((segs (row.take i)).length : Nat))), y4], 0⟩) ⟨none, rfl⟩ (fun i d s2 J hi inv hJ => ?_) (fun s2 inv => ?_)⟩
  · obtain ⟨y4, rfl⟩ := inv
    obtain ⟨hi2, rfl⟩ := iota_get hi
    have hi2 : i < row.length := by
      have : i < ((row.length : Int) - 0).toNat := hi2
      omega
    have e3 : row[i]? = some row[i] := List.getElem?_eq_getElem hi2
    have e2 : Dw.cutD (row.map PyData.int) none (some ((0 : Int) + (i : Int) + 1)) = (row.take (i + 1)).map .int := by
      unfold Dw.cutD
      rw [show (0 : Int) + (i : Int) + 1 = ((i + 1 : Nat) : Int) by omega, HT.sIx_none, HT.sIx_nat, List.drop_zero, Nat.sub_zero, List.length_map, Nat.min_eq_left (by omega), List.map_take]
    have ec : cntsD row (i + 1) = cntsD row i ++ [.int ((segs (row.take (i + 1))).length : Nat)] := by
      unfold cntsD
      rw [List.range_succ, List.map_append]
      rfl
    have ew : wrdsD row (i + 1) = wrdsD row i ++ [.str (wstr (pick row[i] (segs (row.take i))).1)] := by
      unfold wrdsD
      rw [List.range_succ, List.map_append]
      have e5 : row.getD i 0 = row[i] := by rw [List.getD_eq_getElem?_getD, e3]; rfl
      simp only [List.map_cons, List.map_nil, e5]
    have hni := hnd.sublist (List.take_sublist (i + 1) row)
    rw [take_snoc e3, List.nodup_append] at hni
    have hp : row[i] ∉ row.take i := fun h => hni.2.2 _ h _ (by simp) rfl
    obtain ⟨lo, hlo⟩ := lower (row.take i)
    obtain ⟨hok, hmem⟩ := segs_ok hni.1 hlo
    have sy := (says hok (fun m => hp ((hmem _).mp m))).len
    have es : segs (row.take (i + 1)) = add row[i] (segs (row.take i)) := by rw [take_snoc e3, segs_snoc]
    rw [← es] at sy
    rw [ec, ew] at hJ
    have hrl : (cntsD row i).length = i := by unfold cntsD; rw [List.length_map, List.length_range]
    have hwl : (wrdsD row i).length = i := by unfold wrdsD; rw [List.length_map, List.length_range]
    refine ⟨⟨_, rfl⟩, _, _, rfl, rfl, _, _, rfl, rfl, _, 1, rfl, rfl, _, rfl, row.map .int, rfl, ?_⟩
    rw [e2]
    refine ⟨_, row.take (i + 1), rfl, rfl, rfl, hnd.sublist (List.take_sublist _ _), by rw [List.length_take]; omega, (segs (row.take (i + 1))).length, by show some (runsD (segs (row.take (i + 1)))).length = _; unfold runsD; rw [List.length_map], _, rfl, _, rfl, (show (cntsD row i).length < 100000 by omega), ?_⟩
    generalize pick row[i] (segs (row.take i)) = ch at sy hJ
    have hlook : lookD [(.inl 1, .str "new"), (.inl 0, .str "beside"), (.inl (-1), .str "between")] (.inl ((((segs (row.take (i + 1))).length : Nat) : Int) - ((segs (row.take i)).length : Nat))) = some (.str (wstr ch.1)) := by
      have : (((segs (row.take (i + 1))).length : Nat) : Int) - ((segs (row.take i)).length : Nat) = ch.1.step := by omega
      rw [this]
      cases ch.1 <;> rfl
    refine ⟨⟨_, rfl⟩, _, _, rfl, rfl, 1, rfl, -1, _, rfl, rfl, at_last _ _, _, _, rfl, rfl, _, _, rfl, rfl, _, _, rfl, hlook, _, rfl, _, rfl, (show (wrdsD row i).length < 100000 by omega), ?_⟩
    exact ⟨_, _, rfl, rfl, 1, rfl, -1, _, rfl, rfl, at_last _ _, hJ _ ⟨_, rfl⟩⟩
  · obtain ⟨y4, rfl⟩ := inv
    have e1 : (iotaD 0 ((row.length : Nat) : Int)).length = row.length := by
      unfold iotaD
      rw [List.length_map, List.length_range]
      omega
    rw [e1]
    exact ⟨_, rfl, _, rfl, (show 2 ≤ 100000 by decide), q⟩
end
end Og61

namespace Og61
open PySem PySem.Spec PyProof.Rows L2 OgR Evl Dw OgM
local macro_rules | `(tactic| walk_at "s") => `(tactic| simp only [wPubO, wC, wV, wPub, wP, wCons, wTup, wLst, wL, w2, wTest, wChain, wAnd, wOr, Dw.wNot, wAndV, wOrV, wNotV, wIf, Dw.wTru, truD, gI0, gI, gEq, gNe, gIn, gIsN, gNotN, gIsB, gNotB, gCatT, gCatS, gIx, wCat, wRep, w1, w1O, gLen, gTupleOf, gListOf, wRg1, gInt, gStr, w2a, wSlT, wSlL, wSlS, wRevT, wNeg, wCall, wCallB, wName, wGNil_n, wGCons_c, wGTup, wSeq, wRng1, wEnum, wZip, wNext, wSq, wRet, wIfS, wDrop, wAsg, wOwn, wAug, wMeth, fAppend, wFor_eq, wWhile_eq, wipeD, wLc_eq, Dw.wNm, wPar, wGix, wDix, wCatP, wPopTo, fPop, fPopAt, fIns, wSetIx, gRepr, gMinT, gNeS, gRepN, wDGet2, wDPut, wTPut, wTGet, gSrtR, gLtP, wSlB, wStar, wRaise, wNmX, wXat, wXis, gEqS, wYd, wYdic, wYfn, wYg, wCallD, wCallV, wSetN, wDcT, wTGet2, wTGet1, dicAt, wRng2, wRngD, wRevR, gRevL, wAugIx, look_d, look_own, shpI, shpB, shpN, shpS, seqT, seqL, itsT, itsL, lenT, lenL, okFF, eqv_str, eqv_int, eqv_bool, isNone, perm, Dt.set, Dt.sets, env0, List.map_cons, List.map_nil, List.cons_append, List.nil_append, List.getElem?_cons_zero, List.getElem?_cons_succ, List.set_cons_succ, List.set_cons_zero, List.filterMap_cons, List.filterMap_nil, Option.some.injEq, DV.d.injEq, DV.own.injEq, DV.dit.injEq, DV.dd.injEq, DV.oth.injEq, reduceCtorEq, false_or, or_false, false_and, and_false, exists_false, PyData.int.injEq, PyData.bool.injEq, PyData.str.injEq, PyData.tuple.injEq, PyData.list.injEq, List.cons.injEq, exists_eq_left, exists_eq_left', exists_eq_right, exists_eq_right', exists_and_left, exists_eq', exists_eq, and_true, true_and, and_self, and_assoc, List.length_cons, List.length_nil, List.replicate, Nat.reduceAdd, Nat.reduceSub, Nat.reduceLeDiff, Nat.zero_le, decide_eq_true_eq, Bool.not_eq_true', decide_eq_false_iff_not, ite_true, ite_false, if_true, if_false, Bool.false_eq_true, Bool.true_eq_false, eq_self, List.reduceReplicate, Bool.not_true, Bool.not_false, reduceIte])
section
variable {P : Program} {wd : World} {K : PySem.W.Frag} {mg : Str → Option Value} {base : Heap}
theorem w_new : ("new" : Str) = wstr .new := rfl
theorem w_bes : ("beside" : Str) = wstr .beside := rfl
def f_many_choices : FP := fun ds R => ∃ (w : Wd) (m : Nat), ds = [.str (wstr w), .int (m : Nat)] ∧ R (.int (waysN w m : Nat))
theorem ok_many_choices (T : Top wd K mg) : Def P wd K mg base 1 "many_choices" s_many_choices ["word", "many"] (spP K f_many_choices) := by
  refine Def.pure T.d_many_choices sc_many_choices (fun ds R h => by obtain ⟨_, _, rfl, _⟩ := h; rfl) (fun f cdv A outer s H G E ds R hG hr h => ?_)
  obtain ⟨w, m, rfl, q⟩ := h
  refine ⟨_, _, (dss_cons (ds_if (dt_cmp (o_eq rfl hr.units) (dp_v 0) (DE.p de_str)) (dss_one (ds_ret (de_bin o_add (dp_v 1) (DE.p de_int)))) dss_nil)
      (dss_cons (ds_if (dt_cmp (o_eq rfl hr.units) (dp_v 0) (DE.p de_str)) (dss_one (ds_ret (de_bin o_mul (DE.p de_int) (dp_v 1)))) dss_nil)
      (dss_one (ds_ret (de_max2 (by rfl) (by rfl) T.b_max (de_bin o_sub (dp_v 1) (DE.p de_int)) de_int))))), ?_⟩
  walk_at "s"
  simp only [w_new, w_bes, wstr_inj, shp_w, true_and]
  cases w
  · exact (if_pos rfl).mpr q
  · exact (if_neg (by decide)).mpr ((if_pos rfl).mpr ⟨.inl ⟨by decide, by decide⟩, q⟩)
  · refine (if_neg (by decide)).mpr ((if_neg (by decide)).mpr ?_)
    have e : (if (0 : Int) > (m : Int) - 1 then (0 : Int) else (m : Int) - 1) = ((m - 1 : Nat) : Int) := by split <;> omega
    rw [e]
    exact q
def f_ways_to_choose : FP := fun ds R => ∃ m n : Nat, ds = [.int (m : Nat), .int (n : Nat)] ∧ m ≤ 1000000 ∧ n < 2 ^ 63 ∧ R (.int (cho n m : Nat))
theorem ok_ways_to_choose (T : Top wd K mg) : Def P wd K mg base 1 "ways_to_choose" s_ways_to_choose ["many", "things"] (spP K f_ways_to_choose) := by
  refine Def.pure T.d_ways_to_choose sc_ways_to_choose (fun ds R h => by obtain ⟨_, _, rfl, _⟩ := h; rfl) (fun f cdv A outer s H G E ds R hG hr h => ?_)
  obtain ⟨m, n, rfl, hm, hn, q⟩ := h
  refine ⟨_, _, (dss_cons (ds_set 2 sc_ways_to_choose.nd de_int)
      (dss_cons (ds_for PassesOwn.never (by rfl) (di_rng1 (by rfl) T.b_range (de_v 0)) (dg_name 3 sc_ways_to_choose.nd)
        (dss_one (ds_set 2 sc_ways_to_choose.nd (de_bin o_fdiv (DE.p (de_bin o_mul (dp_v 2) (DE.p (de_bin o_sub (dp_v 1) (dp_v 3))))) (DE.p (de_bin o_add (dp_v 3) (DE.p de_int)))))))
      (dss_one (ds_ret (de_v 2))))), ?_⟩
  walk_at "s"
  refine ⟨by omega, by omega, forD_by (fun i s2 => ∃ y3, s2 = ⟨[some (.d (.int (m : Nat))), some (.d (.int (n : Nat))), some (.d (.int (cho n i : Nat))), y3], 0⟩) ⟨none, by rw [choose_0]; rfl⟩ (fun i d s2 J e inv hJ => ?_) (fun s2 inv => ?_)⟩
  · obtain ⟨y3, rfl⟩ := inv
    obtain ⟨hi, rfl⟩ := iota_get e
    walk_at "s"
    refine ⟨.inr ⟨by omega, by omega⟩, ⟨by omega, by omega⟩, hJ _ ⟨some (.d (.int (0 + (i : Int)))), ?_⟩⟩
    rw [Int.zero_add, choose_int]
  · obtain ⟨y3, rfl⟩ := inv
    walk_at "s"
    rw [iota_len, show ((m : Int) - 0).toNat = m by omega]
    exact q
/-! ### notes by their times and sorts -/
def f_noted : FN := fun xs R => ∃ d ns, xs = [.d d] ∧ IsNts d ns ∧ ns.length ≤ 10000 ∧ R (kvsOf ns)
theorem kvs_len : ∀ ns : List Nt, ∀ tbl : KVs, (ns.foldl (fun kvs n => putG kvs (keyN n) (valD n.v)) tbl).length ≤ tbl.length + ns.length
  | [], tbl => Nat.le_refl _
  | n :: ns, tbl => by
    rw [List.foldl_cons]
    have h1 := kvs_len ns (putG tbl (keyN n) (valD n.v))
    have h2 : (putG tbl (keyN n) (valD n.v)).length ≤ tbl.length + 1 := by
      unfold putG
      split
      · rw [List.length_map]; omega
      · rw [List.length_append]; exact Nat.le_refl _
    rw [List.length_cons]
    omega
theorem kvsOf_len (ns : List Nt) : (kvsOf ns).length ≤ ns.length := by
  have h := kvs_len ns []
  rw [List.length_nil, Nat.zero_add] at h
  exact h
theorem foldl_snoc {α β : Type} (f : α → β → α) (a : α) (l : List β) (b : β) : (l ++ [b]).foldl f a = f (l.foldl f a) b := by rw [List.foldl_append]; rfl
theorem ok_noted_values (T : Top wd K mg) : Def P wd K mg base 1 "noted_values" s_noted_values ["notes"] (spN K f_noted) := by
  refine Def.newD T.d_noted_values sc_noted_values rfl (fun xs R h => by obtain ⟨_, _, rfl, _⟩ := h; rfl) (fun f cdv A outer s H G E xs R hG hr h => ?_)
  obtain ⟨d, ns, rfl, hd, hl, q⟩ := h
  refine ⟨_, _, (dn_dc (own := [("time", 1), ("sort", 2), ("value", 3)]) (by rfl) sc_noted_values.nd (hu_of1 hr) (di_seq rfl (de_v 0)) (blkOk_by (own := [("time", 1), ("sort", 2), ("value", 3)]) (N := ["notes", "time", "sort", "value"]) (sc := defScope s_noted_values) (by decide +kernel)) (fun _ _ _ _ _ => (dg_tup (n := 3) rfl (by rfl) (dgs_c (dg_name 1 sc_noted_values.nd (hf := Or.inr rfl)) (dgs_c (dg_name 2 sc_noted_values.nd (hf := Or.inr rfl)) (dgs_c (dg_name 3 sc_noted_values.nd (hf := Or.inr rfl)) dgs_nil))))) (fun _ _ _ _ _ => (da_cons (de_v 1) (da_cons (de_v 2) da_nil))) (fun _ _ _ _ _ => (de_v 3))), ?_⟩
  have hs : seqd d = true ∧ (its d).length = ns.length ∧ ∀ (i : Nat) e, (its d)[i]? = some e → ∃ n, ns[i]? = some n ∧ (e = ntD n ∨ e = ntL n) := by
    rcases hd with rfl | rfl
    · refine ⟨rfl, List.length_map .., fun i e he => ?_⟩
      have he : (ns.map ntD)[i]? = some e := he
      rw [List.getElem?_map] at he
      obtain ⟨n, h1, rfl⟩ := Option.map_eq_some_iff.mp he
      exact ⟨n, h1, .inl rfl⟩
    · refine ⟨rfl, List.length_map .., fun i e he => ?_⟩
      have he : (ns.map ntL)[i]? = some e := he
      rw [List.getElem?_map] at he
      obtain ⟨n, h1, rfl⟩ := Option.map_eq_some_iff.mp he
      exact ⟨n, h1, .inr rfl⟩
  walk_at "s"
  refine ⟨hs.1, fun i kvs c => kvs = kvsOf (ns.take i), rfl, fun i e kvs c he inv => ?_, fun kvs c inv => ?_⟩
  · obtain ⟨n, hn, hen⟩ := hs.2.2 i e he
    subst inv
    have hin := (List.getElem?_eq_some_iff.mp hn).1
    have e1 : kvsOf (ns.take (i + 1)) = putG (kvsOf (ns.take i)) (keyN n) (valD n.v) := by
      unfold kvsOf
      rw [List.take_add_one, hn]
      exact foldl_snoc ..
    have e2 : (kvsOf (ns.take i)).length < 100000 := by
      have := kvsOf_len (ns.take i)
      rw [List.length_take] at this
      omega
    rcases hen with rfl | rfl
    · unfold ntD
      walk_at "s"
      exact ⟨keyN n, rfl, e2, e1.symm⟩
    · unfold ntL
      walk_at "s"
      exact ⟨keyN n, rfl, e2, e1.symm⟩
  · subst inv
    rw [hs.2.1, List.take_length]
    exact q
/-! ### the words that a house can have -/
def f_iwt : FD := fun xs R => ∃ ns t m w, xs = [.dd (kvsOf ns), .d (.int (t : Nat)), .d (.int (m : Nat)), .d (.str (wstr w))] ∧ R (.bool (wOk ns t m w))
theorem ok_is_word_then (T : Top wd K mg) : Def P wd K mg base 2 "is_word_then" s_is_word_then ["noted", "time", "many", "word"] (spD K f_iwt) := by
  have g_many_choices := ok_many_choices (P := P) (base := base) T
  refine Def.byD T.d_is_word_then sc_is_word_then (fun xs R h => by obtain ⟨_, _, _, _, rfl, _⟩ := h; rfl) (fun f cdv A outer s H G E xs R hG hr h => ?_)
  obtain ⟨ns, t, m, w, rfl, q⟩ := h
  refine ⟨_, _, (dss_cons (ds_set 4 sc_is_word_then.nd (de_bin o_add (dp_v 2) (DE.p (de_gix T.c_STEPS rfl (by rfl) (de_v 3)))))
      (dss_cons (ds_if (dt_cmp (o_eq rfl hr.units) (DE.p (de_c g_many_choices hG (hr.mono (by omega)) (by rfl) (da_cons (de_v 3) (da_cons (de_v 2) da_nil)))) (DE.p de_int)) (dss_one (ds_ret de_bl)) dss_nil)
      (dss_one (ds_ret (de_and (de_cmp (o_eq rfl hr.units) (DE.p (de_tget2 0 (hu_of hr) (da_cons (de_v 1) (da_cons de_str da_nil)) (de_v 3))) (dp_v 3)) (de_one (de_cmp (o_eq rfl hr.units) (DE.p (de_tget2 0 (hu_of hr) (da_cons (de_v 1) (da_cons de_str da_nil)) (de_v 4))) (dp_v 4)))))))), ?_⟩
  walk_at "s"
  have k1 : keysD [.int (t : Nat), .str "house"] = some [.inl (t : Int), .inr "house"] := rfl
  have k2 : keysD [.int (t : Nat), .str "groups"] = some [.inl (t : Int), .inr "groups"] := rfl
  refine ⟨_, step_mem w, _, rfl, w, m, rfl, ?_⟩
  walk_at "s"
  unfold wOk at q
  by_cases h0 : waysN w m = 0
  · rw [if_pos (by omega)]
    rw [h0] at q
    exact q
  rw [if_neg (by omega)]
  rw [decide_eq_true h0, Bool.true_and] at q
  refine ⟨_, k1, ?_⟩
  rw [look_h]
  have e1 : ((hAt ns t).map fun w => PyData.str (wstr w)).getD (.str (wstr w)) = .str (wstr ((hAt ns t).getD w)) := by cases hAt ns t <;> rfl
  rw [e1]
  simp only [shp_w, true_and, eqv_str, wstr_inj, decide_eq_true_eq]
  by_cases h1 : (hAt ns t).getD w = w
  case neg =>
    rw [if_neg h1]
    rw [show ((hAt ns t).getD w == w) = false from beq_eq_false_iff_ne.mpr h1] at q
    exact q
  rw [if_pos h1]
  rw [show ((hAt ns t).getD w == w) = true from beq_iff_eq.mpr h1, Bool.true_and] at q
  refine ⟨_, k2, ?_⟩
  rw [look_g, ← nextM_step h0]
  have e2 : ((gAt ns t).map fun n => PyData.int (n : Nat)).getD (.int (nextM m w : Nat)) = .int (((gAt ns t).getD (nextM m w) : Nat) : Int) := by cases gAt ns t <;> rfl
  rw [e2]
  walk_at "s"
  have e3 : decide ((((gAt ns t).getD (nextM m w) : Nat) : Int) = (nextM m w : Nat)) = ((gAt ns t).getD (nextM m w) == nextM m w) := by
    by_cases h : (gAt ns t).getD (nextM m w) = nextM m w
    · rw [h, decide_eq_true rfl, beq_self_eq_true]
    · rw [decide_eq_false (by omega), beq_eq_false_iff_ne.mpr h]
  rw [e3]
  exact q
end
end Og61

namespace Og61
open PySem PySem.Spec PyProof.Rows L2 OgR Evl Dw OgM
local macro_rules | `(tactic| walk_at "s") => `(tactic| simp only [wPubO, wC, wV, wPub, wP, wCons, wTup, wLst, wL, w2, wTest, wChain, wAnd, wOr, Dw.wNot, wAndV, wOrV, wNotV, wIf, Dw.wTru, truD, gI0, gI, gEq, gNe, gIn, gIsN, gNotN, gIsB, gNotB, gCatT, gCatS, gIx, wCat, wRep, w1, w1O, gLen, gTupleOf, gListOf, wRg1, gInt, gStr, w2a, wSlT, wSlL, wSlS, wRevT, wNeg, wCall, wCallB, wName, wGNil_n, wGCons_c, wGTup, wSeq, wRng1, wEnum, wZip, wNext, wSq, wRet, wIfS, wDrop, wAsg, wOwn, wAug, wMeth, fAppend, wFor_eq, wWhile_eq, wipeD, wLc_eq, Dw.wNm, wPar, wGix, wDix, wCatP, wPopTo, fPop, fPopAt, fIns, wSetIx, gRepr, gMinT, gNeS, gRepN, wDGet2, wDPut, wTPut, wTGet, gSrtR, gLtP, wSlB, wStar, wRaise, wNmX, wXat, wXis, gEqS, wYd, wYdic, wYfn, wYg, wCallD, wCallV, wSetN, wDcT, wTGet2, wTGet1, dicAt, wRng2, wRngD, wRevR, gRevL, wAugIx, look_d, look_own, shpI, shpB, shpN, shpS, seqT, seqL, itsT, itsL, lenT, lenL, okFF, eqv_str, eqv_int, eqv_bool, isNone, perm, Dt.set, Dt.sets, env0, List.map_cons, List.map_nil, List.cons_append, List.nil_append, List.getElem?_cons_zero, List.getElem?_cons_succ, List.set_cons_succ, List.set_cons_zero, List.filterMap_cons, List.filterMap_nil, Option.some.injEq, DV.d.injEq, DV.own.injEq, DV.dit.injEq, DV.dd.injEq, DV.oth.injEq, reduceCtorEq, false_or, or_false, false_and, and_false, exists_false, PyData.int.injEq, PyData.bool.injEq, PyData.str.injEq, PyData.tuple.injEq, PyData.list.injEq, List.cons.injEq, exists_eq_left, exists_eq_left', exists_eq_right, exists_eq_right', exists_and_left, exists_eq', exists_eq, and_true, true_and, and_self, and_assoc, List.length_cons, List.length_nil, List.replicate, Nat.reduceAdd, Nat.reduceSub, Nat.reduceLeDiff, Nat.zero_le, decide_eq_true_eq, Bool.not_eq_true', decide_eq_false_iff_not, ite_true, ite_false, if_true, if_false, Bool.false_eq_true, Bool.true_eq_false, eq_self, List.reduceReplicate, Bool.not_true, Bool.not_false, reduceIte])
section
variable {P : Program} {wd : World} {K : PySem.W.Frag} {mg : Str → Option Value} {base : Heap}
def wdsT (ws : List Wd) : List PyData := ws.map fun w => .str (wstr w)
def f_words : FD := fun xs R => ∃ ns t m, xs = [.dd (kvsOf ns), .d (.int (t : Nat)), .d (.int (m : Nat))] ∧ R (.list (wdsT (wordsAt ns t m)))
theorem ok_words_then (T : Top wd K mg) : Def P wd K mg base 3 "words_then" s_words_then ["noted", "time", "many"] (spD K f_words) := by
  have g_is_word_then := ok_is_word_then (P := P) (base := base) T
  refine Def.byD T.d_words_then sc_words_then (fun xs R h => by obtain ⟨_, _, _, rfl, _⟩ := h; rfl) (fun f cdv A outer s H G E xs R hG hr h => ?_)
  obtain ⟨ns, t, m, rfl, q⟩ := h
  refine ⟨_, _, (dss_one (ds_ret (DO.d (do_lc (own := [("word", 3)]) (by rfl) sc_words_then.nd (di_seq rfl (de_gc T.c_ASCENDING_WORDS (by rfl))) (blkOk_by (own := [("word", 3)]) (N := ["noted", "time", "many", "word"]) (sc := defScope s_words_then) (by decide +kernel)) (fun _ _ _ _ _ => (dg_name 3 sc_words_then.nd (hf := Or.inr rfl))) (ts_one fun _ _ _ _ _ => (dt_val (de_cD g_is_word_then hG (hr.mono (by omega)) (by rfl) (dy_dic 0 (dy_d (de_v 1) (dy_d (de_v 2) (dy_d (de_v 3) dy_nil))))))) (fun _ _ _ _ _ => (de_v 3)))))), ?_⟩
  walk_at "s"
  refine lcD_enc asc (fun w => .str (wstr w)) (fun w => if wOk ns t m w = true then some (.str (wstr w)) else none) (by decide) (fun w hw acc J hacc h1 h0 => ?_) ?_
  · walk_at "s"
    refine ⟨ns, t, m, w, rfl, _, rfl, ?_⟩
    cases hq : wOk ns t m w with
    | true => exact iteT ⟨hacc, h1 _ (by rw [hq]; rfl)⟩
    | false => exact iteF (h0 (by rw [hq]; rfl))
  · have e : asc.filterMap (fun w => if wOk ns t m w = true then some (PyData.str (wstr w)) else none) = wdsT (wordsAt ns t m) := by
      unfold wdsT wordsAt
      generalize asc = l
      induction l with
      | nil => rfl
      | cons w l ih =>
        rw [List.filterMap_cons, List.filter_cons, ih]
        cases wOk ns t m w <;> rfl
    rw [e]
    exact q
def blkT (b : Wd × Nat × Nat) : PyData := .tuple [.str (wstr b.1), .int (b.2.1 : Nat), .int (b.2.2 : Nat)]
def f_blocks : FD := fun xs R => ∃ ns t m f l, xs = [.dd (kvsOf ns), .d (.list ((List.range l).map fun i => .int (f i : Nat))), .d (.int (t : Nat)), .d (.int (m : Nat))] ∧ m + 1 < l ∧ R (.list ((blocksAt ns f t m).map blkT))
theorem ok_blocks_then (T : Top wd K mg) : Def P wd K mg base 4 "blocks_then" s_blocks_then ["noted", "ways", "time", "many"] (spD K f_blocks) := by
  have g_words_then := ok_words_then (P := P) (base := base) T
  have g_many_choices := ok_many_choices (P := P) (base := base) T
  refine Def.byD T.d_blocks_then sc_blocks_then (fun xs R h => by obtain ⟨_, _, _, _, _, rfl, _⟩ := h; rfl) (fun f cdv A outer s H G E xs R hG hr h => ?_)
  obtain ⟨ns, t, m, fn, l, rfl, hl, q⟩ := h
  refine ⟨_, _, (dss_cons (ds_set 4 sc_blocks_then.nd (de_cD g_words_then hG (hr.mono (by omega)) (by rfl) (dy_dic 0 (dy_d (de_v 2) (dy_d (de_v 3) dy_nil)))))
      (dss_one (ds_ret (DO.d (do_lc (own := [("word", 5)]) (by rfl) sc_blocks_then.nd (di_seq rfl (de_v 4)) (blkOk_by (own := [("word", 5)]) (N := ["noted", "ways", "time", "many", "words", "word"]) (sc := defScope s_blocks_then) (by decide +kernel)) (fun _ _ _ _ _ => (dg_name 5 sc_blocks_then.nd (hf := Or.inr rfl))) ts_no (fun _ _ _ _ _ => (de_tup (da_cons (de_v 5) (da_cons (de_c g_many_choices hG (hr.mono (by omega)) (by rfl) (da_cons (de_v 5) (da_cons (de_v 3) da_nil))) (da_cons (de_ix rfl (dp_v 1) (DE.p (de_bin o_add (dp_v 3) (DE.p (de_gix T.c_STEPS rfl (by rfl) (de_v 5)))))) da_nil)))))))))), ?_⟩
  walk_at "s"
  refine ⟨ns, t, m, rfl, rfl, lcD_encM (wordsAt ns t m) (fun w => .str (wstr w)) (fun w => blkT (w, waysN w m, fn (nextM m w))) (Nat.le_trans (List.length_filter_le _ _) (by decide)) (fun w hw acc J hacc hJ => ?_) ?_⟩
  · have h0 : waysN w m ≠ 0 := by
      have := (List.mem_filter.mp hw).2
      unfold wOk at this
      simp only [Bool.and_eq_true, decide_eq_true_eq] at this
      exact this.1
    have hn : nextM m w < l := by
      cases w
      · exact hl
      · show m < l; omega
      · show m - 1 < l; omega
    walk_at "s"
    refine ⟨w, m, rfl, _, step_mem w, _, rfl, _, ?_, hacc, hJ⟩
    rw [← nextM_step h0, at_nat (by rw [List.length_map, List.length_range]; exact hn), List.getElem?_map, List.getElem?_eq_getElem (by rw [List.length_range]; exact hn), List.getElem_range]
    rfl
  · unfold blocksAt at q
    rw [List.map_map] at q
    exact q
def f_fold (φ : List Nat → Nat) : FP := fun ds R => ∃ ns : List Nat, ds = [.list (ns.map fun n => .int (n : Nat))] ∧ ns.length ≤ 10000 ∧ R (.int (φ ns : Nat))
theorem ok_in_all (T : Top wd K mg) : Def P wd K mg base 1 "in_all" s_in_all ["parts"] (spP K (f_fold List.sum)) := by
  refine Def.pure T.d_in_all sc_in_all (fun ds R h => by obtain ⟨_, rfl, _⟩ := h; rfl) (fun f cdv A outer s H G E ds R hG hr h => ?_)
  obtain ⟨ns, rfl, hl, q⟩ := h
  refine ⟨_, _, (dss_one (ds_ret (de_sum rfl (by rfl) (by rfl) T.b_sum (dp_v 0)))), ?_⟩
  walk_at "s"
  exact gSum_nat q
end
end Og61

namespace Og61
open PySem PySem.Spec PyProof.Rows L2 OgR Evl Dw OgM
local macro_rules | `(tactic| walk_at "s") => `(tactic| simp only [wPubO, wC, wV, wPub, wP, wCons, wTup, wLst, wL, w2, wTest, wChain, wAnd, wOr, Dw.wNot, wAndV, wOrV, wNotV, wIf, Dw.wTru, truD, gI0, gI, gEq, gNe, gIn, gIsN, gNotN, gIsB, gNotB, gCatT, gCatS, gIx, wCat, wRep, w1, w1O, gLen, gTupleOf, gListOf, wRg1, gInt, gStr, w2a, wSlT, wSlL, wSlS, wRevT, wNeg, wCall, wCallB, wName, wGNil_n, wGCons_c, wGTup, wSeq, wRng1, wEnum, wZip, wNext, wSq, wRet, wIfS, wDrop, wAsg, wOwn, wAug, wMeth, fAppend, wFor_eq, wWhile_eq, wipeD, wLc_eq, Dw.wNm, wPar, wGix, wDix, wCatP, wPopTo, fPop, fPopAt, fIns, wSetIx, gRepr, gMinT, gNeS, gRepN, wDGet2, wDPut, wTPut, wTGet, gSrtR, gLtP, wSlB, wStar, wRaise, wNmX, wXat, wXis, gEqS, wYd, wYdic, wYfn, wYg, wCallD, wCallV, wSetN, wDcT, wTGet2, wTGet1, dicAt, wRng2, wRngD, wRevR, gRevL, wAugIx, look_d, look_own, shpI, shpB, shpN, shpS, seqT, seqL, itsT, itsL, lenT, lenL, okFF, eqv_str, eqv_int, eqv_bool, isNone, perm, Dt.set, Dt.sets, env0, List.map_cons, List.map_nil, List.cons_append, List.nil_append, List.getElem?_cons_zero, List.getElem?_cons_succ, List.set_cons_succ, List.set_cons_zero, List.filterMap_cons, List.filterMap_nil, Option.some.injEq, DV.d.injEq, DV.own.injEq, DV.dit.injEq, DV.dd.injEq, DV.oth.injEq, reduceCtorEq, false_or, or_false, false_and, and_false, exists_false, PyData.int.injEq, PyData.bool.injEq, PyData.str.injEq, PyData.tuple.injEq, PyData.list.injEq, List.cons.injEq, exists_eq_left, exists_eq_left', exists_eq_right, exists_eq_right', exists_and_left, exists_eq', exists_eq, and_true, true_and, and_self, and_assoc, List.length_cons, List.length_nil, List.replicate, Nat.reduceAdd, Nat.reduceSub, Nat.reduceLeDiff, Nat.zero_le, decide_eq_true_eq, Bool.not_eq_true', decide_eq_false_iff_not, ite_true, ite_false, if_true, if_false, Bool.false_eq_true, Bool.true_eq_false, eq_self, List.reduceReplicate, Bool.not_true, Bool.not_false, reduceIte])
def fwRow (φ : List Nat → Nat) (ns : List Nt) (e T i : Nat) : PyData := .list ((List.range (i + 1)).map fun m => .int (FW φ ns e T (T - i) m : Nat))
def fwAll (φ : List Nat → Nat) (ns : List Nt) (e T : Nat) : PyData := .list ((List.range (T + 1)).map fun i => fwRow φ ns e T i)
theorem rev_range {α : Type} (f : Nat → α) (n : Nat) : ((List.range (n + 1)).map fun k => f (n - k)).reverse = (List.range (n + 1)).map f := by
  refine List.ext_getElem? fun i => ?_
  by_cases h : i < n + 1
  · rw [List.getElem?_reverse (by rw [List.length_map, List.length_range]; exact h), List.length_map, List.length_range, List.getElem?_map, List.getElem?_map, List.getElem?_eq_getElem (by rw [List.length_range]; omega), List.getElem?_eq_getElem (by rw [List.length_range]; exact h), List.getElem_range, List.getElem_range]
    show some (f (n - (n + 1 - 1 - i))) = some (f i)
    rw [show n - (n + 1 - 1 - i) = i by omega]
  · rw [List.getElem?_eq_none (by rw [List.length_reverse, List.length_map, List.length_range]; omega), List.getElem?_eq_none (by rw [List.length_map, List.length_range]; omega)]
section
variable {P : Program} {wd : World} {K : PySem.W.Frag} {mg : Str → Option Value} {base : Heap}
def f_folded (P : Program) (wd : World) (K : PySem.W.Frag) (mg : Str → Option Value) (base : Heap) : FD := fun xs R => ∃ d p T ns φ, xs = [.d d, .oth (fnV P wd K mg base 1 (f_fold φ))] ∧ IsBook d p T ns ∧ T ≤ p ∧ p < 2 ^ 62 ∧ T ≤ 1000 ∧ ns.length ≤ 10000 ∧ R (fwAll φ ns (p - T) T)
theorem ok_folded_ways (T : Top wd K mg) : Def P wd K mg base 5 "folded_ways" s_folded_ways ["journal", "fold"] (spD K (f_folded P wd K mg base)) := by
  have g_noted_values := ok_noted_values (P := P) (base := base) T
  have g_ways_to_choose := ok_ways_to_choose (P := P) (base := base) T
  have g_blocks_then := ok_blocks_then (P := P) (base := base) T
  refine Def.byD T.d_folded_ways sc_folded_ways (fun xs R h => by obtain ⟨_, _, _, _, _, rfl, _⟩ := h; rfl) (fun f cdv A outer s H G E xs R hG hr h => ?_)
  obtain ⟨d, p, n, ns, φ, rfl, hd, hTp, hp, hT, hns, q⟩ := h
  obtain ⟨e, he, hs1, hs2⟩ := hd.sq
  refine ⟨_, _, (dss_cons (ds_asg (de_v 0) (dg_tup (n := 3) rfl (by rfl) (dgs_c (dg_name 2 sc_folded_ways.nd) (dgs_c (dg_name 3 sc_folded_ways.nd) (dgs_c (dg_name 4 sc_folded_ways.nd) dgs_nil)))))
      (dss_cons (ds_setN 5 g_noted_values sc_folded_ways.nd hG (hr.mono (by omega)) (by rfl) (dy_d (de_v 4) dy_nil))
      (dss_cons (ds_set 6 sc_folded_ways.nd (DO.d (do_lc (own := [("many", 10)]) (by rfl) sc_folded_ways.nd (di_rng1 (by rfl) T.b_range (de_bin o_add (dp_v 3) (DE.p de_int))) (blkOk_by (own := [("many", 10)]) (N := ["journal", "fold", "plots", "times", "notes", "noted", "ways", "found", "time", "rows", "many", "blocks", "word", "choices", "block"]) (sc := defScope s_folded_ways) (by decide +kernel)) (fun _ _ _ _ _ => (dg_name 10 sc_folded_ways.nd (hf := Or.inr rfl))) ts_no (fun _ _ _ _ _ => (de_c g_ways_to_choose hG (hr.mono (by omega)) (by rfl) (da_cons (de_v 10) (da_cons (de_bin o_add (DE.p (de_bin o_sub (dp_v 2) (dp_v 3))) (DE.p de_int)) da_nil)))))))
      (dss_cons (ds_own 7 sc_folded_ways.nd (do_lst (da_cons (de_v 6) da_nil)))
      (dss_cons (ds_for PassesOwn.never (by rfl) (di_revR (by rfl) T.b_reversed (by rfl) T.b_range (de_v 3)) (dg_name 8 sc_folded_ways.nd)
        (dss_cons (ds_setLc 9 (own := [("many", 10)]) (by rfl) sc_folded_ways.nd rfl rfl (sw_true rfl rfl rfl (by decide +kernel)) (di_rng1 (by rfl) T.b_range (de_bin o_add (dp_v 8) (DE.p de_int))) (blkOk_by (own := [("many", 10)]) (N := ["journal", "fold", "plots", "times", "notes", "noted", "ways", "found", "time", "rows", "many", "blocks", "word", "choices", "block"]) (sc := defScope s_folded_ways) (by decide +kernel)) (fun _ _ _ _ _ => (dg_name 10 sc_folded_ways.nd (hf := Or.inr rfl))) ts_no (fun _ _ _ _ _ => (de_cD g_blocks_then hG (hr.mono (by omega)) (by rfl) (dy_dic 5 (dy_d (de_v 6) (dy_d (de_v 8) (dy_d (de_v 10) dy_nil)))))))
        (dss_cons (ds_set 6 sc_folded_ways.nd (DO.d (do_lc (own := [("blocks", 11)]) (by rfl) sc_folded_ways.nd (di_seq rfl (de_v 9)) (blkOk_by (own := [("blocks", 11)]) (N := ["journal", "fold", "plots", "times", "notes", "noted", "ways", "found", "time", "rows", "many", "blocks", "word", "choices", "block"]) (sc := defScope s_folded_ways) (by decide +kernel)) (fun _ _ _ _ _ => (dg_name 11 sc_folded_ways.nd (hf := Or.inr rfl))) ts_no (fun _ _ _ _ _ => (de_callV (g := (f_fold φ)) (P := P) (wd := wd) (mg := mg) (base := base) 1 1 rfl hG (hr.mono (by omega)) (da_cons (DO.d (do_lc (own := [("word", 12), ("choices", 13), ("block", 14)]) (by rfl) sc_folded_ways.nd (di_seq rfl (de_v 11)) (blkOk_by (own := [("word", 12), ("choices", 13), ("block", 14)]) (by first | rfl | decide +kernel)) (fun _ _ _ _ _ => (dg_tup (n := 3) rfl (by rfl) (dgs_c (dg_name 12 sc_folded_ways.nd (hf := Or.inr rfl)) (dgs_c (dg_name 13 sc_folded_ways.nd (hf := Or.inr rfl)) (dgs_c (dg_name 14 sc_folded_ways.nd (hf := Or.inr rfl)) dgs_nil))))) ts_no (fun _ _ _ _ _ => (de_bin o_mul (dp_v 13) (dp_v 14))))) da_nil))))))
        (dss_one (ds_app 7 rfl (de_v 6))))))
      (dss_one (ds_ret (DO.d (do_revL rfl (dp_v 7)))))))))), ?_⟩
  walk_at "s"
  simp only [hs1, hs2]
  walk_at "s"
  refine ⟨e, ns, rfl, he, hns, by omega, by omega, ?_⟩
  rw [iota_nat1]
  refine lcD_encM (List.range (n + 1)) (fun (i : Nat) => .int (i : Nat)) (fun m => .int (cho (p - n + 1) m : Nat)) (by rw [List.length_range]; omega) (fun m hm acc J hacc hJ => ?_) ?_
  · have hm := List.mem_range.mp hm
    walk_at "s"
    refine ⟨m, p - n + 1, ?_, by omega, by omega, hacc, hJ⟩
    rw [show (p : Int) - (n : Int) + 1 = ((p - n + 1 : Nat) : Int) by omega]
  walk_at "s"
  refine ⟨by omega, by omega, ?_⟩
  have row0 : PyData.list ((List.range (n + 1)).map fun m => .int (cho (p - n + 1) m : Nat)) = fwRow φ ns (p - n) n n := by
    unfold fwRow
    rw [Nat.sub_self]
    rfl
  rw [row0]
  refine forD_by (fun j s2 => ∃ y8 y9, j ≤ n ∧ s2 = ⟨[some (.d d), some (.oth (fnV P wd K mg base 1 (f_fold φ))), some (.d (.int (p : Nat))), some (.d (.int (n : Nat))), some (.d e), some (.dit (kvsOf ns)), some (.d (fwRow φ ns (p - n) n (n - j))), some (.own ((List.range (j + 1)).map fun k => fwRow φ ns (p - n) n (n - k))), y8, y9, none, none, none, none, none], 0⟩) ⟨none, none, Nat.zero_le _, rfl⟩ (fun j d1 s2 J e2 inv hJ => ?_) (fun s2 inv => ?_)
  · obtain ⟨y8, y9, hj, rfl⟩ := inv
    obtain ⟨hj2, rfl⟩ := down_get e2
    have hj2 : j < n := by omega
    obtain ⟨i, hi⟩ : ∃ i : Nat, n = i + j + 1 := ⟨n - j - 1, by omega⟩
    have e3 : (n : Int) - 1 - (j : Int) = (i : Nat) := by omega
    rw [e3]
    walk_at "s"
    refine ⟨by omega, by omega, ?_⟩
    rw [iota_nat1]
    refine lcD_encM (List.range (i + 1)) (fun (i : Nat) => .int (i : Nat)) (fun m => .list ((blocksAt ns (fun m => FW φ ns (p - n) n j m) i m).map blkT)) (by rw [List.length_range]; omega) (fun m hm acc J' hacc hJ' => ?_) ?_
    · have hm := List.mem_range.mp hm
      walk_at "s"
      refine ⟨ns, i, m, fun m => FW φ ns (p - n) n j m, i + 2, ?_, by omega, hacc, hJ'⟩
      unfold fwRow
      rw [show n - j = i + 1 by omega, show n - (i + 1) = j by omega]
    walk_at "s"
    refine lcD_encM (List.range (i + 1)) (fun m => .list ((blocksAt ns (fun m => FW φ ns (p - n) n j m) i m).map blkT)) (fun m => .int (FW φ ns (p - n) n (j + 1) m : Nat)) (by rw [List.length_range]; omega) (fun m hm acc J' hacc hJ' => ?_) ?_
    · have hb : (blocksAt ns (fun m => FW φ ns (p - n) n j m) i m).length ≤ 3 := by
        unfold blocksAt
        rw [List.length_map]
        exact List.length_filter_le _ _
      have hm := List.mem_range.mp hm
      walk_at "s"
      refine lcD_encM (blocksAt ns (fun m => FW φ ns (p - n) n j m) i m) blkT (fun b => .int (b.2.1 * b.2.2 : Nat)) (by omega) (fun b hb acc2 J2 hacc2 hJ2 => ?_) ?_
      · unfold blkT
        walk_at "s"
        have hw : b.2.1 ≤ 2 * m + 1 := by
          unfold blocksAt at hb
          obtain ⟨w, _, rfl⟩ := List.mem_map.mp hb
          cases w
          · show m + 1 ≤ _; omega
          · show 2 * m ≤ _; omega
          · show m - 1 ≤ _; omega
        rw [Int.natCast_mul] at hJ2
        exact ⟨.inl ⟨by omega, by omega⟩, hacc2, hJ2⟩
      · refine ⟨(blocksAt ns (fun m => FW φ ns (p - n) n j m) i m).map fun b => b.2.1 * b.2.2, by rw [List.map_map]; rfl, by rw [List.length_map]; omega, rfl, hacc, ?_⟩
        have e4 : (blocksAt ns (fun m => FW φ ns (p - n) n j m) i m).map (fun b => b.2.1 * b.2.2) = (wordsAt ns (n - (j + 1)) m).map fun w => waysN w m * FW φ ns (p - n) n j (nextM m w) := by
          unfold blocksAt
          rw [List.map_map, show n - (j + 1) = i by omega]
          rfl
        rw [e4]
        exact hJ'
    · walk_at "s"
      have e5 : PyData.list ((List.range (i + 1)).map fun m => .int (FW φ ns (p - n) n (j + 1) m : Nat)) = fwRow φ ns (p - n) n (n - (j + 1)) := by
        unfold fwRow
        rw [show n - (j + 1) = i by omega, show n - i = j + 1 by omega]
      have e6 : (List.range (j + 1)).map (fun k => fwRow φ ns (p - n) n (n - k)) ++ [fwRow φ ns (p - n) n (n - (j + 1))] = (List.range (j + 1 + 1)).map fun k => fwRow φ ns (p - n) n (n - k) := by
        rw [List.range_succ (n := j + 1), List.map_append]
        rfl
      rw [e5, e6]
      exact ⟨by rw [List.length_map, List.length_range]; omega, hJ _ ⟨_, _, hj2, rfl⟩⟩
  · obtain ⟨y8, y9, hj, rfl⟩ := inv
    walk_at "s"
    rw [down_len, show ((n : Int) - 1 - -1).toNat = n by omega, rev_range]
    exact q
end
end Og61

namespace Og61
open PySem PySem.Spec PyProof.Rows L2 OgR Evl Dw OgM
local macro_rules | `(tactic| walk_at "s") => `(tactic| simp only [wPubO, wC, wV, wPub, wP, wCons, wTup, wLst, wL, w2, wTest, wChain, wAnd, wOr, Dw.wNot, wAndV, wOrV, wNotV, wIf, Dw.wTru, truD, gI0, gI, gEq, gNe, gIn, gIsN, gNotN, gIsB, gNotB, gCatT, gCatS, gIx, wCat, wRep, w1, w1O, gLen, gTupleOf, gListOf, wRg1, gInt, gStr, w2a, wSlT, wSlL, wSlS, wRevT, wNeg, wCall, wCallB, wName, wGNil_n, wGCons_c, wGTup, wSeq, wRng1, wEnum, wZip, wNext, wSq, wRet, wIfS, wDrop, wAsg, wOwn, wAug, wMeth, fAppend, wFor_eq, wWhile_eq, wipeD, wLc_eq, Dw.wNm, wPar, wGix, wDix, wCatP, wPopTo, fPop, fPopAt, fIns, wSetIx, gRepr, gMinT, gNeS, gRepN, wDGet2, wDPut, wTPut, wTGet, gSrtR, gLtP, wSlB, wStar, wRaise, wNmX, wXat, wXis, gEqS, wYd, wYdic, wYfn, wYg, wCallD, wCallV, wSetN, wDcT, wTGet2, wTGet1, dicAt, wRng2, wRngD, wRevR, gRevL, wAugIx, look_d, look_own, shpI, shpB, shpN, shpS, seqT, seqL, itsT, itsL, lenT, lenL, okFF, eqv_str, eqv_int, eqv_bool, isNone, perm, Dt.set, Dt.sets, env0, List.map_cons, List.map_nil, List.cons_append, List.nil_append, List.getElem?_cons_zero, List.getElem?_cons_succ, List.set_cons_succ, List.set_cons_zero, List.filterMap_cons, List.filterMap_nil, Option.some.injEq, DV.d.injEq, DV.own.injEq, DV.dit.injEq, DV.dd.injEq, DV.oth.injEq, reduceCtorEq, false_or, or_false, false_and, and_false, exists_false, PyData.int.injEq, PyData.bool.injEq, PyData.str.injEq, PyData.tuple.injEq, PyData.list.injEq, List.cons.injEq, exists_eq_left, exists_eq_left', exists_eq_right, exists_eq_right', exists_and_left, exists_eq', exists_eq, and_true, true_and, and_self, and_assoc, List.length_cons, List.length_nil, List.replicate, Nat.reduceAdd, Nat.reduceSub, Nat.reduceLeDiff, Nat.zero_le, decide_eq_true_eq, Bool.not_eq_true', decide_eq_false_iff_not, ite_true, ite_false, if_true, if_false, Bool.false_eq_true, Bool.true_eq_false, eq_self, List.reduceReplicate, Bool.not_true, Bool.not_false, reduceIte])
section
variable {P : Program} {wd : World} {K : PySem.W.Frag} {mg : Str → Option Value} {base : Heap}
def Bk (d : PyData) (p T : Nat) (ns : List Nt) : Prop := IsBook d p T ns ∧ T ≤ p ∧ p < 2 ^ 62 ∧ T ≤ 1000 ∧ ns.length ≤ 10000
def f_all_ways : FP := fun ds R => ∃ d p T ns, ds = [d] ∧ Bk d p T ns ∧ R (fwAll List.sum ns (p - T) T)
theorem ok_all_ways (T : Top wd K mg) : Def P wd K mg base 6 "all_ways" s_all_ways ["journal"] (spP K f_all_ways) := by
  have g_folded_ways := ok_folded_ways (P := P) (base := base) T
  have g_in_all := ok_in_all (P := P) (base := base) T
  refine Def.pure T.d_all_ways sc_all_ways (fun ds R h => by obtain ⟨_, _, _, _, rfl, _⟩ := h; rfl) (fun f cdv A outer s H G E ds R hG hr h => ?_)
  obtain ⟨d, p, n, ns, rfl, hB, q⟩ := h
  refine ⟨_, _, (dss_one (ds_ret (de_cD g_folded_ways hG (hr.mono (by omega)) (by rfl) (dy_d (de_v 0) (dy_g g_in_all (by rfl) dy_nil))))), ?_⟩
  walk_at "s"
  exact ⟨d, p, n, ns, List.sum, rfl, hB.1, hB.2.1, hB.2.2.1, hB.2.2.2.1, hB.2.2.2.2, q⟩
theorem fw_at {φ : List Nat → Nat} {ns : List Nt} {e T i : Nat} (h : i ≤ T) : atI (its (fwAll φ ns e T)) (i : Int) = some (fwRow φ ns e T i) := by
  show atI ((List.range (T + 1)).map fun i => fwRow φ ns e T i) (i : Int) = _
  rw [at_nat (by rw [List.length_map, List.length_range]; omega), List.getElem?_map, List.getElem?_eq_getElem (by rw [List.length_range]; omega), List.getElem_range]
  rfl
theorem fr_at {φ : List Nat → Nat} {ns : List Nt} {e T i m : Nat} (h : m ≤ i) : atI (its (fwRow φ ns e T i)) (m : Int) = some (.int (FW φ ns e T (T - i) m : Nat)) := by
  show atI ((List.range (i + 1)).map fun m => PyData.int (FW φ ns e T (T - i) m : Nat)) (m : Int) = _
  rw [at_nat (by rw [List.length_map, List.length_range]; omega), List.getElem?_map, List.getElem?_eq_getElem (by rw [List.length_range]; omega), List.getElem_range]
  rfl
def f_count : FP := fun ds R => ∃ d p T ns, ds = [d] ∧ Bk d p T ns ∧ R (.int (FW List.sum ns (p - T) T T 0 : Nat))
theorem ok_count_orders (T : Top wd K mg) : Def P wd K mg base 7 "count_orders" s_count_orders ["journal"] (spP K f_count) := by
  have g_all_ways := ok_all_ways (P := P) (base := base) T
  refine Def.pure T.d_count_orders sc_count_orders (fun ds R h => by obtain ⟨_, _, _, _, rfl, _⟩ := h; rfl) (fun f cdv A outer s H G E ds R hG hr h => ?_)
  obtain ⟨d, p, n, ns, rfl, hB, q⟩ := h
  refine ⟨_, _, (dss_one (ds_ret (de_ix rfl (DE.p (de_ix rfl (DE.p (de_c g_all_ways hG (hr.mono (by omega)) (by rfl) (da_cons (de_v 0) da_nil))) (DE.p de_int))) (DE.p de_int)))), ?_⟩
  walk_at "s"
  exact ⟨d, p, n, ns, rfl, hB, rfl, _, fw_at (i := 0) (by omega), rfl, _, fr_at (m := 0) (by omega), q⟩
/-! ### gaps -/
def f_sgaps : FP := fun ds R => ∃ l e m g : Nat, ds = [.int (l : Nat), .int (e : Nat), .int (m : Nat), .int (g : Nat)] ∧ l ≤ g ∧ g ≤ e + 1 ∧ m ≤ 1000 ∧ e < 2 ^ 62 ∧ R (.int ((cho (e + 1 - l) m - cho (e + 1 - g) m : Nat) : Int))
def f_gap_at : FP := fun ds R => ∃ l e m k : Nat, ds = [.int (l : Nat), .int (e : Nat), .int ((m + 1 : Nat) : Int), .int (k : Nat)] ∧ l ≤ 1 ∧ k < cho (e + 1 - l) (m + 1) ∧ m < 1000 ∧ e < 2 ^ 62 ∧
  ∀ g : Nat, l ≤ g → g ≤ e → cho (e + 1 - l) (m + 1) - cho (e + 1 - g) (m + 1) ≤ k → k < cho (e + 1 - l) (m + 1) - cho (e - g) (m + 1) → R (.int (g : Nat))
end
end Og61

namespace Og
open PySem PySem.Spec PyProof.Rows L2 OgR Evl
def topS (i : Nat) : Stmt := PySem.Challenge.pw_onlygroups_k61_whole_choices_replaced.main.body.getD i (.Pass ⟨0, 0, 0, 0⟩)
abbrev sCell : Stmt := topS 41
abbrev sBox : Stmt := topS 42
abbrev sTake : Stmt := topS 43
abbrev sOf : Stmt := topS 44
theorem scCell : FnScope ["_law_script", "_law_k"] ["_law_script", "_law_k"] (defScope sCell) := ⟨rfl, rfl, rfl, by decide +kernel, rfl, by decide +kernel, by decide +kernel⟩
theorem scBox : FnScope ["_law_script", "_law_k", "_law_core"] ["_law_script", "_law_k"] (defScope sBox) := ⟨rfl, rfl, rfl, by decide +kernel, rfl, by decide +kernel, by decide +kernel⟩
theorem scTake : FnScope ["_law_box_here", "_law_below", "_law_found", "_law_once", "_law_twice"] ["_law_box_here", "_law_below"] (defScope sTake) := ⟨rfl, rfl, rfl, by decide +kernel, rfl, by decide +kernel, by decide +kernel⟩
theorem scOf : FnScope ["_law_box_here", "_law_some"] ["_law_box_here", "_law_some"] (defScope sOf) := ⟨rfl, rfl, rfl, by decide +kernel, rfl, by decide +kernel, by decide +kernel⟩
section
variable {P : Program} {w : World} {K : PySem.W.Frag} {mg : Str → Option Value} {base : Heap}
/-! ### _law_cell_at -/
def spCellA (K : PySem.W.Frag) : Sp := fun vs H Q _ => ∃ (a : Addr) (ns : List Int) (k : Nat), vs = [.ref a, .int k] ∧ SqL K H a (ns.map V.int) ∧ Q (.int (ns.getD k 0)) H
theorem ok_cell {f : Addr} {fd : FuncData} {k : Nat} (F : Fun K "_law_cell_at" "_law_cell_at" sCell f fd) (ml : mg "len" = none) : FnOk P w K mg base CX0 (k + 1) f fd ["_law_script", "_law_k"] (spCellA K) := by
  refine F.ok scCell (fun vs H Q E h => ?_) (fun cdv A outer s H vs Q E hr h => ?_)
  · obtain ⟨a, ns, k, rfl, _⟩ := h
    rfl
  · obtain ⟨a, ns, j, rfl, hS, q⟩ := h
    refine ⟨_, pss_cons (ps_if (pt_cmpR op_lt (pv 1) (pe_callB call_len_seq (by rfl) ml PySem.boot_len (pa_cons (pv 0) pa_nil)) (nomark _))
        (pss_one (ps_ret (pe_ix ix_list (pv 0) (pv 1) (fun _ _ => rfl)))) pss_nil)
      (pss_one (ps_ret pe_int)), ?_⟩
    refine ⟨_, rfl, _, rfl, a, _, rfl, .inl hS, _, _, rfl, rfl, _, rfl, ite2 (fun e => ?_) (fun e => ?_)⟩
    · have h1 := of_decide_eq_true e
      rw [List.length_map] at h1
      have hj : j < ns.length := by omega
      refine ⟨_, rfl, _, rfl, a, _, _, _, rfl, rfl, hS, atI_nat (j := j) (v := .int ns[j]) ?_, ?_⟩
      · rw [List.getElem?_map, List.getElem?_eq_getElem hj]; rfl
      · rw [List.getD_eq_getElem?_getD, List.getElem?_eq_getElem hj] at q
        exact q
    · have hj : ¬ j < ns.length := fun z => e (decide_eq_true (by rw [List.length_map]; omega))
      rw [List.getD_eq_getElem?_getD, List.getElem?_eq_none (by omega)] at q
      exact q
/-! ### _law_box -/
theorem b01 (b : Bool) : -(2 ^ 64) < (if b = true then (1 : Int) else 0) ∧ (if b = true then (1 : Int) else 0) < 2 ^ 64 := by
  cases b <;> decide
def boxA (c : Int) : Int := if 10 ^ 18 ≤ (if c < 0 then -c else c) then (if c < 0 then -c else c) else 0
theorem boxA_nn (c : Int) : 0 ≤ boxA c := by
  unfold boxA
  split <;> split <;> omega
def spBox (K : PySem.W.Frag) : Sp := fun vs H Q _ => ∃ (a : Addr) (ns : List Int) (k : Nat), vs = [.ref a, .int k] ∧ SqL K H a (ns.map V.int) ∧ k ≤ 1000 ∧
  ∀ l x y, H l = none → 0 ≤ x → 0 ≤ y → y < 2 ^ 62 → Q (.ref l) (upd H l (.lst [.int x, .int y, .int 0]))
theorem ok_box {f fC : Addr} {fd fdC : FuncData} (F : Fun K "_law_box" "_law_box" sBox f fd) (FC : Fun K "_law_cell_at" "_law_cell_at" sCell fC fdC) (bC : Binds K fdC ["_law_script", "_law_k"] []) (gC : mg "_law_cell_at" = some (.ref fC))
    (ml : mg "len" = none) (ma : mg "abs" = none) (mi : mg "int" = none) : FnOk P w K mg base CX0 2 f fd ["_law_script", "_law_k"] (spBox K) := by
  have GC : FnOk P w K mg base CX0 1 fC fdC ["_law_script", "_law_k"] (spCellA K) := ok_cell FC ml
  refine F.ok scBox (fun vs H Q E h => ?_) (fun cdv A outer s H vs Q E hr h => ?_)
  · obtain ⟨a, ns, k, rfl, _⟩ := h
    rfl
  · obtain ⟨a, ns, j, rfl, hS, hj, q⟩ := h
    refine ⟨_, pss_cons (ps_set (i := 2) scBox.nd rfl (.inl rfl) (pe_call GC hr (by rfl) gC FC.kp bC .nil pass0 (pa_cons (pv 0) (pa_cons (pv 1) pa_nil))))
      (pss_one (ps_ret (pe_lst (pa_cons (pe_op op_mul (pe_callB call_abs (by rfl) ma (by decide +kernel) (pa_cons (pv 2) pa_nil))
            (pe_callTy call_int1 (by rfl) mi (by decide +kernel) (pa_cons (pe_cmpR op_ge (pe_callB call_abs (by rfl) ma (by decide +kernel) (pa_cons (pv 2) pa_nil)) (pe_op op_pow pe_int pe_int) (nomark _)) pa_nil)))
          (pa_cons (pe_op op_add (pe_op op_add (pe_op op_mod (pv 2) pe_int) (pe_op op_mul pe_int (pv 1))) pe_int) (pa_cons pe_int pa_nil)))))), ?_⟩
    refine ⟨_, rfl, _, rfl, a, ns, j, rfl, hS, ?_⟩
    generalize ns.getD j 0 = c
    refine ⟨_, rfl, _, rfl, _, rfl, _, rfl, _, _, rfl, rfl, ⟨by decide, by decide, by decide⟩, _, _, rfl, rfl, .inr ⟨_, rfl, _, _, rfl, rfl, .inr ?_, ?_⟩⟩
    · exact b01 _
    · refine ⟨_, rfl, _, _, rfl, rfl, (show (0 : Int) < 2305843009213693951 by decide), _, rfl, _, _, rfl, rfl, .inl ⟨by decide, by decide⟩, _, _, rfl, rfl, _, _, rfl, rfl, (show 3 ≤ sizeLine by decide), fun l hl => ?_⟩
      refine q l _ _ hl ?_ ?_ ?_
      · split <;> split <;> simp <;> omega
      · have := Int.emod_nonneg c (show (2305843009213693951 : Int) ≠ 0 by decide); omega
      · have := Int.emod_lt_of_pos c (show (0 : Int) < 2305843009213693951 by decide); omega
/-! ### _law_take -/
def BoxAt (H : Hp) (l : Addr) (c : Int) : Prop := ∃ a b : Int, H l = some (.lst [.int a, .int b, .int c]) ∧ 0 ≤ a ∧ 0 ≤ b ∧ b < 2 ^ 62 ∧ 0 ≤ c ∧ c ≤ 1000000
def spTake : Sp := fun vs H Q _ => ∃ (l : Addr) (c n : Int), vs = [.ref l, .int n] ∧ BoxAt H l c ∧ 1 ≤ n ∧ n ≤ 10000000 ∧ c < 1000000 ∧
  ∀ r xs c', 0 ≤ r → r < n → BoxAt (upd H l (.lst xs)) l c' → c' ≤ c + 1 → Q (.int r) (upd H l (.lst xs))
theorem ok_take {f : Addr} {fd : FuncData} {k : Nat} (F : Fun K "_law_take" "_law_take" sTake f fd) : FnOk P w K mg base CX0 (k + 1) f fd ["_law_box_here", "_law_below"] spTake := by
  refine F.ok scTake (fun vs H Q E h => ?_) (fun cdv A outer s H vs Q E hr h => ?_)
  · obtain ⟨l, c, n, rfl, _⟩ := h
    rfl
  · obtain ⟨l, c, n, rfl, ⟨a, b, hl, ha, hb, hb2, hc, hc2⟩, hn, hn2, hc3, q⟩ := h
    have hL : SqL K H l [.int a, .int b, .int c] := .inl (.inl hl)
    have X0 : ∀ {X : Cx} {j : Int} {p p1 p2 : Pos} {k : Nat} (hv : PE X (.Name "_law_box_here" p1) (tVar 0)), PE X (.Subscript (.Name "_law_box_here" p1) (.Constant (.int j) k p2) p) (tOp (rIxL X.K) (tVar 0) (fun _ H Q => Q (.int j) H)) := fun hv => pe_ix ix_list hv pe_int (fun _ _ => rfl)
    refine ⟨_, pss_cons (ps_if (pt_cmpR op_gt (X0 (pv 0)) pe_int (nomark _))
        (pss_cons (ps_set (i := 2) scTake.nd rfl (.inl rfl) (pe_op op_mod (X0 (pv 0)) (pv 1)))
          (pss_cons (ps_asg (pe_op op_fdiv (X0 (pv 0)) (pv 1)) (pg_sub (pv 0) pe_int set_list))
          (pss_one (ps_ret (pv 2))))) pss_nil)
      (pss_cons (ps_if (pt_cmpR op_gt (pv 1) (pe_op op_pow pe_int pe_int) (nomark _)) (pss_one ps_never) pss_nil)
      (pss_cons (ps_asg (pe_op op_add (X0 (pv 0)) pe_int) (pg_sub (pv 0) pe_int set_list))
      (pss_cons (ps_set (i := 3) scTake.nd rfl (.inl rfl) (pe_op op_mod (pe_op op_mul (pe_op op_add (X0 (pv 0)) (pe_op op_mul pe_int (X0 (pv 0)))) (pe_op op_add pe_int (X0 (pv 0)))) pe_int))
      (pss_cons (ps_set (i := 4) scTake.nd rfl (.inl rfl) (pe_op op_mod (pe_op op_mul (pe_op op_add (pe_op op_add (pv 3) (X0 (pv 0))) (pe_op op_fdiv (X0 (pv 0)) pe_int)) (pe_op op_add (pe_op op_mod (pv 3) pe_int) pe_int)) pe_int))
      (pss_one (ps_ret (pe_op op_mod (pe_op op_fdiv (pe_op op_mod (pe_op op_add (pe_op op_mul (pv 4) pe_int) (pv 3)) pe_int) pe_int) (pv 1)))))))), ?_⟩
    refine ⟨_, rfl, l, _, 0, _, rfl, rfl, hL, rfl, _, _, rfl, rfl, _, rfl, ite2 (fun e => ?_) (fun e => ?_)⟩
    · have h1 := of_decide_eq_true e
      refine ⟨_, rfl, l, _, 0, _, rfl, rfl, hL, rfl, _, rfl, _, _, rfl, rfl, by omega, ?_⟩
      refine ⟨_, rfl, l, _, 0, _, rfl, rfl, hL, rfl, _, rfl, _, _, rfl, rfl, ⟨by omega, by omega⟩, _, rfl, l, _, 0, 0, rfl, rfl, hl, rfl, ?_⟩
      refine ⟨_, rfl, ?_⟩
      refine q _ _ c (Int.emod_nonneg _ (by omega)) (Int.emod_lt_of_pos _ (by omega)) ⟨_, _, upd_same, Int.ediv_nonneg ha (by omega), hb, hb2, hc, hc2⟩ (by omega)
    · refine ⟨_, rfl, _, _, rfl, rfl, ⟨by decide, by decide, by decide⟩, _, _, rfl, rfl, _, rfl, ite2 (fun e2 => ?_) (fun e2 => ?_)⟩
      · have h2 := of_decide_eq_true e2
        exact absurd h2 (by show ¬ ((10 : Int) ^ 7 < n); omega)
      · refine ⟨_, rfl, l, _, 2, _, rfl, rfl, hL, rfl, _, _, rfl, rfl, _, rfl, l, _, 2, 2, rfl, rfl, hl, rfl, ?_⟩
        have hl2 : upd H l (.lst [.int a, .int b, .int (c + 1)]) l = some (.lst [.int a, .int b, .int (c + 1)]) := upd_same
        have hL2 : SqL K (upd H l (.lst [.int a, .int b, .int (c + 1)])) l [.int a, .int b, .int (c + 1)] := .inl (.inl hl2)
        show tSeq _ _ _ _ (upd H l (.lst [.int a, .int b, .int (c + 1)]))
        refine ⟨_, rfl, l, _, 1, _, rfl, rfl, hL2, rfl, _, rfl, l, _, 2, _, rfl, rfl, hL2, rfl, _, _, rfl, rfl, .inl ⟨by decide, by decide⟩, _, _, rfl, rfl, _, rfl, l, _, 2, _, rfl, rfl, hL2, rfl, _, _, rfl, rfl, _, _, rfl, rfl, .inl ⟨by omega, by omega⟩, _, _, rfl, rfl, by omega, ?_⟩
        refine ⟨_, rfl, _, rfl, l, _, 2, _, rfl, rfl, hL2, rfl, _, _, rfl, rfl, _, rfl, l, _, 1, _, rfl, rfl, hL2, rfl, _, _, rfl, rfl, ⟨by decide, by decide⟩, _, _, rfl, rfl, _, rfl, _, _, rfl, rfl, by omega, _, _, rfl, rfl, _, _, rfl, rfl, .inr ⟨?_, ?_⟩, _, _, rfl, rfl, by omega, ?_⟩
        · have := Int.emod_nonneg ((b + 48271 * (c + 1)) * (39373 + (c + 1)) % 2147483647) (show (40009 : Int) ≠ 0 by decide); omega
        · have := Int.emod_lt_of_pos ((b + 48271 * (c + 1)) * (39373 + (c + 1)) % 2147483647) (show (0 : Int) < 40009 by decide); omega
        · refine ⟨_, rfl, _, _, rfl, rfl, .inr ⟨by decide, by decide⟩, _, rfl, _, _, rfl, rfl, _, _, rfl, rfl, by omega, _, _, rfl, rfl, ⟨by decide, by decide⟩, _, rfl, _, _, rfl, rfl, by omega, ?_⟩
          exact q _ _ (c + 1) (Int.emod_nonneg _ (by omega)) (Int.emod_lt_of_pos _ (by omega)) ⟨_, _, upd_same, ha, hb, hb2, by omega, by omega⟩ (by omega)
/-! ### _law_of -/
def spOf (K : PySem.W.Frag) : Sp := fun vs H Q _ => ∃ (l p : Addr) (c : Int) (b : Bool) (xs : List V), vs = [.ref l, .ref p] ∧ BoxAt H l c ∧ l ≠ p ∧ SqB K b H p xs ∧ 1 ≤ xs.length ∧ xs.length ≤ 1000 ∧ c < 1000000 ∧
  ∀ (r : Nat) x ys c', xs[r]? = some x → BoxAt (upd H l (.lst ys)) l c' → c' ≤ c + 1 → Q x (upd H l (.lst ys))
theorem ok_of {f fT : Addr} {fd fdT : FuncData} (F : Fun K "_law_of" "_law_of" sOf f fd) (FT : Fun K "_law_take" "_law_take" sTake fT fdT) (bT : Binds K fdT ["_law_box_here", "_law_below"] []) (gT : mg "_law_take" = some (.ref fT))
    (ml : mg "len" = none) : FnOk P w K mg base CX0 2 f fd ["_law_box_here", "_law_some"] (spOf K) := by
  have GT : FnOk P w K mg base CX0 1 fT fdT ["_law_box_here", "_law_below"] spTake := ok_take FT
  refine F.ok scOf (fun vs H Q E h => ?_) (fun cdv A outer s H vs Q E hr h => ?_)
  · obtain ⟨_, _, _, _, _, rfl, _⟩ := h
    rfl
  · obtain ⟨l, p, c, b, xs, rfl, hB, hne, hS, h1, h2, hc, q⟩ := h
    refine ⟨_, pss_one (ps_ret (pe_ix ix_B (pv 1) (pe_call GT hr (by rfl) gT FT.kp bT .nil pass0 (pa_cons (pv 0) (pa_cons (pe_callB cr_lenB (by rfl) ml PySem.boot_len (pa_cons (pv 1) pa_nil)) pa_nil))) (fun _ _ => rfl))), ?_⟩
    refine ⟨_, rfl, _, rfl, _, rfl, b, p, xs, rfl, hS, l, c, _, rfl, hB, by omega, by omega, hc, fun r ys c' r0 r1 hB' hc' => ?_⟩
    have hr2 : r.toNat < xs.length := by omega
    refine ⟨b, p, xs, r, _, rfl, rfl, ?_, at_of (j := r.toNat) (by omega) (List.getElem?_eq_getElem hr2), q r.toNat _ ys c' (List.getElem?_eq_getElem hr2) hB' hc'⟩
    cases b with
    | true =>
      rcases hS with (e | ⟨o, e⟩) | e
      · exact .inl (.inl (by rw [upd_ne (Ne.symm hne)]; exact e))
      · exact .inl (.inr ⟨o, by rw [upd_ne (Ne.symm hne)]; exact e⟩)
      · exact .inr e
    | false =>
      rcases hS with (e | ⟨o, e⟩) | e
      · exact .inl (.inl (by rw [upd_ne (Ne.symm hne)]; exact e))
      · exact .inl (.inr ⟨o, by rw [upd_ne (Ne.symm hne)]; exact e⟩)
      · exact .inr e
end
end Og

namespace Og
open PySem PySem.Spec PyProof.Rows L2 OgR Evl OgM
/-! ### data -/
theorem canAll : ∀ {ds : List PyData}, (∀ d ∈ ds, PyData.canLay0 d = true) → PyData.canLayAll0 ds = true
  | [], _ => by simp [PyData.canLayAll0]
  | d :: ds, h => by
    simp only [PyData.canLayAll0, Bool.and_eq_true]
    exact ⟨h d (by simp), canAll fun x hx => h x (by simp [hx])⟩
theorem depAll {n : Nat} : ∀ {ds : List PyData}, (∀ d ∈ ds, PyData.depth d ≤ n) → PyData.depthAll ds ≤ n
  | [], _ => by simp [PyData.depthAll]
  | d :: ds, h => by
    simp only [PyData.depthAll]
    exact Nat.max_le.mpr ⟨h d (by simp), depAll fun x hx => h x (by simp [hx])⟩
def dInts (l : List Int) : List PyData := l.map PyData.int
theorem ci (l : List Int) : PyData.canLayAll0 (dInts l) = true := canAll fun d h => by
  obtain ⟨i, _, rfl⟩ := List.mem_map.mp h
  simp [PyData.canLay0]
theorem di (l : List Int) : PyData.depthAll (dInts l) ≤ 0 := depAll fun d h => by
  obtain ⟨i, _, rfl⟩ := List.mem_map.mp h
  simp [PyData.depth]
theorem sh_of {d : PyData} (h1 : d.canLay0 = true) (h2 : d.depth ≤ 64) : SeqAt.shaped d = true := Bool.and_eq_true_iff.mpr ⟨h1, decide_eq_true h2⟩
theorem sh_list {ds : List PyData} {n : Nat} (h1 : PyData.canLayAll0 ds = true) (h2 : PyData.depthAll ds ≤ n) (h3 : n ≤ 63) : SeqAt.shaped (.list ds) = true := by
  refine sh_of (by simp only [PyData.canLay0]; exact h1) ?_
  have e : PyData.depth (.list ds) = PyData.depthAll ds + 1 := by simp only [PyData.depth]
  rw [e]
  omega
theorem sh_tup {ds : List PyData} {n : Nat} (h1 : PyData.canLayAll0 ds = true) (h2 : PyData.depthAll ds ≤ n) (h3 : n ≤ 63) : SeqAt.shaped (.tuple ds) = true := by
  refine sh_of (by simp only [PyData.canLay0]; exact h1) ?_
  have e : PyData.depth (.tuple ds) = PyData.depthAll ds + 1 := by simp only [PyData.depth]
  rw [e]
  omega
theorem sh_ints (l : List Int) : SeqAt.shaped (.list (dInts l)) = true ∧ SeqAt.shaped (.tuple (dInts l)) = true := ⟨sh_list (ci l) (di l) (by decide), sh_tup (ci l) (di l) (by decide)⟩
theorem dp_ints {K : PySem.W.Frag} {H : Hp} : ∀ l : List Int, DpAll K H (l.map V.int) (dInts l)
  | [] => .nil
  | i :: l => .cons (.int i) (dp_ints l)
def dLL (g : List Seg) : List PyData := g.map fun x => PyData.list (dInts (sgi x))
theorem sh_LL (g : List Seg) : SeqAt.shaped (.list (dLL g)) = true := by
  have h1 : PyData.canLayAll0 (dLL g) = true := canAll fun d h => by
    obtain ⟨x, _, rfl⟩ := List.mem_map.mp h
    simp [PyData.canLay0, ci]
  have h2 : PyData.depthAll (dLL g) ≤ 1 := depAll fun d h => by
    obtain ⟨x, _, rfl⟩ := List.mem_map.mp h
    have e : PyData.depth (.list (dInts (sgi x))) = PyData.depthAll (dInts (sgi x)) + 1 := by simp only [PyData.depth]
    rw [e]
    have := di (sgi x)
    omega
  exact sh_list h1 h2 (by decide)
theorem sh_nil : SeqAt.shaped (.list []) = true := sh_ints [] |>.1
/-! ### a list of runs -/
def PR (H0 H : Hp) (q : Addr) (x : Seg) : Prop := H0 q = none ∧ H q = some (.lst ((sgi x).map V.int))
structure LL (H0 H : Hp) (p : Addr) (g : List Seg) : Prop where
  new : H0 p = none
  ex : ∃ qs : List Addr, H p = some (.lst (qs.map V.ref)) ∧ Paired (PR H0 H) qs g ∧ p ∉ qs
theorem paired_snoc_inv {α β : Type} {F : α → β → Prop} {x : β} : ∀ {l : List α} {g : List β}, Paired F l (g ++ [x]) → ∃ l' q, l = l' ++ [q] ∧ Paired F l' g ∧ F q x
  | l, [], h => by
    cases h with
    | cons a b =>
      cases b
      exact ⟨[], _, rfl, .nil, a⟩
  | l, y :: g, h => by
    cases h with
    | cons a b =>
      obtain ⟨l', q, rfl, h1, h2⟩ := paired_snoc_inv b
      exact ⟨_ :: l', q, rfl, .cons a h1, h2⟩
theorem paired_get {α β : Type} {F : α → β → Prop} : ∀ {l : List α} {g : List β} {i : Nat} {a : α}, Paired F l g → l[i]? = some a → ∃ b, g[i]? = some b ∧ F a b
  | _, _, _, _, .nil, e => by simp at e
  | _, _, 0, _, .cons r _, e => by
    simp at e
    subst e
    exact ⟨_, rfl, r⟩
  | _, _, i + 1, _, .cons _ t, e => paired_get (i := i) t (by simpa using e)
theorem paired_mem {α β : Type} {F : α → β → Prop} : ∀ {l : List α} {g : List β}, Paired F l g → ∀ a ∈ l, ∃ b ∈ g, F a b
  | _, _, .nil, a, h => absurd h (by simp)
  | _, _, .cons r t, a, h => by
    rcases List.mem_cons.mp h with e | h
    · subst e
      exact ⟨_, by simp, r⟩
    · obtain ⟨b, hb, q⟩ := paired_mem t a h
      exact ⟨b, by simp [hb], q⟩
/-- the runs are kept where their lists are -/
theorem PR.keep {H0 H H' : Hp} {qs : List Addr} {g : List Seg} (h : Paired (PR H0 H) qs g) (k : ∀ q ∈ qs, ∀ o, H q = some o → H' q = some o) : Paired (PR H0 H') qs g := by
  induction h with
  | nil => exact .nil
  | cons r t ih =>
    exact .cons ⟨r.1, k _ (by simp) _ r.2⟩ (ih fun q hq o e => k q (by simp [hq]) o e)
theorem LL.len {H0 H : Hp} {p : Addr} {g : List Seg} (h : LL H0 H p g) : ∃ qs : List Addr, H p = some (.lst (qs.map V.ref)) ∧ qs.length = g.length := by
  obtain ⟨qs, e, r, _⟩ := h.ex
  exact ⟨qs, e, r.length⟩
theorem LL.keep {H0 H H' : Hp} {p : Addr} {g : List Seg} (h : LL H0 H p g) (e : Ex H H') : LL H0 H' p g := by
  obtain ⟨qs, e1, r, np⟩ := h.ex
  exact ⟨h.new, qs, e _ _ e1, PR.keep r (fun q _ o x => e q o x), np⟩
theorem pr_dp {K : PySem.W.Frag} {H0 H : Hp} : ∀ {qs : List Addr} {g : List Seg}, Paired (PR H0 H) qs g → DpAll K H (qs.map V.ref) (dLL g)
  | _, _, .nil => .nil
  | _, _, .cons a t => .cons (.lst (.inl (.inl a.2)) (dp_ints _)) (pr_dp t)
theorem LL.dp {K : PySem.W.Frag} {H0 H : Hp} {p : Addr} {g : List Seg} (h : LL H0 H p g) : Dp K H (.ref p) (.list (dLL g)) := by
  obtain ⟨qs, e1, r, _⟩ := h.ex
  exact .lst (.inl (.inl e1)) (pr_dp r)
/-! ### _law_runs -/
abbrev sRuns : Stmt := topS 45
theorem scRuns : FnScope ["_law_there", "_law_found", "_law_plot", "_law_some"] ["_law_there"] (defScope sRuns) := ⟨rfl, rfl, rfl, by decide +kernel, rfl, by decide +kernel, by decide +kernel⟩
section
variable {P : Program} {w : World} {K : PySem.W.Frag} {mg : Str → Option Value} {base : Heap}
def spRuns (K : PySem.W.Frag) : Sp := fun vs H Q _ => ∃ (b : Bool) (a : Addr) (ns : List Int), vs = [.ref a] ∧ SqB K b H a (ns.map V.int) ∧ ns.Nodup ∧ ns.length ≤ 1000 ∧
  ∀ H' p, Ex H H' → LL H H' p (segs ns) → Q (.ref p) H'
theorem eqv_nil (g : List Seg) : PyData.eqv (.list (dLL g)) (.list []) = g.isEmpty := by
  cases g <;> simp [dLL, PyData.eqv, PyData.eqvAll]
theorem ok_runs {f : Addr} {fd : FuncData} {k : Nat} (F : Fun K "_law_runs" "_law_runs" sRuns f fd) (ms : mg "sorted" = none) : FnOk P w K mg base CX0 (k + 1) f fd ["_law_there"] (spRuns K) := by
  refine F.ok scRuns (fun vs H Q E h => ?_) (fun cdv A outer s H vs Q E hr h => ?_)
  · obtain ⟨_, _, _, rfl, _⟩ := h
    rfl
  · obtain ⟨b, a, ns, rfl, hS, hnd, hlen, q⟩ := h
    refine ⟨_, pss_cons (ps_set (i := 1) scRuns.nd rfl (.inl rfl) (pe_lst pa_nil))
      (pss_cons (ps_for PassesOwn.never rfl (pi_list (pe_callB cr_srtB (by rfl) ms (by decide +kernel) (pa_cons (pv 0) pa_nil))) (pg_name (i := 2) scRuns.nd rfl (.inl rfl))
        (pss_one (ps_if (PW.pt (pw_and (pt_cmpR (op_neD hr.units) (pv 1) (pe_lst pa_nil) (nomark _)) (pw_and1 (pt_cmpR op_eq (pe_ix ix_list (pe_ix ix_list (pv 1) (pe_un un_neg pe_int) (fun _ _ => rfl)) (pe_un un_neg pe_int) (fun _ _ => rfl)) (pe_op op_sub (pv 2) pe_int) (nomark _)))))
          (pss_cons (ps_set (i := 3) scRuns.nd rfl (.inl rfl) (pe_bm0 PySem.F.plainAttrs_list PySem.F.slot_list_pop PySem.F.type_list_pop mt_pop (pv 1)))
            (pss_one (ps_expr (pe_bm PySem.F.plainAttrs_list PySem.F.slot_list_append PySem.F.type_list_append mt_append (pv 1) (pa_cons (pe_op op_cat (pv 3) (pe_lst (pa_cons (pv 2) pa_nil))) pa_nil)))))
          (pss_one (ps_expr (pe_bm PySem.F.plainAttrs_list PySem.F.slot_list_append PySem.F.type_list_append mt_append (pv 1) (pa_cons (pe_lst (pa_cons (pv 2) pa_nil)) pa_nil)))))))
      (pss_one (ps_ret (pv 1)))), ?_⟩
    refine ⟨Nat.zero_le _, fun p hp => ?_⟩
    have x1 : Ex H (upd H p (.lst [])) := Ex.new hp
    refine ⟨_, rfl, b, a, ns, rfl, hS.ex x1, fun ks u hperm hsort hu => ?_⟩
    have x2 : Ex (upd H p (.lst [])) (upd (upd H p (.lst [])) u (.lst (ks.map V.int))) := Ex.new hu
    have npu : p ≠ u := fun e => by
      rw [← e, upd_same] at hu
      cases hu
    have rise := rise_of hnd hperm hsort
    have hseg : segs ks = segs ns := segs_eq (hperm.nodup_iff.mpr hnd) hnd fun q => hperm.mem_iff
    have hlk : ks.length ≤ 1000 := by rw [hperm.length_eq]; exact hlen
    refine ⟨u, rfl, ⟨_, .inl (.inl upd_same)⟩, for_list (xs := ks.map V.int) (fun i σ H3 => ∃ y2 y3, σ = [some (.ref a), some (.ref p), y2, y3] ∧ Ex H H3 ∧ H3 u = some (.lst (ks.map V.int)) ∧ LL H H3 p (segs (ks.take i))) ?_ ?_ ?_ ?_⟩
    · refine ⟨none, none, rfl, x1.trans x2, upd_same, hp, [], ?_, .nil, by simp⟩
      rw [upd_ne npu, upd_same]
      rfl
    · rintro i σ H3 _ ⟨_, _, _, _, h, _⟩
      exact .inl (.inl h)
    · rintro i x σ H3 hx ⟨y2, y3, rfl, e3, hu3, hL⟩
      rw [List.getElem?_map] at hx
      obtain ⟨z, hz, rfl⟩ := Option.map_eq_some_iff.mp hx
      have hi := (List.getElem?_eq_some_iff.mp hz).1
      have hstep : segs (ks.take (i + 1)) = runStep (segs (ks.take i)) z := by
        rw [take_snoc hz]
        refine segs_rise (rise.sublist (List.take_sublist _ _)) fun q hq => ?_
        have hh := rise.sublist (List.take_sublist (i + 1) ks)
        rw [take_snoc hz, List.pairwise_append] at hh
        exact hh.2.2 q hq z (by simp)
      obtain ⟨qs, eq, hpr, hpn⟩ := hL.ex
      have hlq : qs.length ≤ 1000 := by
        rw [hpr.length]
        have q1 := segs_len (ks.take i)
        rw [List.length_take] at q1
        omega
      have hpu : p ≠ u := npu
      -- found != []
      refine ⟨_, rfl, Nat.zero_le _, fun e he => ⟨_, _, (hL.keep (Ex.new he)).dp, .lst (.inl (.inl upd_same)) .nil, sh_LL _, sh_nil, _, rfl, ?_⟩⟩
      rw [eqv_nil]
      have hpe : p ≠ e := ne_of_none eq he
      have hue : u ≠ e := ne_of_none hu3 he
      have x4 : Ex H3 (upd H3 e (.lst [])) := Ex.new he
      have eq4 := x4 _ _ eq
      have hu4 := x4 _ _ hu3
      have hpr4 : Paired (PR H (upd H3 e (.lst []))) qs (segs (ks.take i)) := PR.keep hpr fun q _ o h => x4 q o h
      have e4 : Ex H (upd H3 e (.lst [])) := e3.trans x4
      generalize (upd H3 e (.lst [])) = H4 at eq4 hu4 hpr4 e4
      clear eq hpr hL x4 he hu3 e3
      -- one more run
      have fresh : ∀ (v : Addr) (H5 : Hp), H4 v = none → runStep (segs (ks.take i)) z = segs (ks.take i) ++ [(z, 0)] → H5 = upd (upd H4 v (.lst [.int z])) p (.lst (qs.map V.ref ++ [.ref v])) →
          ∃ w2 w3, [some (.ref a), some (.ref p), some (.int z), y3] = [some (V.ref a), some (.ref p), w2, w3] ∧ Ex H H5 ∧ H5 u = some (.lst (ks.map V.int)) ∧ LL H H5 p (segs (ks.take (i + 1))) := fun v H5 hv hs e5 => by
        subst e5
        have hvp : p ≠ v := ne_of_none eq4 hv
        have hvu : u ≠ v := ne_of_none hu4 hv
        refine ⟨_, y3, rfl, Ex.mut (e4.trans (Ex.new hv)) hp, ?_, hp, qs ++ [v], ?_, ?_, ?_⟩
        · rw [upd_ne (Ne.symm hpu), upd_ne hvu]
          exact hu4
        · rw [upd_same, List.map_append]
          rfl
        · rw [hstep, hs]
          refine Paired.snoc (PR.keep hpr4 fun q hq o h => ?_) ⟨fresh_back e4 hv, ?_⟩
          · rw [upd_ne (fun (zz : q = p) => hpn (zz ▸ hq)), upd_ne (ne_of_none h hv)]
            exact h
          · rw [upd_ne (Ne.symm hvp), upd_same]
            simp [sgi]
        · rw [List.mem_append]
          rintro (h | h)
          · exact hpn h
          · exact hvp (List.mem_singleton.mp h)
      rcases List.eq_nil_or_concat (segs (ks.take i)) with g0 | ⟨g', x, g1⟩
      · rw [g0]
        have hs : runStep (segs (ks.take i)) z = segs (ks.take i) ++ [(z, 0)] := by
          rw [g0]
          rfl
        refine iteF (iteF ⟨_, rfl, .inl ⟨rfl, _, .inl (.inl eq4)⟩, _, rfl, (show 1 ≤ sizeLine by decide), fun v hv => ⟨p, qs.map V.ref, .ref v, rfl, rfl, ?_, ?_, ?_⟩⟩)
        · rw [upd_ne (ne_of_none eq4 hv)]
          exact eq4
        · rw [List.length_map]
          exact small1000 hlq
        · exact fresh v _ hv hs rfl
      · rw [List.concat_eq_append] at g1
        obtain ⟨s, n⟩ := x
        rw [g1] at hpr4
        obtain ⟨qs', q', rfl, hp1, hp2⟩ := paired_snoc_inv hpr4
        have hne : (segs (ks.take i)).isEmpty = false := by
          rw [g1]
          simp
        rw [hne]
        have at1 : atI ((qs' ++ [q']).map V.ref) (-1) = some (.ref q') := by
          rw [List.map_append]
          exact atI_last _ _
        have at2 : atI ((sgi (s, n)).map V.int) (-1) = some (.int (s + n)) := by
          have h0 := sgi_last (s, n)
          obtain ⟨l0, hl0⟩ := List.getLast?_eq_some_iff.mp h0
          rw [hl0, List.map_append]
          exact atI_last _ _
        refine iteT ⟨_, rfl, 1, rfl, p, _, -1, _, rfl, rfl, .inl (.inl eq4), at1, 1, rfl, q', _, -1, _, rfl, rfl, .inl (.inl hp2.2), at2, _, rfl, _, _, rfl, rfl, rfl, _, rfl, ite2 (fun hc => ?_) (fun hc => ?_)⟩
        · have hc' : s + (n : Int) = z - 1 := V.int.inj (of_decide_eq_true hc)
          have hs : runStep (segs (ks.take i)) z = g' ++ [(s, n + 1)] := by
            rw [g1]
            unfold runStep
            rw [getLast_snoc]
            show (if s + n = z - 1 then (g' ++ [(s, n)]).dropLast ++ [(s, n + 1)] else _) = _
            rw [if_pos hc', List.dropLast_concat]
          have hq'p : q' ≠ p := fun z => hpn (by simp [z])
          refine ⟨_, rfl, .inl ⟨rfl, _, .inl (.inl eq4)⟩, p, _, .ref q', rfl, rfl, eq4, by simp, ?_⟩
          have dl : ((qs' ++ [q']).map V.ref).dropLast = qs'.map V.ref := by
            rw [List.map_append]
            exact List.dropLast_concat
          rw [dl]
          refine ⟨_, rfl, .inl ⟨rfl, _, .inl (.inl upd_same)⟩, _, rfl, _, rfl, (show 1 ≤ sizeLine by decide), fun v hv => ?_⟩
          have hvp : p ≠ v := fun e => by
            rw [← e, upd_same] at hv
            cases hv
          have hv4 : H4 v = none := by
            rw [upd_ne (Ne.symm hvp)] at hv
            exact hv
          have hq'v : q' ≠ v := ne_of_none hp2.2 hv4
          refine ⟨q', v, (sgi (s, n)).map V.int, _, rfl, rfl, ?_, upd_same, ?_, fun t ht => ?_⟩
          · rw [upd_ne hq'v, upd_ne hq'p]
            exact hp2.2
          · rw [List.length_map, sgi_len]
            show n + 1 + 1 ≤ sizeLine
            have h7 : n + 1 ≤ size (segs (ks.take i)) := size_mem (x := (s, n)) (by rw [g1]; simp)
            rw [segs_size, List.length_take] at h7
            exact Nat.le_of_lt (small1000 (by omega))
          · have htv : v ≠ t := ne_of_none upd_same ht
            have htp : p ≠ t := by
              refine ne_of_none (o := .lst (qs'.map V.ref)) ?_ ht
              rw [upd_ne hvp, upd_same]
            have ht4 : H4 t = none := by
              rw [upd_ne (Ne.symm htv), upd_ne (Ne.symm htp)] at ht
              exact ht
            refine ⟨p, qs'.map V.ref, .ref t, rfl, rfl, ?_, ?_, ?_⟩
            · rw [upd_ne htp, upd_ne hvp, upd_same]
            · rw [List.length_map]
              simp at hlq
              exact small1000 (by omega)
            · have hut : u ≠ t := ne_of_none hu4 ht4
              have huv : u ≠ v := ne_of_none hu4 hv4
              refine ⟨_, _, rfl, ?_, ?_, hp, qs' ++ [t], ?_, ?_, ?_⟩
              · refine Ex.mut ?_ hp
                intro c o hco
                have hc4 := e4 c o hco
                rw [upd_ne (ne_of_none hc4 ht4), upd_ne (ne_of_none hc4 hv4), upd_ne (ne_of_none hco hp)]
                exact hc4
              · rw [upd_ne (Ne.symm hpu), upd_ne hut, upd_ne huv, upd_ne (Ne.symm hpu)]
                exact hu4
              · rw [upd_same, List.map_append]
                rfl
              · rw [hstep, hs]
                refine Paired.snoc (PR.keep hp1 fun q hq o h => ?_) ⟨fresh_back e4 ht4, ?_⟩
                · have hqp : q ≠ p := fun (zz : q = p) => hpn (by rw [← zz]; simp [hq])
                  rw [upd_ne hqp, upd_ne (ne_of_none h ht4), upd_ne (ne_of_none h hv4), upd_ne hqp]
                  exact h
                · rw [upd_ne (Ne.symm htp), upd_same]
                  have e9 := sgi_snoc s n
                  rw [show s + (n : Int) + 1 = z by omega] at e9
                  rw [← e9, List.map_append]
                  rfl
              · rw [List.mem_append]
                rintro (h | h)
                · exact hpn (by simp [h])
                · exact htp (List.mem_singleton.mp h)
        · have hc' : ¬ s + (n : Int) = z - 1 := fun h => hc (decide_eq_true (by rw [h]))
          have hs : runStep (segs (ks.take i)) z = segs (ks.take i) ++ [(z, 0)] := by
            rw [g1]
            unfold runStep
            rw [getLast_snoc]
            show (if s + n = z - 1 then _ else _) = _
            rw [if_neg hc']
          refine ⟨_, rfl, .inl ⟨rfl, _, .inl (.inl eq4)⟩, _, rfl, (show 1 ≤ sizeLine by decide), fun v hv => ⟨p, (qs' ++ [q']).map V.ref, .ref v, rfl, rfl, ?_, ?_, ?_⟩⟩
          · rw [upd_ne (ne_of_none eq4 hv)]
            exact eq4
          · rw [List.length_map]
            exact small1000 hlq
          · rw [← g1] at hpr4
            exact fresh v _ hv hs rfl
    · rintro σ H3 ⟨y2, y3, rfl, e3, hu3, hL⟩
      rw [List.take_of_length_le (by simp), hseg] at hL
      exact ⟨_, rfl, q H3 p e3 hL⟩
end
end Og

namespace Og
open PySem PySem.Spec PyProof.Rows L2 OgR Evl OgM
theorem at_head {x : Seg} : atI ((sgi x).map V.int) 0 = some (.int x.1) := by
  refine atI_nat (j := 0) ?_
  rw [List.getElem?_map, sgi_get (Nat.zero_le _)]
  simp
theorem at_end {x : Seg} : atI ((sgi x).map V.int) (-1) = some (.int (x.1 + x.2)) := by
  obtain ⟨l0, hl0⟩ := List.getLast?_eq_some_iff.mp (sgi_last x)
  rw [hl0, List.map_append]
  exact atI_last _ _
theorem take_next {α : Type} {g : List α} {i : Nat} {x : α} (e : g[i]? = some x) : g.take (i + 1) = g.take i ++ [x] := by
  rw [List.take_add_one, e]
  rfl
section
variable {P : Program} {w : World} {K : PySem.W.Frag} {mg : Str → Option Value} {base : Heap}
def spHoles (K : PySem.W.Frag) : Sp := fun vs H Q _ => ∃ (b : Bool) (a : Addr) (c : Int) (ns : List Int), vs = [.int c, .ref a] ∧ SqB K b H a (ns.map V.int) ∧ ns.Nodup ∧ ns.length ≤ 900 ∧
  ∀ H' p, Ex H H' → H p = none → H' p = some (.tup ((holes c (segs ns)).map V.int)) → Q (.ref p) H'
end
end Og

namespace Og
open PySem PySem.Spec PyProof.Rows L2 OgR Evl OgM
def wstr : Wd → Str
  | .new => "new"
  | .beside => "beside"
  | .between => "between"
theorem Cw.new {H H' : Hp} {f : Nat → Bool} {v : Nat → V} {D T : Addr} {i : Nat} {o : HO} (h : Cw H f v D i H') (hT : H' T = none) : Cw H f v D i (upd H' T o) := by
  obtain ⟨h1, h2, h3⟩ := h
  exact ⟨h1, h2.trans (Ex.new hT), by rw [upd_ne (ne_of_none h3 hT)]; exact h3⟩
theorem ixL (K : PySem.W.Frag) {X : Cx} (h : X.K = K := by rfl) : IxR X (rIxL K) := by
  subst h
  exact ix_list
section
variable {P : Program} {w : World} {K : PySem.W.Frag} {mg : Str → Option Value} {base : Heap}
def spPick (K : PySem.W.Frag) : Sp := fun vs H Q _ => ∃ (b : Bool) (a : Addr) (p : Int) (ns : List Int), vs = [.int p, .ref a] ∧ SqB K b H a (ns.map V.int) ∧ ns.Nodup ∧ p ∉ ns ∧ ns.length ≤ 900 ∧
  ∀ H' t, Ex H H' → H t = none → H' t = some (.tup [.str (wstr (pick p (segs ns)).1), .int ((pick p (segs ns)).2 : Nat)]) → Q (.ref t) H'
end
end Og

namespace Og
open PySem PySem.Spec PyProof.Rows L2 OgR Evl OgM
theorem slT (K : PySem.W.Frag) {X : Cx} (h : X.K = K := by rfl) : SlR X (rSlT K) := by
  subst h
  exact sl_tup
theorem cut_to (xs : List V) (j : Nat) : cutV xs none (some (j : Int)) = xs.take j := by
  unfold cutV
  rw [HT.sIx_none, HT.sIx_nat, List.drop_zero, Nat.sub_zero]
  by_cases h : j ≤ xs.length
  · rw [Nat.min_eq_left h]
  · rw [Nat.min_eq_right (by omega), List.take_of_length_le (Nat.le_refl _), List.take_of_length_le (by omega)]
theorem cut_from (xs : List V) (j : Nat) : cutV xs (some (j : Int)) none = xs.drop j := by
  unfold cutV
  rw [HT.sIx_none, HT.sIx_nat]
  by_cases h : j ≤ xs.length
  · rw [Nat.min_eq_left h, List.take_of_length_le (by rw [List.length_drop]; exact Nat.le_refl _)]
  · rw [Nat.min_eq_right (by omega), Nat.sub_self, List.take_zero, List.drop_of_length_le (by omega)]
/-- choices, as a list or tuple (b) of lists or tuples (b') -/
def chV (c : Ch) : List V := [.str (wstr c.1), .int (c.2 : Nat)]
def ChIs (K : PySem.W.Frag) (b b' : Bool) (H : Hp) (a : Addr) (cs : List Ch) : Prop := ∃ ts : List Addr, SqB K b H a (ts.map V.ref) ∧ Paired (fun t c => SqB K b' H t (chV c)) ts cs
theorem ChIs.ex {K : PySem.W.Frag} {b b' : Bool} {H H' : Hp} {a : Addr} {cs : List Ch} (e : Ex H H') (h : ChIs K b b' H a cs) : ChIs K b b' H' a cs := by
  obtain ⟨ts, h1, h2⟩ := h
  exact ⟨ts, h1.ex e, h2.mono fun _ _ x => x.ex e⟩
section
variable {P : Program} {w : World} {K : PySem.W.Frag} {mg : Str → Option Value} {base : Heap}
def spPicks (K : PySem.W.Frag) : Sp := fun vs H Q _ => ∃ (a : Addr) (ns : List Int), vs = [.ref a] ∧ SqT K H a (ns.map V.int) ∧ ns.Nodup ∧ ns.length ≤ 900 ∧
  ∀ H' t, Ex H H' → ChIs K true true H' t (picks ns) → Q (.ref t) H'
theorem nodup_fresh {row : List Int} (h : row.Nodup) {i : Nat} {p : Int} (e : row[i]? = some p) : p ∉ row.take i := by
  intro m
  obtain ⟨j, hj⟩ := List.getElem?_of_mem m
  rw [List.getElem?_take] at hj
  split at hj
  · rename_i lt
    obtain ⟨a, ea⟩ := List.getElem?_eq_some_iff.mp e
    obtain ⟨b, eb⟩ := List.getElem?_eq_some_iff.mp hj
    have := (List.getElem_inj h).mp (eb.trans ea.symm)
    omega
  · cases hj
end
end Og

namespace Og
open PySem PySem.Spec PyProof.Rows L2 OgR Evl OgM
theorem opIn (K : PySem.W.Frag) {X : Cx} (h : X.K = K := by rfl) : OpR X (compareOp .In) (rIn K false) := by
  subst h
  exact op_in_seq
/-- all but l as it was -/
def ExB (l : Addr) (H H' : Hp) : Prop := ∀ a o, a ≠ l → H a = some o → H' a = some o
theorem ExB.of {l : Addr} {H H' : Hp} (e : Ex H H') : ExB l H H' := fun a o _ h => e a o h
theorem ExB.trans {l : Addr} {H H1 H2 : Hp} (a : ExB l H H1) (b : ExB l H1 H2) : ExB l H H2 := fun x o n h => b x o n (a x o n h)
theorem ExB.box {l : Addr} {H : Hp} {o : HO} : ExB l H (upd H l o) := fun x u n h => by
  rw [upd_ne n]
  exact h
theorem ExB.mut {l p : Addr} {H H' : Hp} {o : HO} (e : ExB l H H') (h : H p = none) : ExB l H (upd H' p o) := fun x u n hx => by
  rw [upd_ne (ne_of_none hx h)]
  exact e x u n hx
theorem BoxAt.ex {H H' : Hp} {l : Addr} {c : Int} (h : BoxAt H l c) (e : Ex H H') : BoxAt H' l c := by
  obtain ⟨a, b, h1, h2⟩ := h
  exact ⟨a, b, e _ _ h1, h2⟩
theorem BoxAt.at {H : Hp} {l : Addr} {c : Int} (h : BoxAt H l c) : ∃ xs, H l = some (.lst xs) := by
  obtain ⟨a, b, h1, _⟩ := h
  exact ⟨_, h1⟩
theorem BoxAt.upd {H : Hp} {l p : Addr} {c : Int} {o : HO} (h : BoxAt H l c) (n : l ≠ p) : BoxAt (upd H p o) l c := by
  obtain ⟨a, b, h1, h2⟩ := h
  exact ⟨a, b, by rw [upd_ne n]; exact h1, h2⟩
abbrev sQueue : Stmt := topS 47
theorem scQueue : FnScope ["_law_box_here", "_law_count", "_law_size", "_law_left", "_law_found", "_law_near", "_law_spot", "_law_some", "_law_plot"] ["_law_box_here", "_law_count", "_law_size"] (defScope sQueue) := ⟨rfl, rfl, rfl, by decide +kernel, rfl, by decide +kernel, by decide +kernel⟩
section
variable {P : Program} {w : World} {K : PySem.W.Frag} {mg : Str → Option Value} {base : Heap}
def spQueue : Sp := fun vs H Q _ => ∃ (l : Addr) (c : Int) (n m : Nat), vs = [.ref l, .int n, .int m] ∧ BoxAt H l c ∧ n ≤ 100 ∧ m ≤ n ∧ c ≤ 900000 ∧
  ∀ H' t row c', ExB l H H' → BoxAt H' l c' → c' ≤ c + 1 + 2 * m → OgM.Row n row → row.length = m → H t = none → H' t = some (.tup (row.map V.int)) → Q (.ref t) H'
structure QInv (H : Hp) (l lf fo : Addr) (B : Int) (n i : Nat) (H3 : Hp) (c3 : Int) (lft row : List Int) : Prop where
  ex : ExB l H H3
  box : BoxAt H3 l c3
  hc : c3 ≤ B
  atL : H3 lf = some (.lst (lft.map V.int))
  atF : H3 fo = some (.lst (row.map V.int))
  nlf : lf ≠ l
  nfo : fo ≠ l
  nlo : lf ≠ fo
  fof : H fo = none
  rok : OgM.Row n row
  len : row.length = i
  nd : lft.Nodup
  mem : ∀ p, p ∈ lft ↔ (0 ≤ p ∧ p < n) ∧ p ∉ row
  cnt : lft.length + i = n
section
variable {H : Hp} {l lf fo : Addr} {B : Int} {n i : Nat} {H3 : Hp} {c3 : Int} {lft row : List Int}
theorem QInv.exx {H4 : Hp} (h : QInv H l lf fo B n i H3 c3 lft row) (e : Ex H3 H4) : QInv H l lf fo B n i H4 c3 lft row :=
  { h with ex := h.ex.trans (.of e), box := h.box.ex e, atL := e _ _ h.atL, atF := e _ _ h.atF }
theorem QInv.boxed {c4 B' : Int} {o : HO} (h : QInv H l lf fo B n i H3 c3 lft row) (b : BoxAt (L2.upd H3 l o) l c4) (hb : c4 ≤ B') : QInv H l lf fo B' n i (L2.upd H3 l o) c4 lft row :=
  { h with ex := h.ex.trans .box, box := b, hc := hb, atL := by rw [upd_ne h.nlf]; exact h.atL, atF := by rw [upd_ne h.nfo]; exact h.atF }
theorem QInv.step {D : Addr} {z B' : Int} (h : QInv H l lf fo B n i H3 c3 lft row) (hb : c3 ≤ B') (hz : z ∈ lft) (hD : (upd H3 fo (.lst ((row ++ [z]).map V.int))) D = none) {H4 : Hp}
    (e : Ex (upd H3 fo (.lst ((row ++ [z]).map V.int))) H4) (at4 : H4 D = some (.lst ((lft.filter (· != z)).map V.int))) : QInv H l D fo B' n (i + 1) H4 c3 (lft.filter (· != z)) (row ++ [z]) := by
  have hz' := (h.mem z).mp hz
  obtain ⟨xs, hxl⟩ := h.box.at
  have b5 : BoxAt (upd H3 fo (.lst ((row ++ [z]).map V.int))) l c3 := h.box.upd (Ne.symm h.nfo)
  obtain ⟨xs5, hx5⟩ := b5.at
  refine ⟨(h.ex.mut h.fof).trans (.of e), b5.ex e, hb, at4, e _ _ upd_same, Ne.symm (ne_of_none hx5 hD), h.nfo, Ne.symm (ne_of_none upd_same hD), h.fof, ⟨?_, ?_, ?_⟩, ?_, h.nd.filter _, fun p => ?_, ?_⟩
  · rw [List.nodup_append]
    refine ⟨h.rok.nd, by simp, fun a ha b hb' e' => ?_⟩
    rw [List.mem_singleton.mp hb'] at e'
    subst e'
    exact hz'.2 ha
  · intro p hp
    rcases List.mem_append.mp hp with hp | hp
    · exact h.rok.lo p hp
    · rw [List.mem_singleton.mp hp]
      exact hz'.1.1
  · intro p hp
    rcases List.mem_append.mp hp with hp | hp
    · exact h.rok.hi p hp
    · rw [List.mem_singleton.mp hp]
      exact hz'.1.2
  · rw [List.length_append, h.len]
    rfl
  · rw [List.mem_filter, h.mem p]
    simp
    exact ⟨fun ⟨⟨a, b⟩, c⟩ => ⟨a, b, c⟩, fun ⟨a, b, c⟩ => ⟨⟨a, b⟩, c⟩⟩
  · have := filter_ne_len h.nd hz
    have := h.cnt
    omega
end
theorem eq_bool (a b : Int) : decide (V.int a = V.int b) = decide (a = b) := by
  by_cases h : a = b
  · rw [decide_eq_true h, decide_eq_true (congrArg V.int h)]
  · rw [decide_eq_false h, decide_eq_false fun u => h (V.int.inj u)]
theorem ne_bool (a b : Int) : (!decide (V.int a = V.int b)) = (a != b) := by
  rw [eq_bool]
  by_cases h : a = b
  · rw [decide_eq_true h]
    simp [h]
  · rw [decide_eq_false h]
    simp [h]
theorem flat_ints (l : List Int) : (l.map V.int).all flatV = true := by
  rw [List.all_map, List.all_eq_true]
  exact fun x _ => rfl
theorem given_ints (P : Int → Bool) (l : List Int) : given (l.map V.int).length (fun i => P (l.getD i 0)) (fun i => V.int (l.getD i 0)) = (l.filter P).map V.int := by
  unfold given
  rw [List.length_map, ← range_filter_map P 0 l, List.map_map]
  rfl
theorem ok_queue {f fT fO : Addr} {fd fdT fdO : FuncData} (F : Fun K "_law_queue" "_law_queue" sQueue f fd) (FT : Fun K "_law_take" "_law_take" sTake fT fdT) (bT : Binds K fdT ["_law_box_here", "_law_below"] []) (gT : mg "_law_take" = some (.ref fT))
    (FO : Fun K "_law_of" "_law_of" sOf fO fdO) (bO : Binds K fdO ["_law_box_here", "_law_some"] []) (gO : mg "_law_of" = some (.ref fO))
    (ml : mg "len" = none) (mli : mg "list" = none) (mr : mg "range" = none) (mt : mg "tuple" = none) : FnOk P w K mg base CX0 3 f fd ["_law_box_here", "_law_count", "_law_size"] spQueue := by
  have GT : FnOk P w K mg base CX0 1 fT fdT ["_law_box_here", "_law_below"] spTake := ok_take FT
  have GO : FnOk P w K mg base CX0 2 fO fdO ["_law_box_here", "_law_some"] (spOf K) := ok_of FO FT bT gT ml
  refine F.ok scQueue (fun vs H Q E h => ?_) (fun cdv A outer s H vs Q E hr h => ?_)
  · obtain ⟨_, _, _, _, rfl, _⟩ := h
    rfl
  · obtain ⟨l, c, n, m, rfl, hB, hn, hm, hc, q⟩ := h
    have hr1 := hr.mono (show 1 ≤ 2 by decide)
    refine ⟨_, pss_cons (ps_asg (pe_tup (pa_cons (pe_listRg (by rfl) (by rfl) mli (prg_1 (by rfl) mr (pv 1))) (pa_cons (pe_lst pa_nil) (pa_cons (pe_call GT hr1 (by rfl) gT FT.kp bT .nil pass0 (pa_cons (pv 0) (pa_cons pe_int pa_nil))) pa_nil))))
        (pg_tup rfl (pgs_cons (pg_name (i := 3) scQueue.nd rfl (.inl rfl)) (pgs_cons (pg_name (i := 4) scQueue.nd rfl (.inr rfl)) (pgs_cons (pg_name (i := 5) scQueue.nd rfl (.inl rfl)) pgs_nil)))))
      (pss_cons (ps_for PassesOwn.never rfl (pi_range1 rfl mr (pa_cons (pv 2) pa_nil)) (pg_name (i := 6) scQueue.nd rfl (.inl rfl))
        (pss_cons (ps_setLc (i := 7) (own := [("_law_plot", 8)]) (g := gName 8) (by rfl) scQueue.nd rfl rfl (sw_true rfl rfl rfl (by decide +kernel)) (pi_list (pv 3))
            (blkOk_by (own := [("_law_plot", 8)]) (N := ["_law_box_here", "_law_count", "_law_size", "_law_left", "_law_found", "_law_near", "_law_spot", "_law_some", "_law_plot"]) (sc := defScope sQueue) (by decide +kernel))
            (fun _ _ _ _ _ => pg_name (i := 8) scQueue.nd rfl (Or.inl rfl) (hf := Or.inr rfl))
            (fun _ _ _ _ _ => pts_one (PW.pt (pw_or (pt_cmpR (opIn K) (pe_op op_sub (pv 8) pe_int) (pv 4) (by rfl)) (pw_or1 (pt_cmpR (opIn K) (pe_op op_add (pv 8) pe_int) (pv 4) (by rfl))))))
            (fun _ _ _ _ _ => pv 8))
        (pss_cut (ps_set (i := 7) scQueue.nd rfl (.inl rfl) (pe_ifExp (PW.pt (pw_and (pt_cmpR op_eq (pv 5) pe_int (nomark _)) (pw_and (pt_cmpR (op_neD hr.units) (pv 7) (pe_lst pa_nil) (nomark _)) (pw_and1 (pt_cmpR op_gt (pe_call GT hr1 (by rfl) gT FT.kp bT .nil pass0 (pa_cons (pv 0) (pa_cons pe_int pa_nil))) pe_int (nomark _)))))) (pv 7) (pv 3)))
        (pss_cons (ps_expr (pe_bm PySem.F.plainAttrs_list PySem.F.slot_list_append PySem.F.type_list_append mt_append (pv 4) (pa_cons (pe_call GO hr (by rfl) gO FO.kp bO .nil pass0 (pa_cons (pv 0) (pa_cons (pv 7) pa_nil))) pa_nil)))
        (pss_one (ps_setLc (i := 3) (own := [("_law_plot", 8)]) (g := gName 8) (by rfl) scQueue.nd rfl rfl (sw_true rfl rfl rfl (by decide +kernel)) (pi_list (pv 3))
            (blkOk_by (own := [("_law_plot", 8)]) (N := ["_law_box_here", "_law_count", "_law_size", "_law_left", "_law_found", "_law_near", "_law_spot", "_law_some", "_law_plot"]) (sc := defScope sQueue) (by decide +kernel))
            (fun _ _ _ _ _ => pg_name (i := 8) scQueue.nd rfl (Or.inl rfl) (hf := Or.inr rfl))
            (fun _ _ _ _ _ => pts_one (pt_cmpR op_ne (pv 8) (pe_ix (ixL K) (pv 4) (pe_un un_neg pe_int) (fun _ _ => rfl)) (nomark _)))
            (fun _ _ _ _ _ => pv 8)))))))
      (pss_one (ps_ret (pe_callTy call_tuple_of (by rfl) mt (by decide +kernel) (pa_cons (pv 4) pa_nil))))), ?_⟩
    refine ⟨_, rfl, n, rfl, RgOk.of_le (by omega) (by omega) (by omega) (by omega), fun lf hlf => ⟨Nat.zero_le _, fun fo hfo => ?_⟩⟩
    obtain ⟨bx, hbx⟩ := hB.at
    have nl1 : l ≠ lf := ne_of_none hbx hlf
    have x1 : Ex H (upd H lf (.lst (rgV 0 n))) := Ex.new hlf
    have nl2 : l ≠ fo := ne_of_none (x1 _ _ hbx) hfo
    have x2 : Ex H (upd (upd H lf (.lst (rgV 0 n))) fo (.lst [])) := x1.trans (Ex.new hfo)
    have nlo : lf ≠ fo := ne_of_none upd_same hfo
    have hrg : rgV 0 n = ((List.range n).map fun (i : Nat) => (i : Int)).map V.int := by
      unfold rgV
      rw [List.map_map, Int.sub_zero, Int.toNat_natCast]
      refine List.map_congr_left fun a _ => ?_
      show V.int (0 + (a : Int)) = V.int a
      rw [Int.zero_add]
    refine ⟨_, rfl, l, c, 3, rfl, hB.ex x2, by decide, by decide, by omega, fun near xs c1 r0 r1 hB1 hc1 => ⟨(show 3 ≤ sizeLine by decide), fun T hT => ⟨T, _, rfl, .inl (.inl upd_same), rfl, _, _, rfl, _, _, rfl, _, _, rfl, rfl, ?_⟩⟩⟩
    have Q0 : QInv H l lf fo (c + 1) n 0 (upd (upd (upd H lf (.lst (rgV 0 n))) fo (.lst [])) l (.lst xs)) c1 ((List.range n).map fun (i : Nat) => (i : Int)) [] := by
      refine ⟨(ExB.of x2).trans .box, hB1, hc1, ?_, ?_, Ne.symm nl1, Ne.symm nl2, nlo, fresh_back x1 hfo, ⟨List.nodup_nil, by simp, by simp⟩, rfl, ?_, fun p => ?_, by simp⟩
      · rw [upd_ne (Ne.symm nl1), upd_ne nlo, upd_same, hrg]
      · rw [upd_ne (Ne.symm nl2), upd_same]
        rfl
      · rw [List.nodup_iff_pairwise_ne, List.pairwise_map]
        exact List.nodup_range.imp fun {a b} h z => h (by omega)
      · simp only [List.mem_map, List.mem_range]
        constructor
        · rintro ⟨a, ha, rfl⟩
          exact ⟨⟨by omega, by omega⟩, by simp⟩
        · rintro ⟨⟨h1, h2⟩, _⟩
          exact ⟨p.toNat, by omega, by omega⟩
    replace Q0 := Q0.exx (Ex.new (o := .tup [.ref lf, .ref fo, .int near]) hT)
    refine ⟨_, rfl, m, rfl, by omega, by omega, for_range (lo := 0) (n := (m : Int).toNat) (fun i σ H3 => ∃ lf' y6 y7 c3 lft row, σ = [some (.ref l), some (.int n), some (.int m), some (.ref lf'), some (.ref fo), some (.int near), y6, y7, none] ∧ QInv H l lf' fo (c + 1 + 2 * i) n i H3 c3 lft row) ?_ ?_ ?_⟩
    · exact ⟨lf, none, none, c1, _, _, rfl, { Q0 with hc := by have := Q0.hc; omega }⟩
    · rintro i σ H3 hi ⟨lf', y6, y7, c3, lft, row, rfl, QI⟩
      have him : i < m := by omega
      have hlen : lft.length ≤ 100 := by have := QI.cnt; omega
      have hll : 0 < lft.length := by have := QI.cnt; omega
      have hi1 : ∀ {j : Nat} {x : V}, (lft.map V.int)[j]? = some x → j < 50000 ∧ x = .int (lft.getD j 0) := fun {j x} h => by
        have h2 := (List.getElem?_eq_some_iff.mp h).1
        rw [List.length_map] at h2
        refine ⟨by omega, ?_⟩
        rw [List.getElem?_map, List.getElem?_eq_getElem h2] at h
        rw [List.getD_eq_getElem?_getD, List.getElem?_eq_getElem h2]
        exact (Option.some.inj h).symm
      refine ⟨_, rfl, lf', rfl, ⟨_, .inl (.inl QI.atL)⟩, fun D hD => lc_list (xs := lft.map V.int) (Cw H3 (fun j => (fun p : Int => inV (.int (p - 1)) (row.map V.int) || inV (.int (p + 1)) (row.map V.int)) (lft.getD j 0)) (fun j => .int (lft.getD j 0)) D) ⟨hD, Ex.new hD, upd_same⟩ (fun j H' _ c => .inl (.inl (c.2.1 _ _ QI.atL))) (fun j x H' hx c => ?_) (fun H4 c => ?_)⟩
      · obtain ⟨hj, rfl⟩ := hi1 hx
        refine ⟨rfl, cw_turn c hj (fun H5 e5 Q' k' => ?_) (fun _ H5 e5 Q' k' => ⟨_, rfl, k' H5 (Ex.refl _)⟩)⟩
        have k2 := k' H5 (Ex.refl H5)
        have hf5 := e5 _ _ QI.atF
        refine ⟨_, rfl, _, _, rfl, rfl, _, rfl, fo, row.map V.int, rfl, .inl (.inl (.inl hf5)), rfl, flat_ints row, _, rfl, ?_⟩
        simp only at k2
        show if inV (V.int (lft.getD j 0 - 1)) (row.map V.int) = true then _ else _
        cases hb : inV (V.int (lft.getD j 0 - 1)) (row.map V.int) with
        | true =>
          rw [hb] at k2
          exact iteT k2
        | false =>
          rw [hb] at k2
          exact iteF ⟨_, rfl, _, _, rfl, rfl, _, rfl, fo, row.map V.int, rfl, .inl (.inl (.inl hf5)), rfl, flat_ints row, _, rfl, k2⟩
      · obtain ⟨d1, d2, d3⟩ := c
        rw [given_ints (fun p : Int => inV (.int (p - 1)) (row.map V.int) || inV (.int (p + 1)) (row.map V.int))] at d3
        have Q4 := QI.exx d2
        have hsub : ∀ z ∈ lft.filter (fun p : Int => inV (.int (p - 1)) (row.map V.int) || inV (.int (p + 1)) (row.map V.int)), z ∈ lft := fun z hz => (List.mem_filter.mp hz).1
        have hsl : (lft.filter (fun p : Int => inV (.int (p - 1)) (row.map V.int) || inV (.int (p + 1)) (row.map V.int))).length ≤ lft.length := List.length_filter_le _ _
        generalize lft.filter (fun p : Int => inV (.int (p - 1)) (row.map V.int) || inV (.int (p + 1)) (row.map V.int)) = zs at d3 hsub hsl
        obtain ⟨b4, hb4⟩ := Q4.box.at
        obtain ⟨b3, hb3⟩ := QI.box.at
        have nDl : D ≠ l := Ne.symm (ne_of_none hb3 d1)
        -- the mid point: some
        refine ⟨fun σ' H5 => ∃ (sm : Addr) (y6 : Option V) (ys : List Int) (c5 : Int), σ' = [some (.ref l), some (.int n), some (.int m), some (.ref lf'), some (.ref fo), some (.int near), y6, some (.ref sm), none] ∧ QInv H l lf' fo (c + 2 + 2 * i) n i H5 c5 lft row ∧ H5 sm = some (.lst (ys.map V.int)) ∧ sm ≠ l ∧ (∀ z ∈ ys, z ∈ lft) ∧ 1 ≤ ys.length ∧ ys.length ≤ 1000, ?_, ?_⟩
        · refine ⟨_, rfl, rfl, _, rfl, ite2 (fun e => ?_) (fun e => ?_)⟩
          · refine ⟨_, rfl, Nat.zero_le _, fun u hu => ⟨_, _, .lst (.inl (.inl (Ex.new hu _ _ d3))) (dp_ints zs), .lst (.inl (.inl upd_same)) .nil, (sh_ints zs).1, sh_nil, _, rfl, ?_⟩⟩
            have x5 : Ex H4 (upd H4 u (.lst [])) := Ex.new hu
            have Q5 := Q4.exx x5
            have d5 := x5 _ _ d3
            generalize upd H4 u (.lst []) = H5 at Q5 d5
            cases zs with
            | nil => exact iteF (iteF ⟨_, rfl, lf', _, lft, c3, rfl, { Q5 with hc := by have := Q5.hc; omega }, Q5.atL, Q5.nlf, fun z hz => hz, hll, by omega⟩)
            | cons z0 zr =>
              have hne : (!PyData.eqv (.list (dInts (z0 :: zr))) (.list [])) = true := by simp [dInts, PyData.eqv, PyData.eqvAll]
              rw [hne]
              refine iteT ⟨_, rfl, l, c3, 4, rfl, Q5.box, by decide, by decide, by have := Q5.hc; omega, fun r ys c' r0 r1 hB' hc' => ⟨_, _, rfl, rfl, _, rfl, ?_⟩⟩
              have Q6 : QInv H l lf' fo (c + 2 + 2 * i) n i (upd H5 l (.lst ys)) c' lft row := Q5.boxed hB' (by have := Q5.hc; omega)
              refine ite2 (fun e => ⟨_, rfl, D, _, z0 :: zr, c', rfl, Q6, ?_, nDl, hsub, by simp, by omega⟩) (fun e => ⟨_, rfl, lf', _, lft, c', rfl, Q6, Q6.atL, Q6.nlf, fun z hz => hz, hll, by omega⟩)
              rw [upd_ne nDl]
              exact d5
          · exact iteF ⟨_, rfl, lf', _, lft, c3, rfl, { Q4 with hc := by have := Q4.hc; omega }, Q4.atL, Q4.nlf, fun z hz => hz, hll, by omega⟩
        · rintro σ' H5 ⟨sm, y6', ys, c5, rfl, Q5, hsm, nsm, hys, hy1, hy2⟩
          refine ⟨_, rfl, .inl ⟨rfl, _, .inl (.inl Q5.atF)⟩, _, rfl, _, rfl, l, sm, c5, false, ys.map V.int, rfl, Q5.box, Ne.symm nsm, .inl (.inl hsm), by rw [List.length_map]; exact hy1, by rw [List.length_map]; exact hy2, by have := Q5.hc; omega, fun r x us c' hx hB' hc' => ?_⟩
          rw [List.getElem?_map] at hx
          obtain ⟨z, hz, rfl⟩ := Option.map_eq_some_iff.mp hx
          have hzl : z ∈ lft := hys z (List.mem_of_getElem? hz)
          have Q6 : QInv H l lf' fo (c + 3 + 2 * i) n i (upd H5 l (.lst us)) c' lft row := Q5.boxed hB' (by have := Q5.hc; omega)
          refine ⟨fo, row.map V.int, _, rfl, rfl, Q6.atF, ?_, ?_⟩
          · rw [List.length_map, Q6.len]
            exact small1000 (by omega)
          · have hmap : row.map V.int ++ [V.int z] = (row ++ [z]).map V.int := by
              rw [List.map_append]
              rfl
            rw [hmap]
            generalize upd H5 l (.lst us) = H6 at Q6
            have atL7 : (upd H6 fo (.lst ((row ++ [z]).map V.int))) lf' = some (.lst (lft.map V.int)) := by
              rw [upd_ne Q6.nlo]
              exact Q6.atL
            refine ⟨_, rfl, lf', rfl, ⟨_, .inl (.inl atL7)⟩, fun D2 hD2 => lc_list (xs := lft.map V.int) (Cw (upd H6 fo (.lst ((row ++ [z]).map V.int))) (fun j => (fun p : Int => p != z) (lft.getD j 0)) (fun j => .int (lft.getD j 0)) D2) ⟨hD2, Ex.new hD2, upd_same⟩ (fun j H' _ c => .inl (.inl (c.2.1 _ _ atL7))) (fun j x H' hx c => ?_) (fun H7 c => ?_)⟩
            · obtain ⟨hj, rfl⟩ := hi1 hx
              refine ⟨rfl, cw_turn c hj (fun H8 e8 Q' k' => ?_) (fun _ H8 e8 Q' k' => ⟨_, rfl, k' H8 (Ex.refl _)⟩)⟩
              have k2 := k' H8 (Ex.refl H8)
              have hl8 : atI ((row ++ [z]).map V.int) (-1) = some (.int z) := by
                rw [List.map_append]
                exact atI_last _ _
              refine ⟨_, rfl, _, rfl, 1, rfl, fo, _, -1, _, rfl, rfl, .inl (.inl (e8 _ _ upd_same)), hl8, rfl, _, rfl, ?_⟩
              have hbb := ne_bool (lft.getD j 0) z
              rw [hbb]
              exact k2
            · obtain ⟨g1, g2, g3⟩ := c
              rw [given_ints (fun p : Int => p != z)] at g3
              exact ⟨D2, _, _, c', _, _, rfl, Q6.step (by have := Q6.hc; omega) hzl hD2 g2 g3⟩
    · rintro σ H3 ⟨lf', y6, y7, c3, lft, row, rfl, QI⟩
      rw [Int.toNat_natCast] at QI
      refine ⟨_, rfl, fo, _, rfl, .inl ⟨.inl (.inl QI.atF), fun t ht => ?_⟩⟩
      have x4 : Ex H3 (upd H3 t (.tup (row.map V.int))) := Ex.new ht
      refine q _ t row c3 (QI.ex.trans (.of x4)) (QI.box.ex x4) QI.hc QI.rok QI.len ?_ upd_same
      cases hh : H t with
      | none => rfl
      | some o =>
        by_cases ntl : t = l
        · subst ntl
          obtain ⟨bb, hbb⟩ := QI.box.at
          rw [hbb] at ht
          cases ht
        · rw [QI.ex t o ntl hh] at ht
          cases ht
end
end Og

namespace Og
open PySem PySem.Spec PyProof.Rows L2 OgR Evl OgM
theorem ixT (K : PySem.W.Frag) {X : Cx} (h : X.K = K := by rfl) : IxR X (rIxT K) := by
  subst h
  exact ix_tup
/-! ### a dict that marks plots -/
def dk (v : V) (l : List Int) : List (Key × V) := l.map fun p => ((Sum.inl p : Key), v)
theorem dk_val (v : V) (k : Int) : ∀ l : List Int, valV (dk v l) (Sum.inl k) = if k ∈ l then some v else none
  | [] => by simp [dk, valV]
  | x :: r => by
    show valV ((Sum.inl x, v) :: dk v r) (Sum.inl k) = _
    by_cases e : x = k
    · rw [valV_pos (by rw [e])]
      simp [e]
    · rw [valV_neg (fun z => e (Sum.inl.inj z)), dk_val v k r]
      have : ¬ k = x := fun z => e z.symm
      simp [this]
theorem dk_some (v : V) (k : Int) (l : List Int) : (valV (dk v l) (Sum.inl k)).isSome = decide (k ∈ l) := by
  rw [dk_val]
  by_cases h : k ∈ l <;> simp [h]
theorem dk_put {v : V} {k : Int} {l : List Int} (h : k ∉ l) : putK (dk v l) (Sum.inl k) v = dk v (l ++ [k]) := by
  unfold putK
  have : ((dk v l).any fun kv => decide (kv.1 = Sum.inl k)) = false := by
    rw [valV_any, dk_some]
    simp [h]
  rw [this]
  simp [dk]
theorem dk_len (v : V) (l : List Int) : (dk v l).length = l.length := by simp [dk]
abbrev sNb : Stmt := topS 9
theorem scNb : FnScope ["row", "found", "built", "plot"] ["row"] (defScope sNb) := ⟨rfl, rfl, rfl, by decide +kernel, rfl, by decide +kernel, by decide +kernel⟩
abbrev sHouses : Stmt := topS 11
theorem scHouses : FnScope ["row", "beside"] ["row"] (defScope sHouses) := ⟨rfl, rfl, rfl, by decide +kernel, rfl, by decide +kernel, by decide +kernel⟩
def wordsV : List V := [.str (wstr .new), .str (wstr .beside), .str (wstr .between)]
section
variable {P : Program} {w : World} {K : PySem.W.Frag} {mg : Str → Option Value} {base : Heap}
def spNb (K : PySem.W.Frag) : Sp := fun vs H Q _ => ∃ (b : Bool) (a : Addr) (ns : List Int), vs = [.ref a] ∧ SqB K b H a (ns.map V.int) ∧ ns.Nodup ∧ ns.length ≤ 900 ∧
  ∀ H' p, Ex H H' → H p = none → H' p = some (.lst ((picks ns).map fun c => V.int (c.1.ix : Nat))) → Q (.ref p) H'
theorem b1_val (v : V) (k : Int) (l : List Int) : (valV (dk (.int 1) l) (Sum.inl k)).getD (.int 0) = .int (b1 (decide (k ∈ l)) : Nat) := by
  rw [dk_val]
  by_cases h : k ∈ l <;> simp [h, b1]
theorem ok_nb {f : Addr} {fd : FuncData} {k : Nat} (F : Fun K "neighbours" "neighbours" sNb f fd) : FnOk P w K mg base CX0 (k + 1) f fd ["row"] (spNb K) := by
  refine F.ok scNb (fun vs H Q E h => ?_) (fun cdv A outer s H vs Q E hr h => ?_)
  · obtain ⟨_, _, _, rfl, _⟩ := h
    rfl
  · obtain ⟨b, a, ns, rfl, hS, hnd, hlen, q⟩ := h
    have hu := hu_of hr
    refine ⟨_, pss_cons (ps_set (i := 1) scNb.nd rfl (.inl rfl) (pe_lst pa_nil)) (pss_cons (ps_set (i := 2) scNb.nd rfl (.inl rfl) pe_dnewK)
      (pss_cons (ps_for PassesOwn.never rfl (pi_seqB (pv 0)) (pg_name (i := 3) scNb.nd rfl (.inl rfl))
        (pss_cons (ps_expr (pe_bm PySem.F.plainAttrs_list PySem.F.slot_list_append PySem.F.type_list_append mt_append (pv 1) (pa_cons (pe_op op_add (pe_dget2 hu (pv 2) (pe_op op_sub (pv 3) pe_int) pe_int ⟨rfl, rfl, rfl, rfl⟩) (pe_dget2 hu (pv 2) (pe_op op_add (pv 3) pe_int) pe_int ⟨rfl, rfl, rfl, rfl⟩)) pa_nil)))
        (pss_one (ps_dput hu (pv 2) (pv 3) pe_int rfl))))
      (pss_one (ps_ret (pv 1))))), ?_⟩
    refine ⟨Nat.zero_le _, fun fo hfo d hd => ?_⟩
    have x1 : Ex H (upd H fo (.lst [])) := Ex.new hfo
    have x2 := x1.trans (Ex.new (o := .dK []) hd)
    have hd0 : H d = none := fresh_back x1 hd
    have nfd : fo ≠ d := ne_of_none upd_same hd
    refine ⟨_, rfl, b, a, _, rfl, hS.ex x2, for_it (walk_seqB (K := K) (b := b) (a := a) (xs := ns.map V.int)) (fun i σ H3 => ∃ y3, σ = [some (.ref a), some (.ref fo), some (.ref d), y3] ∧ Ex H H3 ∧ H3 fo = some (.lst (((picks ns).take i).map fun c => V.int (c.1.ix : Nat))) ∧ H3 d = some (.dK (dk (.int 1) (ns.take i)))) ?_ ?_ ?_ ?_⟩
    · refine ⟨none, rfl, x2, ?_, upd_same⟩
      rw [upd_ne nfd, upd_same]
      rfl
    · rintro i σ H3 _ ⟨_, _, e3, _⟩
      exact hS.ex e3
    · rintro i x σ H3 H3' hi ⟨y3, rfl, e3, hf3, hd3⟩ ⟨rfl, hx⟩
      rw [List.getElem?_map] at hx
      obtain ⟨p, hp, rfl⟩ := Option.map_eq_some_iff.mp hx
      have hfr := nodup_fresh hnd hp
      have hnb := nb_pick (hnd.sublist (List.take_sublist i ns)) hfr
      have hil := (List.getElem?_eq_some_iff.mp hp).1
      refine ⟨_, rfl, .inl ⟨rfl, _, .inl (.inl hf3)⟩, _, rfl, d, rfl, .inl ⟨_, .inl hd3⟩, _, rfl, _, _, rfl, rfl, _, DGet.k (k := Sum.inl (p - 1)) hd3, _, rfl, d, rfl, .inl ⟨_, .inl hd3⟩, _, rfl, _, _, rfl, rfl, _, DGet.k (k := Sum.inl (p + 1)) hd3, ?_⟩
      rw [b1_val (.int 1), b1_val (.int 1)]
      refine ⟨_, _, rfl, rfl, fo, _, _, rfl, rfl, hf3, ?_, ?_⟩
      · rw [List.length_map, List.length_take, picks_len]
        exact small1000 (by omega)
      · refine ⟨_, rfl, _, rfl, d, _, rfl, DPut.k (k := Sum.inl p) (kvs := dk (.int 1) (ns.take i)) ?_ ?_, _, rfl, Ex.mut (Ex.mut e3 hfo) hd0, ?_, ?_⟩
        · rw [upd_ne (Ne.symm nfd)]
          exact hd3
        · rw [dk_len, List.length_take]
          exact small1000 (by omega)
        · rw [upd_ne nfd, upd_same, take_next (picks_get hp), List.map_append]
          have e7 : (b1 (decide (p - 1 ∈ ns.take i)) : Int) + (b1 (decide (p + 1 ∈ ns.take i)) : Int) = ((pick p (segs (ns.take i))).1.ix : Int) := by
            rw [← hnb]
            omega
          show some (HO.lst (_ ++ [V.int ((b1 (decide (p - 1 ∈ ns.take i)) : Int) + (b1 (decide (p + 1 ∈ ns.take i)) : Int))])) = _
          rw [e7]
          rfl
        · rw [upd_same, dk_put hfr, take_next hp]
    · rintro σ H3 ⟨y3, rfl, e3, hf3, hd3⟩
      rw [List.take_of_length_le (by rw [picks_len, List.length_map]; exact Nat.le_refl _)] at hf3
      exact ⟨_, rfl, q H3 fo e3 hfo hf3⟩
/-! ### houses -/
def spHouses (K : PySem.W.Frag) : Sp := fun vs H Q _ => ∃ (b : Bool) (a : Addr) (ns : List Int), vs = [.ref a] ∧ SqB K b H a (ns.map V.int) ∧ ns.Nodup ∧ ns.length ≤ 900 ∧
  ∀ H' p, Ex H H' → H p = none → H' p = some (.tup ((picks ns).map fun c => V.str (wstr c.1))) → Q (.ref p) H'
theorem ok_houses {f fN aW : Addr} {fd fdN : FuncData} {k : Nat} (F : Fun K "houses" "houses" sHouses f fd) (FN : Fun K "neighbours" "neighbours" sNb fN fdN) (bN : Binds K fdN ["row"] []) (gN : mg "neighbours" = some (.ref fN))
    (gW : mg "WORDS" = some (.ref aW)) (sW : ∀ H, SqT K H aW wordsV) (mt : mg "tuple" = none) : FnOk P w K mg base CX0 (k + 2) f fd ["row"] (spHouses K) := by
  have GN : FnOk P w K mg base CX0 (k + 1) fN fdN ["row"] (spNb K) := ok_nb FN
  refine F.ok scHouses (fun vs H Q E h => ?_) (fun cdv A outer s H vs Q E hr h => ?_)
  · obtain ⟨_, _, _, rfl, _⟩ := h
    rfl
  · obtain ⟨b, a, ns, rfl, hS, hnd, hlen, q⟩ := h
    refine ⟨_, pss_one (ps_ret (pe_callTy call_tuple_of (by rfl) mt (by decide +kernel) (pa_cons
        (pe_lc (own := [("beside", 1)]) (g := gName 1) (by rfl) scHouses.nd (pi_list (pe_call GN hr (by rfl) gN FN.kp bN .nil pass0 (pa_cons (pv 0) pa_nil)))
          (blkOk_by (own := [("beside", 1)]) (N := ["row", "beside"]) (sc := defScope sHouses) (by decide +kernel))
          (fun _ _ _ _ _ => pg_name (i := 1) scHouses.nd rfl (Or.inl rfl) (hf := Or.inr rfl))
          (fun _ _ _ _ _ => pts_nil)
          (fun _ _ _ _ _ => pe_ix (ixT K) (pe_glob (v := .ref aW) rfl gW rfl) (pv 1) (fun _ _ => rfl))) pa_nil))), ?_⟩
    refine ⟨_, rfl, b, a, ns, rfl, hS, hnd, hlen, fun H1 fo e1 hfo hf1 => ⟨fo, rfl, ⟨_, .inl (.inl hf1)⟩, fun D hD => lc_list (xs := (picks ns).map fun c => V.int (c.1.ix : Nat)) (fun i H' => Ex H1 H' ∧ H' D = some (.lst (((picks ns).take i).map fun c => V.str (wstr c.1)))) ⟨Ex.new hD, upd_same⟩ (fun i H' _ c => .inl (.inl (c.1 _ _ hf1))) (fun i x H' hx c => ?_) (fun H2 c => ?_)⟩⟩
    · rw [List.getElem?_map] at hx
      obtain ⟨ch, hch, rfl⟩ := Option.map_eq_some_iff.mp hx
      have hil := (List.getElem?_eq_some_iff.mp hch).1
      rw [picks_len] at hil
      have hw : atI wordsV ((ch.1.ix : Nat) : Int) = some (.str (wstr ch.1)) := by
        refine atI_nat ?_
        cases ch.1 <;> rfl
      refine ⟨rfl, _, rfl, aW, wordsV, _, _, rfl, rfl, sW _, hw, _, c.2, ?_, Ex.mut c.1 hD, ?_⟩
      · rw [List.length_map, List.length_take, picks_len]
        exact small1000 (by omega)
      · rw [upd_same, take_next hch, List.map_append]
        rfl
    · rw [List.take_of_length_le (by rw [List.length_map]; exact Nat.le_refl _)] at c
      exact ⟨D, _, rfl, .inl ⟨.inl (.inl c.2), fun t ht => q _ t ((e1.trans c.1).trans (Ex.new ht)) (fresh_back (e1.trans c.1) ht) upd_same⟩⟩
end
end Og

namespace Og
open PySem PySem.Spec PyProof.Rows L2 OgR Evl OgM
abbrev sGlo : Stmt := topS 18
theorem scGlo : FnScope ["built", "plot", "last"] ["built", "plot"] (defScope sGlo) := ⟨rfl, rfl, rfl, by decide +kernel, rfl, by decide +kernel, by decide +kernel⟩
abbrev sNum : Stmt := topS 19
theorem scNum : FnScope ["built", "plot", "word", "left"] ["built", "plot", "word"] (defScope sNum) := ⟨rfl, rfl, rfl, by decide +kernel, rfl, by decide +kernel, by decide +kernel⟩
abbrev sCof : Stmt := topS 20
theorem scCof : FnScope ["row", "found", "built", "plot", "word"] ["row"] (defScope sCof) := ⟨rfl, rfl, rfl, by decide +kernel, rfl, by decide +kernel, by decide +kernel⟩
section
variable {P : Program} {w : World} {K : PySem.W.Frag} {mg : Str → Option Value} {base : Heap}
def spGlo : Sp := fun vs H Q _ => ∃ (d : Addr) (v : V) (ns : List Int) (p : Int), vs = [.ref d, .int p] ∧ H d = some (.dK (dk v ns)) ∧ ns.Nodup ∧ ns.length ≤ 900 ∧ ∀ H', Ex H H' → Q (.int (left p (segs ns) : Nat)) H'
theorem ok_glo {f : Addr} {fd : FuncData} {k : Nat} (F : Fun K "groups_left_of" "groups_left_of" sGlo f fd) (ml : mg "len" = none) : FnOk P w K mg base CX0 (k + 1) f fd ["built", "plot"] spGlo := by
  refine F.ok scGlo (fun vs H Q E h => ?_) (fun cdv A outer s H vs Q E hr h => ?_)
  · obtain ⟨_, _, _, _, rfl, _⟩ := h
    rfl
  · obtain ⟨d, v, ns, p, rfl, hd, hnd, hlen, q⟩ := h
    have hu := hu_of hr
    refine ⟨_, pss_one (ps_ret (pe_callB call_len_seq (by rfl) ml PySem.boot_len (pa_cons
        (pe_lock (pe_lc (own := [("last", 2)]) (g := gName 2) (by rfl) scGlo.nd (pi_keys (pv 0))
          (blkOk_by (own := [("last", 2)]) (N := ["built", "plot", "last"]) (sc := defScope sGlo) (by decide +kernel))
          (fun _ _ _ _ _ => pg_name (i := 2) scGlo.nd rfl (Or.inl rfl) (hf := Or.inr rfl))
          (fun _ _ _ _ _ => pts_one (PW.pt (pw_and (pt_cmpR op_lt (pv 2) (pv 1) (nomark _)) (pw_and1 (pt_cmp (pc_dnotin hu (pe_op op_add (pv 2) pe_int) (pv 0)))))))
          (fun _ _ _ _ _ => pv 2))) pa_nil))), ?_⟩
    refine ⟨d, _, hd, trivial, fun od => ⟨_, rfl, d, od, rfl, .inl ⟨_, upd_same, fun D hD => lc_it (walk_keys (d := d) (o := od) (kvs := dk v ns)) (Cw (upd H d (.frz od (.dK (dk v ns)))) (fun i => (fun x : Int => decide (x < p) && !decide (x + 1 ∈ ns)) (ns.getD i 0)) (fun i => .int (ns.getD i 0)) D) ⟨hD, Ex.new hD, upd_same⟩ (fun i H' _ c => c.2.1 _ _ upd_same) (fun i x H' H'' hi c y => ?_) (fun H2 c => ?_)⟩⟩⟩
    · obtain ⟨rfl, kk, vv, hk, rfl⟩ := y
      rw [dk_len] at hi
      have hk' : (kk, vv) = (Sum.inl (ns.getD i 0), v) := by
        unfold dk at hk
        rw [List.getElem?_map, List.getElem?_eq_getElem hi] at hk
        rw [List.getD_eq_getElem?_getD, List.getElem?_eq_getElem hi]
        exact (Option.some.inj hk).symm
      obtain ⟨rfl, rfl⟩ := Prod.mk.inj hk'
      refine ⟨rfl, cw_turn c (by omega) (fun H3 e3 Q' k' => ?_) (fun _ H3 e3 Q' k' => ⟨_, rfl, k' H3 (Ex.refl _)⟩)⟩
      have k2 := k' H3 (Ex.refl H3)
      simp only at k2
      refine ⟨_, rfl, _, rfl, _, _, rfl, rfl, _, rfl, ?_⟩
      show if decide (ns.getD i 0 < p) = true then _ else _
      cases hb : decide (ns.getD i 0 < p) with
      | false =>
        rw [hb] at k2
        exact iteF k2
      | true =>
        rw [hb] at k2
        refine iteT ⟨_, rfl, _, _, rfl, rfl, _, rfl, d, _, rfl, .inl ⟨dk vv ns, Sum.inl (ns.getD i 0 + 1), .inr ⟨od, e3 _ _ upd_same⟩, rfl, rfl⟩, _, rfl, ?_⟩
        rw [dk_some]
        exact k2
    · obtain ⟨c1, c2, c3⟩ := c
      have hDd : D ≠ d := fun z => by
        rw [z, upd_same] at c1
        cases c1
      have e5 : (given (dk v ns).length (fun i => (fun x : Int => decide (x < p) && !decide (x + 1 ∈ ns)) (ns.getD i 0)) (fun i => V.int (ns.getD i 0))) = (ns.filter (fun x : Int => decide (x < p) && !decide (x + 1 ∈ ns))).map V.int := by
        rw [dk_len, ← given_ints, List.length_map]
      rw [e5] at c3
      refine ⟨c2 _ _ upd_same, D, (ns.filter (fun x : Int => decide (x < p) && !decide (x + 1 ∈ ns))).map V.int, rfl, .inl (.inl (.inl ?_)), ?_⟩
      · rw [upd_ne hDd]
        exact c3
      · rw [List.length_map, left_count hnd p]
        refine q _ fun a o ha => ?_
        by_cases had : a = d
        · subst had
          rw [upd_same, ← ha, hd]
        · rw [upd_ne had]
          exact c2 _ _ (by rw [upd_ne had]; exact ha)
/-! ### number_of_choice -/
def spNum : Sp := fun vs H Q _ => ∃ (d : Addr) (v : V) (ns : List Int) (p : Int), vs = [.ref d, .int p, .str (wstr (pick p (segs ns)).1)] ∧ H d = some (.dK (dk v ns)) ∧ ns.Nodup ∧ p ∉ ns ∧ ns.length ≤ 900 ∧ ∀ H', Ex H H' → Q (.int ((pick p (segs ns)).2 : Nat)) H'
theorem ok_num {f fG : Addr} {fd fdG : FuncData} {k : Nat} (F : Fun K "number_of_choice" "number_of_choice" sNum f fd) (FG : Fun K "groups_left_of" "groups_left_of" sGlo fG fdG) (bG : Binds K fdG ["built", "plot"] []) (gG : mg "groups_left_of" = some (.ref fG))
    (ml : mg "len" = none) : FnOk P w K mg base CX0 (k + 2) f fd ["built", "plot", "word"] spNum := by
  have GG : FnOk P w K mg base CX0 (k + 1) fG fdG ["built", "plot"] spGlo := ok_glo FG ml
  refine F.ok scNum (fun vs H Q E h => ?_) (fun cdv A outer s H vs Q E hr h => ?_)
  · obtain ⟨_, _, _, _, rfl, _⟩ := h
    rfl
  · obtain ⟨d, v, ns, p, rfl, hd, hnd, hpn, hlen, q⟩ := h
    have hu := hu_of hr
    refine ⟨_, pss_cons (ps_set (i := 3) scNum.nd rfl (.inl rfl) (pe_call GG hr (by rfl) gG FG.kp bG .nil pass0 (pa_cons (pv 0) (pa_cons (pv 1) pa_nil))))
      (pss_cons (ps_if (pt_cmpR op_eq (pv 2) pe_str (nomark _)) (pss_one (ps_ret (pv 3))) pss_nil)
      (pss_cons (ps_if (pt_cmpR op_eq (pv 2) pe_str (nomark _)) (pss_one (ps_ret (pe_op op_sub (pv 3) pe_int))) pss_nil)
      (pss_cons (ps_if (pt_cmp (pc_din hu (pe_op op_sub (pv 1) pe_int) (pv 0))) (pss_one (ps_ret (pe_op op_add (pe_op op_mul pe_int (pe_op op_sub (pv 3) pe_int)) pe_int))) pss_nil)
      (pss_one (ps_ret (pe_op op_mul pe_int (pv 3))))))), ?_⟩
    obtain ⟨lo, hl⟩ := lower ns
    obtain ⟨hk, km⟩ := segs_ok hnd hl
    have S := says hk (p := p) fun m => hpn ((km p).mp m)
    refine ⟨_, rfl, _, rfl, d, v, ns, p, rfl, hd, hnd, hlen, fun H1 e1 => ?_⟩
    have hd1 := e1 _ _ hd
    replace q := q H1 e1
    generalize hc : pick p (segs ns) = c at S q
    obtain ⟨wd, m⟩ := c
    cases wd with
    | new =>
      refine ⟨_, rfl, rfl, _, rfl, ite2 (fun _ => ⟨_, rfl, ?_⟩) (fun z => absurd (decide_eq_true (by rfl)) z)⟩
      rw [← (S.n1 rfl).1]
      exact q
    | between =>
      refine ⟨_, rfl, rfl, _, rfl, ite2 (fun z => absurd (of_decide_eq_true z) (show ¬ V.str (wstr .between) = V.str "new" by decide)) (fun _ => ?_)⟩
      refine ⟨_, rfl, rfl, _, rfl, ite2 (fun _ => ⟨_, rfl, _, _, rfl, rfl, ?_⟩) (fun z => absurd (decide_eq_true (by rfl)) z)⟩
      have h2 := (S.n2 rfl).1
      simp only at h2
      have e : ((left p (segs ns) : Nat) : Int) - 1 = (m : Int) := by omega
      show Q (.int (((left p (segs ns) : Nat) : Int) - 1)) H1
      rw [e]
      exact q
    | beside =>
      refine ⟨_, rfl, rfl, _, rfl, ite2 (fun z => absurd (of_decide_eq_true z) (show ¬ V.str (wstr .beside) = V.str "new" by decide)) (fun _ => ?_)⟩
      refine ⟨_, rfl, rfl, _, rfl, ite2 (fun z => absurd (of_decide_eq_true z) (show ¬ V.str (wstr .beside) = V.str "between" by decide)) (fun _ => ?_)⟩
      refine ⟨_, rfl, _, _, rfl, rfl, _, rfl, d, _, rfl, DGet.k (k := Sum.inl (p - 1)) hd1, _, rfl, ?_⟩
      rw [dk_some]
      refine ite2 (fun z => ?_) (fun z => ?_)
      · have hm : Mem (p - 1) (segs ns) := (km _).mpr (of_decide_eq_true z)
        have h3 := (S.n3 rfl hm).1
        simp only at h3
        refine ⟨_, rfl, _, _, rfl, rfl, _, _, rfl, rfl, .inl ⟨by decide, by decide⟩, _, _, rfl, rfl, ?_⟩
        have e : 2 * (((left p (segs ns) : Nat) : Int) - 1) + 1 = (m : Int) := by omega
        show Q (.int (2 * (((left p (segs ns) : Nat) : Int) - 1) + 1)) H1
        rw [e]
        exact q
      · have hm : ¬ Mem (p - 1) (segs ns) := fun u => z (decide_eq_true ((km _).mp u))
        have h4 := (S.n4 rfl hm).1
        simp only at h4
        refine ⟨_, rfl, _, _, rfl, rfl, .inl ⟨by decide, by decide⟩, ?_⟩
        have e : 2 * ((left p (segs ns) : Nat) : Int) = (m : Int) := by omega
        show Q (.int (2 * ((left p (segs ns) : Nat) : Int))) H1
        rw [e]
        exact q
/-! ### choices_of -/
def spCof (K : PySem.W.Frag) : Sp := fun vs H Q _ => ∃ (b : Bool) (a : Addr) (ns : List Int), vs = [.ref a] ∧ SqB K b H a (ns.map V.int) ∧ ns.Nodup ∧ ns.length ≤ 900 ∧
  ∀ H' t ts, Ex H H' → H t = none → H' t = some (.tup (ts.map V.ref)) → Paired (fun u c => H u = none ∧ H' u = some (.tup (chV c))) ts (picks ns) → Q (.ref t) H'
theorem ok_cof {f fH fN fM fG aW : Addr} {fd fdH fdN fdM fdG : FuncData} {k : Nat} (F : Fun K "choices_of" "choices_of" sCof f fd)
    (FH : Fun K "houses" "houses" sHouses fH fdH) (bH : Binds K fdH ["row"] []) (gH : mg "houses" = some (.ref fH))
    (FN : Fun K "neighbours" "neighbours" sNb fN fdN) (bN : Binds K fdN ["row"] []) (gN : mg "neighbours" = some (.ref fN))
    (FM : Fun K "number_of_choice" "number_of_choice" sNum fM fdM) (bM : Binds K fdM ["built", "plot", "word"] []) (gM : mg "number_of_choice" = some (.ref fM))
    (FG : Fun K "groups_left_of" "groups_left_of" sGlo fG fdG) (bG : Binds K fdG ["built", "plot"] []) (gG : mg "groups_left_of" = some (.ref fG))
    (gW : mg "WORDS" = some (.ref aW)) (sW : ∀ H, SqT K H aW wordsV) (mt : mg "tuple" = none) (ml : mg "len" = none) (mz : mg "zip" = none) : FnOk P w K mg base CX0 (k + 3) f fd ["row"] (spCof K) := by
  have GH : FnOk P w K mg base CX0 (k + 2) fH fdH ["row"] (spHouses K) := ok_houses FH FN bN gN gW sW mt
  have GM : FnOk P w K mg base CX0 (k + 2) fM fdM ["built", "plot", "word"] spNum := ok_num FM FG bG gG ml
  refine F.ok scCof (fun vs H Q E h => ?_) (fun cdv A outer s H vs Q E hr h => ?_)
  · obtain ⟨_, _, _, rfl, _⟩ := h
    rfl
  · obtain ⟨b, a, ns, rfl, hS, hnd, hlen, q⟩ := h
    have hu := hu_of hr
    refine ⟨_, pss_cons (ps_set (i := 1) scCof.nd rfl (.inl rfl) (pe_lst pa_nil)) (pss_cons (ps_set (i := 2) scCof.nd rfl (.inl rfl) pe_dnewK)
      (pss_cons (ps_for PassesOwn.never rfl (pi_zipB (by rfl) mz (pa_cons (pv 0) (pa_cons (pe_call GH hr (by rfl) gH FH.kp bH .nil pass0 (pa_cons (pv 0) pa_nil)) pa_nil)))
          (pg_tup rfl (pgs_cons (pg_name (i := 3) scCof.nd rfl (.inl rfl)) (pgs_cons (pg_name (i := 4) scCof.nd rfl (.inl rfl)) pgs_nil)))
        (pss_cons (ps_expr (pe_bm PySem.F.plainAttrs_list PySem.F.slot_list_append PySem.F.type_list_append mt_append (pv 1) (pa_cons (pe_tup (pa_cons (pv 4) (pa_cons (pe_call GM hr (by rfl) gM FM.kp bM .nil pass0 (pa_cons (pv 2) (pa_cons (pv 3) (pa_cons (pv 4) pa_nil)))) pa_nil))) pa_nil)))
        (pss_one (ps_dput hu (pv 2) (pv 3) pe_bl rfl))))
      (pss_one (ps_ret (pe_callTy call_tuple_of (by rfl) mt (by decide +kernel) (pa_cons (pv 1) pa_nil)))))), ?_⟩
    refine ⟨Nat.zero_le _, fun fo hfo d hd => ?_⟩
    have x1 : Ex H (upd H fo (.lst [])) := Ex.new hfo
    have x2 : Ex H (upd (upd H fo (.lst [])) d (.dK [])) := x1.trans (Ex.new hd)
    have hd0 : H d = none := fresh_back x1 hd
    have nfd : fo ≠ d := ne_of_none upd_same hd
    refine ⟨_, rfl, _, rfl, b, a, ns, rfl, hS.ex x2, hnd, hlen, fun H1 hh e1 hhn hh1 => ⟨b, true, a, hh, ns.map V.int, (picks ns).map (fun c => V.str (wstr c.1)), rfl, hS.ex (x2.trans e1), .inl (.inl hh1), for_it (walk_zipB (K := K) (b1 := b) (b2 := true) (a1 := a) (a2 := hh) (xs := ns.map V.int) (ys := (picks ns).map (fun c => V.str (wstr c.1))) (by simp [picks_len]))
      (fun i σ H3 => ∃ y3 y4 ts, σ = [some (.ref a), some (.ref fo), some (.ref d), y3, y4] ∧ Ex H H3 ∧ H3 hh = some (.tup ((picks ns).map (fun c => V.str (wstr c.1)))) ∧ H3 fo = some (.lst (ts.map V.ref)) ∧ Paired (fun t c => H t = none ∧ H3 t = some (.tup (chV c))) ts ((picks ns).take i) ∧ H3 d = some (.dK (dk (.bl true) (ns.take i)))) ?_ ?_ ?_ ?_⟩⟩
    · refine ⟨none, none, [], rfl, x2.trans e1, hh1, ?_, .nil, e1 _ _ upd_same⟩
      refine e1 _ _ ?_
      rw [upd_ne nfd, upd_same]
      rfl
    · rintro i σ H3 _ ⟨_, _, _, _, e3, h3, _⟩
      exact ⟨hS.ex e3, .inl (.inl h3)⟩
    · rintro i x σ H3 H3' hi ⟨y3, y4, ts, rfl, e3, h3, hf3, hp3, hd3⟩ ⟨T, x', y', rfl, hT, rfl, hx, hy⟩
      rw [List.getElem?_map] at hx hy
      obtain ⟨p, hp, rfl⟩ := Option.map_eq_some_iff.mp hx
      rw [picks_get hp] at hy
      have ey : V.str (wstr (pick p (segs (ns.take i))).1) = y' := Option.some.inj hy
      subst ey
      have hfr := nodup_fresh hnd hp
      have hil := (List.getElem?_eq_some_iff.mp hp).1
      have x4 : Ex H3 (upd H3 T (.tup [.int p, .str (wstr (pick p (segs (ns.take i))).1)])) := Ex.new hT
      refine ⟨T, _, rfl, .inl (.inl upd_same), rfl, _, _, rfl, _, _, rfl, rfl, ?_⟩
      refine ⟨_, rfl, .inl ⟨rfl, _, .inl (.inl (x4 _ _ hf3))⟩, _, rfl, _, rfl, _, rfl, _, rfl, d, .bl true, ns.take i, p, rfl, x4 _ _ hd3, hnd.sublist (List.take_sublist _ _), hfr, by rw [List.length_take]; omega, fun H5 e5 => ⟨(show 2 ≤ sizeLine by decide), fun t ht => ?_⟩⟩
      have x5 : Ex H3 H5 := x4.trans e5
      have x6 : Ex H3 (upd H5 t (.tup (chV (pick p (segs (ns.take i)))))) := x5.trans (Ex.new ht)
      refine ⟨fo, _, _, rfl, rfl, x6 _ _ hf3, ?_, ?_⟩
      · rw [List.length_map, hp3.length, List.length_take]
        exact small1000 (by omega)
      · have ntf : t ≠ fo := Ne.symm (ne_of_none (x5 _ _ hf3) ht)
        have ntd : t ≠ d := Ne.symm (ne_of_none (x5 _ _ hd3) ht)
        refine ⟨_, rfl, _, rfl, d, _, rfl, DPut.k (k := Sum.inl p) (kvs := dk (.bl true) (ns.take i)) ?_ ?_, _, _, ts ++ [t], rfl, Ex.mut (Ex.mut (e3.trans x6) hfo) hd0, ?_, ?_, ?_, ?_⟩
        · rw [upd_ne (Ne.symm nfd)]
          exact x6 _ _ hd3
        · rw [dk_len, List.length_take]
          exact small1000 (by omega)
        · have h6 := x6 _ _ h3
          rw [upd_ne (ne_of h6 (x6 _ _ hd3) (by intro z; cases z)), upd_ne (ne_of h6 (x6 _ _ hf3) (by intro z; cases z))]
          exact h6
        · rw [upd_ne nfd, upd_same, List.map_append]
          rfl
        · rw [take_next (picks_get hp)]
          refine Paired.snoc (hp3.mono fun t' c' h' => ?_) ?_
          · have h6 := x6 _ _ h'.2
            refine ⟨h'.1, ?_⟩
            rw [upd_ne (ne_of h6 (x6 _ _ hd3) (by intro z; cases z)), upd_ne (ne_of h6 (x6 _ _ hf3) (by intro z; cases z))]
            exact h6
          · refine ⟨fresh_back (e3.trans x5) ht, ?_⟩
            rw [upd_ne ntd, upd_ne ntf, upd_same]
            rfl
        · rw [upd_same, dk_put hfr, take_next hp]
    · rintro σ H3 ⟨y3, y4, ts, rfl, e3, h3, hf3, hp3, hd3⟩
      rw [List.take_of_length_le (by rw [picks_len, List.length_map]; exact Nat.le_refl _)] at hp3
      refine ⟨_, rfl, fo, _, rfl, .inl ⟨.inl (.inl hf3), fun t ht => q _ t ts (e3.trans (Ex.new ht)) (fresh_back e3 ht) upd_same (hp3.mono fun t' c' h' => ⟨h'.1, ?_⟩)⟩⟩
      rw [upd_ne (ne_of_none h'.2 ht)]
      exact h'.2
end
end Og

namespace Og
open PySem PySem.Spec PyProof.Rows L2 OgR Evl OgM
abbrev sGaps : Stmt := topS 21
theorem scGaps : FnScope ["plots", "row", "built", "steps", "inner", "left", "right", "step"] ["plots", "row"] (defScope sGaps) := ⟨rfl, rfl, rfl, by decide +kernel, rfl, by decide +kernel, by decide +kernel⟩
theorem at_last_int {l : List Int} {z : Int} (h : l.getLast? = some z) : atI (l.map V.int) (-1) = some (.int z) := by
  obtain ⟨l0, hl0⟩ := List.getLast?_eq_some_iff.mp h
  rw [hl0, List.map_append]
  exact atI_last _ _
section
variable {P : Program} {w : World} {K : PySem.W.Frag} {mg : Str → Option Value} {base : Heap}
theorem ok_gaps {f : Addr} {fd : FuncData} {k : Nat} (F : Fun K "gaps_of" "gaps_of" sGaps f fd) (ms : mg "sorted" = none) (mz : mg "zip" = none) : FnOk P w K mg base CX0 (k + 1) f fd ["plots", "row"] (spHoles K) := by
  refine F.ok scGaps (fun vs H Q E h => ?_) (fun cdv A outer s H vs Q E hr h => ?_)
  · obtain ⟨_, _, _, _, rfl, _⟩ := h
    rfl
  · obtain ⟨b, a, c, ns, rfl, hS, hnd, hlen, q⟩ := h
    refine ⟨_, pss_cons (ps_set (i := 2) scGaps.nd rfl (.inl rfl) (pe_callB cr_srtB (by rfl) ms (by decide +kernel) (pa_cons (pv 1) pa_nil)))
      (pss_cons (ps_if (pt_not (pt_truth (pv 2) (by intro _; rfl))) (pss_one (ps_ret (pe_tup (pa_cons (pv 0) pa_nil)))) pss_nil)
      (pss_cons (ps_setLc (i := 3) (own := [("left", 5), ("right", 6)]) (g := gTup K 2 (gCons (gName 5) (gCons (gName 6) gNil))) (by rfl) scGaps.nd rfl rfl (sw_true rfl rfl rfl (by decide +kernel))
          (pi_zip (by rfl) mz (pa_cons (pv 2) (pa_cons (pe_slice sl_list (pv 2) (po_some pe_int) po_none) pa_nil)))
          (blkOk_by (own := [("left", 5), ("right", 6)]) (N := ["plots", "row", "built", "steps", "inner", "left", "right", "step"]) (sc := defScope sGaps) (by decide +kernel))
          (fun _ _ _ _ _ => pg_tup rfl (pgs_cons (pg_name (i := 5) scGaps.nd rfl (Or.inl rfl) (hf := Or.inr rfl)) (pgs_cons (pg_name (i := 6) scGaps.nd rfl (Or.inl rfl) (hf := Or.inr rfl)) pgs_nil)))
          (fun _ _ _ _ _ => pts_nil)
          (fun _ _ _ _ _ => pe_op op_sub (pv 6) (pv 5)))
      (pss_cons (ps_setLc (i := 4) (own := [("step", 7)]) (g := gName 7) (by rfl) scGaps.nd rfl rfl (sw_true rfl rfl rfl (by decide +kernel)) (pi_list (pv 3))
          (blkOk_by (own := [("step", 7)]) (N := ["plots", "row", "built", "steps", "inner", "left", "right", "step"]) (sc := defScope sGaps) (by decide +kernel))
          (fun _ _ _ _ _ => pg_name (i := 7) scGaps.nd rfl (Or.inl rfl) (hf := Or.inr rfl))
          (fun _ _ _ _ _ => pts_one (pt_cmpR op_gt (pv 7) pe_int (nomark _)))
          (fun _ _ _ _ _ => pe_op op_sub (pv 7) pe_int))
      (pss_one (ps_ret (pe_tup (pa_cons (pe_ix ix_list (pv 2) pe_int (fun _ _ => rfl)) (StX.pa_star (pv 4) (pa_cons (pe_op op_sub (pe_op op_sub (pv 0) pe_int) (pe_ix ix_list (pv 2) (pe_un un_neg pe_int) (fun _ _ => rfl))) pa_nil))))))))), ?_⟩
    refine ⟨_, rfl, b, a, ns, rfl, hS, fun ks u hperm hsort hu => ?_⟩
    have rise := rise_of hnd hperm hsort
    have hseg : segs ks = segs ns := segs_eq (hperm.nodup_iff.mpr hnd) hnd fun q => hperm.mem_iff
    have hlk : ks.length ≤ 900 := by rw [hperm.length_eq]; exact hlen
    have x1 : Ex H (upd H u (.lst (ks.map V.int))) := Ex.new hu
    have hu1 : (upd H u (.lst (ks.map V.int))) u = some (.lst (ks.map V.int)) := upd_same
    rw [← hseg] at q
    generalize (upd H u (.lst (ks.map V.int))) = H1 at x1 hu1
    refine ⟨_, rfl, _, .inl ⟨_, .inl (.inl hu1), rfl⟩, ?_⟩
    cases ks with
    | nil =>
      refine iteT ⟨_, rfl, (show 1 ≤ sizeLine by decide), fun t ht => q _ t (x1.trans (Ex.new ht)) (fresh_back x1 ht) ?_⟩
      rw [upd_same]
      simp [segs, holes, holesI, endB]
    | cons k0 kr =>
      obtain ⟨z, hz⟩ : ∃ z, (k0 :: kr).getLast? = some z := ⟨_, List.getLast?_eq_getLast (List.cons_ne_nil k0 kr)⟩
      obtain ⟨g1, g2, _⟩ := rise_holes rise k0 z rfl hz
      refine iteF ?_
      -- steps
      refine ⟨_, rfl, _, rfl, 1, rfl, u, _, rfl, .inl (.inl hu1), fun v hv => ?_⟩
      rw [show cutV ((k0 :: kr).map V.int) (some 1) none = kr.map V.int from cut_from _ 1]
      have x2 : Ex H1 (upd H1 v (.lst (kr.map V.int))) := Ex.new hv
      have hu2 := x2 _ _ hu1
      have hv2 : (upd H1 v (.lst (kr.map V.int))) v = some (.lst (kr.map V.int)) := upd_same
      replace x2 := x1.trans x2
      generalize (upd H1 v (.lst (kr.map V.int))) = H2 at x2 hu2 hv2
      have hlen2 : kr.length ≤ 900 := by simp at hlk; omega
      refine ⟨u, v, _, _, rfl, .inl (.inl hu2), .inl (.inl hv2), fun D hD => lc_it (walk_zip (K := K) (a := u) (b := v) (xs := (k0 :: kr).map V.int) (ys := kr.map V.int) (n := kr.length) (by simp)) (fun i H' => Ex H2 H' ∧ H' D = some (.lst (((diffs (k0 :: kr)).take i).map V.int))) ⟨Ex.new hD, upd_same⟩ (fun i H' _ c => ⟨.inl (.inl (c.1 _ _ hu2)), .inl (.inl (c.1 _ _ hv2))⟩) (fun i x H' H'' hi c y => ?_) (fun H3 c => ?_)⟩
      · obtain ⟨T, x', y', rfl, hT, rfl, hx, hy⟩ := y
        obtain ⟨c1, c2⟩ := c
        have e1 : (k0 :: kr)[i]? = some ((k0 :: kr)[i]'(by simp; omega)) := List.getElem?_eq_getElem _
        have e2 : (k0 :: kr)[i + 1]? = some (kr[i]'hi) := by rw [List.getElem?_cons_succ, List.getElem?_eq_getElem hi]
        have hx' : x' = .int ((k0 :: kr)[i]'(by simp; omega)) := by
          simp only [List.getElem?_map, e1] at hx
          exact (Option.some.inj hx).symm
        have hy' : y' = .int (kr[i]'hi) := by
          simp only [List.getElem?_map, List.getElem?_eq_getElem hi] at hy
          exact (Option.some.inj hy).symm
        subst hx' hy'
        have hDT : D ≠ T := ne_of_none c2 hT
        have hc2 : (upd H' T (.tup [.int ((k0 :: kr)[i]'(by simp; omega)), .int (kr[i]'hi)])) D = some (.lst (((diffs (k0 :: kr)).take i).map V.int)) := by
          rw [upd_ne hDT]
          exact c2
        refine ⟨T, _, rfl, .inl (.inl upd_same), rfl, _, _, rfl, _, _, rfl, rfl, rfl, _, rfl, _, rfl, _, _, rfl, rfl, _, hc2, ?_, Ex.mut (c1.trans (Ex.new hT)) hD, ?_⟩
        · rw [List.length_map, List.length_take]
          exact small1000 (by omega)
        · rw [upd_same, take_next (diffs_get _ _ _ _ e1 e2), List.map_append]
          rfl
      · obtain ⟨c1, c2⟩ := c
        have dlen := diffs_len (k0 :: kr)
        simp only [List.length_cons, Nat.add_sub_cancel] at dlen
        rw [List.take_of_length_le (by omega)] at c2
        have hu3 := c1 _ _ hu2
        -- inner
        refine ⟨_, rfl, D, rfl, ⟨_, .inl (.inl c2)⟩, fun N hN => lc_list (xs := (diffs (k0 :: kr)).map V.int) (Cw H3 (fun i => (fun d : Int => decide (1 < d)) ((diffs (k0 :: kr)).getD i 0)) (fun i => .int ((diffs (k0 :: kr)).getD i 0 - 1)) N) ⟨hN, Ex.new hN, upd_same⟩ (fun i H' _ c => .inl (.inl (c.2.1 _ _ c2))) (fun i x H' hx c => ?_) (fun H4 c => ?_)⟩
        · have h2 := (List.getElem?_eq_some_iff.mp hx).1
          rw [List.length_map] at h2
          have hx' : x = .int ((diffs (k0 :: kr)).getD i 0) := by
            rw [List.getElem?_map, List.getElem?_eq_getElem h2] at hx
            rw [List.getD_eq_getElem?_getD, List.getElem?_eq_getElem h2]
            exact (Option.some.inj hx).symm
          subst hx'
          exact ⟨rfl, cw_turn c (by omega) (fun H5 e5 Q' k' => ⟨_, rfl, _, _, rfl, rfl, _, rfl, k' H5 (Ex.refl _)⟩) (fun _ H5 e5 Q' k' => ⟨_, rfl, _, _, rfl, rfl, k' H5 (Ex.refl _)⟩)⟩
        · obtain ⟨d1, d2, d3⟩ := c
          have eg : given ((diffs (k0 :: kr)).map V.int).length (fun i => (fun d : Int => decide (1 < d)) ((diffs (k0 :: kr)).getD i 0)) (fun i => V.int ((diffs (k0 :: kr)).getD i 0 - 1)) = (inner (k0 :: kr)).map V.int := by
            unfold given inner
            rw [List.length_map, ← range_filter_map (fun d : Int => decide (1 < d)) 0 (diffs (k0 :: kr)), List.map_map, List.map_map]
            rfl
          rw [eg] at d3
          have hu4 := d2 _ _ hu3
          have x4 : Ex H H4 := x2.trans (c1.trans d2)
          refine ⟨_, rfl, u, _, 0, _, rfl, rfl, .inl (.inl hu4), atI_nat (j := 0) rfl, _, rfl, N, _, rfl, .inr (.inl (.inl d3)), _, rfl, _, _, rfl, rfl, _, rfl, 1, rfl, u, _, -1, _, rfl, rfl, .inl (.inl hu4), at_last_int hz, _, _, rfl, rfl, ?_, fun t ht => q _ t (x4.trans (Ex.new ht)) (fresh_back x4 ht) ?_⟩
          · have hil : (inner (k0 :: kr)).length ≤ kr.length := by
              unfold inner
              rw [List.length_map]
              have := List.length_filter_le (fun d : Int => decide (1 < d)) (diffs (k0 :: kr))
              omega
            simp only [List.length_cons, List.length_append, List.length_map, List.length_nil]
            exact Nat.le_of_lt (small1000 (by omega))
          · rw [upd_same]
            unfold holes
            rw [g1, g2, List.map_append, List.map_cons]
            have e9 : c - (z + 1) = c - 1 - z := by omega
            rw [e9]
            rfl
end
end Og

namespace Og
open PySem PySem.Spec PyProof.Rows L2 OgR Evl OgM
theorem paired_take {α β : Type} {F : α → β → Prop} : ∀ {l : List α} {g : List β} (k : Nat), Paired F l g → Paired F (l.take k) (g.take k)
  | _, _, 0, _ => .nil
  | _, _, _ + 1, .nil => .nil
  | _, _, k + 1, .cons r t => .cons r (paired_take k t)
theorem paired_drop {α β : Type} {F : α → β → Prop} : ∀ {l : List α} {g : List β} (k : Nat), Paired F l g → Paired F (l.drop k) (g.drop k)
  | _, _, 0, h => h
  | _, _, _ + 1, .nil => .nil
  | _, _, k + 1, .cons r t => paired_drop k t
theorem paired_app {α β : Type} {F : α → β → Prop} : ∀ {l l' : List α} {g g' : List β}, Paired F l g → Paired F l' g' → Paired F (l ++ l') (g ++ g')
  | _, _, _, _, .nil, h => h
  | _, _, _, _, .cons r t, h => .cons r (paired_app t h)
theorem paired_keep {α β : Type} {F G : α → β → Prop} : ∀ {l : List α} {g : List β}, Paired F l g → (∀ a ∈ l, ∀ b, F a b → G a b) → Paired G l g
  | _, _, .nil, _ => .nil
  | _, _, .cons r t, h => .cons (h _ (by simp) _ r) (paired_keep t fun a ha b => h a (by simp [ha]) b)
theorem paired_back {α β : Type} {F : α → β → Prop} : ∀ {l : List α} {g : List β} {i : Nat} {b : β}, Paired F l g → g[i]? = some b → ∃ a, l[i]? = some a ∧ F a b
  | _, _, _, _, .nil, e => by simp at e
  | _, _, 0, _, .cons r _, e => by
    simp at e
    subst e
    exact ⟨_, rfl, r⟩
  | _, _, i + 1, _, .cons _ t, e => paired_back (i := i) t (by simpa using e)
def tv (n : Nat) : V := .int (n : Int)
def PTm (H0 H : Hp) (q : Addr) (ts : List Nat) : Prop := H0 q = none ∧ H q = some (.lst (ts.map tv))
structure TL (H0 H : Hp) (p : Addr) (qs : List Addr) (st : List (List Nat)) : Prop where
  new : H0 p = none
  ex : Ex H0 H
  atP : H p = some (.lst (qs.map V.ref))
  pr : Paired (PTm H0 H) qs st
  np : p ∉ qs
  nd : qs.Nodup
section
variable {H0 H : Hp} {p : Addr} {qs : List Addr} {st : List (List Nat)}
theorem TL.exx {H' : Hp} (h : TL H0 H p qs st) (e : Ex H H') : TL H0 H' p qs st :=
  ⟨h.new, h.ex.trans e, e _ _ h.atP, h.pr.mono fun _ _ x => ⟨x.1, e _ _ x.2⟩, h.np, h.nd⟩
theorem TL.mem {q : Addr} (h : TL H0 H p qs st) (m : q ∈ qs) : ∃ ts, H q = some (.lst ts) ∧ H0 q = none := by
  obtain ⟨b, _, x⟩ := paired_mem h.pr q m
  exact ⟨_, x.2, x.1⟩
/-- the list of groups itself is changed: some of its lists kept, one new in between -/
theorem TL.cut {v : Addr} {ts : List Nat} {i j : Nat} (h : TL H0 H p qs st) (hv : H v = some (.lst (ts.map tv))) (h0 : H0 v = none) (nv : v ∉ qs) (nvp : v ≠ p) (hij : i ≤ j) :
    TL H0 (upd H p (.lst ((qs.take i ++ [v] ++ qs.drop j).map V.ref))) p (qs.take i ++ [v] ++ qs.drop j) (st.take i ++ [ts] ++ st.drop j) := by
  have sub : ∀ q ∈ qs, q ≠ p := fun q hq z => h.np (z ▸ hq)
  have mt : ∀ q ∈ qs.take i, q ∈ qs := fun q hq => List.mem_of_mem_take hq
  have md : ∀ q ∈ qs.drop j, q ∈ qs := fun q hq => List.mem_of_mem_drop hq
  refine ⟨h.new, h.ex.mut h.new, upd_same, paired_app (paired_app (paired_keep (paired_take i h.pr) fun q hq b x => ⟨x.1, ?_⟩) (.cons ⟨h0, ?_⟩ .nil)) (paired_keep (paired_drop j h.pr) fun q hq b x => ⟨x.1, ?_⟩), ?_, ?_⟩
  · rw [upd_ne (sub q (mt q hq))]
    exact x.2
  · rw [upd_ne nvp]
    exact hv
  · rw [upd_ne (sub q (md q hq))]
    exact x.2
  · simp only [List.mem_append, List.mem_singleton]
    rintro ((m | m) | m)
    · exact h.np (mt p m)
    · exact nvp m.symm
    · exact h.np (md p m)
  · have hs : (qs.take i ++ qs.drop j).Nodup := by
      refine h.nd.sublist ?_
      conv => rhs; rw [← List.take_append_drop i qs]
      refine List.Sublist.append (List.Sublist.refl _) ?_
      have : qs.drop j = (qs.drop i).drop (j - i) := by
        rw [List.drop_drop]
        congr 1
        omega
      rw [this]
      exact List.drop_sublist _ _
    rw [List.nodup_append] at hs ⊢
    obtain ⟨s1, s2, s3⟩ := hs
    refine ⟨?_, s2, fun a ha b hb e => ?_⟩
    · rw [List.nodup_append]
      refine ⟨s1, by simp, fun a ha b hb e => ?_⟩
      rw [List.mem_singleton.mp hb] at e
      exact nv (e ▸ mt a ha)
    · rcases List.mem_append.mp ha with ha | ha
      · exact s3 a ha b hb e
      · rw [List.mem_singleton.mp ha] at e
        exact nv (e ▸ md b hb)
/-- one of its lists is changed -/
theorem TL.one {q : Addr} {ts ts' : List Nat} {j : Nat} (h : TL H0 H p qs st) (hq : qs[j]? = some q) (hs : st[j]? = some ts) :
    TL H0 (upd H q (.lst (ts'.map tv))) p qs (st.set j ts') := by
  have hm : q ∈ qs := List.mem_of_getElem? hq
  have nqp : q ≠ p := fun z => h.np (z ▸ hm)
  obtain ⟨_, _, h0⟩ := h.mem hm
  have hj := (List.getElem?_eq_some_iff.mp hs).1
  have hjq := (List.getElem?_eq_some_iff.mp hq).1
  have eq : qs = qs.take j ++ q :: qs.drop (j + 1) := by
    rw [← drop_at hq, List.take_append_drop]
  have nd := h.nd
  rw [eq, List.nodup_append] at nd
  obtain ⟨n1, n2, n3⟩ := nd
  rw [List.nodup_cons] at n2
  refine ⟨h.new, h.ex.mut h0, by rw [upd_ne (Ne.symm nqp)]; exact h.atP, ?_, h.np, h.nd⟩
  rw [List.set_eq_take_append_cons_drop, if_pos hj]
  conv => arg 2; rw [eq]
  refine paired_app (paired_keep (paired_take j h.pr) fun q' hq' b x => ⟨x.1, ?_⟩) (.cons ⟨h0, upd_same⟩ (paired_keep (paired_drop (j + 1) h.pr) fun q' hq' b x => ⟨x.1, ?_⟩))
  · rw [upd_ne (fun z => n3 q' hq' q (by simp) z)]
    exact x.2
  · rw [upd_ne (fun (z : q' = q) => n2.1 (z ▸ hq'))]
    exact x.2
end
abbrev sTig : Stmt := topS 22
theorem scTig : FnScope ["choices", "standing", "time", "word", "number"] ["choices"] (defScope sTig) := ⟨rfl, rfl, rfl, by decide +kernel, rfl, by decide +kernel, by decide +kernel⟩
section
variable {P : Program} {w : World} {K : PySem.W.Frag} {mg : Str → Option Value} {base : Heap}
def spTig (K : PySem.W.Frag) : Sp := fun vs H Q _ => ∃ (b b' : Bool) (a : Addr) (cs : List Ch), vs = [.ref a] ∧ ChIs K b b' H a cs ∧ VCh cs ∧ cs.length ≤ 900 ∧
  ∀ H' p qs, TL H H' p qs (stAt cs cs.length) → Q (.ref p) H'
theorem ok_tig {f : Addr} {fd : FuncData} {k : Nat} (F : Fun K "times_in_groups" "times_in_groups" sTig f fd) (me : mg "enumerate" = none) : FnOk P w K mg base CX0 (k + 1) f fd ["choices"] (spTig K) := by
  refine F.ok scTig (fun vs H Q E h => ?_) (fun cdv A outer s H vs Q E hr h => ?_)
  · obtain ⟨_, _, _, _, rfl, _⟩ := h
    rfl
  · obtain ⟨b, b', a, cs, rfl, hC, hV, hlen, q⟩ := h
    refine ⟨_, pss_cons (ps_set (i := 1) scTig.nd rfl (.inl rfl) (pe_lst pa_nil))
      (pss_cons (ps_for PassesOwn.never rfl (pi_enumB (by rfl) me (pa_cons (pv 0) pa_nil))
          (pg_tup rfl (pgs_cons (pg_name (i := 2) scTig.nd rfl (.inl rfl)) (pgs_cons (pg_seqB rfl (pgs_cons (pg_name (i := 3) scTig.nd rfl (.inl rfl)) (pgs_cons (pg_name (i := 4) scTig.nd rfl (.inl rfl)) pgs_nil))) pgs_nil)))
        (pss_one (ps_if (pt_cmpR op_eq (pv 3) pe_str (nomark _))
          (pss_one (ps_expr (pe_bm PySem.F.plainAttrs_list PySem.F.slot_list_insert PySem.F.type_list_insert mt_insert (pv 1) (pa_cons (pv 4) (pa_cons (pe_lst (pa_cons (pv 2) pa_nil)) pa_nil)))))
          (pss_one (ps_if (pt_cmpR op_eq (pv 3) pe_str (nomark _))
            (pss_one (ps_asg (pe_lst (pa_cons (pe_op op_cat (pe_op op_cat (pe_ix ix_list (pv 1) (pv 4) (fun _ _ => rfl)) (pe_lst (pa_cons (pv 2) pa_nil))) (pe_ix ix_list (pv 1) (pe_op op_add (pv 4) pe_int) (fun _ _ => rfl))) pa_nil)) (pg_sl (pv 1) (po_some (pv 4)) (po_some (pe_op op_add (pv 4) pe_int)))))
            (pss_one (ps_if (pt_cmpR op_eq (pe_op op_mod (pv 4) pe_int) pe_int (nomark _))
              (pss_one (ps_expr (pe_bm PySem.F.plainAttrs_list PySem.F.slot_list_insert PySem.F.type_list_insert mt_insert (pe_ix ix_list (pv 1) (pe_op op_fdiv (pv 4) pe_int) (fun _ _ => rfl)) (pa_cons pe_int (pa_cons (pv 2) pa_nil)))))
              (pss_one (ps_expr (pe_bm PySem.F.plainAttrs_list PySem.F.slot_list_append PySem.F.type_list_append mt_append (pe_ix ix_list (pv 1) (pe_op op_fdiv (pv 4) pe_int) (fun _ _ => rfl)) (pa_cons (pv 2) pa_nil)))))))))))
      (pss_one (ps_ret (pv 1)))), ?_⟩
    obtain ⟨ts, hS, hP⟩ := hC
    refine ⟨Nat.zero_le _, fun p hp => ⟨_, rfl, b, a, _, rfl, hS.ex (Ex.new hp), for_it (walk_enumB (K := K) (b := b) (a := a) (xs := ts.map V.ref)) (fun i σ H3 => ∃ y2 y3 y4 qs, σ = [some (.ref a), some (.ref p), y2, y3, y4] ∧ TL H H3 p qs (stAt cs i)) ?_ ?_ ?_ ?_⟩⟩
    · exact ⟨none, none, none, [], rfl, hp, Ex.new hp, upd_same, .nil, by simp, List.nodup_nil⟩
    · rintro i σ H3 _ ⟨_, _, _, _, _, h⟩
      exact hS.ex h.ex
    · rintro i x σ H3 H3' hi ⟨y2, y3, y4, qs, rfl, hT⟩ ⟨T, x', rfl, hTn, rfl, hx⟩
      rw [List.getElem?_map] at hx
      obtain ⟨t, ht, rfl⟩ := Option.map_eq_some_iff.mp hx
      obtain ⟨c, hc, hct⟩ := paired_get hP ht
      have hil := (List.getElem?_eq_some_iff.mp hc).1
      have hv := hV i c hc
      obtain ⟨z1, z2⟩ := st_size hV i (by omega)
      have est : stAt cs (i + 1) = applyC i c (stAt cs i) := by
        show applyC i (cs.getD i (.new, 0)) (stAt cs i) = _
        rw [getD_at hc]
      rw [est]
      have x4 : Ex H3 (upd H3 T (.tup [.int (i : Nat), .ref t])) := Ex.new hTn
      have hT4 := hT.exx x4
      have hct4 : SqB K b' (upd H3 T (.tup [.int (i : Nat), .ref t])) t (chV c) := hct.ex (hT.ex.trans x4)
      refine ⟨T, _, rfl, .inl (.inl upd_same), rfl, _, _, rfl, _, _, rfl, b', t, chV c, rfl, hct4, rfl, _, _, rfl, _, _, rfl, rfl, rfl, ?_⟩
      clear hTn hct4
      generalize (upd H3 T (.tup [.int (i : Nat), .ref t])) = H4 at hT4
      have hlq : qs.length = (stAt cs i).length := hT4.pr.length
      obtain ⟨wd, k⟩ := c
      cases wd with
      | new =>
        have hk : k ≤ (stAt cs i).length := hv
        refine ⟨_, rfl, rfl, _, rfl, ite2 (fun _ => ?_) (fun z => absurd (decide_eq_true (by rfl)) z)⟩
        refine ⟨_, rfl, .inl ⟨rfl, _, .inl (.inl hT4.atP)⟩, _, rfl, _, rfl, (show 1 ≤ sizeLine by decide), fun v hvn => ⟨p, qs.map V.ref, k, .ref v, rfl, rfl, ?_, ?_, by omega, by omega, ?_⟩⟩
        · exact Ex.new hvn _ _ hT4.atP
        · rw [List.length_map]
          exact small1000 (by omega)
        · have hT5 := hT4.exx (Ex.new (o := .lst [.int (i : Nat)]) hvn)
          have e : (qs.map V.ref).take (k : Int).toNat ++ [V.ref v] ++ (qs.map V.ref).drop (k : Int).toNat = (qs.take k ++ [v] ++ qs.drop k).map V.ref := by
            rw [Int.toNat_natCast, ← List.map_take, ← List.map_drop, List.map_append, List.map_append]
            rfl
          rw [e]
          refine ⟨_, _, _, qs.take k ++ [v] ++ qs.drop k, rfl, hT5.cut (ts := [i]) upd_same (fresh_back hT4.ex hvn) (fun m => ?_) (Ne.symm (ne_of_none hT4.atP hvn)) (Nat.le_refl _)⟩
          obtain ⟨_, h1, _⟩ := hT4.mem m
          rw [hvn] at h1
          cases h1
      | between =>
        have hk : k + 1 < (stAt cs i).length := hv
        have s1 : (stAt cs i)[k]? = some ((stAt cs i)[k]'(by omega)) := List.getElem?_eq_getElem _
        have s2 : (stAt cs i)[k + 1]? = some ((stAt cs i)[k + 1]'hk) := List.getElem?_eq_getElem _
        have l1 := inner_len s1
        have l2 := inner_len s2
        generalize ((stAt cs i)[k]'(by omega)) = t1 at s1 l1
        generalize ((stAt cs i)[k + 1]'hk) = t2 at s2 l2
        obtain ⟨q1, hq1, hp1⟩ := paired_back hT4.pr s1
        obtain ⟨q2, hq2, hp2⟩ := paired_back hT4.pr s2
        have at1 : atI (qs.map V.ref) (k : Int) = some (.ref q1) := atI_nat (by rw [List.getElem?_map, hq1]; rfl)
        have at2 : atI (qs.map V.ref) ((k : Int) + 1) = some (.ref q2) := at_of (j := k + 1) (by omega) (by rw [List.getElem?_map, hq2]; rfl)
        refine ⟨_, rfl, rfl, _, rfl, ite2 (fun z => absurd (of_decide_eq_true z) (show ¬ V.str (wstr .between) = V.str "new" by decide)) (fun _ => ?_)⟩
        refine ⟨_, rfl, rfl, _, rfl, ite2 (fun _ => ?_) (fun z => absurd (decide_eq_true (by rfl)) z)⟩
        refine ⟨_, rfl, _, rfl, p, _, _, _, rfl, rfl, .inl (.inl hT4.atP), at1, _, rfl, (show 1 ≤ sizeLine by decide), fun v1 hv1 => ?_⟩
        have hT5 := hT4.exx (Ex.new (o := .lst [.int (i : Nat)]) hv1)
        have hp15 := Ex.new (o := .lst [.int (i : Nat)]) hv1 _ _ hp1.2
        have hp25 := Ex.new (o := .lst [.int (i : Nat)]) hv1 _ _ hp2.2
        have hv15 : (upd H4 v1 (.lst [.int (i : Nat)])) v1 = some (.lst [.int (i : Nat)]) := upd_same
        generalize (upd H4 v1 (.lst [.int (i : Nat)])) = H5 at hT5 hp15 hp25 hv15
        refine ⟨q1, v1, t1.map tv, _, rfl, rfl, hp15, hv15, ?_, fun v2 hv2 => ?_⟩
        · rw [List.length_map]
          exact Nat.le_of_lt (small1000 (show t1.length + 1 ≤ 1000 by omega))
        have hT6 := hT5.exx (Ex.new (o := .lst (t1.map tv ++ [.int (i : Nat)])) hv2)
        have hp26 := Ex.new (o := .lst (t1.map tv ++ [.int (i : Nat)])) hv2 _ _ hp25
        have hv26 : (upd H5 v2 (.lst (t1.map tv ++ [.int (i : Nat)]))) v2 = some (.lst (t1.map tv ++ [.int (i : Nat)])) := upd_same
        generalize (upd H5 v2 (.lst (t1.map tv ++ [.int (i : Nat)]))) = H6 at hT6 hp26 hv26
        refine ⟨_, rfl, _, rfl, _, _, rfl, rfl, p, _, _, _, rfl, rfl, .inl (.inl hT6.atP), at2, v2, q2, _, t2.map tv, rfl, rfl, hv26, hp26, ?_, fun v3 hv3 => ?_⟩
        · rw [List.length_append, List.length_map, List.length_map]
          exact sz_of (show t1.length + 1 + t2.length ≤ 100000 by omega)
        have hT7 := hT6.exx (Ex.new (o := .lst (t1.map tv ++ [.int (i : Nat)] ++ t2.map tv)) hv3)
        have hv37 : (upd H6 v3 (.lst (t1.map tv ++ [.int (i : Nat)] ++ t2.map tv))) v3 = some (.lst ((t1 ++ [i] ++ t2).map tv)) := by
          rw [upd_same, List.map_append, List.map_append]
          rfl
        have nv3 : v3 ∉ qs := fun m => by
          obtain ⟨_, h1, _⟩ := hT6.mem m
          rw [hv3] at h1
          cases h1
        have nv3p : v3 ≠ p := Ne.symm (ne_of_none hT6.atP hv3)
        have h0v3 := fresh_back hT6.ex hv3
        generalize (upd H6 v3 (.lst (t1.map tv ++ [.int (i : Nat)] ++ t2.map tv))) = H7 at hT7 hv37
        refine ⟨(show 1 ≤ sizeLine by decide), fun wn hwn => ?_⟩
        have hT8 := hT7.exx (Ex.new (o := .lst [.ref v3]) hwn)
        have hv38 := Ex.new (o := .lst [.ref v3]) hwn _ _ hv37
        refine ⟨_, rfl, _, rfl, _, rfl, _, rfl, _, _, rfl, rfl, _, rfl, p, wn, qs.map V.ref, [.ref v3], k, (k : Int) + 2, rfl, rfl, rfl, rfl, hT8.atP, upd_same, ne_of_none hT7.atP hwn, by omega, by omega, by rw [List.length_map]; omega, ?_, ?_⟩
        · rw [List.length_map]
          exact Nat.le_of_lt (small1000 (show qs.length + 1 ≤ 1000 by omega))
        · have e : (qs.map V.ref).take (k : Int).toNat ++ [V.ref v3] ++ (qs.map V.ref).drop ((k : Int) + 2).toNat = (qs.take k ++ [v3] ++ qs.drop (k + 2)).map V.ref := by
            rw [Int.toNat_natCast, show ((k : Int) + 2).toNat = k + 2 by omega, ← List.map_take, ← List.map_drop, List.map_append, List.map_append]
            rfl
          rw [e]
          refine ⟨_, _, _, qs.take k ++ [v3] ++ qs.drop (k + 2), rfl, ?_⟩
          have hA : applyC i (.between, k) (stAt cs i) = (stAt cs i).take k ++ [t1 ++ [i] ++ t2] ++ (stAt cs i).drop (k + 2) := by
            show (stAt cs i).take k ++ [((stAt cs i).getD k []) ++ [i] ++ ((stAt cs i).getD (k + 1) [])] ++ (stAt cs i).drop (k + 2) = _
            rw [getD_at s1, getD_at s2]
          rw [hA]
          exact hT8.cut hv38 h0v3 nv3 nv3p (by omega)
      | beside =>
        have hk : k < 2 * (stAt cs i).length := hv
        have hj : k / 2 < (stAt cs i).length := by omega
        have s1 : (stAt cs i)[k / 2]? = some ((stAt cs i)[k / 2]'hj) := List.getElem?_eq_getElem _
        have l1 := inner_len s1
        generalize ((stAt cs i)[k / 2]'hj) = t1 at s1 l1
        obtain ⟨q1, hq1, hp1⟩ := paired_back hT4.pr s1
        have at1 : atI (qs.map V.ref) ((k : Int) / 2) = some (.ref q1) := at_of (j := k / 2) (by omega) (by rw [List.getElem?_map, hq1]; rfl)
        have hA : applyC i (.beside, k) (stAt cs i) = if k % 2 = 0 then (stAt cs i).set (k / 2) (i :: t1) else (stAt cs i).set (k / 2) (t1 ++ [i]) := by
          show (if k % 2 = 0 then (stAt cs i).set (k / 2) (i :: (stAt cs i).getD (k / 2) []) else (stAt cs i).set (k / 2) ((stAt cs i).getD (k / 2) [] ++ [i])) = _
          rw [getD_at s1]
        rw [hA]
        refine ⟨_, rfl, rfl, _, rfl, ite2 (fun z => absurd (of_decide_eq_true z) (show ¬ V.str (wstr .beside) = V.str "new" by decide)) (fun _ => ?_)⟩
        refine ⟨_, rfl, rfl, _, rfl, ite2 (fun z => absurd (of_decide_eq_true z) (show ¬ V.str (wstr .beside) = V.str "between" by decide)) (fun _ => ?_)⟩
        refine ⟨_, rfl, _, _, rfl, rfl, (show (0 : Int) < 2 by decide), rfl, _, rfl, ite2 (fun z => ?_) (fun z => ?_)⟩
        · have hz : (k : Int) % 2 = 0 := V.int.inj (of_decide_eq_true z)
          rw [if_pos (by omega)]
          refine ⟨_, rfl, _, rfl, _, _, rfl, rfl, ⟨by decide, by decide⟩, p, _, _, _, rfl, rfl, .inl (.inl hT4.atP), at1, .inl ⟨rfl, _, .inl (.inl hp1.2)⟩, _, rfl, q1, t1.map tv, 0, _, rfl, rfl, hp1.2, ?_, by decide, by decide, _, _, _, qs, rfl, ?_⟩
          · rw [List.length_map]
            exact small1000 (by omega)
          · exact hT4.one (ts' := i :: t1) hq1 s1
        · have hz : ¬ (k : Int) % 2 = 0 := fun u => z (decide_eq_true (congrArg V.int u))
          rw [if_neg (by omega)]
          refine ⟨_, rfl, _, rfl, _, _, rfl, rfl, ⟨by decide, by decide⟩, p, _, _, _, rfl, rfl, .inl (.inl hT4.atP), at1, .inl ⟨rfl, _, .inl (.inl hp1.2)⟩, _, rfl, q1, t1.map tv, _, rfl, rfl, hp1.2, ?_, _, _, _, qs, rfl, ?_⟩
          · rw [List.length_map]
            exact small1000 (by omega)
          · have e : t1.map tv ++ [V.int (i : Nat)] = (t1 ++ [i]).map tv := by
              rw [List.map_append]
              rfl
            rw [e]
            exact hT4.one (ts' := t1 ++ [i]) hq1 s1
    · rintro σ H3 ⟨y2, y3, y4, qs, rfl, hT⟩
      have hl : (ts.map V.ref).length = cs.length := by rw [List.length_map, hP.length]
      rw [hl] at hT
      exact ⟨_, rfl, q H3 p qs hT⟩
end
end Og

namespace Og
open PySem PySem.Spec PyProof.Rows L2 OgR Evl OgM
abbrev sRow : Stmt := topS 23
theorem scRow : FnScope ["choices", "gaps", "row", "plot", "times", "gap", "time"] ["choices", "gaps"] (defScope sRow) := ⟨rfl, rfl, rfl, by decide +kernel, rfl, by decide +kernel, by decide +kernel⟩
/-- gaps[1:], a list or a tuple that is not empty -/
def rSlB (K : PySem.W.Frag) : V → Option Int → Option Int → Hp → VK → Prop := fun x lo hi H Q => ∃ (b : Bool) (a : Addr) (y : V) (ys : List V), x = .ref a ∧ lo = some 1 ∧ hi = none ∧ SqB K b H a (y :: ys) ∧
  ∀ p H', H p = none → Ex H H' → SqB K b H' p ys → Q (.ref p) H'
theorem sl_B {X : Cx} : SlR X (rSlB X.K) := by
  intro pins s σ H x v vl vu lo hi sl Q I rx hs pl pu h
  obtain ⟨b, a, y, ys, rfl, rfl, rfl, hS, q⟩ := h
  have e : cutV (y :: ys) (some 1) none = ys := cut_from (y :: ys) 1
  cases b with
  | true =>
    refine sl_tup pins s σ H _ v vl vu _ _ sl Q I rx hs pl pu ⟨a, y :: ys, rfl, hS, fun z => ?_, fun p hp => ?_⟩
    · have z1 : HT.sIx (y :: ys).length 0 (some ((1 : Nat) : Int)) = 0 := z.1
      rw [HT.sIx_nat, List.length_cons] at z1
      omega
    · rw [e]
      exact q p _ hp (Ex.new hp) (.inl (.inl upd_same))
  | false =>
    refine sl_list pins s σ H _ v vl vu _ _ sl Q I rx hs pl pu ⟨a, y :: ys, rfl, hS, fun p hp => ?_⟩
    rw [e]
    exact q p _ hp (Ex.new hp) (.inl (.inl upd_same))
theorem rep_flat : ∀ n : Nat, (List.replicate n [V.int 0]).flatten = (List.replicate n (0 : Int)).map V.int
  | 0 => rfl
  | n + 1 => by
    rw [List.replicate_succ, List.replicate_succ, List.flatten_cons, rep_flat n]
    rfl
theorem SqB.exB {K : PySem.W.Frag} {b : Bool} {l a : Addr} {H H' : Hp} {xs : List V} (h : SqB K b H a xs) (n : a ≠ l) (e : ExB l H H') : SqB K b H' a xs := by
  cases b with
  | true =>
    rcases h with (h | ⟨o, h⟩) | h
    · exact .inl (.inl (e _ _ n h))
    · exact .inl (.inr ⟨o, e _ _ n h⟩)
    · exact .inr h
  | false =>
    rcases h with (h | ⟨o, h⟩) | h
    · exact .inl (.inl (e _ _ n h))
    · exact .inl (.inr ⟨o, e _ _ n h⟩)
    · exact .inr h
theorem all_at {R : List Int} {n : Nat} {fn : Nat → Int} (hl : R.length = n) (h : ∀ t, t < n → R[t]? = some (fn t)) : R = (List.range n).map fn := by
  refine List.ext_getElem? fun i => ?_
  by_cases hi : i < n
  · rw [h i hi, List.getElem?_map, List.getElem?_range hi]
    rfl
  · rw [List.getElem?_eq_none (by omega), List.getElem?_eq_none (by simp; omega)]
section
variable {P : Program} {w : World} {K : PySem.W.Frag} {mg : Str → Option Value} {base : Heap}
def spRow (K : PySem.W.Frag) : Sp := fun vs H Q _ => ∃ (b b' bg : Bool) (a ga : Addr) (cs : List Ch) (c : Int) (g : List Seg) (fn : Nat → Int), vs = [.ref a, .ref ga] ∧ ChIs K b b' H a cs ∧ VCh cs ∧ cs.length ≤ 900 ∧
  SqB K bg H ga ((holes c g).map V.int) ∧ Told fn (stAt cs cs.length) g ∧ ∀ H' t, Ex H H' → H t = none → H' t = some (.tup (((List.range cs.length).map fn).map V.int)) → Q (.ref t) H'
theorem ok_row {f fT : Addr} {fd fdT : FuncData} {k : Nat} (F : Fun K "row_of" "row_of" sRow f fd) (FT : Fun K "times_in_groups" "times_in_groups" sTig fT fdT) (bT : Binds K fdT ["choices"] []) (gT : mg "times_in_groups" = some (.ref fT))
    (me : mg "enumerate" = none) (ml : mg "len" = none) (mz : mg "zip" = none) (mt : mg "tuple" = none) : FnOk P w K mg base CX0 (k + 2) f fd ["choices", "gaps"] (spRow K) := by
  have GT : FnOk P w K mg base CX0 (k + 1) fT fdT ["choices"] (spTig K) := ok_tig FT me
  refine F.ok scRow (fun vs H Q E h => ?_) (fun cdv A outer s H vs Q E hr h => ?_)
  · obtain ⟨_, _, _, _, _, _, _, _, _, rfl, _⟩ := h
    rfl
  · obtain ⟨b, b', bg, a, ga, cs, c, g, fn, rfl, hC, hV, hlen, hG, hTo, q⟩ := h
    refine ⟨_, pss_cons (ps_set (i := 2) scRow.nd rfl (.inl rfl) (pe_op op_rep (pe_lst (pa_cons pe_int pa_nil)) (pe_callB cr_lenB (by rfl) ml PySem.boot_len (pa_cons (pv 0) pa_nil))))
      (pss_cons (ps_set (i := 3) scRow.nd rfl (.inl rfl) (pe_ix ix_B (pv 1) pe_int (fun _ _ => rfl)))
      (pss_cons (ps_for PassesOwn.never rfl (pi_zipB (by rfl) mz (pa_cons (pe_call GT hr (by rfl) gT FT.kp bT .nil pass0 (pa_cons (pv 0) pa_nil)) (pa_cons (pe_slice sl_B (pv 1) (po_some pe_int) po_none) pa_nil)))
          (pg_tup rfl (pgs_cons (pg_name (i := 4) scRow.nd rfl (.inl rfl)) (pgs_cons (pg_name (i := 5) scRow.nd rfl (.inl rfl)) pgs_nil)))
        (pss_cons (ps_for PassesOwn.never rfl (pi_list (pv 4)) (pg_name (i := 6) scRow.nd rfl (.inl rfl))
            (pss_cons (ps_asg (pv 3) (pg_sub (pv 2) (pv 6) set_list)) (pss_one (ps_aug (i := 3) scRow.nd rfl (.inl rfl) pe_int ip_add))))
        (pss_one (ps_aug (i := 3) scRow.nd rfl (.inl rfl) (pv 5) ip_add))))
      (pss_one (ps_ret (pe_callTy call_tuple_of (by rfl) mt (by decide +kernel) (pa_cons (pv 2) pa_nil)))))), ?_⟩
    have hST : ∀ x, x ∈ (stAt cs cs.length).flatten ↔ x < cs.length := st_mem hV cs.length (Nat.le_refl _)
    obtain ⟨ts, hS, hP⟩ := hC
    have hlt : (ts.map V.ref).length = cs.length := by rw [List.length_map, hP.length]
    refine ⟨(show 1 ≤ sizeLine by decide), fun z hz => ⟨_, rfl, b, a, ts.map V.ref, rfl, hS.ex (Ex.new hz), z, _, _, rfl, rfl, upd_same, by omega, by omega, ?_, fun r hrn => ?_⟩⟩
    · show 1 * _ ≤ sizeLine
      exact Nat.le_of_lt (small1000 (by omega))
    have hr0 : H r = none := fresh_back (Ex.new hz) hrn
    rw [hlt, Int.toNat_natCast, rep_flat]
    have x1 : Ex H (upd (upd H z (.lst [.int 0])) r (.lst ((List.replicate cs.length (0 : Int)).map V.int))) := (Ex.new hz).trans (Ex.new hrn)
    have hr1 : (upd (upd H z (.lst [.int 0])) r (.lst ((List.replicate cs.length (0 : Int)).map V.int))) r = some (.lst ((List.replicate cs.length (0 : Int)).map V.int)) := upd_same
    generalize (upd (upd H z (.lst [.int 0])) r (.lst ((List.replicate cs.length (0 : Int)).map V.int))) = H1 at x1 hr1
    have hgl := holes_len c g
    obtain ⟨h0, hrest, eh⟩ : ∃ h0 hrest, holes c g = h0 :: hrest := by
      cases hh : holes c g with
      | nil =>
        rw [hh] at hgl
        simp at hgl
      | cons h0 hrest => exact ⟨h0, hrest, rfl⟩
    rw [eh] at hG
    have hrl : hrest.length = g.length := by
      rw [eh] at hgl
      simpa using hgl
    refine ⟨_, rfl, bg, ga, _, 0, _, rfl, rfl, hG.ex x1, atI_nat (j := 0) rfl, ?_⟩
    refine ⟨_, rfl, b, b', a, cs, rfl, ⟨ts, hS.ex x1, hP.mono fun _ _ x => x.ex x1⟩, hV, hlen, fun H2 p qs hT => ?_⟩
    refine ⟨_, rfl, 1, rfl, bg, ga, .int h0, hrest.map V.int, rfl, rfl, rfl, hG.ex (x1.trans hT.ex), fun sl H3 hsl e3 hSl => ?_⟩
    have hsg : (stAt cs cs.length).length = g.length := by
      have := congrArg List.length hTo
      simpa using this
    have hqg : qs.length = g.length := by rw [hT.pr.length, hsg]
    have hpr : p ≠ r := Ne.symm (ne_of_none hr1 hT.new)
    have hslr : sl ≠ r := Ne.symm (ne_of_none (hT.ex _ _ hr1) hsl)
    have hT3 := hT.exx e3
    refine ⟨false, bg, p, sl, qs.map V.ref, hrest.map V.int, rfl, .inl (.inl hT3.atP), hSl, for_it (walk_zipB (K := K) (b1 := false) (b2 := bg) (a1 := p) (a2 := sl) (xs := qs.map V.ref) (ys := hrest.map V.int) (by rw [List.length_map, List.length_map, hqg, hrl]))
      (fun j σ H4 => ∃ (y4 y5 y6 : Option V) (pl : Int) (R : List Int), σ = [some (.ref a), some (.ref ga), some (.ref r), some (.int pl), y4, y5, y6] ∧ ExB r H3 H4 ∧ H4 r = some (.lst (R.map V.int)) ∧ R.length = cs.length ∧ (∀ t ∈ ((stAt cs cs.length).take j).flatten, R[t]? = some (fn t)) ∧ (∀ x, g[j]? = some x → pl = x.1)) ?_ ?_ ?_ ?_⟩
    · refine ⟨none, none, none, h0, List.replicate cs.length 0, rfl, .of (Ex.refl _), hT3.ex _ _ hr1, by simp, by simp, fun x hx => ?_⟩
      cases g with
      | nil => simp at hx
      | cons y gr =>
        have e1 : y = x := Option.some.inj hx
        subst e1
        have e2 : y.1 - 0 = h0 := by
          have : holes c (y :: gr) = (y.1 - 0) :: _ := rfl
          rw [this] at eh
          injection eh
        omega
    · rintro j σ H4 _ ⟨_, _, _, _, _, _, e4, _⟩
      exact ⟨SqB.exB (b := false) (.inl (.inl hT3.atP)) hpr e4, SqB.exB hSl hslr e4⟩
    · rintro j x σ H4 H4' hj ⟨y4, y5, y6, pl, R, rfl, e4, hr4, hRl, hRt, hpl⟩ ⟨T, x', y', rfl, hTn, rfl, hx, hy⟩
      rw [List.getElem?_map] at hx hy
      obtain ⟨q', hq', rfl⟩ := Option.map_eq_some_iff.mp hx
      obtain ⟨gp, hgp, rfl⟩ := Option.map_eq_some_iff.mp hy
      obtain ⟨tj, htj, hqv⟩ := paired_get hT3.pr hq'
      obtain ⟨xg, hxg, hmap⟩ := told_get hTo htj
      have hpl' := hpl xg hxg
      subst hpl'
      have hq0 : H1 q' = none := hqv.1
      have hqr : q' ≠ r := Ne.symm (ne_of_none hr1 hq0)
      have hq4 := e4 _ _ hqr hqv.2
      have x5 : Ex H4 (upd H4 T (.tup [.ref q', .int gp])) := Ex.new hTn
      have hq5 := x5 _ _ hq4
      have hr5 := x5 _ _ hr4
      have e5 : ExB r H3 (upd H4 T (.tup [.ref q', .int gp])) := e4.trans (.of x5)
      have htl : tj.length = xg.2 + 1 := by
        have := congrArg List.length hmap
        rw [List.length_map, sgi_len] at this
        exact this
      refine ⟨T, _, rfl, .inl (.inl upd_same), rfl, _, _, rfl, _, _, rfl, rfl, ?_⟩
      generalize (upd H4 T (.tup [.ref q', .int gp])) = H5 at hq5 hr5 e5
      refine ⟨_, rfl, q', rfl, ⟨_, .inl (.inl hq5)⟩, for_list (xs := tj.map tv) (fun i σ H6 => ∃ (y6 : Option V) (R : List Int), σ = [some (.ref a), some (.ref ga), some (.ref r), some (.int (xg.1 + (i : Nat))), some (.ref q'), some (.int gp), y6] ∧ ExB r H3 H6 ∧ H6 r = some (.lst (R.map V.int)) ∧ R.length = cs.length ∧ (∀ t, t ∈ ((stAt cs cs.length).take j).flatten ∨ t ∈ tj.take i → R[t]? = some (fn t))) ?_ ?_ ?_ ?_⟩
      · refine ⟨y6, R, ?_, e5, hr5, hRl, fun t ht => ?_⟩
        · show _ = [some (V.ref a), some (.ref ga), some (.ref r), some (.int (xg.1 + ((0 : Nat) : Int))), some (.ref q'), some (.int gp), y6]
          rw [show xg.1 + ((0 : Nat) : Int) = xg.1 by omega]
          rfl
        · rcases ht with ht | ht
          · exact hRt t ht
          · simp at ht
      · rintro i σ H6 _ ⟨_, _, _, e6, _⟩
        exact .inl (.inl (e6 _ _ hqr hqv.2))
      · rintro i x σ H6 hx6 ⟨y6', R6, rfl, e6, hr6, hR6, hRt6⟩
        rw [List.getElem?_map] at hx6
        obtain ⟨t, ht, rfl⟩ := Option.map_eq_some_iff.mp hx6
        have hti := (List.getElem?_eq_some_iff.mp ht).1
        have htf : t ∈ (stAt cs cs.length).flatten := List.mem_flatten.mpr ⟨tj, List.mem_of_getElem? htj, List.mem_of_getElem? ht⟩
        have htn : t < cs.length := (hST t).mp htf
        have hft : fn t = xg.1 + (i : Nat) := by
          have q1 : (tj.map fn)[i]? = some (fn t) := by rw [List.getElem?_map, ht]; rfl
          rw [hmap, sgi_get (by omega)] at q1
          exact (Option.some.inj q1).symm
        refine ⟨_, rfl, _, rfl, _, rfl, r, _, _, t, rfl, rfl, hr6, ixN_nat (by rw [List.length_map]; omega), ?_⟩
        refine ⟨_, rfl, _, _, rfl, rfl, some (tv t), R6.set t (xg.1 + (i : Nat)), ?_, e6.trans .box, ?_, by rw [List.length_set]; exact hR6, fun t' ht' => ?_⟩
        · show [some (V.ref a), some (.ref ga), some (.ref r), some (.int (xg.1 + (i : Nat) + 1)), some (.ref q'), some (.int gp), some (tv t)] = _
          rw [show xg.1 + ((i : Nat) : Int) + 1 = xg.1 + ((i + 1 : Nat) : Int) by omega]
        · rw [upd_same, List.map_set]
        · by_cases hh : t = t'
          · subst hh
            rw [List.getElem?_set_self (by omega), hft]
          · rw [List.getElem?_set_ne hh]
            refine hRt6 t' ?_
            rcases ht' with h1 | h1
            · exact .inl h1
            · rw [take_next ht] at h1
              rcases List.mem_append.mp h1 with h1 | h1
              · exact .inr h1
              · exact absurd (List.mem_singleton.mp h1).symm hh
      · rintro σ H6 ⟨y6', R6, rfl, e6, hr6, hR6, hRt6⟩
        refine ⟨_, rfl, _, rfl, _, _, rfl, rfl, some (.ref q'), some (.int gp), y6', _, R6, rfl, e6, hr6, hR6, fun t ht => ?_, fun y hy' => ?_⟩
        · refine hRt6 t ?_
          rw [take_next htj, List.flatten_append, List.mem_append] at ht
          rcases ht with ht | ht
          · exact .inl ht
          · rw [show tj.take (tj.map tv).length = tj from List.take_of_length_le (by rw [List.length_map]; exact Nat.le_refl _)]
            simp at ht
            exact .inr ht
        · have h5 := holes_get (c := c) hxg hy'
          rw [eh, List.getElem?_cons_succ, hgp] at h5
          have h6 := Option.some.inj h5
          rw [List.length_map, htl]
          show xg.1 + ((xg.2 + 1 : Nat) : Int) + gp = y.1
          omega
    · rintro σ H4 ⟨y4, y5, y6, pl, R, rfl, e4, hr4, hRl, hRt, _⟩
      rw [List.take_of_length_le (by rw [List.length_map, hqg, hsg]; exact Nat.le_refl _)] at hRt
      have hR := all_at hRl fun t ht => hRt t ((hST t).mpr ht)
      subst hR
      have hex : Ex H H4 := fun a' o h => e4 a' o (ne_of_none h hr0) (hT3.ex _ _ (x1 _ _ h))
      refine ⟨_, rfl, r, _, rfl, .inl ⟨.inl (.inl hr4), fun t ht => q _ t (hex.trans (Ex.new ht)) (fresh_back hex ht) upd_same⟩⟩
end
end Og


namespace Og61
open PySem PySem.Spec PyProof.Rows L2 OgR Evl Dw OgM
theorem ws (w : Wd) : Og.wstr w = wstr w := by cases w <;> rfl
section
variable {P : Program} {wd : World} {K : PySem.W.Frag} {mg : Str → Option Value} {base : Heap}
def wdsD (row : List Int) : List PyData := (picks row).map fun c => .str (wstr c.1)
theorem words_at {aW : Addr} (h : ∀ G, Dp K G (.ref aW) (.tuple [.str "new", .str "beside", .str "between"])) : ∀ H, SqT K H aW Og.wordsV := fun H => by
  cases h H with
  | tup h t =>
    cases t with
    | cons a t =>
      cases t with
      | cons b t =>
        cases t with
        | cons c t =>
          cases t
          cases a
          cases b
          cases c
          exact h
def f_houses : FP := fun ds R => ∃ d row, ds = [d] ∧ IsR d row ∧ row.Nodup ∧ row.length ≤ 900 ∧ R (.tuple (wdsD row))
theorem ok_houses (T : Top wd K mg) : Def P wd K mg base 2 "houses" s_houses ["row"] (spP K f_houses) := by
  obtain ⟨f, fd, F, b, m⟩ := T.d_houses.ex
  obtain ⟨fN, fdN, FN, bN, gN⟩ := T.d_neighbours.ex
  obtain ⟨aW, gW, hW⟩ := T.c_WORDS.ex
  refine ⟨f, fd, fnG_ok ((Og.ok_houses (k := 0) F FN bN gN gW (words_at hW) T.b_tuple).imp fun vs H Q E h => ?_), F, b, m⟩
  obtain ⟨G, ds, R, gh, hd, ⟨d, row, rfl, hr, hn, hl, q⟩, k⟩ := h
  obtain ⟨v, rfl, hv⟩ := dpa_one hd
  obtain ⟨bb, p, rfl, hs⟩ := dp_row gh hv hr
  refine ⟨bb, p, row, rfl, hs, hn, hl, fun H' t eh ht ht' => k _ _ (nwG G H H') H' q (nwG_up gh) eh (nwG_in gh eh) nwG_nw (.tup (.inl (.inl (by rw [nwG_at ht]; exact ht'))) ?_)⟩
  unfold wdsD
  induction picks row with
  | nil => exact .nil
  | cons c cs ih => exact .cons (by show Dp K _ (.str (Og.wstr c.1)) (.str (wstr c.1)); rw [ws]; exact .str _) ih
def f_gaps : FP := fun ds R => ∃ d c row, ds = [.int c, d] ∧ IsR d row ∧ row.Nodup ∧ row.length ≤ 900 ∧ R (.tuple ((holes c (segs row)).map .int))
theorem ok_gaps_of (T : Top wd K mg) : Def P wd K mg base 1 "gaps_of" s_gaps_of ["plots", "row"] (spP K f_gaps) := by
  obtain ⟨f, fd, F, b, m⟩ := T.d_gaps_of.ex
  refine ⟨f, fd, fnG_ok ((Og.ok_gaps (k := 0) F T.b_sorted T.b_zip).imp fun vs H Q E h => ?_), F, b, m⟩
  obtain ⟨G, ds, R, gh, hd, ⟨d, c, row, rfl, hr, hn, hl, q⟩, k⟩ := h
  obtain ⟨u, v, rfl, hu, hv⟩ := dpa_two hd
  cases hu
  obtain ⟨bb, p, rfl, hs⟩ := dp_row gh hv hr
  exact ⟨bb, p, c, row, rfl, hs, hn, hl, fun H' t eh ht ht' => k _ _ (nwG G H H') H' q (nwG_up gh) eh (nwG_in gh eh) nwG_nw (.tup (.inl (.inl (by rw [nwG_at ht]; exact ht'))) (dpa_ints _))⟩
def f_cof : FP := fun ds R => ∃ d row, ds = [d] ∧ IsR d row ∧ row.Nodup ∧ row.length ≤ 900 ∧ R (picksT row)
theorem ok_choices_of (T : Top wd K mg) : Def P wd K mg base 3 "choices_of" s_choices_of ["row"] (spP K f_cof) := by
  obtain ⟨f, fd, F, b, m⟩ := T.d_choices_of.ex
  obtain ⟨fN, fdN, FN, bN, gN⟩ := T.d_neighbours.ex
  obtain ⟨fH, fdH, FH, bH, gH⟩ := T.d_houses.ex
  obtain ⟨fM, fdM, FM, bM, gM⟩ := T.d_number_of_choice.ex
  obtain ⟨fG, fdG, FG, bG, gG⟩ := T.d_groups_left_of.ex
  obtain ⟨aW, gW, hW⟩ := T.c_WORDS.ex
  refine ⟨f, fd, fnG_ok ((Og.ok_cof (k := 0) F FH bH gH FN bN gN FM bM gM FG bG gG gW (words_at hW) T.b_tuple T.b_len T.b_zip).imp fun vs H Q E h => ?_), F, b, m⟩
  obtain ⟨G, ds, R, gh, hd, ⟨d, row, rfl, hr, hn, hl, q⟩, k⟩ := h
  obtain ⟨v, rfl, hv⟩ := dpa_one hd
  obtain ⟨bb, p, rfl, hs⟩ := dp_row gh hv hr
  refine ⟨bb, p, row, rfl, hs, hn, hl, fun H' t ts eh ht ht' hp => k _ _ (nwG G H H') H' q (nwG_up gh) eh (nwG_in gh eh) nwG_nw (.tup (.inl (.inl (by rw [nwG_at ht]; exact ht'))) ?_)⟩
  revert hp
  generalize picks row = cs
  intro hp
  clear ht'
  induction hp with
  | nil => exact .nil
  | cons h _ ih =>
    refine .cons (.tup (.inl (.inl (by rw [nwG_at h.1]; exact h.2))) ?_) ih
    unfold Og.chV
    rw [ws]
    exact .cons (.str _) (.cons (.int _) .nil)
def IsC (d : PyData) (cs : List Ch) : Prop := d = .tuple (cs.map chT) ∨ d = .list (cs.map chT)
theorem IsC.sq {d : PyData} {cs : List Ch} (h : IsC d cs) : seqd d = true ∧ its d = cs.map chT := by
  rcases h with rfl | rfl <;> exact ⟨rfl, rfl⟩
theorem dp_chs {G H : Hp} (gh : Ex G H) : ∀ {cs : List Ch} {xs : List V}, DpAll K G xs (cs.map chT) → ∃ ts : List Addr, xs = ts.map V.ref ∧ Paired (fun t c => SqB K true H t (Og.chV c)) ts cs
  | [], _, .nil => ⟨[], rfl, .nil⟩
  | c :: cs, _, .cons h t => by
    obtain ⟨ts, rfl, hp⟩ := dp_chs gh t
    have h : Dp K G _ (.tuple [.str (wstr c.1), .int (c.2 : Nat)]) := h
    cases h with
    | tup h1 h2 =>
      obtain ⟨v, u, rfl, a, b⟩ := dpa_two h2
      cases a
      cases b
      refine ⟨_ :: ts, rfl, .cons ?_ hp⟩
      unfold Og.chV
      rw [ws]
      exact SqB.ex (b := true) gh h1
def f_row : FP := fun ds R => ∃ dc dg cs c g fn, ds = [dc, dg] ∧ IsC dc cs ∧ VCh cs ∧ cs.length ≤ 900 ∧ IsR dg (holes c g) ∧ Told fn (stAt cs cs.length) g ∧ R (.tuple ((rowF fn cs.length).map .int))
theorem ok_row_of (T : Top wd K mg) : Def P wd K mg base 2 "row_of" s_row_of ["choices", "gaps"] (spP K f_row) := by
  obtain ⟨f, fd, F, b, m⟩ := T.d_row_of.ex
  obtain ⟨fT, fdT, FT, bT, gT⟩ := T.d_times_in_groups.ex
  refine ⟨f, fd, fnG_ok ((Og.ok_row (k := 0) F FT bT gT T.b_enumerate T.b_len T.b_zip T.b_tuple).imp fun vs H Q E h => ?_), F, b, m⟩
  obtain ⟨G, ds, R, gh, hd, ⟨dc, dg, cs, c, g, fn, rfl, hc, hV, hl, hg, ht, q⟩, k⟩ := h
  obtain ⟨u, v, rfl, hu, hv⟩ := dpa_two hd
  obtain ⟨bg, ga, rfl, hs⟩ := dp_row gh hv hg
  obtain ⟨a, xs, rfl, h1, h2⟩ := dp_sq hu hc.sq.1
  rw [hc.sq.2] at h2
  obtain ⟨ts, rfl, hp⟩ := dp_chs gh h2
  exact ⟨_, true, bg, a, ga, cs, c, g, fn, rfl, ⟨ts, h1.ex gh, hp⟩, hV, hl, hs, ht, fun H' t eh ht ht' => k _ _ (nwG G H H') H' q (nwG_up gh) eh (nwG_in gh eh) nwG_nw (.tup (.inl (.inl (by rw [nwG_at ht]; exact ht'))) (dpa_ints _))⟩
end
end Og61

namespace Og61
open PySem PySem.Spec PyProof.Rows L2 OgR Evl Dw Gx
def iniS (i : Nat) : Stmt := match topS i with
  | .ClassDef _ _ _ b _ _ _ _ _ _ _ => b.getD 0 (.Pass ⟨0, 0, 0, 0⟩)
  | _ => .Pass ⟨0, 0, 0, 0⟩
section
variable {P : Program} {wd : World} {K : PySem.W.Frag} {mg : Str → Option Value} {base : Heap}
structure TopX (K : PySem.W.Frag) (mg : Str → Option Value) (c : Nat → Addr) : Prop where
  x0 : Cls K mg "NoTime" "time" "NoTime.__init__" "LookupError" "LookupError.__new__" "LookupError.__init__" bLE (iniS 4) (c 0)
  x1 : Cls K mg "NoChoice" "number" "NoChoice.__init__" "LookupError" "LookupError.__new__" "LookupError.__init__" bLE (iniS 5) (c 1)
  kit : ((List.range 2).all fun i => (List.range 2).all fun j => PySem.W.kitOne K (.ref (c i)) (.ref (c j)) == some (decide (i = j))) = true
variable {c : Nat → Addr}
theorem TopX.h_NoTime (Y : TopX K mg c) : mg "NoTime" = some (.ref (c 0)) := Y.x0.here
theorem TopX.h_NoChoice (Y : TopX K mg c) : mg "NoChoice" = some (.ref (c 1)) := Y.x1.here
theorem all_lt {n : Nat} {f : Nat → Bool} (h : (List.range n).all f = true) {i : Nat} (hi : i < n) : f i = true := List.all_eq_true.mp h i (List.mem_range.mpr hi)
theorem TopX.kt (Y : TopX K mg c) {i j : Nat} (hi : i < 2) (hj : j < 2) : PySem.W.kitOne K (.ref (c i)) (.ref (c j)) = some (decide (i = j)) := eq_of_beq (all_lt (all_lt Y.kit hi) hj)
theorem si_0 : FnScope ["self", "time"] ["self", "time"] (defScope (iniS 4)) := ⟨rfl, rfl, rfl, by decide +kernel, rfl, by decide +kernel, by decide +kernel⟩
theorem mk_NoTime (Y : TopX K mg c) : MkD P wd K mg base "NoTime" "time" false (c 0) := by
  obtain ⟨fI, fd, h1, h2, F, b⟩ := Y.x0.ini
  refine ⟨Y.x0.here, _, _, _, _, fI, fd, Y.x0.xc, Y.x0.ty, h1, h2, (F.ok (k := 1) si_0 (fun vs H Q E h => ?_) (fun cdv A outer s H vs Q E hr h => ?_)), b⟩
  · obtain ⟨a, y, rfl, _⟩ := h
    rfl
  · obtain ⟨a, y, rfl, ha, _, q⟩ := h
    exact ⟨_, pss_one (ps_fld Y.x0.xc (taker Y.x0.fld) (pv 0) (pv 1)), _, rfl, _, rfl, a, rfl, ha, fun dx hd ne => q dx hd ne⟩
theorem names_NoTime {X : Cx} (hm : X.mg "NoTime" = some (.ref (c 0))) (hg : Gl X "NoTime" := by rfl) : Names X "NoTime" (.ref (c 0)) := ⟨hg, by decide, .inl hm⟩
theorem si_1 : FnScope ["self", "number"] ["self", "number"] (defScope (iniS 5)) := ⟨rfl, rfl, rfl, by decide +kernel, rfl, by decide +kernel, by decide +kernel⟩
theorem mk_NoChoice (Y : TopX K mg c) : MkD P wd K mg base "NoChoice" "number" false (c 1) := by
  obtain ⟨fI, fd, h1, h2, F, b⟩ := Y.x1.ini
  refine ⟨Y.x1.here, _, _, _, _, fI, fd, Y.x1.xc, Y.x1.ty, h1, h2, (F.ok (k := 1) si_1 (fun vs H Q E h => ?_) (fun cdv A outer s H vs Q E hr h => ?_)), b⟩
  · obtain ⟨a, y, rfl, _⟩ := h
    rfl
  · obtain ⟨a, y, rfl, ha, _, q⟩ := h
    exact ⟨_, pss_one (ps_fld Y.x1.xc (taker Y.x1.fld) (pv 0) (pv 1)), _, rfl, _, rfl, a, rfl, ha, fun dx hd ne => q dx hd ne⟩
theorem names_NoChoice {X : Cx} (hm : X.mg "NoChoice" = some (.ref (c 1))) (hg : Gl X "NoChoice" := by rfl) : Names X "NoChoice" (.ref (c 1)) := ⟨hg, by decide, .inl hm⟩
end
end Og61

namespace Og61
open PySem PySem.Spec PyProof.Rows L2 OgR Evl Dw OgM Gx
local macro_rules | `(tactic| walk_at "s") => `(tactic| simp only [wPubO, wC, wV, wPub, wP, wCons, wTup, wLst, wL, w2, wTest, wChain, wAnd, wOr, Dw.wNot, wAndV, wOrV, wNotV, wIf, Dw.wTru, truD, gI0, gI, gEq, gNe, gIn, gIsN, gNotN, gIsB, gNotB, gCatT, gCatS, gIx, wCat, wRep, w1, w1O, gLen, gTupleOf, gListOf, wRg1, gInt, gStr, w2a, wSlT, wSlL, wSlS, wRevT, wNeg, wCall, wCallB, wName, wGNil_n, wGCons_c, wGTup, wSeq, wRng1, wEnum, wZip, wNext, wSq, wRet, wIfS, wDrop, wAsg, wOwn, wAug, wMeth, fAppend, wFor_eq, wWhile_eq, wipeD, wLc_eq, Dw.wNm, wPar, wGix, wDix, wCatP, wPopTo, fPop, fPopAt, fIns, wSetIx, gRepr, gMinT, gNeS, gRepN, wDGet2, wDPut, wTPut, wTGet, gSrtR, gLtP, wSlB, wStar, wRaise, wNmX, wXat, wXis, gEqS, wYd, wYdic, wYfn, wYg, wCallD, wCallV, wSetN, wDcT, wTGet2, wTGet1, dicAt, wRng2, wRngD, wRevR, gRevL, wAugIx, look_d, look_own, shpI, shpB, shpN, shpS, seqT, seqL, itsT, itsL, lenT, lenL, okFF, eqv_str, eqv_int, eqv_bool, isNone, perm, Dt.set, Dt.sets, env0, List.map_cons, List.map_nil, List.cons_append, List.nil_append, List.getElem?_cons_zero, List.getElem?_cons_succ, List.set_cons_succ, List.set_cons_zero, List.filterMap_cons, List.filterMap_nil, Option.some.injEq, DV.d.injEq, DV.own.injEq, DV.dit.injEq, DV.dd.injEq, DV.oth.injEq, reduceCtorEq, false_or, or_false, false_and, and_false, exists_false, PyData.int.injEq, PyData.bool.injEq, PyData.str.injEq, PyData.tuple.injEq, PyData.list.injEq, List.cons.injEq, exists_eq_left, exists_eq_left', exists_eq_right, exists_eq_right', exists_and_left, exists_eq', exists_eq, and_true, true_and, and_self, and_assoc, List.length_cons, List.length_nil, List.replicate, Nat.reduceAdd, Nat.reduceSub, Nat.reduceLeDiff, Nat.zero_le, decide_eq_true_eq, Bool.not_eq_true', decide_eq_false_iff_not, ite_true, ite_false, if_true, if_false, Bool.false_eq_true, Bool.true_eq_false, eq_self, List.reduceReplicate, Bool.not_true, Bool.not_false, reduceIte])
def cntT (row : List Int) : List PyData := (List.range row.length).map fun i => .int ((segs (row.take (i + 1))).length : Nat)
theorem ix_step (w : Wd) : (1 : Int) - ((w.ix : Nat) : Int) = w.step := by cases w <;> rfl
section
variable {P : Program} {wd : World} {K : PySem.W.Frag} {mg : Str → Option Value} {base : Heap} {c : Nat → Addr}
def f_nb : FP := fun ds R => ∃ d row, ds = [d] ∧ IsR d row ∧ row.Nodup ∧ row.length ≤ 900 ∧ R (.list ((picks row).map fun c => .int (c.1.ix : Nat)))
theorem ok_neighbours (T : Top wd K mg) : Def P wd K mg base 1 "neighbours" s_neighbours ["row"] (spP K f_nb) := by
  obtain ⟨f, fd, F, b, m⟩ := T.d_neighbours.ex
  refine ⟨f, fd, fnG_ok ((Og.ok_nb (k := 0) F).imp fun vs H Q E h => ?_), F, b, m⟩
  obtain ⟨G, ds, R, gh, hd, ⟨d, row, rfl, hr, hn, hl, q⟩, k⟩ := h
  obtain ⟨v, rfl, hv⟩ := dpa_one hd
  obtain ⟨bb, p, rfl, hs⟩ := dp_row gh hv hr
  refine ⟨bb, p, row, rfl, hs, hn, hl, fun H' t eh ht ht' => k _ _ (nwG G H H') H' q (nwG_up gh) eh (nwG_in gh eh) nwG_nw (.lst (.inl (.inl (by rw [nwG_at ht]; exact ht'))) ?_)⟩
  induction picks row with
  | nil => exact .nil
  | cons c cs ih => exact .cons (.int _) ih
def f_groups : FP := fun ds R => ∃ d row, ∃ n : Nat, ds = [d] ∧ IsR d row ∧ OgM.Row (n : Nat) row ∧ row.length ≤ 900 ∧ R (.tuple (cntT row))
theorem ok_groups (T : Top wd K mg) : Def P wd K mg base 2 "groups" s_groups ["row"] (spP K f_groups) := by
  have g_neighbours := ok_neighbours (P := P) (base := base) T
  refine Def.pure T.d_groups sc_groups (fun ds R h => by obtain ⟨_, _, _, rfl, _⟩ := h; rfl) (fun f cdv A outer s H G E ds R hG hr h => ?_)
  obtain ⟨d, row, n, rfl, hd, hR, hl, q⟩ := h
  refine ⟨_, _, (dss_cons (ds_own 1 sc_groups.nd (do_lst da_nil))
      (dss_cons (ds_set 2 sc_groups.nd de_int)
      (dss_cons (ds_for PassesOwn.never (by rfl) (di_seq rfl (de_c g_neighbours hG (hr.mono (by omega)) (by rfl) (da_cons (de_v 0) da_nil))) (dg_name 3 sc_groups.nd)
        (dss_cons (ds_iadd 2 sc_groups.nd (de_bin o_sub (DE.p de_int) (dp_v 3)))
        (dss_one (ds_app 1 rfl (de_v 2)))))
      (dss_one (ds_ret (de_tupleOf rfl (by rfl) T.b_tuple (dp_v 1))))))), ?_⟩
  walk_at "s"
  refine ⟨d, row, rfl, hd, hR.nd, hl, rfl, ?_⟩
  refine forD_by (fun i s2 => ∃ y3, i ≤ row.length ∧ s2 = ⟨[some (.d d), some (.own ((List.range i).map fun j => .int ((segs (row.take (j + 1))).length : Nat))), some (.d (.int ((segs (row.take i)).length : Nat))), y3], 0⟩) ⟨none, Nat.zero_le _, rfl⟩ (fun i d1 s2 J e2 inv hJ => ?_) (fun s2 inv => ?_)
  · obtain ⟨y3, hi, rfl⟩ := inv
    have e2 : ((picks row).map fun c => PyData.int (c.1.ix : Nat))[i]? = some d1 := e2
    rw [List.getElem?_map] at e2
    obtain ⟨⟨w, k⟩, hc, rfl⟩ := Option.map_eq_some_iff.mp e2
    have hi2 : i < row.length := by
      have := (List.getElem?_eq_some_iff.mp hc).1
      rw [picks_len] at this
      exact this
    obtain ⟨n1, n2⟩ := picks_next hR hc
    walk_at "s"
    have e3 : ((segs (row.take i)).length : Int) + (1 - ((w.ix : Nat) : Int)) = ((segs (row.take (i + 1))).length : Nat) := by
      rw [ix_step, n1]
      exact (nextM_step (by omega)).symm
    have e4 : ∀ x : Int, ((segs (row.take i)).length : Int) + 1 - x = ((segs (row.take i)).length : Int) + (1 - x) := fun x => by omega
    first | rw [e3] | (rw [e4, e3])
    have e5 : (List.range i).map (fun j => PyData.int ((segs (row.take (j + 1))).length : Nat)) ++ [PyData.int ((segs (row.take (i + 1))).length : Nat)] = (List.range (i + 1)).map fun j => PyData.int ((segs (row.take (j + 1))).length : Nat) := by
      rw [List.range_succ, List.map_append]
      rfl
    rw [e5]
    exact ⟨by rw [List.length_map, List.length_range]; omega, hJ _ ⟨_, hi2, rfl⟩⟩
  · obtain ⟨y3, hi, rfl⟩ := inv
    walk_at "s"
    rw [List.length_map, picks_len]
    exact q
def truV (row : List Int) (t : Nat) : NV → NV
  | .g _ => .g (segs (row.take (t + 1))).length
  | .h _ => .h ((picks row)[t]?.getD (.new, 0)).1
theorem shp_val (v : NV) : Shp (valD v) := by
  cases v
  · exact rfl
  · exact shp_z (sok_w _)
theorem eqv_val (row : List Int) (t : Nat) (v : NV) : (valD (truV row t v)).eqv (valD v) = decide (truV row t v = v) := by
  cases v with
  | g x =>
    show PyData.eqv (.int _) (.int _) = decide (NV.g _ = NV.g x)
    rw [eqv_int]
    simp only [NV.g.injEq]
    by_cases h : (segs (row.take (t + 1))).length = x
    · rw [decide_eq_true h, decide_eq_true (by omega)]
    · rw [decide_eq_false h, decide_eq_false (by omega)]
  | h x =>
    show PyData.eqv (.str _) (.str _) = decide (NV.h _ = NV.h x)
    rw [eqv_str]
    simp only [NV.h.injEq, wstr_inj]
def f_true : FP := fun ds R => ∃ d row, ∃ n t : Nat, ∃ v : NV, ds = [d, .int (t : Nat), .str (sortS v)] ∧ IsR d row ∧ OgM.Row (n : Nat) row ∧ row.length ≤ 900 ∧ t < row.length ∧ R (valD (truV row t v))
theorem ok_true_value (T : Top wd K mg) : Def P wd K mg base 3 "true_value" s_true_value ["row", "time", "sort"] (spP K f_true) := by
  have g_groups := ok_groups (P := P) (base := base) T
  have g_houses := ok_houses (P := P) (base := base) T
  refine Def.pure T.d_true_value sc_true_value (fun ds R h => by obtain ⟨_, _, _, _, _, rfl, _⟩ := h; rfl) (fun f cdv A outer s H G E ds R hG hr h => ?_)
  obtain ⟨d, row, n, t, v, rfl, hd, hR, hl, ht, q⟩ := h
  refine ⟨_, _, (dss_cons (ds_if (dt_cmp (o_eq rfl hr.units) (dp_v 2) (DE.p de_str)) (dss_one (ds_ret (de_ix rfl (DE.p (de_c g_groups hG (hr.mono (by omega)) (by rfl) (da_cons (de_v 0) da_nil))) (dp_v 1)))) dss_nil)
      (dss_one (ds_ret (de_ix rfl (DE.p (de_c g_houses hG (hr.mono (by omega)) (by rfl) (da_cons (de_v 0) da_nil))) (dp_v 1))))), ?_⟩
  walk_at "s"
  cases v with
  | g x =>
    refine ⟨shp_str _, (if_pos rfl).mpr ⟨d, row, n, rfl, hd, hR, hl, rfl, _, ?_, q⟩⟩
    show atI (cntT row) (t : Int) = _
    unfold cntT
    rw [at_nat (by rw [List.length_map, List.length_range]; exact ht), List.getElem?_map, List.getElem?_eq_getElem (by rw [List.length_range]; exact ht), List.getElem_range]
    rfl
  | h x =>
    refine ⟨shp_str _, (if_neg (show ¬ (Str.ofString "house" = Str.ofString "groups") by decide +kernel)).mpr ⟨d, row, rfl, hd, hR.nd, hl, rfl, _, ?_, q⟩⟩
    show atI (wdsD row) (t : Int) = _
    unfold wdsD truV
    rw [at_nat (by rw [List.length_map, picks_len]; exact ht), List.getElem?_map, List.getElem?_eq_getElem (by rw [picks_len]; exact ht)]
    rfl
def f_untrue : FP := fun ds R => ∃ e d row, ∃ n : Nat, ∃ ns : List Nt, ds = [e, d] ∧ IsNts e ns ∧ IsR d row ∧ OgM.Row (n : Nat) row ∧ row.length ≤ 900 ∧ ns.length ≤ 10000 ∧ (∀ x ∈ ns, x.t < row.length) ∧ R (.list ((ns.filter fun x => decide (truV row x.t x.v ≠ x.v)).map fun x => .int (x.t : Nat)))
theorem ok_untrue_times (T : Top wd K mg) : Def P wd K mg base 4 "untrue_times" s_untrue_times ["notes", "row"] (spP K f_untrue) := by
  have g_true_value := ok_true_value (P := P) (base := base) T
  refine Def.pure T.d_untrue_times sc_untrue_times (fun ds R h => by obtain ⟨_, _, _, _, _, rfl, _⟩ := h; rfl) (fun f cdv A outer s H G E ds R hG hr h => ?_)
  obtain ⟨e, d, row, n, ns, rfl, he, hd, hR, hl, hns, ht, q⟩ := h
  refine ⟨_, _, (dss_one (ds_ret (DO.d (do_lc (own := [("time", 2), ("sort", 3), ("value", 4)]) (by rfl) sc_untrue_times.nd (di_seq rfl (de_v 0)) (blkOk_by (own := [("time", 2), ("sort", 3), ("value", 4)]) (N := ["notes", "row", "time", "sort", "value"]) (sc := defScope s_untrue_times) (by decide +kernel)) (fun _ _ _ _ _ => (dg_tup (n := 3) rfl (by rfl) (dgs_c (dg_name 2 sc_untrue_times.nd (hf := Or.inr rfl)) (dgs_c (dg_name 3 sc_untrue_times.nd (hf := Or.inr rfl)) (dgs_c (dg_name 4 sc_untrue_times.nd (hf := Or.inr rfl)) dgs_nil))))) (ts_one fun _ _ _ _ _ => (dt_cmp (o_ne rfl hr.units) (DE.p (de_c g_true_value hG (hr.mono (by omega)) (by rfl) (da_cons (de_v 1) (da_cons (de_v 2) (da_cons (de_v 3) da_nil))))) (dp_v 4))) (fun _ _ _ _ _ => (de_v 2)))))), ?_⟩
  walk_at "s"
  have one : ∀ (x : Nt), x ∈ ns → ∀ (acc : List PyData) (J : List PyData → Int → Prop), acc.length < 100000 → (∀ y, (if truV row x.t x.v = x.v then none else some (PyData.int (x.t : Nat))) = some y → J (acc ++ [y]) 0) → ((if truV row x.t x.v = x.v then none else some (PyData.int (x.t : Nat))) = none → J acc 0) →
      f_true [d, .int (x.t : Nat), .str (sortS x.v)] fun d_1 => Shp d_1 ∧ Shp (valD x.v) ∧ if d_1.eqv (valD x.v) = false then acc.length < 100000 ∧ J (acc ++ [.int (x.t : Nat)]) 0 else J acc 0 := fun x hx acc J hacc h1 h0 => by
    refine ⟨d, row, n, x.t, x.v, rfl, hd, hR, hl, ht x hx, shp_val _, shp_val _, ?_⟩
    rw [eqv_val]
    by_cases hq : truV row x.t x.v = x.v
    · rw [if_neg (by rw [decide_eq_true hq]; decide)]
      exact h0 (if_pos hq)
    · rw [if_pos (by rw [decide_eq_false hq])]
      exact ⟨hacc, h1 _ (if_neg hq)⟩
  have efm : ns.filterMap (fun x => if truV row x.t x.v = x.v then none else some (PyData.int (x.t : Nat))) = (ns.filter fun x => decide (truV row x.t x.v ≠ x.v)).map fun x => .int (x.t : Nat) := by
    clear one ht q hns he
    induction ns with
    | nil => rfl
    | cons x l ih =>
      rw [List.filterMap_cons, List.filter_cons, ih]
      by_cases hq : truV row x.t x.v = x.v
      · rw [if_pos hq, if_neg (by simp [hq])]
      · rw [if_neg hq, if_pos (by simp [hq])]
        rfl
  rw [← efm] at q
  rcases he with rfl | rfl
  · refine ⟨rfl, lcD_enc ns ntD _ (by omega) (fun x hx acc J hacc h1 h0 => ?_) q⟩
    simp only [ntD]
    walk_at "s"
    exact one x hx acc J hacc h1 h0
  · refine ⟨rfl, lcD_enc ns ntL _ (by omega) (fun x hx acc J hacc h1 h0 => ?_) q⟩
    simp only [ntL]
    walk_at "s"
    exact one x hx acc J hacc h1 h0
end
end Og61

namespace Og61
open PySem PySem.Spec PyProof.Rows L2 OgR Evl Dw OgM Gx
local macro_rules | `(tactic| walk_at "s") => `(tactic| simp only [wPubO, wC, wV, wPub, wP, wCons, wTup, wLst, wL, w2, wTest, wChain, wAnd, wOr, Dw.wNot, wAndV, wOrV, wNotV, wIf, Dw.wTru, truD, gI0, gI, gEq, gNe, gIn, gIsN, gNotN, gIsB, gNotB, gCatT, gCatS, gIx, wCat, wRep, w1, w1O, gLen, gTupleOf, gListOf, wRg1, gInt, gStr, w2a, wSlT, wSlL, wSlS, wRevT, wNeg, wCall, wCallB, wName, wGNil_n, wGCons_c, wGTup, wSeq, wRng1, wEnum, wZip, wNext, wSq, wRet, wIfS, wDrop, wAsg, wOwn, wAug, wMeth, fAppend, wFor_eq, wWhile_eq, wipeD, wLc_eq, Dw.wNm, wPar, wGix, wDix, wCatP, wPopTo, fPop, fPopAt, fIns, wSetIx, gRepr, gMinT, gNeS, gRepN, wDGet2, wDPut, wTPut, wTGet, gSrtR, gSrtA, gLtP, wSlB, wStar, wRaise, wNmX, wXat, wXis, gEqS, wYd, wYdic, wYfn, wYg, wCallD, wCallV, wSetN, wDcT, wTGet2, wTGet1, dicAt, wRng2, wRngD, wRevR, gRevL, wAugIx, wPeekO, wPick2, wExt, fRem, look_d, look_own, shpI, shpB, shpN, shpS, seqT, seqL, itsT, itsL, lenT, lenL, okFF, eqv_str, eqv_int, eqv_bool, isNone, perm, Dt.set, Dt.sets, env0, List.map_cons, List.map_nil, List.cons_append, List.nil_append, List.getElem?_cons_zero, List.getElem?_cons_succ, List.set_cons_succ, List.set_cons_zero, List.filterMap_cons, List.filterMap_nil, Option.some.injEq, DV.d.injEq, DV.own.injEq, DV.dit.injEq, DV.dd.injEq, DV.oth.injEq, reduceCtorEq, false_or, or_false, false_and, and_false, exists_false, PyData.int.injEq, PyData.bool.injEq, PyData.str.injEq, PyData.tuple.injEq, PyData.list.injEq, List.cons.injEq, exists_eq_left, exists_eq_left', exists_eq_right, exists_eq_right', exists_and_left, exists_eq', exists_eq, and_true, true_and, and_self, and_assoc, List.length_cons, List.length_nil, List.replicate, Nat.reduceAdd, Nat.reduceSub, Nat.reduceLeDiff, Nat.zero_le, decide_eq_true_eq, Bool.not_eq_true', decide_eq_false_iff_not, ite_true, ite_false, if_true, if_false, Bool.false_eq_true, Bool.true_eq_false, eq_self, List.reduceReplicate, Bool.not_true, Bool.not_false, reduceIte])
def vOrd : NV → Nat
  | .g _ => 0
  | .h _ => 1
def nLt (x y : Nt) : Prop := x.t < y.t ∨ (x.t = y.t ∧ vOrd x.v < vOrd y.v)
/-- notes that are true for a row, as they ascend -/
structure Sn (row : List Int) (k : Nat) (xs : List Nt) : Prop where
  tru : ∀ x ∈ xs, x.t < k ∧ truV row x.t x.v = x.v
  rise : xs.Pairwise nLt
  len : xs.length ≤ 2 * k
theorem cnts_at {row : List Int} {t : Nat} (h : t < row.length) : atI (cntsD row row.length) (t : Int) = some (.int ((segs (row.take (t + 1))).length : Nat)) := by
  unfold cntsD
  rw [at_nat (by rw [List.length_map, List.length_range]; exact h), List.getElem?_map, List.getElem?_eq_getElem (by rw [List.length_range]; exact h), List.getElem_range]
  rfl
theorem wrds_at {row : List Int} {t : Nat} (h : t < row.length) : atI (wrdsD row row.length) (t : Int) = some (.str (wstr ((picks row)[t]?.getD (.new, 0)).1)) := by
  unfold wrdsD
  rw [at_nat (by rw [List.length_map, List.length_range]; exact h), List.getElem?_map, List.getElem?_eq_getElem (by rw [List.length_range]; exact h), List.getElem_range, picks_get (List.getElem?_eq_getElem h)]
  show some (PyData.str (wstr (pick (row.getD t 0) (segs (row.take t))).1)) = _
  rw [List.getD_eq_getElem?_getD, List.getElem?_eq_getElem h]
  rfl
theorem snoc_rise {xs : List Nt} {x : Nt} (h : xs.Pairwise nLt) (hx : ∀ y ∈ xs, nLt y x) : (xs ++ [x]).Pairwise nLt :=
  List.pairwise_append.mpr ⟨h, List.pairwise_singleton _ _, fun a ha b hb => by rw [List.mem_singleton.mp hb]; exact hx a ha⟩
section
variable {P : Program} {wd : World} {K : PySem.W.Frag} {mg : Str → Option Value} {base : Heap}
/-! ### _law_notes -/
def f_notes : FB := fun ds c R => ∃ row, ds = [rowT row] ∧ row.Nodup ∧ row.length ≤ 20 ∧ c ≤ 900000 ∧ ∀ (xs : List Nt) c', Sn row row.length xs → c' ≤ c + 1 + 2 * row.length → R (.tuple (xs.map ntD)) c'
theorem ok_l_notes (T : Top wd K mg) : Def P wd K mg base 3 "_law_notes" s_l_notes ["_law_box_here", "_law_queue_here"] (spB K f_notes) := by
  have g_l_take := ok_l_take (P := P) (base := base) T
  have g_l_seen := ok_l_seen (P := P) (base := base) T
  refine Def.draws T.d_l_notes sc_l_notes (fun ds c R h => by obtain ⟨_, rfl, _⟩ := h; rfl) (fun f cdv A outer s H G l E ds c R hG hr h => ?_)
  obtain ⟨row, rfl, hnd, hl, hc, q⟩ := h
  refine ⟨_, _, (dss_cons (ds_par2 2 3 (by rfl) sc_l_notes.nd (dx_cons (DO.dx (do_lst da_nil)) (dx_cons (DE.dx (de_bin o_add (DE.p de_int) (DE.p (de_cB 0 g_l_take hG (hr.mono (by omega)) (by rfl) (da_cons de_int da_nil))))) dx_nil)))
      (dss_cons (ds_asg (de_c g_l_seen hG (hr.mono (by omega)) (by rfl) (da_cons (de_v 1) da_nil)) (dg_tup (n := 2) rfl (by rfl) (dgs_c (dg_name 4 sc_l_notes.nd) (dgs_c (dg_name 5 sc_l_notes.nd) dgs_nil))))
      (dss_cons (ds_for PassesOwn.never (by rfl) (di_rng1 (by rfl) T.b_range (de_len rfl (by rfl) T.b_len (dp_v 1))) (dg_name 6 sc_l_notes.nd)
        (dss_cut (ds_if (dt_cmp o_lt (DE.p (de_cB 0 g_l_take hG (hr.mono (by omega)) (by rfl) (da_cons de_int da_nil))) (dp_v 3)) (dss_one (ds_app 2 rfl (de_tup (da_cons (de_v 6) (da_cons de_str (da_cons (de_ix rfl (dp_v 4) (dp_v 6)) da_nil)))))) dss_nil)
        (dss_one (ds_if (dt_cmp (o_eq rfl hr.units) (DE.p (de_cB 0 g_l_take hG (hr.mono (by omega)) (by rfl) (da_cons de_int da_nil))) (DE.p de_int)) (dss_one (ds_app 2 rfl (de_tup (da_cons (de_v 6) (da_cons de_str (da_cons (de_ix rfl (dp_v 5) (dp_v 6)) da_nil)))))) dss_nil))))
      (dss_one (ds_ret (de_tupleOf rfl (by rfl) T.b_tuple (dp_v 2))))))), ?_⟩
  walk_at "s"
  refine ⟨4, rfl, by decide, by decide, (show c < 1000000 by omega), fun r c1 _ _ hc1 => ?_⟩
  have hc1 : c1 ≤ c + 1 := hc1
  walk_at "s"
  refine ⟨row, rfl, hnd, by omega, ?_⟩
  walk_at "s"
  have hlr : lenD (rowT row) = some row.length := by show some (row.map PyData.int).length = _; rw [List.length_map]
  refine ⟨row.length, hlr, by omega, by omega, ?_⟩
  refine forD_by (fun i s2 => ∃ xs y6 c2, s2 = ⟨[some .box, some (.d (rowT row)), some (.own (xs.map ntD)), some (.d (.int (1 + r))), some (.d (.list (cntsD row row.length))), some (.d (.list (wrdsD row row.length))), y6], c2⟩ ∧ Sn row i xs ∧ c2 ≤ c + 1 + 2 * (i : Nat)) ⟨[], none, c1, rfl, ⟨fun x h => by simp at h, .nil, by simp⟩, by omega⟩ (fun i d s2 J hi inv hJ => ?_) (fun s2 inv => ?_)
  · obtain ⟨xs, y6, c2, rfl, hS, hc2⟩ := inv
    obtain ⟨hi2, rfl⟩ := iota_get hi
    have hi2 : i < row.length := by
      have : i < ((row.length : Int) - 0).toNat := hi2
      omega
    have ec := cnts_at hi2
    have ew := wrds_at hi2
    have hxl := hS.len
    rw [Int.zero_add]
    refine ⟨fun s3 => ∃ xs : List Nt, ∃ c3, s3 = ⟨[some .box, some (.d (rowT row)), some (.own (xs.map ntD)), some (.d (.int (1 + r))), some (.d (.list (cntsD row row.length))), some (.d (.list (wrdsD row row.length))), some (.d (.int (i : Int)))], c3⟩ ∧ (∀ x ∈ xs, (x.t < i ∨ x.t = i ∧ vOrd x.v = 0) ∧ truV row x.t x.v = x.v) ∧ xs.Pairwise nLt ∧ xs.length ≤ 2 * i + 1 ∧ c3 ≤ c + 1 + 2 * (i : Nat) + 1, ?_, ?_⟩
    · walk_at "s"
      refine ⟨5, rfl, by decide, by decide, (show c2 < 1000000 by omega), fun r2 c3 _ _ hc3 => ?_⟩
      have hc3 : c3 ≤ c2 + 1 := hc3
      walk_at "s"
      by_cases hd : r2 < 1 + r
      · rw [if_pos hd]
        refine ⟨_, ec, (show (xs.map ntD).length < 100000 by rw [List.length_map]; omega), ?_⟩
        refine ⟨xs ++ [⟨i, .g (segs (row.take (i + 1))).length⟩], c3, by rw [List.map_append]; rfl, fun x hx => ?_, snoc_rise hS.rise fun y hy => .inl (hS.tru y hy).1, by rw [List.length_append]; show xs.length + 1 ≤ _; omega, by omega⟩
        rcases List.mem_append.mp hx with hx | hx
        · exact ⟨.inl (hS.tru x hx).1, (hS.tru x hx).2⟩
        · rw [List.mem_singleton.mp hx]
          exact ⟨.inr ⟨rfl, rfl⟩, rfl⟩
      · rw [if_neg hd]
        exact ⟨xs, c3, rfl, fun x hx => ⟨.inl (hS.tru x hx).1, (hS.tru x hx).2⟩, hS.rise, by omega, by omega⟩
    · rintro s3 ⟨xs, c3, rfl, ht, hri, hxl, hc3⟩
      walk_at "s"
      refine ⟨6, rfl, by decide, by decide, (show c3 < 1000000 by omega), fun r2 c4 _ _ hc4 => ?_⟩
      have hc4 : c4 ≤ c3 + 1 := hc4
      walk_at "s"
      by_cases hd : r2 = 0
      · rw [if_pos hd]
        refine ⟨_, ew, (show (xs.map ntD).length < 100000 by rw [List.length_map]; omega), hJ _ ⟨xs ++ [⟨i, .h ((picks row)[i]?.getD (.new, 0)).1⟩], _, c4, by rw [List.map_append]; rfl, ⟨fun x hx => ?_, snoc_rise hri fun y hy => ?_, by rw [List.length_append]; show xs.length + 1 ≤ _; omega⟩, by omega⟩⟩
        · rcases List.mem_append.mp hx with hx | hx
          · exact ⟨by rcases (ht x hx).1 with h | h <;> omega, (ht x hx).2⟩
          · rw [List.mem_singleton.mp hx]
            exact ⟨Nat.lt_succ_self i, rfl⟩
        · rcases (ht y hy).1 with h | h
          · exact .inl h
          · exact .inr ⟨h.1, by rw [h.2]; exact Nat.zero_lt_one⟩
      · rw [if_neg hd]
        exact hJ _ ⟨xs, _, c4, rfl, ⟨fun x hx => ⟨by rcases (ht x hx).1 with h | h <;> omega, (ht x hx).2⟩, hri, by omega⟩, by omega⟩
  · obtain ⟨xs, y6, c2, rfl, hS, hc2⟩ := inv
    have e1 : (iotaD 0 ((row.length : Nat) : Int)).length = row.length := by
      unfold iotaD
      rw [List.length_map, List.length_range]
      omega
    rw [e1] at hS hc2
    walk_at "s"
    exact q xs c2 hS hc2
/-! ### _law_story -/
def bkT (p T : Nat) (xs : List Nt) : PyData := .tuple [.int (p : Nat), .int (T : Nat), .tuple (xs.map ntD)]
def f_story : FB := fun ds c R => ∃ m : Nat, ds = [.int m] ∧ m ≤ 20 ∧ c ≤ 810000 ∧ ∀ (row : List Int) (n k : Nat) (xs : List Nt) c', k ≤ n → n ≤ m → OgM.Row (n : Nat) row → row.length = k → Sn row k xs → c' ≤ c + 100 → R (.tuple [rowT row, bkT n k xs]) c'
theorem ok_l_story (T : Top wd K mg) : Def P wd K mg base 4 "_law_story" s_l_story ["_law_box_here", "_law_most"] (spB K f_story) := by
  have g_l_take := ok_l_take (P := P) (base := base) T
  have g_l_queue := ok_l_queue (P := P) (base := base) T
  have g_l_notes := ok_l_notes (P := P) (base := base) T
  refine Def.draws T.d_l_story sc_l_story (fun ds c R h => by obtain ⟨_, rfl, _⟩ := h; rfl) (fun f cdv A outer s H G l E ds c R hG hr h => ?_)
  obtain ⟨m, rfl, hm, hc, q⟩ := h
  refine ⟨_, _, (dss_cons (ds_set 2 sc_l_story.nd (de_cB 0 g_l_take hG (hr.mono (by omega)) (by rfl) (da_cons (de_bin o_add (dp_v 1) (DE.p de_int)) da_nil)))
      (dss_cut (ds_set 3 sc_l_story.nd (de_if (dt_cmp (o_eq rfl hr.units) (DE.p (de_cB 0 g_l_take hG (hr.mono (by omega)) (by rfl) (da_cons de_int da_nil))) (DE.p de_int)) (de_v 2) (de_cB 0 g_l_take hG (hr.mono (by omega)) (by rfl) (da_cons (de_bin o_add (dp_v 2) (DE.p de_int)) da_nil))))
      (dss_cons (ds_set 4 sc_l_story.nd (de_cB 0 g_l_queue hG (hr.mono (by omega)) (by rfl) (da_cons (de_v 2) (da_cons (de_v 3) da_nil))))
      (dss_one (ds_ret (de_tup (da_cons (de_v 4) (da_cons (de_tup (da_cons (de_v 2) (da_cons (de_v 3) (da_cons (de_cB 0 g_l_notes hG (hr.mono (by omega)) (by rfl) (da_cons (de_v 4) da_nil)) da_nil)))) da_nil)))))))), ?_⟩
  walk_at "s"
  refine ⟨_, rfl, by omega, by omega, (show c < 1000000 by omega), fun n0 c1 h0 h1 hc1 => ?_⟩
  have hc1 : c1 ≤ c + 1 := hc1
  obtain ⟨n, rfl⟩ : ∃ n : Nat, n0 = n := ⟨n0.toNat, by omega⟩
  refine ⟨fun s3 => ∃ k : Nat, ∃ c3, k ≤ n ∧ s3 = ⟨[some .box, some (.d (.int (m : Nat))), some (.d (.int (n : Nat))), some (.d (.int (k : Nat))), none], c3⟩ ∧ c3 ≤ c + 3, ?_, ?_⟩
  · walk_at "s"
    refine ⟨3, rfl, by decide, by decide, (show c1 < 1000000 by omega), fun r2 c2 _ _ hc2 => ?_⟩
    have hc2 : c2 ≤ c1 + 1 := hc2
    walk_at "s"
    by_cases hd : r2 = 0
    · rw [if_pos hd]
      exact ⟨n, Nat.le_refl _, c2, rfl, by omega⟩
    · rw [if_neg hd]
      refine ⟨_, rfl, by omega, by omega, (show c2 < 1000000 by omega), fun r3 c3 h3 h4 hc3 => ?_⟩
      have hc3 : c3 ≤ c2 + 1 := hc3
      exact ⟨r3.toNat, by omega, c3, by rw [Int.toNat_of_nonneg h3], by omega⟩
  · rintro s3 ⟨k, c3, hk, rfl, hc3⟩
    walk_at "s"
    refine ⟨n, k, rfl, by omega, hk, (show c3 ≤ 900000 by omega), fun row c4 hnd hrl hrb hc4 => ?_⟩
    have hc4 : c4 ≤ c3 + 1 + 2 * k := hc4
    walk_at "s"
    refine ⟨row, rfl, hnd, by omega, by omega, fun xs c5 hS hc5 => ?_⟩
    have hR : OgM.Row (n : Nat) row := ⟨hnd, fun p hp => (hrb p hp).1, fun p hp => (hrb p hp).2⟩
    rw [hrl] at hS hc5
    walk_at "s"
    exact q row n k xs c5 hk (by omega) hR hrl hS (by omega)
end
end Og61

namespace Og61
open PySem PySem.Spec PyProof.Rows L2 OgR Evl Dw
local macro_rules | `(tactic| walk_at "d") => `(tactic| first
  | refine ⟨_, rfl, ?_⟩ | refine ⟨_, _, rfl, rfl, ?_⟩ | refine iteT ?_ | refine iteF ?_ | refine ⟨_, _, rfl, rfl, rfl, ?_⟩)
def isNum : PyData → Bool
  | .int _ => true
  | _ => false
def isBelow (d : PyData) (n : Int) : Bool :=
  match d with
  | .int i => decide (0 ≤ i) && decide (i < n)
  | _ => false
def manyC (z : Str) (n : Int) : Int := if z = "new" then n + 1 else if z = "beside" then 2 * n else if (0 : Int) > n - 1 then 0 else n - 1
def stepOf (z : Str) : Option Int := if z = "new" then some 1 else if z = "beside" then some 0 else if z = "between" then some (-1) else none
def pairD : List PyData → Option (PyData × PyData)
  | [x, y] => some (x, y)
  | _ => none
theorem pairD_none {ds : List PyData} (h : ds.length ≠ 2) : pairD ds = none := by
  unfold pairD
  split
  · exact absurd rfl h
  · rfl
def partOk (n : Int) : PyData → Option Int
  | .tuple ds =>
    match pairD ds with
    | some (.str z, y) =>
      match stepOf z with
      | some s => if isBelow y (manyC z n) = true then some (n + s) else none
      | none => none
    | _ => none
  | _ => none
def chk : Int → List PyData → Bool
  | _, [] => true
  | n, d :: ds =>
    match partOk n d with
    | some m => chk m ds
    | none => false
def picksD : PyData → Bool
  | .tuple ds => chk 0 ds
  | _ => false
section
variable {P : Program} {wd : World} {K : PySem.W.Frag} {mg : Str → Option Value} {base : Heap}
def f_is_number : FP := fun ds R => ∃ d, ds = [d] ∧ R (.bool (isNum d))
theorem ok_is_number (T : Top wd K mg) : Def P wd K mg base 1 "is_number" s_is_number ["thing"] (spP K f_is_number) := by
  refine Def.pure T.d_is_number sc_is_number (fun ds R h => by obtain ⟨d, rfl, _⟩ := h; rfl) (fun f cdv A outer s H G E ds R hG hr h => ?_)
  obtain ⟨d, rfl, q⟩ := h
  refine ⟨_, _, (dss_one (ds_ret (de_and (de_isi .int rfl (by rfl) T.b_isinstance (by rfl) T.b_int (by decide +kernel) (dp_v 0)) (de_one (de_not (de_isi .bool rfl (by rfl) T.b_isinstance (by rfl) T.b_bool (by decide +kernel) (dp_v 0))))))), ?_⟩
  cases d <;> (repeat walk_at "d") <;> exact q
def f_is_number_below : FP := fun ds R => ∃ d n, ds = [d, .int n] ∧ R (.bool (isBelow d n))
theorem ok_is_number_below (T : Top wd K mg) : Def P wd K mg base 2 "is_number_below" s_is_number_below ["thing", "limit"] (spP K f_is_number_below) := by
  have g_is_number := ok_is_number (P := P) (base := base) T
  refine Def.pure T.d_is_number_below sc_is_number_below (fun ds R h => by obtain ⟨d, n, rfl, _⟩ := h; rfl) (fun f cdv A outer s H G E ds R hG hr h => ?_)
  obtain ⟨d, n, rfl, q⟩ := h
  refine ⟨_, _, (dss_one (ds_ret (de_and (de_c g_is_number hG (hr.mono (by decide)) (by rfl) (da_cons (de_v 0) da_nil)) (de_one (de_chain o_le o_lt (de_int).p (dp_v 0) (dp_v 1)))))), ?_⟩
  cases d with
  | int i =>
    repeat walk_at "d"
    refine ite2 (fun e => ?_) (fun e => ?_)
    · repeat walk_at "d"
      have e1 : isBelow (.int i) n = decide (i < n) := by show (decide (0 ≤ i) && decide (i < n)) = _; rw [e]; rfl
      rw [e1] at q
      exact q
    · have e1 : isBelow (.int i) n = false := by show (decide (0 ≤ i) && decide (i < n)) = _; rw [eq_false_of_ne_true e]; rfl
      rw [e1] at q
      exact q
  | _ => (repeat walk_at "d") <;> exact q
def f_many_choicesZ : FP := fun ds R => ∃ (z : Str) (n : Int), ds = [.str z, .int n] ∧ PyData.strOk z = true ∧ R (.int (manyC z n))
theorem ok_many_choicesZ (T : Top wd K mg) : Def P wd K mg base 1 "many_choices" s_many_choices ["word", "many"] (spP K f_many_choicesZ) := by
  refine Def.pure T.d_many_choices sc_many_choices (fun ds R h => by obtain ⟨d, n, rfl, _⟩ := h; rfl) (fun f cdv A outer s H G E ds R hG hr h => ?_)
  obtain ⟨z, n, rfl, hz, q⟩ := h
  refine ⟨_, _, (dss_cons (ds_if (dt_cmp (o_eq rfl hr.units) (dp_v 0) (de_str).p) (dss_one (ds_ret (de_bin o_add (dp_v 1) (de_int).p))) dss_nil)
        (dss_cons (ds_if (dt_cmp (o_eq rfl hr.units) (dp_v 0) (de_str).p) (dss_one (ds_ret (de_bin o_mul (de_int).p (dp_v 1)))) dss_nil)
        (dss_one (ds_ret (de_max2 (by rfl) (by rfl) T.b_max (de_bin o_sub (dp_v 1) (de_int).p) de_int))))), ?_⟩
  repeat walk_at "d"
  refine ⟨shp_z hz, shp_str _, _, rfl, ?_⟩
  unfold manyC at q
  rw [eqv_str]
  refine ite2 (fun e => ?_) (fun e => ?_)
  · repeat walk_at "d"
    rw [if_pos (of_decide_eq_true e)] at q
    exact q
  · repeat walk_at "d"
    rw [if_neg (fun z => e (decide_eq_true z))] at q
    refine ⟨shp_z hz, shp_str _, _, rfl, ?_⟩
    rw [eqv_str]
    refine ite2 (fun e => ?_) (fun e => ?_)
    · repeat walk_at "d"
      rw [if_pos (of_decide_eq_true e)] at q
      exact ⟨.inl ⟨by decide, by decide⟩, q⟩
    · repeat walk_at "d"
      rw [if_neg (fun z => e (decide_eq_true z))] at q
      exact q
/-! is_choice -/
theorem any_words (d : PyData) : ([PyData.str "new", .str "beside", .str "between"].any fun z => PyData.eqv z d) = (match d with | .str z => (stepOf z).isSome | _ => false) := by
  cases d with
  | str z =>
    simp only [List.any_cons, List.any_nil, Bool.or_false, eqv_str, stepOf]
    by_cases h1 : z = "new"
    · subst h1
      decide +kernel
    · by_cases h2 : z = "beside"
      · subst h2
        decide +kernel
      · by_cases h3 : z = "between"
        · subst h3
          decide +kernel
        · simp [h1, h2, h3, Ne.symm h1, Ne.symm h2, Ne.symm h3]
  | _ => simp [PyData.eqv]
theorem shp_words : Shp (.tuple [.str "new", .str "beside", .str "between"]) := by
  show SeqAt.shaped _ = true
  decide +kernel
def f_is_choice : FP := fun ds R => ∃ n d w k, ds = [.int n, d] ∧ Bd w k d ∧ k ≤ 60 ∧ R (.bool (partOk n d).isSome)
theorem ok_is_choice (T : Top wd K mg) : Def P wd K mg base 3 "is_choice" s_is_choice ["many", "thing"] (spP K f_is_choice) := by
  have g_is_number_below := ok_is_number_below (P := P) (base := base) T
  have g_many_choices := ok_many_choicesZ (P := P) (base := base) T
  refine Def.pure T.d_is_choice sc_is_choice (fun ds R h => by obtain ⟨d, n, _, _, rfl, _⟩ := h; rfl) (fun f cdv A outer s H G E ds R hG hr h => ?_)
  obtain ⟨n, d, w, k, rfl, hd, hk, q⟩ := h
  refine ⟨_, _, (dss_cons (ds_if ((dw_or (dt_not (dt_val (de_isi .tuple rfl (by rfl) T.b_isinstance (by rfl) T.b_tuple (by decide +kernel) (dp_v 1)))) (dw_or1 (dt_cmp (o_ne rfl hr.units) ((de_len rfl (by rfl) T.b_len (dp_v 1))).p (de_int).p)))).q (dss_one (ds_ret de_bl)) dss_nil)
        (dss_cons (ds_asg (de_v 1) (dg_tup rfl (by rfl) (dgs_c (dg_name 2 sc_is_choice.nd) (dgs_c (dg_name 3 sc_is_choice.nd) dgs_nil))))
        (dss_one (ds_ret (de_and (de_cmp (o_in rfl (u65 hr)) (dp_v 2) ((de_gc T.c_WORDS (by rfl))).p) (de_one (de_c g_is_number_below hG (hr.mono (by decide)) (by rfl) (da_cons (de_v 3) (da_cons (de_c g_many_choices hG (hr.mono (by decide)) (by rfl) (da_cons (de_v 2) (da_cons (de_v 0) da_nil))) da_nil))))))))), ?_⟩
  cases d with
  | tuple ds =>
    repeat walk_at "d"
    refine ⟨shp_int _, shp_int _, _, rfl, ?_⟩
    rw [eqv_int]
    refine ite2 (fun e => ?_) (fun e => ?_)
    · have hl : ds.length ≠ 2 := fun z => by rw [z] at e; simp at e
      have e1 : partOk n (.tuple ds) = none := by
        simp only [partOk, pairD_none hl]
      rw [e1] at q
      exact q
    · have hl : ds.length = 2 := by
        by_cases z : ds.length = 2
        · exact z
        · exact absurd (by simp; omega) e
      match ds, hl with
      | [x, y], _ =>
        obtain ⟨j, rfl, _, hx⟩ := hd.its rfl
        have bx : Bd w j x := hx x (by simp [its])
        refine ⟨_, rfl, rfl, rfl, x, [y], rfl, y, [], rfl, rfl, ?_⟩
        repeat walk_at "d"
        refine ⟨rfl, bx.shp (by omega), shp_words, _, rfl, ?_⟩
        show if (false ^^ ([PyData.str "new", .str "beside", .str "between"].any fun z => PyData.eqv z x)) = true then _ else _
        rw [any_words, Bool.false_xor]
        cases x with
        | str z =>
          show if (stepOf z).isSome = true then _ else _
          cases hz : stepOf z with
          | none =>
            refine iteF ?_
            have e1 : partOk n (.tuple [.str z, y]) = none := by
              show (match stepOf z with | some s => _ | none => none) = none
              rw [hz]
            rw [e1] at q
            exact q
          | some sv =>
            refine iteT ?_
            refine ⟨y, rfl, .str z, rfl, .int n, rfl, z, n, rfl, bx.can.1, y, _, rfl, ?_⟩
            have e1 : (partOk n (.tuple [.str z, y])).isSome = isBelow y (manyC z n) := by
              show (match stepOf z with | some s => if isBelow y (manyC z n) = true then some (n + s) else none | none => none).isSome = _
              rw [hz]
              cases isBelow y (manyC z n) <;> rfl
            rw [e1] at q
            exact q
        | _ => exact iteF q
  | _ => (repeat walk_at "d") <;> exact q
/-! is_choices -/
theorem step_memZ {z : Str} {sv : Int} (h : stepOf z = some sv) : (z, PyData.int sv) ∈ [(("new" : Str), PyData.int (1)), ("beside", .int (0)), ("between", .int (-1))] := by
  unfold stepOf at h
  split at h
  · rename_i e
    cases h
    subst e
    simp
  · split at h
    · rename_i e
      cases h
      subst e
      simp
    · split at h
      · rename_i e
        cases h
        subst e
        simp
      · cases h
theorem step_look {z : Str} {sv : Int} (h : stepOf z = some sv) : lookD [(.inr "new", .int (1)), (.inr "beside", .int (0)), (.inr "between", .int (-1))] (.inr z) = some (.int sv) := by
  unfold stepOf at h
  split at h
  · rename_i e
    cases h
    subst e
    rfl
  · split at h
    · rename_i e
      cases h
      subst e
      rfl
    · split at h
      · rename_i e
        cases h
        subst e
        rfl
      · cases h
/-- what a part that is right looks like -/
theorem part_of {n m : Int} {d : PyData} (h : partOk n d = some m) : ∃ z y sv, d = .tuple [.str z, y] ∧ stepOf z = some sv ∧ isBelow y (manyC z n) = true ∧ m = n + sv := by
  cases d with
  | tuple ds =>
    unfold partOk at h
    by_cases hl : ds.length = 2
    · match ds, hl with
      | [x, y], _ =>
        cases x with
        | str z =>
          have h : (match stepOf z with | some s => if isBelow y (manyC z n) = true then some (n + s) else none | none => none) = some m := h
          cases hz : stepOf z with
          | none => rw [hz] at h; cases h
          | some sv =>
            rw [hz] at h
            have h : (if isBelow y (manyC z n) = true then some (n + sv) else none) = some m := h
            split at h
            · rename_i hb
              cases h
              exact ⟨z, y, sv, rfl, hz, hb, rfl⟩
            · cases h
        | _ => cases h
    · simp only [pairD_none hl] at h
      cases h
  | _ => cases h
def f_is_choices : FP := fun ds R => ∃ d w k, ds = [d] ∧ Bd w k d ∧ k ≤ 60 ∧ R (.bool (picksD d))
theorem ok_is_choices (T : Top wd K mg) : Def P wd K mg base 4 "is_choices" s_is_choices ["thing"] (spP K f_is_choices) := by
  have g_is_choice := ok_is_choice (P := P) (base := base) T
  refine Def.pure T.d_is_choices sc_is_choices (fun ds R h => by obtain ⟨d, _, _, rfl, _⟩ := h; rfl) (fun f cdv A outer s H G E ds R hG hr h => ?_)
  obtain ⟨d, w, k, rfl, hd, hk, q⟩ := h
  refine ⟨_, _, (dss_cons (ds_if (dt_not (dt_val (de_isi .tuple rfl (by rfl) T.b_isinstance (by rfl) T.b_tuple (by decide +kernel) (dp_v 0)))) (dss_one (ds_ret de_bl)) dss_nil)
        (dss_cons (ds_set 1 sc_is_choices.nd de_int)
        (dss_cons (ds_for PassesOwn.never (by rfl) (di_seq rfl (de_v 0)) (dg_name 2 sc_is_choices.nd)
          (dss_cons (ds_if (dt_not (dt_val (de_c g_is_choice hG (hr.mono (by decide)) (by rfl) (da_cons (de_v 1) (da_cons (de_v 2) da_nil))))) (dss_one (ds_ret de_bl)) dss_nil)
          (dss_one (ds_iadd 1 sc_is_choices.nd (de_gix T.c_STEPS rfl (by rfl) (de_ix rfl (dp_v 2) (de_int).p))))))
        (dss_one (ds_ret de_bl))))), ?_⟩
  cases d with
  | tuple ds =>
    obtain ⟨j, rfl, _, hx⟩ := hd.its rfl
    repeat walk_at "d"
    refine ⟨rfl, fun i s2 => ∃ y n, s2 = ⟨[some (.d (.tuple ds)), some (.d (.int n)), y], 0⟩ ∧ chk 0 ds = chk n (ds.drop i), ⟨none, 0, rfl, rfl⟩, fun i d s2 hi inv => ?_, fun s2 inv => ?_⟩
    · obtain ⟨y, n, rfl, e⟩ := inv
      have hb := hx d (List.mem_of_getElem? hi)
      have hdr : ds.drop i = d :: ds.drop (i + 1) := by
        obtain ⟨hlt, hg⟩ := List.getElem?_eq_some_iff.mp hi
        rw [← hg]
        exact List.drop_eq_getElem_cons hlt
      rw [hdr] at e
      refine ⟨.int n, rfl, d, rfl, n, d, w, j, rfl, hb, by omega, _, rfl, ?_⟩
      cases hp : partOk n d with
      | none =>
        refine iteT ?_
        have e1 : picksD (.tuple ds) = false := by
          show chk 0 ds = false
          rw [e]
          show (match partOk n d with | some m => _ | none => false) = false
          rw [hp]
        rw [e1] at q
        exact q
      | some m =>
        refine iteF ?_
        obtain ⟨z, v, sv, rfl, hz, _, rfl⟩ := part_of hp
        refine ⟨n, rfl, _, _, rfl, rfl, 0, .str z, rfl, rfl, rfl, z, .int sv, rfl, step_memZ hz, sv, rfl, _, n + sv, rfl, ?_⟩
        rw [e]
        show (match partOk n _ with | some m => chk m _ | none => false) = _
        rw [hp]
    · obtain ⟨y, n, rfl, e⟩ := inv
      have e1 : picksD (.tuple ds) = true := by
        show chk 0 ds = true
        rw [e]
        have : ds.drop (its (PyData.tuple ds)).length = [] := List.drop_eq_nil_of_le (Nat.le_refl _)
        rw [this]
        rfl
      rw [e1] at q
      exact q
  | _ => (repeat walk_at "d") <;> exact q
end
end Og61

namespace Og61
open PySem PySem.Spec PyProof.Rows L2 OgR Evl Dw OgM Gx
local macro_rules | `(tactic| walk_at "s") => `(tactic| simp only [wPubO, wC, wV, wPub, wP, wCons, wTup, wLst, wL, w2, wTest, wChain, wAnd, wOr, Dw.wNot, wAndV, wOrV, wNotV, wIf, Dw.wTru, truD, gI0, gI, gEq, gNe, gIn, gIsN, gNotN, gIsB, gNotB, gCatT, gCatS, gIx, wCat, wRep, w1, w1O, gLen, gTupleOf, gListOf, wRg1, gInt, gStr, w2a, wSlT, wSlL, wSlS, wRevT, wNeg, wCall, wCallB, wName, wGNil_n, wGCons_c, wGTup, wSeq, wRng1, wEnum, wZip, wNext, wSq, wRet, wIfS, wDrop, wAsg, wOwn, wAug, wMeth, fAppend, wFor_eq, wWhile_eq, wipeD, wLc_eq, Dw.wNm, wPar, wGix, wDix, wCatP, wPopTo, fPop, fPopAt, fIns, wSetIx, gRepr, gMinT, gNeS, gRepN, wDGet2, wDPut, wTPut, wTGet, gSrtR, gSrtA, gLtP, wSlB, wStar, wRaise, wNmX, wXat, wXis, gEqS, wYd, wYdic, wYfn, wYg, wCallD, wCallV, wSetN, wDcT, wTGet2, wTGet1, dicAt, wRng2, wRngD, wRevR, gRevL, wIsi, wNotT, wAugIx, wPeekO, wPick2, wExt, fRem, look_d, look_own, shpI, shpB, shpN, shpS, seqT, seqL, itsT, itsL, lenT, lenL, okFF, eqv_str, eqv_int, eqv_bool, isNone, perm, Dt.set, Dt.sets, env0, List.map_cons, List.map_nil, List.cons_append, List.nil_append, List.getElem?_cons_zero, List.getElem?_cons_succ, List.set_cons_succ, List.set_cons_zero, List.filterMap_cons, List.filterMap_nil, Option.some.injEq, DV.d.injEq, DV.own.injEq, DV.dit.injEq, DV.dd.injEq, DV.oth.injEq, reduceCtorEq, false_or, or_false, false_and, and_false, exists_false, PyData.int.injEq, PyData.bool.injEq, PyData.str.injEq, PyData.tuple.injEq, PyData.list.injEq, List.cons.injEq, exists_eq_left, exists_eq_left', exists_eq_right, exists_eq_right', exists_and_left, exists_eq', exists_eq, and_true, true_and, and_self, and_assoc, List.length_cons, List.length_nil, List.replicate, Nat.reduceAdd, Nat.reduceSub, Nat.reduceLeDiff, Nat.zero_le, decide_eq_true_eq, Bool.not_eq_true', decide_eq_false_iff_not, ite_true, ite_false, if_true, if_false, Bool.false_eq_true, Bool.true_eq_false, eq_self, List.reduceReplicate, Bool.not_true, Bool.not_false, reduceIte])
section
variable {P : Program} {wd : World} {K : PySem.W.Frag} {mg : Str → Option Value} {base : Heap} {c : Nat → Addr}
def f_is_row : FP := fun ds R => ∃ (n : Int) (row : List Int), ds = [.int n, .tuple (row.map .int)] ∧ OgM.Row n row ∧ row.length ≤ 900 ∧ R (.bool true)
theorem ok_is_row (T : Top wd K mg) : Def P wd K mg base 3 "is_row" s_is_row ["plots", "thing"] (spP K f_is_row) := by
  have g_is_number_below := ok_is_number_below (P := P) (base := base) T
  refine Def.pure T.d_is_row sc_is_row (fun ds R h => by obtain ⟨_, _, rfl, _⟩ := h; rfl) (fun f cdv A outer s H G E ds R hG hr h => ?_)
  obtain ⟨n, row, rfl, hR, hl, q⟩ := h
  refine ⟨_, _, (dss_cons (ds_if (dt_not (dt_val (de_isi .tuple rfl (by rfl) T.b_isinstance (by rfl) T.b_tuple (by decide +kernel) (dp_v 1)))) (dss_one (ds_ret de_bl)) dss_nil)
      (dss_cons (ds_if (dt_not (dt_val (de_all rfl (by rfl) (by rfl) T.b_all (DE.p (DO.d (do_lc (own := [("plot", 2)]) (by rfl) sc_is_row.nd (di_seq rfl (de_v 1)) (blkOk_by (own := [("plot", 2)]) (N := ["plots", "thing", "plot"]) (sc := defScope s_is_row) (by decide +kernel)) (fun _ _ _ _ _ => (dg_name 2 sc_is_row.nd (hf := Or.inr rfl))) ts_no (fun _ _ _ _ _ => (de_c g_is_number_below hG (hr.mono (by omega)) (by rfl) (da_cons (de_v 2) (da_cons (de_v 0) da_nil)))))))))) (dss_one (ds_ret de_bl)) dss_nil)
      (dss_one (ds_ret (de_cmp (o_eq rfl hr.units) (DE.p (de_lenSet rfl (by rfl) (by rfl) T.b_len (by rfl) T.b_set (dp_v 1))) (DE.p (de_len rfl (by rfl) T.b_len (dp_v 1)))))))), ?_⟩
  walk_at "s"
  rw [if_neg (by show ¬ (true = false); decide)]
  refine lcD_enc row PyData.int (fun _ => some (.bool true)) (by omega) (fun x hx acc J hacc h1 h0 => ?_) ?_
  · walk_at "s"
    refine ⟨_, n, rfl, hacc, ?_⟩
    have e : isBelow (.int x) n = true := by
      show (decide (0 ≤ x) && decide (x < n)) = true
      rw [decide_eq_true (hR.lo x hx), decide_eq_true (hR.hi x hx)]
      rfl
    rw [e]
    exact h1 _ rfl
  · have e : row.filterMap (fun _ => some (PyData.bool true)) = (row.map fun _ => true).map PyData.bool := by
      rw [List.map_map, List.filterMap_eq_map']
      rfl
    rw [e]
    have e2 : ((row.map fun _ => true).all id) = true := by
      rw [List.all_map]
      exact List.all_eq_true.mpr fun _ _ => rfl
    refine ⟨_, rfl, ?_⟩
    · rw [e2]
      walk_at "s"
      refine ⟨row, rfl, by omega, fun c c1 c2 => ?_⟩
      have : c = row.length := c2.mpr hR.nd
      subst this
      walk_at "s"
      rw [List.length_map]
      simpa using q
def f_is_order : FP := fun ds R => ∃ d p T ns row, ds = [d, .tuple (row.map .int)] ∧ Bk d p T ns ∧ OgM.Row (p : Nat) row ∧ row.length = T ∧ T ≤ 900 ∧ (∀ x ∈ ns, x.t < T) ∧ R (.bool (decide (∀ x ∈ ns, truV row x.t x.v = x.v)))
theorem ok_is_order (T : Top wd K mg) : Def P wd K mg base 5 "is_order" s_is_order ["journal", "thing"] (spP K f_is_order) := by
  have g_is_row := ok_is_row (P := P) (base := base) T
  have g_untrue_times := ok_untrue_times (P := P) (base := base) T
  refine Def.pure T.d_is_order sc_is_order (fun ds R h => by obtain ⟨_, _, _, _, _, rfl, _⟩ := h; rfl) (fun f cdv A outer s H G E ds R hG hr h => ?_)
  obtain ⟨d, p, n, ns, row, rfl, hB, hR, hl, h9, ht, q⟩ := h
  obtain ⟨e, he, hs1, hs2⟩ := hB.1.sq
  refine ⟨_, _, (dss_cons (ds_asg (de_v 0) (dg_tup (n := 3) rfl (by rfl) (dgs_c (dg_name 2 sc_is_order.nd) (dgs_c (dg_name 3 sc_is_order.nd) (dgs_c (dg_name 4 sc_is_order.nd) dgs_nil)))))
      (dss_one (ds_ret (de_and (de_c g_is_row hG (hr.mono (by omega)) (by rfl) (da_cons (de_v 2) (da_cons (de_v 1) da_nil))) (de_and (de_cmp (o_eq rfl hr.units) (DE.p (de_len rfl (by rfl) T.b_len (dp_v 1))) (dp_v 3)) (de_one (de_notT rfl (DE.p (de_c g_untrue_times hG (hr.mono (by omega)) (by rfl) (da_cons (de_v 4) (da_cons (de_v 1) da_nil))))))))))), ?_⟩
  walk_at "s"
  simp only [hs1, hs2]
  walk_at "s"
  refine ⟨p, row, rfl, hR, by omega, true, rfl, (if_pos rfl).mpr ?_⟩
  rw [List.length_map, hl]
  refine (if_pos rfl).mpr ⟨e, _, row, p, ns, rfl, he, .inl rfl, hR, by omega, hB.2.2.2.2, fun x hx => by have := ht x hx; omega, ?_⟩
  walk_at "s"
  have e1 : (!(!((ns.filter fun x => decide (truV row x.t x.v ≠ x.v)).map fun x => PyData.int (x.t : Nat)).isEmpty)) = decide (∀ x ∈ ns, truV row x.t x.v = x.v) := by
    rw [Bool.not_not]
    by_cases h : ∀ x ∈ ns, truV row x.t x.v = x.v
    · rw [decide_eq_true h, show (ns.filter fun x => decide (truV row x.t x.v ≠ x.v)) = [] from List.filter_eq_nil_iff.mpr fun x hx => by simp [h x hx]]
      rfl
    · rw [decide_eq_false h]
      cases hf : (ns.filter fun x => decide (truV row x.t x.v ≠ x.v)) with
      | nil =>
        exact absurd (fun x hx => by
          have := List.filter_eq_nil_iff.mp hf x hx
          simpa using this) h
      | cons y l => rfl
  first | (rw [e1]; exact q) | (refine ⟨_, rfl, ?_⟩; rw [e1]; exact q)
end
end Og61

namespace Og61
open PySem PySem.Spec PyProof.Rows L2 OgR Evl Dw
local macro_rules | `(tactic| walk_at "d") => `(tactic| first
  | refine ⟨_, rfl, ?_⟩ | refine ⟨_, _, rfl, rfl, ?_⟩ | refine iteT ?_ | refine iteF ?_ | refine ⟨_, _, rfl, rfl, rfl, ?_⟩)
def sumSt (zs : List Str) : Int := (zs.map fun z => (stepOf z).getD 0).sum
def AllSt (zs : List Str) : Prop := ∀ z ∈ zs, (stepOf z).isSome = true
def headD (e : PyData) : PyData := (its e).headD .none
/-- pairs of a word and something, as lists or tuples -/
structure Prs (c : PyData) (zs : List Str) : Prop where
  sq : seqd c = true
  hd : (its c).map headD = zs.map .str
  pr : ∀ e ∈ its c, seqd e = true ∧ (its e).length = 2
  st : AllSt zs
  ln : zs.length ≤ 1000
def geN (m : Int) : PyData → Bool
  | .int i => decide (m ≤ i)
  | _ => false
def holesD (k : Int) : PyData → Bool
  | .tuple ds => decide ((ds.length : Int) = k + 1) && (ds.all (geN 0) && (cutD ds (some 1) (some (-1))).all (geN 1))
  | _ => false
theorem all_map {α : Type} (f : α → Bool) (l : List α) : ((l.map f).all id) = l.all f := by rw [List.all_map]; rfl
section
variable {P : Program} {wd : World} {K : PySem.W.Frag} {mg : Str → Option Value} {base : Heap}
def f_groups_after : FP := fun ds R => ∃ (b : PyData) (zs : List Str), ds = [b] ∧ seqd b = true ∧ its b = zs.map .str ∧ AllSt zs ∧ zs.length ≤ 1000 ∧ R (.int (sumSt zs))
theorem ok_groups_after (T : Top wd K mg) : Def P wd K mg base 1 "groups_after" s_groups_after ["words"] (spP K f_groups_after) := by
  refine Def.pure T.d_groups_after sc_groups_after (fun ds R h => by obtain ⟨_, _, rfl, _⟩ := h; rfl) (fun f cdv A outer s H G E ds R hG hr h => ?_)
  obtain ⟨b, zs, rfl, hs, he, hz, hl, q⟩ := h
  refine ⟨_, _, (dss_one (ds_ret (de_sum rfl (by rfl) (by rfl) T.b_sum (DE.p (DO.d (do_lc (own := [("word", 1)]) (by rfl) sc_groups_after.nd (di_seq rfl (de_v 0)) (blkOk_by (own := [("word", 1)]) (N := ["words", "word"]) (sc := defScope s_groups_after) (by decide +kernel)) (fun _ _ _ _ _ => (dg_name 1 sc_groups_after.nd (hf := Or.inr rfl))) ts_no (fun _ _ _ _ _ => (de_gix T.c_STEPS rfl (by rfl) (de_v 1))))))))), ?_⟩
  refine ⟨b, rfl, hs, lc_map (fun d => match d with | .str z => .int ((stepOf z).getD 0) | _ => .none) (by rw [he, List.length_map]; omega) (fun d hd acc J hacc hJ => ?_) ?_⟩
  · rw [he] at hd
    obtain ⟨z, hz1, rfl⟩ := List.mem_map.mp hd
    cases hst : stepOf z with
    | none =>
      have := hz z hz1
      rw [hst] at this
      cases this
    | some sv =>
      refine ⟨.str z, rfl, z, .int sv, rfl, step_memZ hst, rfl, hacc, ?_⟩
      have : J (acc ++ [PyData.int ((stepOf z).getD 0)]) 0 := hJ
      rw [hst] at this
      exact this
  · refine ⟨zs.map fun z => (stepOf z).getD 0, ?_, q⟩
    rw [he, List.map_map, List.map_map]
    rfl
def f_is_gaps : FP := fun ds R => ∃ c zs d w k, ds = [c, d] ∧ Prs c zs ∧ Bd w k d ∧ w ≤ 1000 ∧ R (.bool (holesD (sumSt zs) d))
end
end Og61

namespace Og61
open PySem PySem.Spec PyProof.Rows L2 OgR Evl Dw OgM Gx
local macro_rules | `(tactic| walk_at "d") => `(tactic| first
  | refine ⟨_, rfl, ?_⟩ | refine ⟨_, _, rfl, rfl, ?_⟩ | refine iteT ?_ | refine iteF ?_ | refine ⟨_, _, rfl, rfl, rfl, ?_⟩ | refine ⟨rfl, ?_⟩)
local macro_rules | `(tactic| walk_at "s") => `(tactic| simp only [wPubO, wC, wV, wPub, wP, wCons, wTup, wLst, wL, w2, wTest, wChain, wAnd, wOr, Dw.wNot, wAndV, wOrV, wNotV, wIf, Dw.wTru, truD, gI0, gI, gEq, gNe, gIn, gIsN, gNotN, gIsB, gNotB, gCatT, gCatS, gIx, wCat, wRep, w1, w1O, gLen, gTupleOf, gListOf, wRg1, gInt, gStr, w2a, wSlT, wSlL, wSlS, wRevT, wNeg, wCall, wCallB, wName, wGNil_n, wGCons_c, wGTup, wSeq, wRng1, wEnum, wZip, wNext, wSq, wRet, wIfS, wDrop, wAsg, wOwn, wAug, wMeth, fAppend, wFor_eq, wWhile_eq, wipeD, wLc_eq, Dw.wNm, wPar, wGix, wDix, wCatP, wPopTo, fPop, fPopAt, fIns, wSetIx, gRepr, gMinT, gNeS, gRepN, wDGet2, wDPut, wTPut, wTGet, gSrtR, gLtP, wSlB, wStar, wRaise, wNmX, wXat, wXis, gEqS, look_d, look_own, shpI, shpB, shpN, shpS, seqT, seqL, itsT, itsL, lenT, lenL, okFF, eqv_str, eqv_int, eqv_bool, isNone, perm, Dt.set, Dt.sets, env0, List.map_cons, List.map_nil, List.cons_append, List.nil_append, List.getElem?_cons_zero, List.getElem?_cons_succ, List.set_cons_succ, List.set_cons_zero, List.filterMap_cons, List.filterMap_nil, Option.some.injEq, DV.d.injEq, DV.own.injEq, PyData.int.injEq, PyData.bool.injEq, PyData.str.injEq, PyData.tuple.injEq, PyData.list.injEq, List.cons.injEq, exists_eq_left, exists_eq_left', exists_eq_right, exists_eq_right', exists_and_left, exists_eq', exists_eq, and_true, true_and, and_self, and_assoc, List.length_cons, List.length_nil, List.replicate, Nat.reduceAdd, Nat.reduceSub, Nat.reduceLeDiff, Nat.zero_le, decide_eq_true_eq, Bool.not_eq_true', decide_eq_false_iff_not, ite_true, ite_false, if_true, if_false, Bool.false_eq_true, Bool.true_eq_false, eq_self, List.reduceReplicate, Bool.not_true, Bool.not_false, reduceIte])
theorem manyC_w (w : Wd) (m : Nat) : manyC (wstr w) (m : Int) = (waysN w m : Nat) := by
  cases w
  · have : manyC (wstr .new) (m : Int) = (m : Int) + 1 := if_pos rfl
    rw [this]
    show _ = ((m + 1 : Nat) : Int)
    omega
  · have : manyC (wstr .beside) (m : Int) = 2 * (m : Int) := by
      unfold manyC
      rw [if_neg (by decide +kernel), if_pos (by rfl)]
    rw [this]
    show _ = ((2 * m : Nat) : Int)
    omega
  · have : manyC (wstr .between) (m : Int) = if (0 : Int) > (m : Int) - 1 then 0 else (m : Int) - 1 := by
      unfold manyC
      rw [if_neg (by decide +kernel), if_neg (by decide +kernel)]
    rw [this]
    show _ = ((m - 1 : Nat) : Int)
    split <;> omega
theorem step_w (w : Wd) : stepOf (wstr w) = some w.step := by cases w <;> rfl
theorem allSt_w (cs : List Ch) : AllSt (cs.map fun c => wstr c.1) := fun z hz => by
  obtain ⟨c, _, rfl⟩ := List.mem_map.mp hz
  rw [step_w]
  rfl
theorem sum_w (cs : List Ch) : sumSt (cs.map fun c => wstr c.1) = (cs.map fun c => c.1.step).sum := by
  unfold sumSt
  rw [List.map_map]
  congr 1
  refine List.map_congr_left fun c _ => ?_
  show (stepOf (wstr c.1)).getD 0 = _
  rw [step_w]
  rfl
section
variable {P : Program} {wd : World} {K : PySem.W.Frag} {mg : Str → Option Value} {base : Heap} {c : Nat → Addr}
end
end Og61

namespace Og61
open PySem PySem.Spec PyProof.Rows L2 OgR Evl Dw OgM Gx
local macro_rules | `(tactic| walk_at "s") => `(tactic| simp only [wPubO, wC, wV, wPub, wP, wCons, wTup, wLst, wL, w2, wTest, wChain, wAnd, wOr, Dw.wNot, wAndV, wOrV, wNotV, wIf, Dw.wTru, truD, gI0, gI, gEq, gNe, gIn, gIsN, gNotN, gIsB, gNotB, gCatT, gCatS, gIx, wCat, wRep, w1, w1O, gLen, gTupleOf, gListOf, wRg1, gInt, gStr, w2a, wSlT, wSlL, wSlS, wRevT, wNeg, wCall, wCallB, wName, wGNil_n, wGCons_c, wGTup, wSeq, wRng1, wEnum, wZip, wNext, wSq, wRet, wIfS, wDrop, wAsg, wOwn, wAug, wMeth, fAppend, wFor_eq, wWhile_eq, wipeD, wLc_eq, Dw.wNm, wPar, wGix, wDix, wCatP, wPopTo, fPop, fPopAt, fIns, wSetIx, gRepr, gMinT, gNeS, gRepN, wDGet2, wDPut, wTPut, wTGet, gSrtR, gSrtA, gLtP, wSlB, wStar, wRaise, wNmX, wXat, wXis, gEqS, wYd, wYdic, wYfn, wYg, wCallD, wCallV, wSetN, wDcT, wTGet2, wTGet1, dicAt, wRng2, wRngD, wRevR, gRevL, wAugIx, wPeekO, wPick2, wExt, fRem, look_d, look_own, shpI, shpB, shpN, shpS, seqT, seqL, itsT, itsL, lenT, lenL, okFF, eqv_str, eqv_int, eqv_bool, isNone, perm, Dt.set, Dt.sets, env0, List.map_cons, List.map_nil, List.cons_append, List.nil_append, List.getElem?_cons_zero, List.getElem?_cons_succ, List.set_cons_succ, List.set_cons_zero, List.filterMap_cons, List.filterMap_nil, Option.some.injEq, DV.d.injEq, DV.own.injEq, DV.dit.injEq, DV.dd.injEq, DV.oth.injEq, reduceCtorEq, false_or, or_false, false_and, and_false, exists_false, PyData.int.injEq, PyData.bool.injEq, PyData.str.injEq, PyData.tuple.injEq, PyData.list.injEq, List.cons.injEq, exists_eq_left, exists_eq_left', exists_eq_right, exists_eq_right', exists_and_left, exists_eq', exists_eq, and_true, true_and, and_self, and_assoc, List.length_cons, List.length_nil, List.replicate, Nat.reduceAdd, Nat.reduceSub, Nat.reduceLeDiff, Nat.zero_le, decide_eq_true_eq, Bool.not_eq_true', decide_eq_false_iff_not, ite_true, ite_false, if_true, if_false, Bool.false_eq_true, Bool.true_eq_false, eq_self, List.reduceReplicate, Bool.not_true, Bool.not_false, reduceIte])
section
variable {P : Program} {wd : World} {K : PySem.W.Frag} {mg : Str → Option Value} {base : Heap} {c : Nat → Addr}
/-- a row with another choice, one that there is -/
def f_changed : FP := fun ds R => ∃ n d row, ∃ i k' : Nat, ∃ w, ∃ k0 : Nat, ds = [.int n, d, .int (i : Nat), .int (k' : Nat)] ∧ IsR d row ∧ OgM.Row n row ∧ row.length ≤ 900 ∧ (picks row)[i]? = some (w, k0) ∧ k' < waysN w (segs (row.take i)).length ∧
  ∀ r, OgM.Row n r → picks r = (picks row).set i (w, k') → holes n (segs r) = holes n (segs row) → R (.tuple (r.map .int))
theorem ok_changed (T : Top wd K mg) : Def P wd K mg base 4 "changed" s_changed ["plots", "row", "time", "number"] (spP K f_changed) := by
  have g_houses := ok_houses (P := P) (base := base) T
  have g_many_choices := ok_many_choicesZ (P := P) (base := base) T
  have g_groups_after := ok_groups_after (P := P) (base := base) T
  have g_choices_of := ok_choices_of (P := P) (base := base) T
  have g_row_of := ok_row_of (P := P) (base := base) T
  have g_gaps_of := ok_gaps_of (P := P) (base := base) T
  refine Def.pure T.d_changed sc_changed (fun ds R h => by obtain ⟨_, _, _, _, _, _, _, rfl, _⟩ := h; rfl) (fun f cdv A outer s H G E ds R hG hr h => ?_)
  obtain ⟨n, d, row, i, k', w, k0, rfl, hd, hR, hl, hc, hk, q⟩ := h
  refine ⟨_, _, (dss_cons (ds_if (dt_not (dt_chain o_le o_lt (DE.p de_int) (dp_v 2) (DE.p (de_len rfl (by rfl) T.b_len (dp_v 1))))) (dss_one ds_never) dss_nil)
      (dss_cons (ds_set 4 sc_changed.nd (de_c g_houses hG (hr.mono (by omega)) (by rfl) (da_cons (de_v 1) da_nil)))
      (dss_cons (ds_if (dt_not (dt_chain o_le o_lt (DE.p de_int) (dp_v 3) (DE.p (de_c g_many_choices hG (hr.mono (by omega)) (by rfl) (da_cons (de_ix rfl (dp_v 4) (dp_v 2)) (da_cons (de_c g_groups_after hG (hr.mono (by omega)) (by rfl) (da_cons (de_slT rfl (dp_v 4) do_none (do_some (de_v 2))) da_nil)) da_nil)))))) (dss_one ds_never) dss_nil)
      (dss_cons (ds_own 5 sc_changed.nd (do_listOf rfl (by rfl) T.b_list (DE.p (de_c g_choices_of hG (hr.mono (by omega)) (by rfl) (da_cons (de_v 1) da_nil)))))
      (dss_cons (ds_sub 5 (de_tup (da_cons (de_ix rfl (dp_v 4) (dp_v 2)) (da_cons (de_v 3) da_nil))) (de_v 2))
      (dss_one (ds_ret (de_c g_row_of hG (hr.mono (by omega)) (by rfl) (da_cons (de_pub 5) (da_cons (de_c g_gaps_of hG (hr.mono (by omega)) (by rfl) (da_cons (de_v 0) (da_cons (de_v 1) da_nil))) da_nil)))))))))), ?_⟩
  have hseq := hd.sq
  have hlen : lenD d = some row.length := by rcases hd with rfl | rfl <;> (show some (row.map PyData.int).length = _; rw [List.length_map])
  have hi : i < row.length := by
    have := (List.getElem?_eq_some_iff.mp hc).1
    rw [picks_len] at this
    exact this
  walk_at "s"
  simp only [hlen, hseq.1, Option.some.injEq, exists_eq_left']
  rw [if_pos (by omega), if_neg (fun z => z (by omega))]
  refine ⟨d, row, rfl, hd, hR.nd, hl, ?_⟩
  walk_at "s"
  rw [if_pos (by omega)]
  have ha : atI (wdsD row) (i : Int) = some (.str (wstr w)) := by
    rw [at_nat (by unfold wdsD; rw [List.length_map, picks_len]; exact hi)]
    unfold wdsD
    rw [List.getElem?_map, hc]
    rfl
  have hcut : Dw.cutD (wdsD row) none (some (i : Int)) = (((picks row).take i).map fun c => wstr c.1).map .str := by
    unfold Dw.cutD wdsD
    rw [HT.sIx_none, HT.sIx_nat, List.drop_zero, Nat.sub_zero, List.length_map, picks_len, Nat.min_eq_left (by omega), ← List.map_take, List.map_map]
    rfl
  refine ⟨_, ha, ?_⟩
  rw [hcut]
  refine ⟨_, _, rfl, rfl, rfl, allSt_w _, by rw [List.length_map, List.length_take, picks_len]; omega, ?_⟩
  rw [sum_w, ← segs_steps hR (by omega : i ≤ row.length)]
  refine ⟨_, _, rfl, sok_w _, ?_⟩
  walk_at "s"
  rw [manyC_w]
  rw [if_neg (fun z => z (by omega))]
  obtain ⟨g, fn, a1, a2, a3, a4, a5, a6⟩ := row_set hR hc (valid_ways.mpr hk)
  have hpl : ((picks row).set i (w, k')).length = row.length := by rw [List.length_set, picks_len]
  refine ⟨d, row, rfl, hd, hR.nd, hl, rfl, _, ha, i, rfl, by show i < ((picks row).map chT).length; rw [List.length_map, picks_len]; exact hi, ?_⟩
  refine ⟨d, n, row, rfl, hd, hR.nd, hl, ?_⟩
  have e1 : (its (picksT row)).set i (.tuple [.str (wstr w), .int (k' : Nat)]) = ((picks row).set i (w, k')).map chT := by
    show ((picks row).map chT).set i _ = _
    rw [List.map_set]
    rfl
  refine ⟨_, _, _, n, g, fn, rfl, .inr (by rw [e1]), a2, by omega, .inl (by rw [a3]), by rw [hpl]; exact a1, ?_⟩
  rw [hpl]
  exact q _ a4 a5 (by rw [a6]; exact a3)
end
end Og61

namespace Og61
open PySem PySem.Spec PyProof.Rows L2 OgR Evl Dw OgM Gx
local macro_rules | `(tactic| walk_at "s") => `(tactic| simp only [wPubO, wC, wV, wPub, wP, wCons, wTup, wLst, wL, w2, wTest, wChain, wAnd, wOr, Dw.wNot, wAndV, wOrV, wNotV, wIf, Dw.wTru, truD, gI0, gI, gEq, gNe, gIn, gIsN, gNotN, gIsB, gNotB, gCatT, gCatS, gIx, wCat, wRep, w1, w1O, gLen, gTupleOf, gListOf, wRg1, gInt, gStr, w2a, wSlT, wSlL, wSlS, wRevT, wNeg, wCall, wCallB, wName, wGNil_n, wGCons_c, wGTup, wSeq, wRng1, wEnum, wZip, wNext, wSq, wRet, wIfS, wDrop, wAsg, wOwn, wAug, wMeth, fAppend, wFor_eq, wWhile_eq, wipeD, wLc_eq, Dw.wNm, wPar, wGix, wDix, wCatP, wPopTo, fPop, fPopAt, fIns, wSetIx, gRepr, gMinT, gNeS, gRepN, wDGet2, wDPut, wTPut, wTGet, gSrtR, gLtP, wSlB, wStar, wRaise, wNmX, wXat, wXis, gEqS, look_d, look_own, shpI, shpB, shpN, shpS, seqT, seqL, itsT, itsL, lenT, lenL, okFF, eqv_str, eqv_int, eqv_bool, isNone, perm, Dt.set, Dt.sets, env0, List.map_cons, List.map_nil, List.cons_append, List.nil_append, List.getElem?_cons_zero, List.getElem?_cons_succ, List.set_cons_succ, List.set_cons_zero, List.filterMap_cons, List.filterMap_nil, Option.some.injEq, DV.d.injEq, DV.own.injEq, PyData.int.injEq, PyData.bool.injEq, PyData.str.injEq, PyData.tuple.injEq, PyData.list.injEq, List.cons.injEq, exists_eq_left, exists_eq_left', exists_eq_right, exists_eq_right', exists_and_left, exists_eq', exists_eq, and_true, true_and, and_self, and_assoc, List.length_cons, List.length_nil, List.replicate, Nat.reduceAdd, Nat.reduceSub, Nat.reduceLeDiff, Nat.zero_le, decide_eq_true_eq, Bool.not_eq_true', decide_eq_false_iff_not, ite_true, ite_false, if_true, if_false, Bool.false_eq_true, Bool.true_eq_false, eq_self, List.reduceReplicate, Bool.not_true, Bool.not_false, reduceIte])
section
variable {P : Program} {wd : World} {K : PySem.W.Frag} {mg : Str → Option Value} {base : Heap} {c : Nat → Addr}
def f_ways : FP := fun ds R => ∃ (w : Wd) (m : Nat), ds = [.str (wstr w), .int m] ∧ m ≤ 1000 ∧ R (.int (waysN w m : Nat))
theorem ok_l_ways (T : Top wd K mg) : Def P wd K mg base 1 "_law_ways" s_l_ways ["_law_word", "_law_groups_now"] (spP K f_ways) := by
  refine Def.pure T.d_l_ways sc_l_ways (fun ds R h => by obtain ⟨_, _, rfl, _⟩ := h; rfl) (fun f cdv A outer s H G E ds R hG hr h => ?_)
  obtain ⟨w, m, rfl, hm, q⟩ := h
  refine ⟨_, _, (dss_cons (ds_if (dt_cmp (o_eq rfl hr.units) (dp_v 0) (DE.p de_str)) (dss_one (ds_ret (de_bin o_add (dp_v 1) (DE.p de_int)))) dss_nil)
      (dss_one (ds_ret (de_if (dt_cmp (o_eq rfl hr.units) (dp_v 0) (DE.p de_str)) (de_bin o_mul (DE.p de_int) (dp_v 1)) (de_max2 (by rfl) (by rfl) T.b_max de_int (de_bin o_sub (dp_v 1) (DE.p de_int))))))), ?_⟩
  have hz : Shp (.str (wstr w)) := shp_z (sok_w w)
  walk_at "s"
  cases w
  · exact ⟨hz, (if_pos rfl).mpr q⟩
  · refine ⟨hz, (if_neg (by decide +kernel)).mpr ⟨hz, (if_pos rfl).mpr ⟨.inl ⟨by decide, by decide⟩, ?_⟩⟩⟩
    exact q
  · refine ⟨hz, (if_neg (by decide +kernel)).mpr ⟨hz, (if_neg (by decide +kernel)).mpr ?_⟩⟩
    have e : (if (m : Int) - 1 > 0 then (m : Int) - 1 else 0) = ((m - 1 : Nat) : Int) := by split <;> omega
    rw [e]
    exact q
end
end Og61

namespace Og61
open PySem PySem.Spec PyProof.Rows L2 OgR Evl Dw OgM Gx
local macro_rules | `(tactic| walk_at "s") => `(tactic| simp only [wPubO, wC, wV, wPub, wP, wCons, wTup, wLst, wL, w2, wTest, wChain, wAnd, wOr, Dw.wNot, wAndV, wOrV, wNotV, wIf, Dw.wTru, truD, gI0, gI, gEq, gNe, gIn, gIsN, gNotN, gIsB, gNotB, gCatT, gCatS, gIx, wCat, wRep, w1, w1O, gLen, gTupleOf, gListOf, wRg1, gInt, gStr, w2a, wSlT, wSlL, wSlS, wRevT, wNeg, wCall, wCallB, wName, wGNil_n, wGCons_c, wGTup, wSeq, wRng1, wEnum, wZip, wNext, wSq, wRet, wIfS, wDrop, wAsg, wOwn, wAug, wMeth, fAppend, wFor_eq, wWhile_eq, wipeD, wLc_eq, Dw.wNm, wPar, wGix, wDix, wCatP, wPopTo, fPop, fPopAt, fIns, wSetIx, gRepr, gMinT, gNeS, gRepN, wDGet2, wDPut, wTPut, wTGet, gSrtR, gLtP, wSlB, wStar, wRaise, wNmX, wXat, wXis, gEqS, look_d, look_own, shpI, shpB, shpN, shpS, seqT, seqL, itsT, itsL, lenT, lenL, okFF, eqv_str, eqv_int, eqv_bool, isNone, perm, Dt.set, Dt.sets, env0, List.map_cons, List.map_nil, List.cons_append, List.nil_append, List.getElem?_cons_zero, List.getElem?_cons_succ, List.set_cons_succ, List.set_cons_zero, List.filterMap_cons, List.filterMap_nil, Option.some.injEq, DV.d.injEq, DV.own.injEq, PyData.int.injEq, PyData.bool.injEq, PyData.str.injEq, PyData.tuple.injEq, PyData.list.injEq, List.cons.injEq, exists_eq_left, exists_eq_left', exists_eq_right, exists_eq_right', exists_and_left, exists_eq', exists_eq, and_true, true_and, and_self, and_assoc, List.length_cons, List.length_nil, List.replicate, Nat.reduceAdd, Nat.reduceSub, Nat.reduceLeDiff, Nat.zero_le, decide_eq_true_eq, Bool.not_eq_true', decide_eq_false_iff_not, ite_true, ite_false, if_true, if_false, Bool.false_eq_true, Bool.true_eq_false, eq_self, List.reduceReplicate, Bool.not_true, Bool.not_false, reduceIte])
theorem len_row (row : List Int) : lenD (rowT row) = some row.length := by show some (row.map PyData.int).length = _; rw [List.length_map]
theorem p12 : (10 : Int) ^ Int.toNat 12 = 1000000000000 := by decide
theorem p9 : (10 : Int) ^ Int.toNat 9 = 1000000000 := by decide
theorem enum_get {ds : List PyData} {i : Nat} {d : PyData} (h : (enumD ds)[i]? = some d) : ∃ x, ds[i]? = some x ∧ d = .tuple [.int (i : Nat), x] := by
  unfold enumD at h
  rw [List.getElem?_mapIdx] at h
  obtain ⟨x, hx, rfl⟩ := Option.map_eq_some_iff.mp h
  exact ⟨x, hx, rfl⟩
theorem flb_int {i : Int} (h : i.natAbs ≤ 10 ^ 30) : FlB (.int i) := by show i.natAbs ≤ _; omega
theorem flb_s (s : String) (h : (reprText (Str.ofString s)).length ≤ 400 := by decide +kernel) : FlB (.str s) := ⟨sok _, h⟩
theorem bd_told {s : String} (hs : FlB (.str s)) {t : Int} (ht : t.natAbs ≤ 10 ^ 30) {k : Nat} : Bd 100 (k + 1) (.tuple [.str s, .int t]) := bd_tup (show 2 ≤ 100 by decide) fun x hx => by
  simp only [List.mem_cons, List.not_mem_nil, or_false] at hx
  rcases hx with rfl | rfl
  · exact .flat hs
  · exact .flat (flb_int ht)
theorem eqvA_ints : ∀ a b : List Int, PyData.eqvAll (a.map .int) (b.map .int) = decide (a = b)
  | [], [] => by simp [PyData.eqvAll]
  | [], _ :: _ => by simp [PyData.eqvAll]
  | _ :: _, [] => by simp [PyData.eqvAll]
  | x :: a, y :: b => by
    simp only [List.map_cons, PyData.eqvAll, eqv_int, eqvA_ints a b, List.cons.injEq, Bool.decide_and]
theorem eqv_rowT (a b : List Int) : PyData.eqv (rowT a) (rowT b) = decide (a = b) := by
  unfold rowT
  simp only [PyData.eqv]
  exact eqvA_ints a b
theorem bd_ints {l : List Int} (hl : l.length ≤ 100) (hb : ∀ x ∈ l, x.natAbs ≤ 10 ^ 30) {k : Nat} : Bd 100 (k + 1) (.tuple (l.map .int)) := bd_tup (by rw [List.length_map]; exact hl) fun x hx => by
  obtain ⟨z, hz, rfl⟩ := List.mem_map.mp hx
  exact .flat (flb_int (hb z hz))
theorem bd_intsL {l : List Int} (hl : l.length ≤ 100) (hb : ∀ x ∈ l, x.natAbs ≤ 10 ^ 30) {k : Nat} : Bd 100 (k + 1) (.list (l.map .int)) := bd_lst (by rw [List.length_map]; exact hl) fun x hx => by
  obtain ⟨z, hz, rfl⟩ := List.mem_map.mp hx
  exact .flat (flb_int (hb z hz))
theorem flb_ws (w : Wd) : FlB (.str (wstr w)) := by cases w <;> exact flb_s _
theorem bd_chs {cs : List Ch} (hl : cs.length ≤ 100) (hb : ∀ c ∈ cs, c.2 ≤ 1000) : Bd 100 2 (.tuple (cs.map chT)) := bd_tup (by rw [List.length_map]; exact hl) fun x hx => by
  obtain ⟨z, hz, rfl⟩ := List.mem_map.mp hx
  refine bd_tup (show 2 ≤ 100 by decide) fun x hx => ?_
  simp only [List.mem_cons, List.not_mem_nil, or_false] at hx
  have := hb z hz
  rcases hx with rfl | rfl
  · exact .flat (flb_ws _)
  · exact .flat (flb_int (by omega))
theorem mem_le_sum : ∀ {l : List Int}, (∀ x ∈ l, 0 ≤ x) → ∀ x ∈ l, x ≤ l.sum
  | [], _, x, hx => by simp at hx
  | a :: l, h, x, hx => by
    have hs : 0 ≤ l.sum := by
      clear hx
      have h2 : ∀ x ∈ l, 0 ≤ x := fun x hx => h x (List.mem_cons_of_mem _ hx)
      clear h
      induction l with
      | nil => simp
      | cons b l ih =>
        have := ih fun x hx => h2 x (List.mem_cons_of_mem _ hx)
        have := h2 b List.mem_cons_self
        simp only [List.sum_cons]
        omega
    have ha := h a List.mem_cons_self
    simp only [List.sum_cons]
    rcases List.mem_cons.mp hx with rfl | hx
    · omega
    · have := mem_le_sum (fun x hx => h x (List.mem_cons_of_mem _ hx)) x hx
      omega
theorem holes_bd {n : Nat} {row : List Int} (h : OgM.Row n row) (hn : n ≤ 90) (hl : row.length ≤ n) : (holes n (segs row)).length ≤ 100 ∧ ∀ x ∈ holes n (segs row), x.natAbs ≤ 10 ^ 30 := by
  obtain ⟨ok, mem⟩ := h.ok
  have h1 := segs_len row
  have he : endB 0 (segs row) ≤ n := endB_le (by omega) fun q hq => h.hi q ((mem q).mp hq)
  have hs := holes_sum 0 (segs row)
  have hpos : ∀ x ∈ holesI 0 (segs row), 0 ≤ x := fun x hx => by
    obtain ⟨i, hi⟩ := List.getElem?_of_mem hx
    exact (holesI_top ok i x hi).1
  have hsum : 0 ≤ (holesI 0 (segs row)).sum := by
    cases q : holesI 0 (segs row) with
    | nil => simp
    | cons a l =>
      have := mem_le_sum hpos a (by rw [q]; exact List.mem_cons_self)
      have := hpos a (by rw [q]; exact List.mem_cons_self)
      rw [q] at *
      omega
  refine ⟨by rw [holes_len]; omega, fun x hx => ?_⟩
  unfold holes at hx
  rcases List.mem_append.mp hx with hx | hx
  · have := mem_le_sum hpos x hx
    have := hpos x hx
    omega
  · rw [List.mem_singleton.mp hx]
    omega
theorem picks_bd {n : Nat} {row : List Int} (h : OgM.Row n row) (hl : row.length ≤ 100) : ∀ c ∈ picks row, c.2 ≤ 1000 := fun c hc => by
  obtain ⟨i, hi⟩ := List.getElem?_of_mem hc
  have hi' := (List.getElem?_eq_some_iff.mp hi).1
  rw [picks_len] at hi'
  have := picks_valid h i c hi
  rw [st_segs h (by omega)] at this
  have hs := segs_len (row.take i)
  rw [List.length_take] at hs
  obtain ⟨w, k⟩ := c
  cases w
  · have : k ≤ _ := this
    show k ≤ 1000
    omega
  · have : k < 2 * _ := this
    show k ≤ 1000
    omega
  · have : k + 1 < _ := this
    show k ≤ 1000
    omega
theorem bd_seen {row : List Int} (hl : row.length ≤ 100) : Bd 100 2 (.tuple [.list (cntsD row row.length), .list (wrdsD row row.length)]) := bd_tup (show 2 ≤ 100 by decide) fun x hx => by
  simp only [List.mem_cons, List.not_mem_nil, or_false] at hx
  rcases hx with rfl | rfl
  · refine bd_lst (by unfold cntsD; rw [List.length_map, List.length_range]; exact hl) fun x hx => ?_
    obtain ⟨j, hj, rfl⟩ := List.mem_map.mp hx
    have := segs_len (row.take (j + 1))
    rw [List.length_take] at this
    exact .flat (flb_int (by omega))
  · refine bd_lst (by unfold wrdsD; rw [List.length_map, List.length_range]; exact hl) fun x hx => ?_
    obtain ⟨j, hj, rfl⟩ := List.mem_map.mp hx
    exact .flat (flb_ws _)
theorem row_ab {n : Nat} {row : List Int} (h : OgM.Row n row) (hn : n ≤ 90) : ∀ x ∈ row, x.natAbs ≤ 10 ^ 30 := fun x hx => by
  have := h.lo x hx
  have := h.hi x hx
  omega
theorem set_same {cs : List Ch} {i : Nat} {c : Ch} (h : cs[i]? = some c) : cs.set i c = cs := by
  obtain ⟨h1, h2⟩ := List.getElem?_eq_some_iff.mp h
  rw [← h2]
  exact List.set_getElem_self h1
theorem due_eq {row : List Int} {i : Nat} (hi : i < row.length) (w : Wd) (k : Nat) : Dw.cutD ((picks row).map chT) none (some (i : Int)) ++ [PyData.tuple [.str (wstr w), .int (k : Nat)]] ++ Dw.cutD ((picks row).map chT) (some ((i : Int) + 1)) none = ((picks row).set i (w, k)).map chT := by
  have e1 : Dw.cutD ((picks row).map chT) none (some (i : Int)) = ((picks row).take i).map chT := by
    unfold Dw.cutD
    rw [HT.sIx_none, HT.sIx_nat, List.drop_zero, Nat.sub_zero, List.length_map, picks_len, Nat.min_eq_left (by omega), List.map_take]
  have e2 : Dw.cutD ((picks row).map chT) (some ((i : Int) + 1)) none = ((picks row).drop (i + 1)).map chT := by
    unfold Dw.cutD
    rw [show (i : Int) + 1 = ((i + 1 : Nat) : Int) by omega, HT.sIx_none, HT.sIx_nat, List.length_map, picks_len, Nat.min_eq_left (by omega), List.take_of_length_le (by rw [List.length_drop, List.length_map, picks_len]; omega), List.map_drop]
  rw [e1, e2, List.set_eq_take_append_cons_drop, if_pos (by rw [picks_len]; exact hi), List.map_append, List.map_cons]
  simp only [List.append_assoc, List.cons_append, List.nil_append]
  rfl
theorem cnts_eq {n : Nat} {r row : List Int} (h1 : OgM.Row n r) (h2 : OgM.Row n row) (hw : (picks r).map (·.1) = (picks row).map (·.1)) : cntsD r r.length = cntsD row row.length ∧ wrdsD r r.length = wrdsD row row.length := by
  have hl : r.length = row.length := by
    have := congrArg List.length hw
    rw [List.length_map, List.length_map, picks_len, picks_len] at this
    exact this
  unfold cntsD wrdsD
  rw [hl]
  refine ⟨List.map_congr_left fun j hj => ?_, List.map_congr_left fun j hj => ?_⟩
  · rw [picks_words h1 h2 hw (j + 1) (by have := List.mem_range.mp hj; omega)]
  · have hj := List.mem_range.mp hj
    have e := congrArg (fun l => l[j]?) hw
    simp only [List.getElem?_map] at e
    have g : ∀ {x : List Int} {m : Nat}, OgM.Row m x → j < x.length → (picks x)[j]? = some (pick (x.getD j 0) (segs (x.take j))) := fun hx hj => by
      rw [picks_get (List.getElem?_eq_getElem hj), List.getD_eq_getElem?_getD, List.getElem?_eq_getElem hj]
      rfl
    rw [g h1 (by omega), g h2 hj] at e
    exact congrArg (fun w => PyData.str (wstr w)) (Option.some.inj e)
section
variable {P : Program} {wd : World} {K : PySem.W.Frag} {mg : Str → Option Value} {base : Heap} {c : Nat → Addr}
end
end Og61

namespace Og61
open PySem PySem.Spec PyProof.Rows L2 OgR Evl Dw OgM Gx
local macro_rules | `(tactic| walk_at "s") => `(tactic| simp only [wPubO, wC, wV, wPub, wP, wCons, wTup, wLst, wL, w2, wTest, wChain, wAnd, wOr, Dw.wNot, wAndV, wOrV, wNotV, wIf, Dw.wTru, truD, gI0, gI, gEq, gNe, gIn, gIsN, gNotN, gIsB, gNotB, gCatT, gCatS, gIx, wCat, wRep, w1, w1O, gLen, gTupleOf, gListOf, wRg1, gInt, gStr, w2a, wSlT, wSlL, wSlS, wRevT, wNeg, wCall, wCallB, wName, wGNil_n, wGCons_c, wGTup, wSeq, wRng1, wEnum, wZip, wNext, wSq, wRet, wIfS, wDrop, wAsg, wOwn, wAug, wMeth, fAppend, wFor_eq, wWhile_eq, wipeD, wLc_eq, Dw.wNm, wPar, wGix, wDix, wCatP, wPopTo, fPop, fPopAt, fIns, wSetIx, gRepr, gMinT, gNeS, gRepN, wDGet2, wDPut, wTPut, wTGet, gSrtR, gSrtA, gLtP, wSlB, wStar, wRaise, wNmX, wXat, wXis, gEqS, wYd, wYdic, wYfn, wYg, wCallD, wCallV, wSetN, wDcT, wTGet2, wTGet1, dicAt, wRng2, wRngD, wRevR, gRevL, wIsi, wNotT, wAugIx, wPeekO, wPick2, wExt, fRem, look_d, look_own, shpI, shpB, shpN, shpS, seqT, seqL, itsT, itsL, lenT, lenL, okFF, eqv_str, eqv_int, eqv_bool, isNone, perm, Dt.set, Dt.sets, env0, List.map_cons, List.map_nil, List.cons_append, List.nil_append, List.getElem?_cons_zero, List.getElem?_cons_succ, List.set_cons_succ, List.set_cons_zero, List.filterMap_cons, List.filterMap_nil, Option.some.injEq, DV.d.injEq, DV.own.injEq, DV.dit.injEq, DV.dd.injEq, DV.oth.injEq, reduceCtorEq, false_or, or_false, false_and, and_false, exists_false, PyData.int.injEq, PyData.bool.injEq, PyData.str.injEq, PyData.tuple.injEq, PyData.list.injEq, List.cons.injEq, exists_eq_left, exists_eq_left', exists_eq_right, exists_eq_right', exists_and_left, exists_eq', exists_eq, and_true, true_and, and_self, and_assoc, List.length_cons, List.length_nil, List.replicate, Nat.reduceAdd, Nat.reduceSub, Nat.reduceLeDiff, Nat.zero_le, decide_eq_true_eq, Bool.not_eq_true', decide_eq_false_iff_not, ite_true, ite_false, if_true, if_false, Bool.false_eq_true, Bool.true_eq_false, eq_self, List.reduceReplicate, Bool.not_true, Bool.not_false, reduceIte])
theorem stepOf_w (w : Wd) : stepOf (wstr w) = some w.step := by cases w <;> rfl
theorem part_ch {m : Nat} {w : Wd} {k : Nat} (h : k < waysN w m) : partOk (m : Int) (chT (w, k)) = some ((nextM m w : Nat) : Int) := by
  have e : isBelow (.int (k : Nat)) (manyC (wstr w) (m : Int)) = true := by
    rw [manyC_w]
    show (decide (0 ≤ (k : Int)) && decide ((k : Int) < ((waysN w m : Nat) : Int))) = true
    rw [decide_eq_true (by omega), decide_eq_true (by omega)]
    rfl
  show (match stepOf (wstr w) with | some s => if isBelow (.int (k : Nat)) (manyC (wstr w) (m : Int)) = true then some ((m : Int) + s) else none | none => none) = _
  rw [stepOf_w]
  show (if _ then some ((m : Int) + w.step) else none) = _
  rw [if_pos e, nextM_step (by omega)]
theorem chk_picks {n : Int} {row : List Int} (h : OgM.Row n row) : ∀ (j i : Nat), i + j = row.length → chk ((segs (row.take i)).length : Nat) (((picks row).drop i).map chT) = true
  | 0, i, hi => by
    rw [List.drop_eq_nil_of_le (by rw [picks_len]; omega)]
    rfl
  | j + 1, i, hi => by
    have hil : i < (picks row).length := by rw [picks_len]; omega
    have hc : (picks row)[i]? = some (picks row)[i] := List.getElem?_eq_getElem hil
    generalize (picks row)[i] = c at hc
    obtain ⟨w, k⟩ := c
    obtain ⟨n1, n2⟩ := picks_next h hc
    rw [drop_at hc]
    show (match partOk _ (chT (w, k)) with | some m => chk m _ | none => false) = true
    rw [part_ch n2]
    show chk _ _ = true
    rw [← n1]
    exact chk_picks h j (i + 1) (by omega)
theorem picksD_ok {n : Int} {row : List Int} (h : OgM.Row n row) : picksD (.tuple ((picks row).map chT)) = true := by
  have := chk_picks h row.length 0 (by omega)
  rw [List.drop_zero, List.take_zero] at this
  exact this
/-- there is room for the groups -/
theorem segs_fit {n : Nat} {row : List Int} (h : OgM.Row (n : Nat) row) : (segs row).length ≤ n - row.length + 1 := by
  obtain ⟨ok, mem⟩ := h.ok
  have h0 : 0 ≤ (n : Int) := by omega
  have he : endB 0 (segs row) ≤ n := endB_le h0 fun q hq => h.hi q ((mem q).mp hq)
  have hs := holes_sum 0 (segs row)
  rw [segs_size] at hs
  have key : ∀ (g : List Seg) (b : Int), Ok b g → (g.length : Int) ≤ (holesI b g).sum := fun g b hg => by
    have := holesI_pos hg
    have e := holesI_len b g
    generalize holesI b g = l at this e
    rw [← e]
    clear e
    induction l with
    | nil => simp
    | cons a l ih =>
      have h1 := this a List.mem_cons_self
      have h2 := ih fun x hx => this x (List.mem_cons_of_mem _ hx)
      simp only [List.sum_cons, List.length_cons]
      omega
  cases hg : segs row with
  | nil => simp
  | cons x g =>
    rw [hg] at hs ok he
    have k1 := key g (x.1 + x.2 + 1) ok.2
    have k2 : (holesI 0 (x :: g)).sum = (x.1 - 0) + (holesI (x.1 + x.2 + 1) g).sum := by
      show ((x.1 - 0) :: holesI (x.1 + x.2 + 1) g).sum = _
      rw [List.sum_cons]
    have k3 := ok.1
    simp only [List.length_cons]
    omega
theorem wds_eq {r row : List Int} (h : (picks r).map (·.1) = (picks row).map (·.1)) : wdsD r = wdsD row := by
  have e : ∀ x : List Int, wdsD x = ((picks x).map (·.1)).map fun w => PyData.str (wstr w) := fun x => by
    unfold wdsD
    rw [List.map_map]
    rfl
  rw [e, e, h]
theorem cnt_eq {n : Int} {r row : List Int} (h1 : OgM.Row n r) (h2 : OgM.Row n row) (h : (picks r).map (·.1) = (picks row).map (·.1)) : cntT r = cntT row := by
  have hl : r.length = row.length := by
    have := congrArg List.length h
    rw [List.length_map, List.length_map, picks_len, picks_len] at this
    exact this
  unfold cntT
  rw [hl]
  refine List.map_congr_left fun j hj => ?_
  rw [picks_words h1 h2 h (j + 1) (by have := List.mem_range.mp hj; omega)]
theorem tru_eq {n : Int} {r row : List Int} (h1 : OgM.Row n r) (h2 : OgM.Row n row) (h : (picks r).map (·.1) = (picks row).map (·.1)) {t : Nat} (ht : t < row.length) (v : NV) : truV r t v = truV row t v := by
  have hl : r.length = row.length := by
    have := congrArg List.length h
    rw [List.length_map, List.length_map, picks_len, picks_len] at this
    exact this
  cases v with
  | g x =>
    show NV.g _ = NV.g _
    rw [picks_words h1 h2 h (t + 1) (by omega)]
  | h x =>
    show NV.h _ = NV.h _
    have e := congrArg (fun l => l[t]?) h
    simp only [List.getElem?_map] at e
    rw [List.getElem?_eq_getElem (by rw [picks_len]; omega), List.getElem?_eq_getElem (by rw [picks_len]; omega)] at e ⊢
    exact congrArg NV.h (Option.some.inj e)
theorem bd_wds {row : List Int} (hl : row.length ≤ 100) : Bd 100 1 (.tuple (wdsD row)) := bd_tup (by unfold wdsD; rw [List.length_map, picks_len]; exact hl) fun x hx => by
  obtain ⟨c, _, rfl⟩ := List.mem_map.mp hx
  exact .flat (flb_ws _)
theorem bd_cnt {row : List Int} (hl : row.length ≤ 100) : Bd 100 1 (.tuple (cntT row)) := bd_tup (by unfold cntT; rw [List.length_map, List.length_range]; exact hl) fun x hx => by
  obtain ⟨j, hj, rfl⟩ := List.mem_map.mp hx
  have := segs_len (row.take (j + 1))
  rw [List.length_take] at this
  exact .flat (flb_int (by omega))
@[reducible] def stR (row : List Int) (xs : List Nt) (n k : Nat) (here : List Int) (total before : Int) (x11 x12 x13 x14 x15 x16 : Option DV) (c : Int) : Dt :=
  ⟨[some .box, some (.d (rowT row)), some (.d (bkT n k xs)), some (.d (.int (n : Nat))), some (.d (.int (k : Nat))), some (.d (.tuple (wdsD row))), some (.d (.tuple (cntT row))), some (.d (rowT here)), some (.own ((picks here).map chT)), some (.d (.int total)), some (.d (.int before)), x11, x12, x13, x14, x15, x16], c⟩
@[reducible] def stQ (row : List Int) (xs : List Nt) (n k : Nat) (here : List Int) (total before : Int) (x11 x12 x13 x14 x15 x16 : Option DV) (c : Int) : Dt :=
  ⟨[some .box, some (.d (rowT row)), some (.d (bkT n k xs)), some (.d (.int (n : Nat))), some (.d (.int (k : Nat))), some (.d (.tuple (wdsD row))), some (.d (.tuple (cntT row))), some (.d (rowT here)), some (.d (.list ((picks here).map chT))), some (.d (.int total)), some (.d (.int before)), x11, x12, x13, x14, x15, x16], c⟩
section
variable {P : Program} {wd : World} {K : PySem.W.Frag} {mg : Str → Option Value} {base : Heap} {c : Nat → Addr}
theorem ok_l_right (T : Top wd K mg) : Def P wd K mg base 8 "_law_right" s_l_right ["_law_box_here"] (spB K fRight) := by
  have g_l_story := ok_l_story (P := P) (base := base) T
  have g_l_take := ok_l_take (P := P) (base := base) T
  have g_l_ways := ok_l_ways (P := P) (base := base) T
  have g_changed := ok_changed (P := P) (base := base) T
  have g_choices_of := ok_choices_of (P := P) (base := base) T
  have g_count_orders := ok_count_orders (P := P) (base := base) T
  have g_gaps_of := ok_gaps_of (P := P) (base := base) T
  have g_groups := ok_groups (P := P) (base := base) T
  have g_houses := ok_houses (P := P) (base := base) T
  have g_is_choices := ok_is_choices (P := P) (base := base) T
  have g_is_order := ok_is_order (P := P) (base := base) T
  have g_row_of := ok_row_of (P := P) (base := base) T
  refine Def.draws T.d_l_right sc_l_right (fun ds c R h => by obtain ⟨rfl, _⟩ := h; rfl) (fun f cdv A outer s H G l E ds c0 R hG hr h => ?_)
  obtain ⟨rfl, hc, q⟩ := h
  refine ⟨_, _, (dss_cons (ds_asg (de_cB 0 g_l_story hG (hr.mono (by omega)) (by rfl) (da_cons de_int da_nil)) (dg_tup (n := 2) rfl (by rfl) (dgs_c (dg_name 1 sc_l_right.nd) (dgs_c (dg_name 2 sc_l_right.nd) dgs_nil))))
      (dss_cons (ds_asg (de_slT rfl (dp_v 2) do_none (do_some de_int)) (dg_tup (n := 2) rfl (by rfl) (dgs_c (dg_name 3 sc_l_right.nd) (dgs_c (dg_name 4 sc_l_right.nd) dgs_nil))))
      (dss_cons (ds_par2 5 6 (by rfl) sc_l_right.nd (dx_cons (DE.dx (de_c g_houses hG (hr.mono (by omega)) (by rfl) (da_cons (de_v 1) da_nil))) (dx_cons (DE.dx (de_c g_groups hG (hr.mono (by omega)) (by rfl) (da_cons (de_v 1) da_nil))) dx_nil)))
      (dss_cons (ds_par2 7 8 (by rfl) sc_l_right.nd (dx_cons (DE.dx (de_v 1)) (dx_cons (DO.dx (do_listOf rfl (by rfl) T.b_list (DE.p (de_c g_choices_of hG (hr.mono (by omega)) (by rfl) (da_cons (de_v 1) da_nil))))) dx_nil)))
      (dss_cons (ds_parT [9, 10] rfl (pg_tup rfl (pgs_cons (pg_name (i := 9) sc_l_right.nd rfl (.inl rfl)) (pgs_cons (pg_name (i := 10) sc_l_right.nd rfl (.inl rfl)) pgs_nil))) rfl (dx_cons (DE.dx de_int) (dx_cons (DE.dx de_int) dx_nil)))
      (dss_cons (ds_for PassesOwn.never (by rfl) (di_enum rfl (by rfl) T.b_enumerate (de_v 5)) (dg_tup (n := 2) rfl (by rfl) (dgs_c (dg_name 11 sc_l_right.nd) (dgs_c (dg_name 12 sc_l_right.nd) dgs_nil)))
        (dss_cons (ds_set 13 sc_l_right.nd (de_c g_l_ways hG (hr.mono (by omega)) (by rfl) (da_cons (de_v 12) (da_cons (de_v 10) da_nil))))
        (dss_cons (ds_par2 9 10 (by rfl) sc_l_right.nd (dx_cons (DE.dx (de_bin o_mul (dp_v 9) (dp_v 13))) (dx_cons (DE.dx (de_ix rfl (dp_v 6) (dp_v 11))) dx_nil)))
        (dss_cons (ds_set 14 sc_l_right.nd (de_cB 0 g_l_take hG (hr.mono (by omega)) (by rfl) (da_cons (de_v 13) da_nil)))
        (dss_cons (ds_set 7 sc_l_right.nd (de_c g_changed hG (hr.mono (by omega)) (by rfl) (da_cons (de_v 3) (da_cons (de_v 7) (da_cons (de_v 11) (da_cons (de_v 14) da_nil))))))
        (dss_cons (ds_sub 8 (de_tup (da_cons (de_v 12) (da_cons (de_v 14) da_nil))) (de_v 11))
        (dss_one (ds_if (DW.q (dw_or (dt_cmp (o_ne rfl hr.units) (DE.p (de_c g_choices_of hG (hr.mono (by omega)) (by rfl) (da_cons (de_v 7) da_nil))) (DE.p (de_tupleOf rfl (by rfl) T.b_tuple (dp_v 8)))) (dw_or1 (dt_not (dt_val (de_c g_is_choices hG (hr.mono (by omega)) (by rfl) (da_cons (de_tupleOf rfl (by rfl) T.b_tuple (dp_v 8)) da_nil))))))) (dss_one (ds_ret de_bl)) dss_nil))))))))
      (dss_cons (ds_if (DW.q (dw_or (dt_cmp (o_ne rfl hr.units) (DE.p (de_c g_houses hG (hr.mono (by omega)) (by rfl) (da_cons (de_v 7) da_nil))) (dp_v 5)) (dw_or (dt_cmp (o_ne rfl hr.units) (DE.p (de_c g_groups hG (hr.mono (by omega)) (by rfl) (da_cons (de_v 7) da_nil))) (dp_v 6)) (dw_or (dt_not (dt_val (de_c g_is_order hG (hr.mono (by omega)) (by rfl) (da_cons (de_v 2) (da_cons (de_v 7) da_nil))))) (dw_or1 (dt_not (dt_val (de_c g_is_order hG (hr.mono (by omega)) (by rfl) (da_cons (de_v 2) (da_cons (de_v 1) da_nil)))))))))) (dss_one (ds_ret de_bl)) dss_nil)
      (dss_cons (ds_if (DW.q (dw_or (dt_cmp (o_ne rfl hr.units) (DE.p (de_c g_row_of hG (hr.mono (by omega)) (by rfl) (da_cons (de_pub 8) (da_cons (de_c g_gaps_of hG (hr.mono (by omega)) (by rfl) (da_cons (de_v 3) (da_cons (de_v 1) da_nil))) da_nil)))) (dp_v 7)) (dw_or1 (dt_cmp (o_ne rfl hr.units) (DE.p (de_c g_gaps_of hG (hr.mono (by omega)) (by rfl) (da_cons (de_v 3) (da_cons (de_v 7) da_nil)))) (DE.p (de_c g_gaps_of hG (hr.mono (by omega)) (by rfl) (da_cons (de_v 3) (da_cons (de_v 1) da_nil)))))))) (dss_one (ds_ret de_bl)) dss_nil)
      (dss_cons (ds_for PassesOwn.never (by rfl) (di_rng1 (by rfl) T.b_range (de_bin o_sub (DE.p (de_bin o_add (DE.p (de_bin o_sub (dp_v 3) (dp_v 4))) (DE.p de_int))) (dp_v 10))) (dg_name 15 sc_l_right.nd)
        (dss_one (ds_set 9 sc_l_right.nd (de_bin o_mul (dp_v 9) (DE.p (de_bin o_sub (DE.p (de_bin o_add (DE.p (de_bin o_sub (dp_v 3) (dp_v 4))) (DE.p de_int))) (dp_v 15)))))))
      (dss_cons (ds_for PassesOwn.never (by rfl) (di_rng1 (by rfl) T.b_range (de_bin o_sub (DE.p (de_bin o_add (DE.p (de_bin o_sub (dp_v 3) (dp_v 4))) (DE.p de_int))) (dp_v 10))) (dg_name 15 sc_l_right.nd)
        (dss_one (ds_set 9 sc_l_right.nd (de_bin o_fdiv (dp_v 9) (DE.p (de_bin o_add (dp_v 15) (DE.p de_int)))))))
      (dss_cons (ds_set 16 sc_l_right.nd (de_tup (da_cons (de_v 3) (da_cons (de_v 4) (da_cons (de_tupleOf rfl (by rfl) T.b_tuple (DE.p (DO.d (do_lc (own := [("_law_spot", 11), ("_law_word", 12)]) (by rfl) sc_l_right.nd (di_enum rfl (by rfl) T.b_enumerate (de_v 5)) (blkOk_by (own := [("_law_spot", 11), ("_law_word", 12)]) (N := ["_law_box_here", "_law_queue_here", "_law_book", "_law_count", "_law_size", "_law_words", "_law_counts", "_law_here", "_law_picks", "_law_total", "_law_before", "_law_spot", "_law_word", "_law_top", "_law_at", "_law_turn", "_law_full"]) (sc := defScope s_l_right) (by decide +kernel)) (fun _ _ _ _ _ => (dg_tup (n := 2) rfl (by rfl) (dgs_c (dg_name 11 sc_l_right.nd (hf := Or.inr rfl)) (dgs_c (dg_name 12 sc_l_right.nd (hf := Or.inr rfl)) dgs_nil)))) ts_no (fun _ _ _ _ _ => (de_tup (da_cons (de_v 11) (da_cons de_str (da_cons (de_v 12) da_nil))))))))) da_nil)))))
      (dss_one (ds_ret (de_and (de_cmp (o_eq rfl hr.units) (DE.p (de_c g_count_orders hG (hr.mono (by omega)) (by rfl) (da_cons (de_v 16) da_nil))) (dp_v 9)) (de_one (de_c g_is_order hG (hr.mono (by omega)) (by rfl) (da_cons (de_v 16) (da_cons (de_v 7) da_nil)))))))))))))))))), ?_⟩
  walk_at "s"
  refine ⟨16, rfl, by decide, by omega, fun row n k xs c1 hk hn hR hrl hS hc1 => ?_⟩
  have hc1 : c1 ≤ c0 + 100 := hc1
  walk_at "s"
  have hcut : Dw.cutD [PyData.int (n : Nat), .int (k : Nat), .tuple (xs.map ntD)] none (some 2) = [.int (n : Nat), .int (k : Nat)] := rfl
  refine ⟨_, rfl, ?_⟩
  rw [hcut]
  walk_at "s"
  have h9 : row.length ≤ 900 := by omega
  refine ⟨_, row, rfl, .inl rfl, hR.nd, h9, ?_⟩
  walk_at "s"
  refine ⟨_, row, n, rfl, .inl rfl, hR, h9, ?_⟩
  walk_at "s"
  refine ⟨_, row, rfl, .inl rfl, hR.nd, h9, rfl, ?_⟩
  show ForD _ _ _ _ (stR row xs n k row 1 0 none none none none none none c1)
  refine forD_by (fun i s2 => ∃ here y11 y12 y13 y14 c2, s2 = stR row xs n k here (prodW row i : Nat) ((segs (row.take i)).length : Nat) y11 y12 y13 y14 none none c2 ∧ OgM.Row (n : Nat) here ∧ (picks here).map (·.1) = (picks row).map (·.1) ∧ holes (n : Nat) (segs here) = holes (n : Nat) (segs row) ∧ c2 ≤ c1 + i ∧ i ≤ k) ⟨row, none, none, none, none, c1, rfl, hR, rfl, rfl, by omega, by omega⟩ (fun i d s2 J e inv hJ => ?_) (fun s2 inv => ?_)
  · obtain ⟨here, y11, y12, y13, y14, c2, rfl, hH, hw, hh, hc2, hi⟩ := inv
    obtain ⟨x, hx, rfl⟩ := enum_get e
    have hx : (wdsD row)[i]? = some x := hx
    unfold wdsD at hx
    rw [List.getElem?_map] at hx
    obtain ⟨⟨w, own⟩, hch, rfl⟩ := Option.map_eq_some_iff.mp hx
    have hi : i < row.length := by
      have := (List.getElem?_eq_some_iff.mp hch).1
      rw [picks_len] at this
      exact this
    have hhl : here.length = row.length := by
      have := congrArg List.length hw
      rw [List.length_map, List.length_map, picks_len, picks_len] at this
      exact this
    have hown := (picks_next hR hch).2
    have hsl : (segs (row.take i)).length ≤ 20 := by
      have := segs_len (row.take i)
      rw [List.length_take] at this
      omega
    have htop := ways_le w (segs (row.take i)).length
    have hpw : pw row i = waysN w (segs (row.take i)).length := by unfold pw; rw [hch]; rfl
    have hcnt : atI (cntT row) (i : Int) = some (.int ((segs (row.take (i + 1))).length : Nat)) := by
      unfold cntT
      rw [at_nat (by rw [List.length_map, List.length_range]; exact hi), List.getElem?_map, List.getElem?_eq_getElem (by rw [List.length_range]; exact hi), List.getElem_range]
      rfl
    walk_at "s"
    refine ⟨w, _, rfl, by omega, ?_⟩
    walk_at "s"
    obtain ⟨k0, hch2⟩ : ∃ k0, (picks here)[i]? = some (w, k0) := by
      have e1 := congrArg (fun l => l[i]?) hw
      simp only [List.getElem?_map] at e1
      rw [hch] at e1
      obtain ⟨⟨w', k0⟩, e2, e3⟩ := Option.map_eq_some_iff.mp e1
      have e3 : w' = w := e3
      subst e3
      exact ⟨k0, e2⟩
    have hseg : (segs (here.take i)).length = (segs (row.take i)).length := picks_words hH hR hw i (by omega)
    refine ⟨.inr ⟨by omega, by omega⟩, _, hcnt, _, rfl, by omega, by omega, (show c2 < 1000000 by omega), fun r c3 hr0 hr1 hc3 => ?_⟩
    have hc3 : c3 ≤ c2 + 1 := hc3
    obtain ⟨r, rfl⟩ : ∃ z : Nat, r = z := ⟨r.toNat, by omega⟩
    refine ⟨n, _, here, i, r, w, k0, rfl, .inl rfl, hH, by omega, hch2, by rw [hseg]; omega, fun h2 hH2 hp2 hh2 => ?_⟩
    have hw2 : (picks h2).map (·.1) = (picks row).map (·.1) := by rw [hp2, ← hw]; exact set_steps hch2
    have hl2 : h2.length = row.length := by
      have := congrArg List.length hw2
      rw [List.length_map, List.length_map, picks_len, picks_len] at this
      exact this
    have eset : ((picks here).map chT).set i (.tuple [.str (wstr w), .int (r : Nat)]) = (picks h2).map chT := by
      rw [hp2, List.map_set]
      rfl
    have hB3 : Bd 100 2 (picksT h2) := bd_chs (by rw [picks_len]; omega) (picks_bd hH2 (by omega))
    refine ⟨i, rfl, by rw [List.length_map, picks_len]; omega, ?_⟩
    rw [eset]
    refine ⟨_, h2, rfl, .inl rfl, hH2.nd, by omega, hB3.shp (by decide), hB3.shp (by decide), ?_⟩
    have e5 : (picksT h2).eqv (.tuple ((picks h2).map chT)) = true := hB3.rf
    refine (if_neg (show ¬ ((picksT h2).eqv (.tuple ((picks h2).map chT)) = false) by rw [e5]; decide)).mpr ⟨_, 100, 2, rfl, hB3, by decide, true, by rw [picksD_ok hH2], (if_neg (by decide)).mpr ?_⟩
    have e6 : ((prodW row i : Nat) : Int) * ((waysN w (segs (row.take i)).length : Nat) : Int) = ((prodW row (i + 1) : Nat) : Int) := by
      show _ = ((prodW row i * pw row i : Nat) : Int)
      rw [hpw, Int.natCast_mul]
    rw [e6]
    exact hJ _ ⟨h2, _, _, _, _, c3, rfl, hH2, hw2, hh2.trans hh, by omega, by omega⟩
  · obtain ⟨here, y11, y12, y13, y14, c2, rfl, hH, hw, hh, hc2, hi⟩ := inv
    have hel : (enumD (wdsD row)).length = row.length := by
      unfold enumD wdsD
      rw [List.length_mapIdx]
      show ((picks row).map _).length = _
      rw [List.length_map, picks_len]
    rw [hel] at hc2 ⊢
    rw [List.take_length]
    walk_at "s"
    have hhl : here.length = row.length := by
      have := congrArg List.length hw
      rw [List.length_map, List.length_map, picks_len, picks_len] at this
      exact this
    have hBw := bd_wds (row := row) (by omega)
    have hBc := bd_cnt (row := row) (by omega)
    have hBh : Bd 100 1 (rowT here) := bd_ints (by omega) (row_ab hH (by omega))
    have hhb := holes_bd hR (by omega) (by omega)
    have hBg : Bd 100 1 (.tuple ((holes (n : Nat) (segs row)).map .int)) := bd_ints hhb.1 hhb.2
    have hBk : Bk (bkT n k xs) n k xs := ⟨⟨_, .inl rfl, .inl rfl⟩, hk, by omega, by omega, by have := hS.len; omega⟩
    have hTr : ∀ x ∈ xs, truV row x.t x.v = x.v := fun x hx => (hS.tru x hx).2
    have hTh : ∀ x ∈ xs, truV here x.t x.v = x.v := fun x hx => by
      have := (hS.tru x hx).1
      rw [tru_eq hH hR hw (by omega)]
      exact hTr x hx
    have hfit := segs_fit hR
    refine ⟨_, here, rfl, .inl rfl, hH.nd, by omega, ?_⟩
    rw [wds_eq hw]
    refine neS hBw ⟨_, here, n, rfl, .inl rfl, hH, by omega, ?_⟩
    rw [cnt_eq hH hR hw]
    refine neS hBc ⟨_, n, k, xs, here, rfl, hBk, hH, by omega, by omega, fun x hx => (hS.tru x hx).1, true, by rw [decide_eq_true hTh], (if_neg (by decide)).mpr ⟨_, n, k, xs, row, rfl, hBk, hR, by omega, by omega, fun x hx => (hS.tru x hx).1, true, by rw [decide_eq_true hTr], (if_neg (by decide)).mpr ?_⟩⟩
    obtain ⟨htold, _⟩ := picks_told hH here.length (Nat.le_refl _)
    rw [List.take_length] at htold
    have hrow : rowF (fun t => here.getD t 0) here.length = here := by
      refine map_get_same (rowF_len _ _) fun j hj => ?_
      rw [rowF_len] at hj
      rw [rowF_get _ hj, List.getD_eq_getElem?_getD, List.getElem?_eq_getElem hj]
      rfl
    refine ⟨_, n, row, rfl, .inl rfl, hR.nd, h9, _, _, picks here, n, segs here, fun t => here.getD t 0, rfl, .inr rfl, picks_valid hH, by rw [picks_len]; omega, .inl (by rw [hh]), by rw [picks_len]; exact htold, ?_⟩
    rw [picks_len, hrow]
    refine neS hBh ⟨_, n, here, rfl, .inl rfl, hH.nd, by omega, _, n, row, rfl, .inl rfl, hR.nd, by omega, ?_⟩
    rw [hh]
    refine neS hBg ⟨by omega, by omega, ?_⟩
    obtain ⟨rr, hrr⟩ : ∃ rr : Nat, (n : Int) - (k : Int) + 1 - ((segs row).length : Nat) = rr := ⟨n - k + 1 - (segs row).length, by omega⟩
    rw [hrr]
    show ForD _ _ _ _ (stQ row xs n k here (prodW row row.length : Nat) ((segs row).length : Nat) y11 y12 y13 y14 none none c2)
    refine forD_by (fun i s2 => ∃ y15, s2 = stQ row xs n k here ((prodW row row.length * fal (n - k + 1) i : Nat) : Int) ((segs row).length : Nat) y11 y12 y13 y14 y15 none c2) ⟨none, by rw [show fal (n - k + 1) 0 = 1 from rfl, Nat.mul_one]⟩ (fun i d s2 J e inv hJ => ?_) (fun s2 inv => ?_)
    · obtain ⟨y15, rfl⟩ := inv
      obtain ⟨hi2, rfl⟩ := iota_get e
      have hi2 : i < rr := by
        have : i < ((rr : Int) - 0).toNat := hi2
        omega
      walk_at "s"
      refine ⟨.inr ⟨by omega, by omega⟩, hJ _ ⟨some (.d (.int (0 + (i : Int)))), ?_⟩⟩
      have e7 : ((prodW row row.length * fal (n - k + 1) i : Nat) : Int) * ((n : Int) - (k : Int) + 1 - (0 + (i : Int))) = ((prodW row row.length * fal (n - k + 1) (i + 1) : Nat) : Int) := by
        show _ = ((prodW row row.length * (fal (n - k + 1) i * (n - k + 1 - i)) : Nat) : Int)
        rw [← Nat.mul_assoc, Int.natCast_mul, show (n : Int) - (k : Int) + 1 - (0 + (i : Int)) = ((n - k + 1 - i : Nat) : Int) by omega]
        rfl
      rw [e7]
    · obtain ⟨y15, rfl⟩ := inv
      rw [iota_len, show ((rr : Int) - 0).toNat = rr by omega]
      walk_at "s"
      rw [hrr]
      refine ⟨by omega, by omega, ?_⟩
      have efal : fal (n - k + 1) rr = cho (n - k + 1) (segs row).length * upp 0 rr := by
        rw [fal_cho, fac_upp0]
        congr 1
        have := cho_sym rr (segs row).length
        rw [show rr + (segs row).length = n - k + 1 by omega] at this
        exact this
      rw [efal, ← Nat.mul_assoc]
      have hcw : FW List.sum (hNotes 0 (wds row)) (n - k) k k 0 = prodW row row.length * cho (n - k + 1) (segs row).length := by
        rw [← hrl]
        exact count_words hR _
      rw [← hcw]
      generalize hFW : FW List.sum (hNotes 0 (wds row)) (n - k) k k 0 = tot
      show ForD _ _ _ _ (stQ row xs n k here ((tot * upp 0 rr : Nat) : Int) ((segs row).length : Nat) y11 y12 y13 y14 y15 none c2)
      refine forD_by (fun i s2 => ∃ y15, i ≤ rr ∧ s2 = stQ row xs n k here ((tot * upp i (rr - i) : Nat) : Int) ((segs row).length : Nat) y11 y12 y13 y14 y15 none c2) ⟨y15, Nat.zero_le _, rfl⟩ (fun i d s2 J e inv hJ => ?_) (fun s2 inv => ?_)
      · obtain ⟨y15, hir, rfl⟩ := inv
        obtain ⟨hi2, rfl⟩ := iota_get e
        have hi2 : i < rr := by
          have : i < ((rr : Int) - 0).toNat := hi2
          omega
        walk_at "s"
        refine ⟨⟨by omega, by omega⟩, hJ _ ⟨some (.d (.int (0 + (i : Int)))), hi2, ?_⟩⟩
        have e8 : ((tot * upp i (rr - i) : Nat) : Int) / (0 + (i : Int) + 1) = ((tot * upp (i + 1) (rr - (i + 1)) : Nat) : Int) := by
          rw [show rr - i = (rr - (i + 1)) + 1 by omega]
          show ((tot * ((i + 1) * upp (i + 1) (rr - (i + 1))) : Nat) : Int) / _ = _
          rw [Nat.mul_left_comm, Int.natCast_mul, show (0 + (i : Int) + 1) = ((i + 1 : Nat) : Int) by omega]
          exact Int.mul_ediv_cancel_left _ (by omega)
        rw [e8]
      · obtain ⟨y15, hir, rfl⟩ := inv
        rw [iota_len, show ((rr : Int) - 0).toNat = rr by omega, Nat.sub_self, show upp rr 0 = 1 from rfl, Nat.mul_one]
        walk_at "s"
        have een : enumD (wdsD row) = (hNotes 0 (wds row)).map fun x => PyData.tuple [.int (x.t : Nat), valD x.v] := by
          refine List.ext_getElem? fun i => ?_
          unfold enumD wdsD wds
          rw [hNotes_idx, List.getElem?_map, List.getElem?_mapIdx, List.getElem?_mapIdx, List.getElem?_map, List.getElem?_map]
          cases (picks row)[i]? with
          | none => rfl
          | some c =>
            show some (PyData.tuple [.int (i : Nat), .str (wstr c.1)]) = some (PyData.tuple [.int ((0 + i : Nat) : Int), .str (wstr c.1)])
            rw [Nat.zero_add]
        have hhn : (hNotes 0 (wds row)).length = row.length := by
          rw [hNotes_len]
          unfold wds
          rw [List.length_map, picks_len]
        rw [een]
        refine lcD_encM (hNotes 0 (wds row)) _ ntD (by omega) (fun x hx acc J hacc hJ => ?_) ?_
        · obtain ⟨i, w, hi3, rfl⟩ := hNotes_mem hx
          walk_at "s"
          exact ⟨hacc, hJ⟩
        · walk_at "s"
          have hBk2 : Bk (PyData.tuple [.int (n : Nat), .int (k : Nat), .tuple ((hNotes 0 (wds row)).map ntD)]) n k (hNotes 0 (wds row)) := ⟨⟨_, .inl rfl, .inl rfl⟩, hk, by omega, by omega, by omega⟩
          refine ⟨_, n, k, _, rfl, hBk2, ?_⟩
          rw [hFW]
          refine ⟨shp_int _, (if_pos (show PyData.eqv (.int (tot : Nat)) (.int (tot : Nat)) = true by rw [eqv_int]; exact decide_eq_true rfl)).mpr ⟨_, n, k, hNotes 0 (wds row), here, rfl, hBk2, hH, by omega, by omega, fun x hx => ?_, ?_⟩⟩
          · obtain ⟨i, w, hi3, rfl⟩ := hNotes_mem hx
            have := (List.getElem?_eq_some_iff.mp hi3).1
            unfold wds at this
            rw [List.length_map, picks_len] at this
            show 0 + i < k
            omega
          · rw [decide_eq_true fun x hx => ?_]
            · exact q c2 (by omega)
            · obtain ⟨i, w, hi3, rfl⟩ := hNotes_mem hx
              unfold wds at hi3
              rw [← hw, List.getElem?_map] at hi3
              obtain ⟨c, hc4, rfl⟩ := Option.map_eq_some_iff.mp hi3
              show NV.h ((picks here)[0 + i]?.getD (.new, 0)).1 = NV.h c.1
              rw [Nat.zero_add, hc4]
              rfl
end
end Og61

namespace Og61
open PySem PySem.Spec PyProof.Rows L2 OgR Evl Dw
section
variable {P : Program} {wd : World} {K : PySem.W.Frag} {mg : Str → Option Value} {base : Heap}
theorem ok_l_cell_at (T : Top wd K mg) : Def P wd K mg base 1 "_law_cell_at" s_l_cell_at ["_law_script", "_law_k"] (spCel K) := by
  obtain ⟨f, fd, F, b, m⟩ := T.d_l_cell_at.ex
  refine ⟨f, fd, fnG_of F sc_l_cell_at (fun vs H Q E h => ?_) (fun cdv A outer s H vs Q E hG hr h => ?_), F, b, m⟩
  · obtain ⟨a, ns, k, rfl, _⟩ := h
    rfl
  · obtain ⟨a, ns, j, rfl, hS, q⟩ := h
    refine ⟨_, pss_cons (ps_if (pt_cmpR op_lt (pv 1) (pe_callB call_len_seq (by rfl) T.b_len PySem.boot_len (pa_cons (pv 0) pa_nil)) (nomark _))
        (pss_one (ps_ret (pe_ix ix_list (pv 0) (pv 1) (fun _ _ => rfl)))) pss_nil)
      (pss_one (ps_ret pe_int)), ?_⟩
    refine ⟨_, rfl, _, rfl, a, _, rfl, .inl hS, _, _, rfl, rfl, _, rfl, ite2 (fun e => ?_) (fun e => ?_)⟩
    · have h1 := of_decide_eq_true e
      rw [List.length_map] at h1
      have hj : j < ns.length := by omega
      refine ⟨_, rfl, _, rfl, a, _, _, _, rfl, rfl, hS, atI_nat (j := j) (v := .int ns[j]) ?_, ?_⟩
      · rw [List.getElem?_map, List.getElem?_eq_getElem hj]; rfl
      · rw [List.getD_eq_getElem?_getD, List.getElem?_eq_getElem hj] at q
        exact q
    · have hj : ¬ j < ns.length := fun z => e (decide_eq_true (by rw [List.length_map]; omega))
      rw [List.getD_eq_getElem?_getD, List.getElem?_eq_none (by omega)] at q
      exact q
theorem ok_l_box (T : Top wd K mg) : Def P wd K mg base 2 "_law_box" s_l_box ["_law_script", "_law_k"] (spBox K) := by
  obtain ⟨fC, fdC, GC, FC, bC, gC⟩ := (ok_l_cell_at (P := P) (base := base) T).ex
  obtain ⟨f, fd, F, b, m⟩ := T.d_l_box.ex
  refine ⟨f, fd, fnG_of F sc_l_box (fun vs H Q E h => ?_) (fun cdv A outer s H vs Q E hG hr h => ?_), F, b, m⟩
  · obtain ⟨a, ns, k, rfl, _⟩ := h
    rfl
  · obtain ⟨a, ns, j, rfl, hS, hj, q⟩ := h
    refine ⟨_, pss_cons (ps_set (i := 2) sc_l_box.nd rfl (.inl rfl) (pe_callG (E := E0) GC hG hr (by rfl) gC FC.kp bC (pa_cons (pv 0) (pa_cons (pv 1) pa_nil))))
      (pss_one (ps_ret (pe_lst (pa_cons (pe_op op_mul (pe_callB call_abs (by rfl) T.b_abs (by decide +kernel) (pa_cons (pv 2) pa_nil))
            (pe_callTy call_int1 (by rfl) T.b_int (by decide +kernel) (pa_cons (pe_cmpR op_ge (pe_callB call_abs (by rfl) T.b_abs (by decide +kernel) (pa_cons (pv 2) pa_nil)) (pe_op op_pow pe_int pe_int) (nomark _)) pa_nil)))
          (pa_cons (pe_op op_add (pe_op op_add (pe_op op_mod (pv 2) pe_int) (pe_op op_mul pe_int (pv 1))) pe_int) (pa_cons pe_int pa_nil)))))), ?_⟩
    refine ⟨_, rfl, _, rfl, a, ns, j, rfl, hS, ?_⟩
    generalize ns.getD j 0 = c
    refine ⟨_, rfl, _, rfl, _, rfl, _, rfl, _, _, rfl, rfl, ⟨by decide, by decide, by decide⟩, _, _, rfl, rfl, .inr ⟨_, rfl, _, _, rfl, rfl, .inr ?_, ?_⟩⟩
    · exact box01 _
    · refine ⟨_, rfl, _, _, rfl, rfl, (show (0 : Int) < 2305843009213693951 by decide), _, rfl, _, _, rfl, rfl, .inl ⟨by decide, by decide⟩, _, _, rfl, rfl, _, _, rfl, rfl, (show 3 ≤ sizeLine by decide), fun l hl => ?_⟩
      refine q l _ _ hl ?_ ?_ ?_
      · split <;> split <;> simp <;> omega
      · have := Int.emod_nonneg c (show (2305843009213693951 : Int) ≠ 0 by decide); omega
      · have := Int.emod_lt_of_pos c (show (0 : Int) < 2305843009213693951 by decide); omega
theorem ok_law {f : Addr} {fd : FuncData} (F : Fun K "law" "law" s_law f fd) (T : Top wd K mg) : FnG P wd K mg base 9 f fd ["_law_script"] (spLaw K) := by
  obtain ⟨fB, fdB, GB, FB, bB, gB⟩ := ((ok_l_box (P := P) (base := base) T).mono (show 2 ≤ 8 by decide)).ex
  obtain ⟨fR, fdR, GR, FR, bR, gR⟩ := (right_of (ok_l_right (P := P) (base := base) T)).ex
  refine fnG_of F sc_law (fun vs H Q E h => ?_) (fun cdv A outer s H vs Q E hG hr h => ?_)
  · obtain ⟨_, _, rfl, _⟩ := h
    rfl
  · obtain ⟨sc, ns, rfl, hS, hlen, q⟩ := h
    refine ⟨_, pss_cons (ps_for PassesOwn.never rfl (pi_range1 rfl T.b_range (pa_cons pe_int pa_nil)) (pg_name (i := 1) sc_law.nd rfl (.inl rfl))
        (pss_cons (ps_set (i := 2) sc_law.nd rfl (.inr rfl) (pe_callG (E := E0) GB hG hr (by rfl) gB FB.kp bB (pa_cons (pv 0) (pa_cons (pv 1) pa_nil))))
        (pss_one (ps_if (pt_not (pt_val (pe_callB (cr_all (by rfl)) (by rfl) T.b_all (by decide +kernel) (pa_cons
          (pe_lc (own := [("_law_turn", 3)]) (g := gName 3) (by rfl) sc_law.nd (pi_range1 rfl T.b_range (pa_cons pe_int pa_nil))
            (blkOk_by (own := [("_law_turn", 3)]) (N := ["_law_script", "_law_k", "_law_box_here", "_law_turn"]) (sc := defScope s_law) (by decide +kernel))
            (fun _ _ _ _ _ => pg_name (i := 3) sc_law.nd rfl (Or.inl rfl) (hf := Or.inr rfl))
            (fun _ _ _ _ _ => pts_nil)
            (fun _ _ _ _ _ => pe_callG (E := E0) GR hG hr (by rfl) gR FR.kp bR (pa_cons (pv 2) pa_nil))) pa_nil)))) (pss_one (ps_ret pe_bl)) pss_nil))))
      (pss_one (ps_ret pe_bl)), ?_⟩
    refine ⟨2, rfl, by decide, by decide, for_range (lo := 0) (fun i σ H3 => ∃ y1 y2, σ = [some (.ref sc), y1, y2, none] ∧ SqL K H3 sc (ns.map V.int)) ?_ ?_ ?_⟩
    · exact ⟨none, none, rfl, hS⟩
    · rintro i σ H3 hi ⟨y1, y2, rfl, hS3⟩
      have hi4 : i ≤ 1000 := by omega
      rw [Int.zero_add]
      refine ⟨_, rfl, _, rfl, sc, ns, i, rfl, hS3, hi4, fun l x y hl hx hy hy2 => ?_⟩
      have hB0 : Dw.BoxAt (upd H3 l (.lst [.int x, .int y, .int 0])) l 0 := ⟨x, y, upd_same, hx, hy, hy2, by omega, by omega⟩
      have e0 : Ex H3 (upd H3 l (.lst [.int x, .int y, .int 0])) := Ex.new hl
      generalize (upd H3 l (.lst [.int x, .int y, .int 0])) = H4 at hB0 e0
      have hbx := hB0.ne
      refine ⟨2, rfl, by decide, by decide, fun D hD => lc_range (lo := 0) (n := 2) (fun j H' => ExB l H4 H' ∧ H' D = some (.lst ((List.replicate j true).map V.bl)) ∧ ∃ c', Dw.BoxAt H' l c' ∧ c' ≤ 1000 * (j : Int)) ⟨.of (Ex.new hD), upd_same, 0, hB0.ex (Ex.new hD), by omega⟩ (fun j H' hj c => ?_) (fun H5 c => ?_)⟩
      · obtain ⟨c1, c2, c', c3, c4⟩ := c
        have nlD : D ≠ l := fun z => hbx (z ▸ hD)
        refine ⟨rfl, _, rfl, l, c', rfl, c3, by omega, fun H6 c6 e6 hB6 hc6 => ?_⟩
        refine ⟨_, e6 _ _ nlD c2, ?_, (c1.trans e6).mut hD, ?_, c6, hB6.upd (Ne.symm nlD), by omega⟩
        · rw [List.length_map, List.length_replicate]
          have : j < 2 := hj
          rw [sizeLine_eq]
          omega
        · rw [upd_same, repT_snoc, List.map_append]
          rfl
      · obtain ⟨c1, c2, _⟩ := c
        refine ⟨D, _, rfl, .inl (.inl c2), _, rfl, ?_⟩
        rw [repT_all]
        refine iteF ⟨_, _, rfl, ?_⟩
        have e5 : Ex H3 H5 := fun b o hb => c1 b o (fun z => by rw [z, hl] at hb; cases hb) (e0 b o hb)
        exact ex_l e5 hS3
    · rintro σ H3 _
      exact q _
end
end Og61

namespace Og61
open PySem PySem.Spec PyProof.Rows L2 OgR Evl Dw
theorem all_mk {l : PySem.W.OpenLaw} {w : World} {K : PySem.W.Frag} {h : Heap} {mg : Str → Option Value} {fa : Addr} (X : K.In h) (G : h.Ns mainGlobals mg) (hfa : mg "law" = some (.ref fa))
    {f0 f1 f2 f3 f4 f5 f6 f7 f8 f9 f10 f11 f12 f13 f14 f15 f16 f17 f18 f19 f20 f21 f22 f23 f24 f25 f26 f27 f28 f29 f30 f31 f32 f33 f34 f35 f36 f37 f38 f39 f40 : Addr} {od0 an0 od1 an1 od2 an2 od3 an3 od4 an4 od5 an5 od6 an6 od7 an7 od8 an8 od9 an9 od10 an10 od11 an11 od12 an12 od13 an13 od14 an14 od15 an15 od16 an16 od17 an17 od18 an18 od19 an19 od20 an20 od21 an21 od22 an22 od23 an23 od24 an24 od25 an25 od26 an26 od27 an27 od28 an28 od29 an29 od30 an30 od31 an31 od32 an32 od33 an33 od34 an34 od35 an35 od36 an36 od37 an37 od38 an38 od39 an39 od40 an40 : Option Addr} {sl0 sl1 sl2 sl3 sl4 sl5 sl6 sl7 sl8 sl9 sl10 sl11 sl12 sl13 sl14 sl15 sl16 sl17 sl18 sl19 sl20 sl21 sl22 sl23 sl24 sl25 sl26 sl27 sl28 sl29 sl30 sl31 sl32 sl33 sl34 sl35 sl36 sl37 sl38 sl39 sl40 : Array (Option Value)} {oc0 kV0 dc0 pm0 cd0 ct0 oc1 kV1 dc1 pm1 cd1 ct1 oc2 kV2 dc2 pm2 cd2 ct2 oc3 kV3 dc3 pm3 cd3 ct3 oc4 kV4 dc4 pm4 cd4 ct4 oc5 kV5 dc5 pm5 cd5 ct5 oc6 kV6 dc6 pm6 cd6 ct6 oc7 kV7 dc7 pm7 cd7 ct7 oc8 kV8 dc8 pm8 cd8 ct8 oc9 kV9 dc9 pm9 cd9 ct9 oc10 kV10 dc10 pm10 cd10 ct10 oc11 kV11 dc11 pm11 cd11 ct11 oc12 kV12 dc12 pm12 cd12 ct12 oc13 kV13 dc13 pm13 cd13 ct13 oc14 kV14 dc14 pm14 cd14 ct14 oc15 kV15 dc15 pm15 cd15 ct15 oc16 kV16 dc16 pm16 cd16 ct16 oc17 kV17 dc17 pm17 cd17 ct17 oc18 kV18 dc18 pm18 cd18 ct18 oc19 kV19 dc19 pm19 cd19 ct19 oc20 kV20 dc20 pm20 cd20 ct20 oc21 kV21 dc21 pm21 cd21 ct21 oc22 kV22 dc22 pm22 cd22 ct22 oc23 kV23 dc23 pm23 cd23 ct23 oc24 kV24 dc24 pm24 cd24 ct24 oc25 kV25 dc25 pm25 cd25 ct25 oc26 kV26 dc26 pm26 cd26 ct26 oc27 kV27 dc27 pm27 cd27 ct27 oc28 kV28 dc28 pm28 cd28 ct28 oc29 kV29 dc29 pm29 cd29 ct29 oc30 kV30 dc30 pm30 cd30 ct30 oc31 kV31 dc31 pm31 cd31 ct31 oc32 kV32 dc32 pm32 cd32 ct32 oc33 kV33 dc33 pm33 cd33 ct33 oc34 kV34 dc34 pm34 cd34 ct34 oc35 kV35 dc35 pm35 cd35 ct35 oc36 kV36 dc36 pm36 cd36 ct36 oc37 kV37 dc37 pm37 cd37 ct37 oc38 kV38 dc38 pm38 cd38 ct38 oc39 kV39 dc39 pm39 cd39 ct39 oc40 kV40 dc40 pm40 cd40 ct40 : Value}
    (a0 : PySem.W.nsIn K mainGlobals "is_number" = some (some (.ref f0)))
    (l0 : K.lookup f0 = some ⟨oc0, od0, .func (PySem.W.fnOf "is_number" "is_number" (defArgs s_is_number) (defBody s_is_number) (defScope s_is_number) .none kV0 dc0 pm0 an0 cd0 ct0), sl0⟩)
    (c0 : PySem.W.codeIn K cd0 "is_number" = true) (k0 : PySem.W.keepIn K (.ref f0) = true)
    (a1 : PySem.W.nsIn K mainGlobals "is_number_below" = some (some (.ref f1)))
    (l1 : K.lookup f1 = some ⟨oc1, od1, .func (PySem.W.fnOf "is_number_below" "is_number_below" (defArgs s_is_number_below) (defBody s_is_number_below) (defScope s_is_number_below) .none kV1 dc1 pm1 an1 cd1 ct1), sl1⟩)
    (c1 : PySem.W.codeIn K cd1 "is_number_below" = true) (k1 : PySem.W.keepIn K (.ref f1) = true)
    (a2 : PySem.W.nsIn K mainGlobals "is_row" = some (some (.ref f2)))
    (l2 : K.lookup f2 = some ⟨oc2, od2, .func (PySem.W.fnOf "is_row" "is_row" (defArgs s_is_row) (defBody s_is_row) (defScope s_is_row) .none kV2 dc2 pm2 an2 cd2 ct2), sl2⟩)
    (c2 : PySem.W.codeIn K cd2 "is_row" = true) (k2 : PySem.W.keepIn K (.ref f2) = true)
    (a3 : PySem.W.nsIn K mainGlobals "neighbours" = some (some (.ref f3)))
    (l3 : K.lookup f3 = some ⟨oc3, od3, .func (PySem.W.fnOf "neighbours" "neighbours" (defArgs s_neighbours) (defBody s_neighbours) (defScope s_neighbours) .none kV3 dc3 pm3 an3 cd3 ct3), sl3⟩)
    (c3 : PySem.W.codeIn K cd3 "neighbours" = true) (k3 : PySem.W.keepIn K (.ref f3) = true)
    (a4 : PySem.W.nsIn K mainGlobals "groups" = some (some (.ref f4)))
    (l4 : K.lookup f4 = some ⟨oc4, od4, .func (PySem.W.fnOf "groups" "groups" (defArgs s_groups) (defBody s_groups) (defScope s_groups) .none kV4 dc4 pm4 an4 cd4 ct4), sl4⟩)
    (c4 : PySem.W.codeIn K cd4 "groups" = true) (k4 : PySem.W.keepIn K (.ref f4) = true)
    (a5 : PySem.W.nsIn K mainGlobals "houses" = some (some (.ref f5)))
    (l5 : K.lookup f5 = some ⟨oc5, od5, .func (PySem.W.fnOf "houses" "houses" (defArgs s_houses) (defBody s_houses) (defScope s_houses) .none kV5 dc5 pm5 an5 cd5 ct5), sl5⟩)
    (c5 : PySem.W.codeIn K cd5 "houses" = true) (k5 : PySem.W.keepIn K (.ref f5) = true)
    (a6 : PySem.W.nsIn K mainGlobals "many_choices" = some (some (.ref f6)))
    (l6 : K.lookup f6 = some ⟨oc6, od6, .func (PySem.W.fnOf "many_choices" "many_choices" (defArgs s_many_choices) (defBody s_many_choices) (defScope s_many_choices) .none kV6 dc6 pm6 an6 cd6 ct6), sl6⟩)
    (c6 : PySem.W.codeIn K cd6 "many_choices" = true) (k6 : PySem.W.keepIn K (.ref f6) = true)
    (a7 : PySem.W.nsIn K mainGlobals "is_choice" = some (some (.ref f7)))
    (l7 : K.lookup f7 = some ⟨oc7, od7, .func (PySem.W.fnOf "is_choice" "is_choice" (defArgs s_is_choice) (defBody s_is_choice) (defScope s_is_choice) .none kV7 dc7 pm7 an7 cd7 ct7), sl7⟩)
    (c7 : PySem.W.codeIn K cd7 "is_choice" = true) (k7 : PySem.W.keepIn K (.ref f7) = true)
    (a8 : PySem.W.nsIn K mainGlobals "is_choices" = some (some (.ref f8)))
    (l8 : K.lookup f8 = some ⟨oc8, od8, .func (PySem.W.fnOf "is_choices" "is_choices" (defArgs s_is_choices) (defBody s_is_choices) (defScope s_is_choices) .none kV8 dc8 pm8 an8 cd8 ct8), sl8⟩)
    (c8 : PySem.W.codeIn K cd8 "is_choices" = true) (k8 : PySem.W.keepIn K (.ref f8) = true)
    (a9 : PySem.W.nsIn K mainGlobals "groups_after" = some (some (.ref f9)))
    (l9 : K.lookup f9 = some ⟨oc9, od9, .func (PySem.W.fnOf "groups_after" "groups_after" (defArgs s_groups_after) (defBody s_groups_after) (defScope s_groups_after) .none kV9 dc9 pm9 an9 cd9 ct9), sl9⟩)
    (c9 : PySem.W.codeIn K cd9 "groups_after" = true) (k9 : PySem.W.keepIn K (.ref f9) = true)
    (a10 : PySem.W.nsIn K mainGlobals "groups_left_of" = some (some (.ref f10)))
    (l10 : K.lookup f10 = some ⟨oc10, od10, .func (PySem.W.fnOf "groups_left_of" "groups_left_of" (defArgs s_groups_left_of) (defBody s_groups_left_of) (defScope s_groups_left_of) .none kV10 dc10 pm10 an10 cd10 ct10), sl10⟩)
    (c10 : PySem.W.codeIn K cd10 "groups_left_of" = true) (k10 : PySem.W.keepIn K (.ref f10) = true)
    (a11 : PySem.W.nsIn K mainGlobals "number_of_choice" = some (some (.ref f11)))
    (l11 : K.lookup f11 = some ⟨oc11, od11, .func (PySem.W.fnOf "number_of_choice" "number_of_choice" (defArgs s_number_of_choice) (defBody s_number_of_choice) (defScope s_number_of_choice) .none kV11 dc11 pm11 an11 cd11 ct11), sl11⟩)
    (c11 : PySem.W.codeIn K cd11 "number_of_choice" = true) (k11 : PySem.W.keepIn K (.ref f11) = true)
    (a12 : PySem.W.nsIn K mainGlobals "choices_of" = some (some (.ref f12)))
    (l12 : K.lookup f12 = some ⟨oc12, od12, .func (PySem.W.fnOf "choices_of" "choices_of" (defArgs s_choices_of) (defBody s_choices_of) (defScope s_choices_of) .none kV12 dc12 pm12 an12 cd12 ct12), sl12⟩)
    (c12 : PySem.W.codeIn K cd12 "choices_of" = true) (k12 : PySem.W.keepIn K (.ref f12) = true)
    (a13 : PySem.W.nsIn K mainGlobals "gaps_of" = some (some (.ref f13)))
    (l13 : K.lookup f13 = some ⟨oc13, od13, .func (PySem.W.fnOf "gaps_of" "gaps_of" (defArgs s_gaps_of) (defBody s_gaps_of) (defScope s_gaps_of) .none kV13 dc13 pm13 an13 cd13 ct13), sl13⟩)
    (c13 : PySem.W.codeIn K cd13 "gaps_of" = true) (k13 : PySem.W.keepIn K (.ref f13) = true)
    (a14 : PySem.W.nsIn K mainGlobals "times_in_groups" = some (some (.ref f14)))
    (l14 : K.lookup f14 = some ⟨oc14, od14, .func (PySem.W.fnOf "times_in_groups" "times_in_groups" (defArgs s_times_in_groups) (defBody s_times_in_groups) (defScope s_times_in_groups) .none kV14 dc14 pm14 an14 cd14 ct14), sl14⟩)
    (c14 : PySem.W.codeIn K cd14 "times_in_groups" = true) (k14 : PySem.W.keepIn K (.ref f14) = true)
    (a15 : PySem.W.nsIn K mainGlobals "row_of" = some (some (.ref f15)))
    (l15 : K.lookup f15 = some ⟨oc15, od15, .func (PySem.W.fnOf "row_of" "row_of" (defArgs s_row_of) (defBody s_row_of) (defScope s_row_of) .none kV15 dc15 pm15 an15 cd15 ct15), sl15⟩)
    (c15 : PySem.W.codeIn K cd15 "row_of" = true) (k15 : PySem.W.keepIn K (.ref f15) = true)
    (a16 : PySem.W.nsIn K mainGlobals "changed" = some (some (.ref f16)))
    (l16 : K.lookup f16 = some ⟨oc16, od16, .func (PySem.W.fnOf "changed" "changed" (defArgs s_changed) (defBody s_changed) (defScope s_changed) .none kV16 dc16 pm16 an16 cd16 ct16), sl16⟩)
    (c16 : PySem.W.codeIn K cd16 "changed" = true) (k16 : PySem.W.keepIn K (.ref f16) = true)
    (a17 : PySem.W.nsIn K mainGlobals "true_value" = some (some (.ref f17)))
    (l17 : K.lookup f17 = some ⟨oc17, od17, .func (PySem.W.fnOf "true_value" "true_value" (defArgs s_true_value) (defBody s_true_value) (defScope s_true_value) .none kV17 dc17 pm17 an17 cd17 ct17), sl17⟩)
    (c17 : PySem.W.codeIn K cd17 "true_value" = true) (k17 : PySem.W.keepIn K (.ref f17) = true)
    (a18 : PySem.W.nsIn K mainGlobals "untrue_times" = some (some (.ref f18)))
    (l18 : K.lookup f18 = some ⟨oc18, od18, .func (PySem.W.fnOf "untrue_times" "untrue_times" (defArgs s_untrue_times) (defBody s_untrue_times) (defScope s_untrue_times) .none kV18 dc18 pm18 an18 cd18 ct18), sl18⟩)
    (c18 : PySem.W.codeIn K cd18 "untrue_times" = true) (k18 : PySem.W.keepIn K (.ref f18) = true)
    (a19 : PySem.W.nsIn K mainGlobals "is_order" = some (some (.ref f19)))
    (l19 : K.lookup f19 = some ⟨oc19, od19, .func (PySem.W.fnOf "is_order" "is_order" (defArgs s_is_order) (defBody s_is_order) (defScope s_is_order) .none kV19 dc19 pm19 an19 cd19 ct19), sl19⟩)
    (c19 : PySem.W.codeIn K cd19 "is_order" = true) (k19 : PySem.W.keepIn K (.ref f19) = true)
    (a20 : PySem.W.nsIn K mainGlobals "ways_to_choose" = some (some (.ref f20)))
    (l20 : K.lookup f20 = some ⟨oc20, od20, .func (PySem.W.fnOf "ways_to_choose" "ways_to_choose" (defArgs s_ways_to_choose) (defBody s_ways_to_choose) (defScope s_ways_to_choose) .none kV20 dc20 pm20 an20 cd20 ct20), sl20⟩)
    (c20 : PySem.W.codeIn K cd20 "ways_to_choose" = true) (k20 : PySem.W.keepIn K (.ref f20) = true)
    (a21 : PySem.W.nsIn K mainGlobals "noted_values" = some (some (.ref f21)))
    (l21 : K.lookup f21 = some ⟨oc21, od21, .func (PySem.W.fnOf "noted_values" "noted_values" (defArgs s_noted_values) (defBody s_noted_values) (defScope s_noted_values) .none kV21 dc21 pm21 an21 cd21 ct21), sl21⟩)
    (c21 : PySem.W.codeIn K cd21 "noted_values" = true) (k21 : PySem.W.keepIn K (.ref f21) = true)
    (a22 : PySem.W.nsIn K mainGlobals "is_word_then" = some (some (.ref f22)))
    (l22 : K.lookup f22 = some ⟨oc22, od22, .func (PySem.W.fnOf "is_word_then" "is_word_then" (defArgs s_is_word_then) (defBody s_is_word_then) (defScope s_is_word_then) .none kV22 dc22 pm22 an22 cd22 ct22), sl22⟩)
    (c22 : PySem.W.codeIn K cd22 "is_word_then" = true) (k22 : PySem.W.keepIn K (.ref f22) = true)
    (a23 : PySem.W.nsIn K mainGlobals "words_then" = some (some (.ref f23)))
    (l23 : K.lookup f23 = some ⟨oc23, od23, .func (PySem.W.fnOf "words_then" "words_then" (defArgs s_words_then) (defBody s_words_then) (defScope s_words_then) .none kV23 dc23 pm23 an23 cd23 ct23), sl23⟩)
    (c23 : PySem.W.codeIn K cd23 "words_then" = true) (k23 : PySem.W.keepIn K (.ref f23) = true)
    (a24 : PySem.W.nsIn K mainGlobals "blocks_then" = some (some (.ref f24)))
    (l24 : K.lookup f24 = some ⟨oc24, od24, .func (PySem.W.fnOf "blocks_then" "blocks_then" (defArgs s_blocks_then) (defBody s_blocks_then) (defScope s_blocks_then) .none kV24 dc24 pm24 an24 cd24 ct24), sl24⟩)
    (c24 : PySem.W.codeIn K cd24 "blocks_then" = true) (k24 : PySem.W.keepIn K (.ref f24) = true)
    (a25 : PySem.W.nsIn K mainGlobals "folded_ways" = some (some (.ref f25)))
    (l25 : K.lookup f25 = some ⟨oc25, od25, .func (PySem.W.fnOf "folded_ways" "folded_ways" (defArgs s_folded_ways) (defBody s_folded_ways) (defScope s_folded_ways) .none kV25 dc25 pm25 an25 cd25 ct25), sl25⟩)
    (c25 : PySem.W.codeIn K cd25 "folded_ways" = true) (k25 : PySem.W.keepIn K (.ref f25) = true)
    (a26 : PySem.W.nsIn K mainGlobals "in_all" = some (some (.ref f26)))
    (l26 : K.lookup f26 = some ⟨oc26, od26, .func (PySem.W.fnOf "in_all" "in_all" (defArgs s_in_all) (defBody s_in_all) (defScope s_in_all) .none kV26 dc26 pm26 an26 cd26 ct26), sl26⟩)
    (c26 : PySem.W.codeIn K cd26 "in_all" = true) (k26 : PySem.W.keepIn K (.ref f26) = true)
    (a27 : PySem.W.nsIn K mainGlobals "all_ways" = some (some (.ref f27)))
    (l27 : K.lookup f27 = some ⟨oc27, od27, .func (PySem.W.fnOf "all_ways" "all_ways" (defArgs s_all_ways) (defBody s_all_ways) (defScope s_all_ways) .none kV27 dc27 pm27 an27 cd27 ct27), sl27⟩)
    (c27 : PySem.W.codeIn K cd27 "all_ways" = true) (k27 : PySem.W.keepIn K (.ref f27) = true)
    (a28 : PySem.W.nsIn K mainGlobals "count_orders" = some (some (.ref f28)))
    (l28 : K.lookup f28 = some ⟨oc28, od28, .func (PySem.W.fnOf "count_orders" "count_orders" (defArgs s_count_orders) (defBody s_count_orders) (defScope s_count_orders) .none kV28 dc28 pm28 an28 cd28 ct28), sl28⟩)
    (c28 : PySem.W.codeIn K cd28 "count_orders" = true) (k28 : PySem.W.keepIn K (.ref f28) = true)
    (a29 : PySem.W.nsIn K mainGlobals "_law_cell_at" = some (some (.ref f29)))
    (l29 : K.lookup f29 = some ⟨oc29, od29, .func (PySem.W.fnOf "_law_cell_at" "_law_cell_at" (defArgs s_l_cell_at) (defBody s_l_cell_at) (defScope s_l_cell_at) .none kV29 dc29 pm29 an29 cd29 ct29), sl29⟩)
    (c29 : PySem.W.codeIn K cd29 "_law_cell_at" = true) (k29 : PySem.W.keepIn K (.ref f29) = true)
    (a30 : PySem.W.nsIn K mainGlobals "_law_box" = some (some (.ref f30)))
    (l30 : K.lookup f30 = some ⟨oc30, od30, .func (PySem.W.fnOf "_law_box" "_law_box" (defArgs s_l_box) (defBody s_l_box) (defScope s_l_box) .none kV30 dc30 pm30 an30 cd30 ct30), sl30⟩)
    (c30 : PySem.W.codeIn K cd30 "_law_box" = true) (k30 : PySem.W.keepIn K (.ref f30) = true)
    (a31 : PySem.W.nsIn K mainGlobals "_law_take" = some (some (.ref f31)))
    (l31 : K.lookup f31 = some ⟨oc31, od31, .func (PySem.W.fnOf "_law_take" "_law_take" (defArgs s_l_take) (defBody s_l_take) (defScope s_l_take) .none kV31 dc31 pm31 an31 cd31 ct31), sl31⟩)
    (c31 : PySem.W.codeIn K cd31 "_law_take" = true) (k31 : PySem.W.keepIn K (.ref f31) = true)
    (a32 : PySem.W.nsIn K mainGlobals "_law_of" = some (some (.ref f32)))
    (l32 : K.lookup f32 = some ⟨oc32, od32, .func (PySem.W.fnOf "_law_of" "_law_of" (defArgs s_l_of) (defBody s_l_of) (defScope s_l_of) .none kV32 dc32 pm32 an32 cd32 ct32), sl32⟩)
    (c32 : PySem.W.codeIn K cd32 "_law_of" = true) (k32 : PySem.W.keepIn K (.ref f32) = true)
    (a33 : PySem.W.nsIn K mainGlobals "_law_runs" = some (some (.ref f33)))
    (l33 : K.lookup f33 = some ⟨oc33, od33, .func (PySem.W.fnOf "_law_runs" "_law_runs" (defArgs s_l_runs) (defBody s_l_runs) (defScope s_l_runs) .none kV33 dc33 pm33 an33 cd33 ct33), sl33⟩)
    (c33 : PySem.W.codeIn K cd33 "_law_runs" = true) (k33 : PySem.W.keepIn K (.ref f33) = true)
    (a34 : PySem.W.nsIn K mainGlobals "_law_seen" = some (some (.ref f34)))
    (l34 : K.lookup f34 = some ⟨oc34, od34, .func (PySem.W.fnOf "_law_seen" "_law_seen" (defArgs s_l_seen) (defBody s_l_seen) (defScope s_l_seen) .none kV34 dc34 pm34 an34 cd34 ct34), sl34⟩)
    (c34 : PySem.W.codeIn K cd34 "_law_seen" = true) (k34 : PySem.W.keepIn K (.ref f34) = true)
    (a35 : PySem.W.nsIn K mainGlobals "_law_queue" = some (some (.ref f35)))
    (l35 : K.lookup f35 = some ⟨oc35, od35, .func (PySem.W.fnOf "_law_queue" "_law_queue" (defArgs s_l_queue) (defBody s_l_queue) (defScope s_l_queue) .none kV35 dc35 pm35 an35 cd35 ct35), sl35⟩)
    (c35 : PySem.W.codeIn K cd35 "_law_queue" = true) (k35 : PySem.W.keepIn K (.ref f35) = true)
    (a36 : PySem.W.nsIn K mainGlobals "_law_notes" = some (some (.ref f36)))
    (l36 : K.lookup f36 = some ⟨oc36, od36, .func (PySem.W.fnOf "_law_notes" "_law_notes" (defArgs s_l_notes) (defBody s_l_notes) (defScope s_l_notes) .none kV36 dc36 pm36 an36 cd36 ct36), sl36⟩)
    (c36 : PySem.W.codeIn K cd36 "_law_notes" = true) (k36 : PySem.W.keepIn K (.ref f36) = true)
    (a37 : PySem.W.nsIn K mainGlobals "_law_story" = some (some (.ref f37)))
    (l37 : K.lookup f37 = some ⟨oc37, od37, .func (PySem.W.fnOf "_law_story" "_law_story" (defArgs s_l_story) (defBody s_l_story) (defScope s_l_story) .none kV37 dc37 pm37 an37 cd37 ct37), sl37⟩)
    (c37 : PySem.W.codeIn K cd37 "_law_story" = true) (k37 : PySem.W.keepIn K (.ref f37) = true)
    (a38 : PySem.W.nsIn K mainGlobals "_law_ways" = some (some (.ref f38)))
    (l38 : K.lookup f38 = some ⟨oc38, od38, .func (PySem.W.fnOf "_law_ways" "_law_ways" (defArgs s_l_ways) (defBody s_l_ways) (defScope s_l_ways) .none kV38 dc38 pm38 an38 cd38 ct38), sl38⟩)
    (c38 : PySem.W.codeIn K cd38 "_law_ways" = true) (k38 : PySem.W.keepIn K (.ref f38) = true)
    (a39 : PySem.W.nsIn K mainGlobals "_law_right" = some (some (.ref f39)))
    (l39 : K.lookup f39 = some ⟨oc39, od39, .func (PySem.W.fnOf "_law_right" "_law_right" (defArgs s_l_right) (defBody s_l_right) (defScope s_l_right) .none kV39 dc39 pm39 an39 cd39 ct39), sl39⟩)
    (c39 : PySem.W.codeIn K cd39 "_law_right" = true) (k39 : PySem.W.keepIn K (.ref f39) = true)
    (a40 : PySem.W.nsIn K mainGlobals "law" = some (some (.ref f40)))
    (l40 : K.lookup f40 = some ⟨oc40, od40, .func (PySem.W.fnOf "law" "law" (defArgs s_law) (defBody s_law) (defScope s_law) .none kV40 dc40 pm40 an40 cd40 ct40), sl40⟩)
    (c40 : PySem.W.codeIn K cd40 "law" = true) (k40 : PySem.W.keepIn K (.ref f40) = true)
    {aD0 : Addr} {dd0 : Option Addr} {nn0 : Nat} {ss0 : Array (Option Value)} {t0_0 t0_1 t0_2 : Tok} (e0 : PySem.W.nsIn K mainGlobals "WORDS" = some (some (.ref aD0))) (lk0 : K.lookup aD0 = some ⟨.type "tuple", dd0, .seq #[.str "new" t0_0, .str "beside" t0_1, .str "between" t0_2] nn0, ss0⟩)
    {aD1 : Addr} (e1 : PySem.W.nsIn K mainGlobals "STEPS" = some (some (.ref aD1)))
    (q1_0 : KDct K w aD1 "new" (.int (1)))
    (q1_1 : KDct K w aD1 "beside" (.int (0)))
    (q1_2 : KDct K w aD1 "between" (.int (-1)))
    {aD2 : Addr} {dd2 : Option Addr} {nn2 : Nat} {ss2 : Array (Option Value)} {t2_0 t2_1 t2_2 : Tok} (e2 : PySem.W.nsIn K mainGlobals "ASCENDING_WORDS" = some (some (.ref aD2))) (lk2 : K.lookup aD2 = some ⟨.type "tuple", dd2, .seq #[.str "beside" t2_0, .str "between" t2_1, .str "new" t2_2] nn2, ss2⟩)
    (z_abs : PySem.W.nsIn K mainGlobals "abs" = some none)
    (z_all : PySem.W.nsIn K mainGlobals "all" = some none)
    (z_bool : PySem.W.nsIn K mainGlobals "bool" = some none)
    (z_enumerate : PySem.W.nsIn K mainGlobals "enumerate" = some none)
    (z_int : PySem.W.nsIn K mainGlobals "int" = some none)
    (z_isinstance : PySem.W.nsIn K mainGlobals "isinstance" = some none)
    (z_len : PySem.W.nsIn K mainGlobals "len" = some none)
    (z_list : PySem.W.nsIn K mainGlobals "list" = some none)
    (z_max : PySem.W.nsIn K mainGlobals "max" = some none)
    (z_range : PySem.W.nsIn K mainGlobals "range" = some none)
    (z_reversed : PySem.W.nsIn K mainGlobals "reversed" = some none)
    (z_set : PySem.W.nsIn K mainGlobals "set" = some none)
    (z_sorted : PySem.W.nsIn K mainGlobals "sorted" = some none)
    (z_sum : PySem.W.nsIn K mainGlobals "sum" = some none)
    (z_tuple : PySem.W.nsIn K mainGlobals "tuple" = some none)
    (z_zip : PySem.W.nsIn K mainGlobals "zip" = some none) :
    ∃ fd : FuncData, (∀ (s : Shared) (v : Value), BindsTo s fd ⟨[v], []⟩ [("_law_script", v)]) ∧ ∀ base : Heap, K.In base → base.Ns mainGlobals mg → FnG l.prog w K mg base 9 fa fd ["_law_script"] (Dw.spLaw K) := by
  have e := hfa.symm.trans (PySem.W.mg_of X G a40)
  cases e
  have F0 := fun_mk (st := s_is_number) l0 c0 k0
  have b0 := F0.binds (ps := ["thing"]) fun _ _ _ _ _ _ us hl => match us, hl with | [_], _ => rfl
  have F1 := fun_mk (st := s_is_number_below) l1 c1 k1
  have b1 := F1.binds (ps := ["thing", "limit"]) fun _ _ _ _ _ _ us hl => match us, hl with | [_, _], _ => rfl
  have F2 := fun_mk (st := s_is_row) l2 c2 k2
  have b2 := F2.binds (ps := ["plots", "thing"]) fun _ _ _ _ _ _ us hl => match us, hl with | [_, _], _ => rfl
  have F3 := fun_mk (st := s_neighbours) l3 c3 k3
  have b3 := F3.binds (ps := ["row"]) fun _ _ _ _ _ _ us hl => match us, hl with | [_], _ => rfl
  have F4 := fun_mk (st := s_groups) l4 c4 k4
  have b4 := F4.binds (ps := ["row"]) fun _ _ _ _ _ _ us hl => match us, hl with | [_], _ => rfl
  have F5 := fun_mk (st := s_houses) l5 c5 k5
  have b5 := F5.binds (ps := ["row"]) fun _ _ _ _ _ _ us hl => match us, hl with | [_], _ => rfl
  have F6 := fun_mk (st := s_many_choices) l6 c6 k6
  have b6 := F6.binds (ps := ["word", "many"]) fun _ _ _ _ _ _ us hl => match us, hl with | [_, _], _ => rfl
  have F7 := fun_mk (st := s_is_choice) l7 c7 k7
  have b7 := F7.binds (ps := ["many", "thing"]) fun _ _ _ _ _ _ us hl => match us, hl with | [_, _], _ => rfl
  have F8 := fun_mk (st := s_is_choices) l8 c8 k8
  have b8 := F8.binds (ps := ["thing"]) fun _ _ _ _ _ _ us hl => match us, hl with | [_], _ => rfl
  have F9 := fun_mk (st := s_groups_after) l9 c9 k9
  have b9 := F9.binds (ps := ["words"]) fun _ _ _ _ _ _ us hl => match us, hl with | [_], _ => rfl
  have F10 := fun_mk (st := s_groups_left_of) l10 c10 k10
  have b10 := F10.binds (ps := ["built", "plot"]) fun _ _ _ _ _ _ us hl => match us, hl with | [_, _], _ => rfl
  have F11 := fun_mk (st := s_number_of_choice) l11 c11 k11
  have b11 := F11.binds (ps := ["built", "plot", "word"]) fun _ _ _ _ _ _ us hl => match us, hl with | [_, _, _], _ => rfl
  have F12 := fun_mk (st := s_choices_of) l12 c12 k12
  have b12 := F12.binds (ps := ["row"]) fun _ _ _ _ _ _ us hl => match us, hl with | [_], _ => rfl
  have F13 := fun_mk (st := s_gaps_of) l13 c13 k13
  have b13 := F13.binds (ps := ["plots", "row"]) fun _ _ _ _ _ _ us hl => match us, hl with | [_, _], _ => rfl
  have F14 := fun_mk (st := s_times_in_groups) l14 c14 k14
  have b14 := F14.binds (ps := ["choices"]) fun _ _ _ _ _ _ us hl => match us, hl with | [_], _ => rfl
  have F15 := fun_mk (st := s_row_of) l15 c15 k15
  have b15 := F15.binds (ps := ["choices", "gaps"]) fun _ _ _ _ _ _ us hl => match us, hl with | [_, _], _ => rfl
  have F16 := fun_mk (st := s_changed) l16 c16 k16
  have b16 := F16.binds (ps := ["plots", "row", "time", "number"]) fun _ _ _ _ _ _ us hl => match us, hl with | [_, _, _, _], _ => rfl
  have F17 := fun_mk (st := s_true_value) l17 c17 k17
  have b17 := F17.binds (ps := ["row", "time", "sort"]) fun _ _ _ _ _ _ us hl => match us, hl with | [_, _, _], _ => rfl
  have F18 := fun_mk (st := s_untrue_times) l18 c18 k18
  have b18 := F18.binds (ps := ["notes", "row"]) fun _ _ _ _ _ _ us hl => match us, hl with | [_, _], _ => rfl
  have F19 := fun_mk (st := s_is_order) l19 c19 k19
  have b19 := F19.binds (ps := ["journal", "thing"]) fun _ _ _ _ _ _ us hl => match us, hl with | [_, _], _ => rfl
  have F20 := fun_mk (st := s_ways_to_choose) l20 c20 k20
  have b20 := F20.binds (ps := ["many", "things"]) fun _ _ _ _ _ _ us hl => match us, hl with | [_, _], _ => rfl
  have F21 := fun_mk (st := s_noted_values) l21 c21 k21
  have b21 := F21.binds (ps := ["notes"]) fun _ _ _ _ _ _ us hl => match us, hl with | [_], _ => rfl
  have F22 := fun_mk (st := s_is_word_then) l22 c22 k22
  have b22 := F22.binds (ps := ["noted", "time", "many", "word"]) fun _ _ _ _ _ _ us hl => match us, hl with | [_, _, _, _], _ => rfl
  have F23 := fun_mk (st := s_words_then) l23 c23 k23
  have b23 := F23.binds (ps := ["noted", "time", "many"]) fun _ _ _ _ _ _ us hl => match us, hl with | [_, _, _], _ => rfl
  have F24 := fun_mk (st := s_blocks_then) l24 c24 k24
  have b24 := F24.binds (ps := ["noted", "ways", "time", "many"]) fun _ _ _ _ _ _ us hl => match us, hl with | [_, _, _, _], _ => rfl
  have F25 := fun_mk (st := s_folded_ways) l25 c25 k25
  have b25 := F25.binds (ps := ["journal", "fold"]) fun _ _ _ _ _ _ us hl => match us, hl with | [_, _], _ => rfl
  have F26 := fun_mk (st := s_in_all) l26 c26 k26
  have b26 := F26.binds (ps := ["parts"]) fun _ _ _ _ _ _ us hl => match us, hl with | [_], _ => rfl
  have F27 := fun_mk (st := s_all_ways) l27 c27 k27
  have b27 := F27.binds (ps := ["journal"]) fun _ _ _ _ _ _ us hl => match us, hl with | [_], _ => rfl
  have F28 := fun_mk (st := s_count_orders) l28 c28 k28
  have b28 := F28.binds (ps := ["journal"]) fun _ _ _ _ _ _ us hl => match us, hl with | [_], _ => rfl
  have F29 := fun_mk (st := s_l_cell_at) l29 c29 k29
  have b29 := F29.binds (ps := ["_law_script", "_law_k"]) fun _ _ _ _ _ _ us hl => match us, hl with | [_, _], _ => rfl
  have F30 := fun_mk (st := s_l_box) l30 c30 k30
  have b30 := F30.binds (ps := ["_law_script", "_law_k"]) fun _ _ _ _ _ _ us hl => match us, hl with | [_, _], _ => rfl
  have F31 := fun_mk (st := s_l_take) l31 c31 k31
  have b31 := F31.binds (ps := ["_law_box_here", "_law_below"]) fun _ _ _ _ _ _ us hl => match us, hl with | [_, _], _ => rfl
  have F32 := fun_mk (st := s_l_of) l32 c32 k32
  have b32 := F32.binds (ps := ["_law_box_here", "_law_some"]) fun _ _ _ _ _ _ us hl => match us, hl with | [_, _], _ => rfl
  have F33 := fun_mk (st := s_l_runs) l33 c33 k33
  have b33 := F33.binds (ps := ["_law_there"]) fun _ _ _ _ _ _ us hl => match us, hl with | [_], _ => rfl
  have F34 := fun_mk (st := s_l_seen) l34 c34 k34
  have b34 := F34.binds (ps := ["_law_queue_here"]) fun _ _ _ _ _ _ us hl => match us, hl with | [_], _ => rfl
  have F35 := fun_mk (st := s_l_queue) l35 c35 k35
  have b35 := F35.binds (ps := ["_law_box_here", "_law_count", "_law_size"]) fun _ _ _ _ _ _ us hl => match us, hl with | [_, _, _], _ => rfl
  have F36 := fun_mk (st := s_l_notes) l36 c36 k36
  have b36 := F36.binds (ps := ["_law_box_here", "_law_queue_here"]) fun _ _ _ _ _ _ us hl => match us, hl with | [_, _], _ => rfl
  have F37 := fun_mk (st := s_l_story) l37 c37 k37
  have b37 := F37.binds (ps := ["_law_box_here", "_law_most"]) fun _ _ _ _ _ _ us hl => match us, hl with | [_, _], _ => rfl
  have F38 := fun_mk (st := s_l_ways) l38 c38 k38
  have b38 := F38.binds (ps := ["_law_word", "_law_groups_now"]) fun _ _ _ _ _ _ us hl => match us, hl with | [_, _], _ => rfl
  have F39 := fun_mk (st := s_l_right) l39 c39 k39
  have b39 := F39.binds (ps := ["_law_box_here"]) fun _ _ _ _ _ _ us hl => match us, hl with | [_], _ => rfl
  have F40 := fun_mk (st := s_law) l40 c40 k40
  have T : Top w K mg := ⟨⟨⟨f0, _, F0, b0, PySem.W.mg_of X G a0⟩⟩, ⟨⟨f1, _, F1, b1, PySem.W.mg_of X G a1⟩⟩, ⟨⟨f2, _, F2, b2, PySem.W.mg_of X G a2⟩⟩, ⟨⟨f3, _, F3, b3, PySem.W.mg_of X G a3⟩⟩, ⟨⟨f4, _, F4, b4, PySem.W.mg_of X G a4⟩⟩, ⟨⟨f5, _, F5, b5, PySem.W.mg_of X G a5⟩⟩, ⟨⟨f6, _, F6, b6, PySem.W.mg_of X G a6⟩⟩, ⟨⟨f7, _, F7, b7, PySem.W.mg_of X G a7⟩⟩, ⟨⟨f8, _, F8, b8, PySem.W.mg_of X G a8⟩⟩, ⟨⟨f9, _, F9, b9, PySem.W.mg_of X G a9⟩⟩, ⟨⟨f10, _, F10, b10, PySem.W.mg_of X G a10⟩⟩, ⟨⟨f11, _, F11, b11, PySem.W.mg_of X G a11⟩⟩, ⟨⟨f12, _, F12, b12, PySem.W.mg_of X G a12⟩⟩, ⟨⟨f13, _, F13, b13, PySem.W.mg_of X G a13⟩⟩, ⟨⟨f14, _, F14, b14, PySem.W.mg_of X G a14⟩⟩, ⟨⟨f15, _, F15, b15, PySem.W.mg_of X G a15⟩⟩, ⟨⟨f16, _, F16, b16, PySem.W.mg_of X G a16⟩⟩, ⟨⟨f17, _, F17, b17, PySem.W.mg_of X G a17⟩⟩, ⟨⟨f18, _, F18, b18, PySem.W.mg_of X G a18⟩⟩, ⟨⟨f19, _, F19, b19, PySem.W.mg_of X G a19⟩⟩, ⟨⟨f20, _, F20, b20, PySem.W.mg_of X G a20⟩⟩, ⟨⟨f21, _, F21, b21, PySem.W.mg_of X G a21⟩⟩, ⟨⟨f22, _, F22, b22, PySem.W.mg_of X G a22⟩⟩, ⟨⟨f23, _, F23, b23, PySem.W.mg_of X G a23⟩⟩, ⟨⟨f24, _, F24, b24, PySem.W.mg_of X G a24⟩⟩, ⟨⟨f25, _, F25, b25, PySem.W.mg_of X G a25⟩⟩, ⟨⟨f26, _, F26, b26, PySem.W.mg_of X G a26⟩⟩, ⟨⟨f27, _, F27, b27, PySem.W.mg_of X G a27⟩⟩, ⟨⟨f28, _, F28, b28, PySem.W.mg_of X G a28⟩⟩, ⟨⟨f29, _, F29, b29, PySem.W.mg_of X G a29⟩⟩, ⟨⟨f30, _, F30, b30, PySem.W.mg_of X G a30⟩⟩, ⟨⟨f31, _, F31, b31, PySem.W.mg_of X G a31⟩⟩, ⟨⟨f32, _, F32, b32, PySem.W.mg_of X G a32⟩⟩, ⟨⟨f33, _, F33, b33, PySem.W.mg_of X G a33⟩⟩, ⟨⟨f34, _, F34, b34, PySem.W.mg_of X G a34⟩⟩, ⟨⟨f35, _, F35, b35, PySem.W.mg_of X G a35⟩⟩, ⟨⟨f36, _, F36, b36, PySem.W.mg_of X G a36⟩⟩, ⟨⟨f37, _, F37, b37, PySem.W.mg_of X G a37⟩⟩, ⟨⟨f38, _, F38, b38, PySem.W.mg_of X G a38⟩⟩, ⟨⟨f39, _, F39, b39, PySem.W.mg_of X G a39⟩⟩, ⟨⟨aD0, PySem.W.mg_of X G e0, fun G0 => .tup (xs := [.str "new", .str "beside", .str "between"]) (.inr ⟨_, _, _, lk0, rfl, rfl, (show 3 ≤ sizeLine by decide), (.cons ⟨_, rfl⟩ (.cons ⟨_, rfl⟩ (.cons ⟨_, rfl⟩ .nil)))⟩) (.cons (.str _) (.cons (.str _) (.cons (.str _) .nil)))⟩⟩, ⟨⟨aD1, PySem.W.mg_of X G e1, fun z d h => by simp only [List.mem_cons, Prod.mk.injEq, List.not_mem_nil, or_false] at h; rcases h with ⟨rfl, rfl⟩ | ⟨rfl, rfl⟩ | ⟨rfl, rfl⟩ <;> exact ⟨rfl, by assumption⟩⟩⟩, ⟨⟨aD2, PySem.W.mg_of X G e2, fun G0 => .tup (xs := [.str "beside", .str "between", .str "new"]) (.inr ⟨_, _, _, lk2, rfl, rfl, (show 3 ≤ sizeLine by decide), (.cons ⟨_, rfl⟩ (.cons ⟨_, rfl⟩ (.cons ⟨_, rfl⟩ .nil)))⟩) (.cons (.str _) (.cons (.str _) (.cons (.str _) .nil)))⟩⟩, PySem.W.mg_none_of X G z_abs, PySem.W.mg_none_of X G z_all, PySem.W.mg_none_of X G z_bool, PySem.W.mg_none_of X G z_enumerate, PySem.W.mg_none_of X G z_int, PySem.W.mg_none_of X G z_isinstance, PySem.W.mg_none_of X G z_len, PySem.W.mg_none_of X G z_list, PySem.W.mg_none_of X G z_max, PySem.W.mg_none_of X G z_range, PySem.W.mg_none_of X G z_reversed, PySem.W.mg_none_of X G z_set, PySem.W.mg_none_of X G z_sorted, PySem.W.mg_none_of X G z_sum, PySem.W.mg_none_of X G z_tuple, PySem.W.mg_none_of X G z_zip⟩
  exact ⟨_, fun s v => .of_eq rfl, fun base _ _ => ok_law F40 T⟩
end Og61

open PySem PySem.W PyProof.Rows
set_option maxHeartbeats 0 in
theorem PySem.Challenge.cw_onlygroups_k61_whole_choices_replaced_holds : PySem.Challenge.rw_onlygroups_k61_whole_choices_replaced.Holds := by
  w_on; o_law; k_head; (case hw => w_witness2)
  k_fill
  refine OgR.walk_G (l := PySem.Challenge.rw_onlygroups_k61_whole_choices_replaced) (n := 63) (k := 9) (x := "_law_script") (sp := fun w => Dw.spLaw _) rfl (by decide) rfl ⟨rfl, by decide, by decide⟩ (fun w h Y => PySem.W.kIn_of Y) ?F (fun _ _ a ns hl hS => ⟨a, ns, rfl, hS, hl, fun _ => rfl⟩)
  case F =>
    intro w mg fa h KX G hmg
    refine' Og61.all_mk KX G hmg ?a0 ?l0 ?c0 ?k0 ?a1 ?l1 ?c1 ?k1 ?a2 ?l2 ?c2 ?k2 ?a3 ?l3 ?c3 ?k3 ?a4 ?l4 ?c4 ?k4 ?a5 ?l5 ?c5 ?k5 ?a6 ?l6 ?c6 ?k6 ?a7 ?l7 ?c7 ?k7 ?a8 ?l8 ?c8 ?k8 ?a9 ?l9 ?c9 ?k9 ?a10 ?l10 ?c10 ?k10 ?a11 ?l11 ?c11 ?k11 ?a12 ?l12 ?c12 ?k12 ?a13 ?l13 ?c13 ?k13 ?a14 ?l14 ?c14 ?k14 ?a15 ?l15 ?c15 ?k15 ?a16 ?l16 ?c16 ?k16 ?a17 ?l17 ?c17 ?k17 ?a18 ?l18 ?c18 ?k18 ?a19 ?l19 ?c19 ?k19 ?a20 ?l20 ?c20 ?k20 ?a21 ?l21 ?c21 ?k21 ?a22 ?l22 ?c22 ?k22 ?a23 ?l23 ?c23 ?k23 ?a24 ?l24 ?c24 ?k24 ?a25 ?l25 ?c25 ?k25 ?a26 ?l26 ?c26 ?k26 ?a27 ?l27 ?c27 ?k27 ?a28 ?l28 ?c28 ?k28 ?a29 ?l29 ?c29 ?k29 ?a30 ?l30 ?c30 ?k30 ?a31 ?l31 ?c31 ?k31 ?a32 ?l32 ?c32 ?k32 ?a33 ?l33 ?c33 ?k33 ?a34 ?l34 ?c34 ?k34 ?a35 ?l35 ?c35 ?k35 ?a36 ?l36 ?c36 ?k36 ?a37 ?l37 ?c37 ?k37 ?a38 ?l38 ?c38 ?k38 ?a39 ?l39 ?c39 ?k39 ?a40 ?l40 ?c40 ?k40 ?e0 ?lk0 ?e1 ?q1_0 ?q1_1 ?q1_2 ?e2 ?lk2 ?z_abs ?z_all ?z_bool ?z_enumerate ?z_int ?z_isinstance ?z_len ?z_list ?z_max ?z_range ?z_reversed ?z_set ?z_sorted ?z_sum ?z_tuple ?z_zip
    (case a0 => k_is)
    (case l0 => k_is)
    (case c0 => k_is)
    (case k0 => k_is)
    (case a1 => k_is)
    (case l1 => k_is)
    (case c1 => k_is)
    (case k1 => k_is)
    (case a2 => k_is)
    (case l2 => k_is)
    (case c2 => k_is)
    (case k2 => k_is)
    (case a3 => k_is)
    (case l3 => k_is)
    (case c3 => k_is)
    (case k3 => k_is)
    (case a4 => k_is)
    (case l4 => k_is)
    (case c4 => k_is)
    (case k4 => k_is)
    (case a5 => k_is)
    (case l5 => k_is)
    (case c5 => k_is)
    (case k5 => k_is)
    (case a6 => k_is)
    (case l6 => k_is)
    (case c6 => k_is)
    (case k6 => k_is)
    (case a7 => k_is)
    (case l7 => k_is)
    (case c7 => k_is)
    (case k7 => k_is)
    (case a8 => k_is)
    (case l8 => k_is)
    (case c8 => k_is)
    (case k8 => k_is)
    (case a9 => k_is)
    (case l9 => k_is)
    (case c9 => k_is)
    (case k9 => k_is)
    (case a10 => k_is)
    (case l10 => k_is)
    (case c10 => k_is)
    (case k10 => k_is)
    (case a11 => k_is)
    (case l11 => k_is)
    (case c11 => k_is)
    (case k11 => k_is)
    (case a12 => k_is)
    (case l12 => k_is)
    (case c12 => k_is)
    (case k12 => k_is)
    (case a13 => k_is)
    (case l13 => k_is)
    (case c13 => k_is)
    (case k13 => k_is)
    (case a14 => k_is)
    (case l14 => k_is)
    (case c14 => k_is)
    (case k14 => k_is)
    (case a15 => k_is)
    (case l15 => k_is)
    (case c15 => k_is)
    (case k15 => k_is)
    (case a16 => k_is)
    (case l16 => k_is)
    (case c16 => k_is)
    (case k16 => k_is)
    (case a17 => k_is)
    (case l17 => k_is)
    (case c17 => k_is)
    (case k17 => k_is)
    (case a18 => k_is)
    (case l18 => k_is)
    (case c18 => k_is)
    (case k18 => k_is)
    (case a19 => k_is)
    (case l19 => k_is)
    (case c19 => k_is)
    (case k19 => k_is)
    (case a20 => k_is)
    (case l20 => k_is)
    (case c20 => k_is)
    (case k20 => k_is)
    (case a21 => k_is)
    (case l21 => k_is)
    (case c21 => k_is)
    (case k21 => k_is)
    (case a22 => k_is)
    (case l22 => k_is)
    (case c22 => k_is)
    (case k22 => k_is)
    (case a23 => k_is)
    (case l23 => k_is)
    (case c23 => k_is)
    (case k23 => k_is)
    (case a24 => k_is)
    (case l24 => k_is)
    (case c24 => k_is)
    (case k24 => k_is)
    (case a25 => k_is)
    (case l25 => k_is)
    (case c25 => k_is)
    (case k25 => k_is)
    (case a26 => k_is)
    (case l26 => k_is)
    (case c26 => k_is)
    (case k26 => k_is)
    (case a27 => k_is)
    (case l27 => k_is)
    (case c27 => k_is)
    (case k27 => k_is)
    (case a28 => k_is)
    (case l28 => k_is)
    (case c28 => k_is)
    (case k28 => k_is)
    (case a29 => k_is)
    (case l29 => k_is)
    (case c29 => k_is)
    (case k29 => k_is)
    (case a30 => k_is)
    (case l30 => k_is)
    (case c30 => k_is)
    (case k30 => k_is)
    (case a31 => k_is)
    (case l31 => k_is)
    (case c31 => k_is)
    (case k31 => k_is)
    (case a32 => k_is)
    (case l32 => k_is)
    (case c32 => k_is)
    (case k32 => k_is)
    (case a33 => k_is)
    (case l33 => k_is)
    (case c33 => k_is)
    (case k33 => k_is)
    (case a34 => k_is)
    (case l34 => k_is)
    (case c34 => k_is)
    (case k34 => k_is)
    (case a35 => k_is)
    (case l35 => k_is)
    (case c35 => k_is)
    (case k35 => k_is)
    (case a36 => k_is)
    (case l36 => k_is)
    (case c36 => k_is)
    (case k36 => k_is)
    (case a37 => k_is)
    (case l37 => k_is)
    (case c37 => k_is)
    (case k37 => k_is)
    (case a38 => k_is)
    (case l38 => k_is)
    (case c38 => k_is)
    (case k38 => k_is)
    (case a39 => k_is)
    (case l39 => k_is)
    (case c39 => k_is)
    (case k39 => k_is)
    (case a40 => k_is)
    (case l40 => k_is)
    (case c40 => k_is)
    (case k40 => k_is)
    (case e0 => k_is)
    (case lk0 => k_is)
    (case e1 => k_is)
    (case q1_0 =>
      refine' ⟨?es1067, ?nn1067, ?uu1067, ?l1067, ?k1067, ?n1067, ?r1067⟩
      (case l1067 => exact rfl)
      (case k1067 => exact ⟨⟨_, _, rfl, rfl⟩, ⟨_, _, rfl, rfl⟩, ⟨_, _, rfl, rfl⟩, trivial⟩)
      (case n1067 => exact rfl)
      (case r1067 => exact ⟨_, rfl⟩))
    (case q1_1 =>
      refine' ⟨?es1068, ?nn1068, ?uu1068, ?l1068, ?k1068, ?n1068, ?r1068⟩
      (case l1068 => exact rfl)
      (case k1068 => exact ⟨⟨_, _, rfl, rfl⟩, ⟨_, _, rfl, rfl⟩, ⟨_, _, rfl, rfl⟩, trivial⟩)
      (case n1068 => exact rfl)
      (case r1068 => exact ⟨_, rfl⟩))
    (case q1_2 =>
      refine' ⟨?es1069, ?nn1069, ?uu1069, ?l1069, ?k1069, ?n1069, ?r1069⟩
      (case l1069 => exact rfl)
      (case k1069 => exact ⟨⟨_, _, rfl, rfl⟩, ⟨_, _, rfl, rfl⟩, ⟨_, _, rfl, rfl⟩, trivial⟩)
      (case n1069 => exact rfl)
      (case r1069 => exact ⟨_, rfl⟩))
    (case e2 => k_is)
    (case lk2 => k_is)
    (case z_abs => k_is)
    (case z_all => k_is)
    (case z_bool => k_is)
    (case z_enumerate => k_is)
    (case z_int => k_is)
    (case z_isinstance => k_is)
    (case z_len => k_is)
    (case z_list => k_is)
    (case z_max => k_is)
    (case z_range => k_is)
    (case z_reversed => k_is)
    (case z_set => k_is)
    (case z_sorted => k_is)
    (case z_sum => k_is)
    (case z_tuple => k_is)
    (case z_zip => k_is)

